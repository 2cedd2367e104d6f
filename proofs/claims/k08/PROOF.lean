import PyProof.Rows.All
import Wide.All
import OpenK.AllK
import Wide.FinOn
import Lean
import PyProof.EqAt
import PyProof.EqKinds
import PyProof.TupleCall
import PySem.Challenge.RW_shuffletold_k08_written_and_unwritten
set_option Elab.async false
set_option linter.all false
set_option maxRecDepth 100000
set_option genSizeOfSpec false
namespace L2
open PySem PySem.Spec PyProof.Rows
noncomputable abbrev Key := Sum Int Str
noncomputable def keyIs : Key -> Value -> Bool
 | .inl k, v => Value.isInt k v
 | .inr x, v => Value.isStrOf x v
noncomputable def keyH (w : World) : Key -> Int
 | .inl k => hashInt k
 | .inr x => hashStr w x
theorem keyIs_shape : ∀ {k : Key} {v : Value}, keyIs k v = true -> (∃ i t, k = Sum.inl i /\ v = Value.int i t) ∨ (∃ x t, k = Sum.inr x /\ v = Value.str x t)
 | .inl i, v, h => by
  obtain ⟨t, e⟩ := Value.isInt_shape (k := i) (v := v) h
  exact .inl ⟨i, t, rfl, e⟩
 | .inr x, v, h => by
  obtain ⟨t, e⟩ := Value.isStrOf_shape (x := x) (v := v) h
  exact .inr ⟨x, t, rfl, e⟩
theorem key_ll (a b : Int) : decide ((Sum.inl a : Key) = Sum.inl b) = (a == b) := by
 by_cases e : a = b
 ·subst e; simp
 ·have h : ¬ (Sum.inl a : Key) = Sum.inl b := fun q => e (Sum.inl.inj q)
  rw [decide_eq_false h]
  exact (beq_eq_false_iff_ne.mpr e).symm
theorem key_rr (a b : Str) : decide ((Sum.inr a : Key) = Sum.inr b) = decide (a = b) := by
 by_cases e : a = b
 ·subst e; simp
 ·have h : ¬ (Sum.inr a : Key) = Sum.inr b := fun q => e (Sum.inr.inj q)
  rw [decide_eq_false h, decide_eq_false e]
theorem key_lr (a : Int) (b : Str) : decide ((Sum.inl a : Key) = Sum.inr b) = false := decide_eq_false (fun q => nomatch q)
theorem key_rl (a : Str) (b : Int) : decide ((Sum.inr a : Key) = Sum.inl b) = false := decide_eq_false (fun q => nomatch q)
noncomputable def mixKind (prog : Program) (w : World) : PySem.KeyKind prog w Key where
 is := keyIs
 hash := keyH w
 inj := fun v a b ha hb => by
  rcases keyIs_shape ha with ⟨i, t, rfl, rfl⟩ | ⟨x, t, rfl, rfl⟩
  ·rcases keyIs_shape hb with ⟨j, u, rfl, e⟩ | ⟨y, u, rfl, e⟩
   ·injection e with e1 _; rw [e1]
   ·exact nomatch e
  ·rcases keyIs_shape hb with ⟨j, u, rfl, e⟩ | ⟨y, u, rfl, e⟩
   ·exact nomatch e
   ·injection e with e1 _; rw [e1]
 byValue := fun k v h => by
  rcases keyIs_shape h with ⟨i, t, rfl, rfl⟩ | ⟨x, t, rfl, rfl⟩ <;> rfl
 pyHash := fun hv h => by
  rcases keyIs_shape hv with ⟨i, t, rfl, rfl⟩ | ⟨x, t, rfl, rfl⟩
  ·exact wpAny_pyHash_int h
  ·exact wpAny_pyHash_str h
 eqBool := fun hu hv h => by
  rcases keyIs_shape hu with ⟨i, t, rfl, rfl⟩ | ⟨x, t, rfl, rfl⟩
  ·rcases keyIs_shape hv with ⟨j, u, rfl, rfl⟩ | ⟨y, u, rfl, rfl⟩
   ·rw [key_ll] at h; exact wpAny_eqBool_int h
   ·rw [key_lr] at h; exact SeqAt.EqAt.int_str i t y u _ _ _ _ h
  ·rcases keyIs_shape hv with ⟨j, u, rfl, rfl⟩ | ⟨y, u, rfl, rfl⟩
   ·rw [key_rl] at h; exact SeqAt.EqAt.str_int x t j u _ _ _ _ h
   ·rw [key_rr] at h; exact wpAny_eqBool_str h
 «strs» := fun k x t v h => by
  rcases keyIs_shape h with ⟨i, u, rfl, e⟩ | ⟨y, u, rfl, e⟩
  ·exact nomatch e
  ·injection e with e1 _
   subst e1
   cases v <;> rfl
end L2
namespace L2
open PySem PySem.Spec PyProof.Rows
inductive V where
 | non | bl (b : Bool) | int (i : Int) | str (x : Str) | byt (b : Array UInt8) | flt (b : UInt64) | ref (a : Addr) | ty (n : String)
 deriving DecidableEq
noncomputable def RelV : V -> Value -> Prop
 | .non, u => u = Value.none
 | .bl b, u => u = Value.bool b
 | .int i, u => ∃ t, u = Value.int i t
 | .str x, u => ∃ t, u = Value.str x t
 | .byt b, u => ∃ t, u = Value.bytes b t
 | .flt b, u => ∃ t, u = Value.float b t
 | .ref a, u => u = Value.ref a
 | .ty n, u => u = Value.type n
noncomputable abbrev Vals : List V -> List Value -> Prop := Paired RelV
theorem Vals.length {xs : List V} {us : List Value} (r : Vals xs us) : xs.length = us.length := Paired.length r
theorem Vals.get : ∀ {xs : List V} {us : List Value} {i : Nat} {x : V}, Vals xs us -> xs[i]? = some x -> ∃ u, us[i]? = some u /\ RelV x u
 | _, _, _, _, .nil, e => by simp at e
 | _, _, 0, _, .cons r _, e => by simp at e; subst e; exact ⟨_, rfl, r⟩
 | _, _, i + 1, x, .cons _ t, e => by
  obtain ⟨u, h1, h2⟩ := Vals.get (i := i) (x := x) t (by simpa using e)
  exact ⟨u, by simpa using h1, h2⟩
theorem Vals.set {x : V} {u : Value} (r : RelV x u) : ∀ {xs : List V} {us : List Value} (i : Nat), Vals xs us -> Vals (xs.set i x) (us.set i u)
 | _, _, _, .nil => .nil
 | _, _, 0, .cons _ t => .cons r t
 | _, _, i + 1, .cons q t => .cons q (Vals.set r i t)
theorem Vals.append : ∀ {xs ys : List V} {us ws : List Value}, Vals xs us -> Vals ys ws -> Vals (xs ++ ys) (us ++ ws)
 | _, _, _, _, .nil, s => s
 | _, _, _, _, .cons r t, s => .cons r (Vals.append t s)
theorem Vals.take : ∀ {xs : List V} {us : List Value} (n : Nat), Vals xs us -> Vals (xs.take n) (us.take n)
 | _, _, 0, _ => .nil
 | _, _, _ + 1, .nil => .nil
 | _, _, n + 1, .cons r t => .cons r (Vals.take n t)
theorem Vals.drop : ∀ {xs : List V} {us : List Value} (n : Nat), Vals xs us -> Vals (xs.drop n) (us.drop n)
 | _, _, 0, r => r
 | _, _, _ + 1, .nil => .nil
 | _, _, n + 1, .cons _ t => Vals.drop n t
theorem Vals.none_of : ∀ {xs : List V} {us : List Value} {i : Nat}, Vals xs us -> xs[i]? = none -> us[i]? = none := fun {xs us i} r e => by
 have h1 := r.length
 have h2 : xs.length <= i := List.getElem?_eq_none_iff.mp e
 exact List.getElem?_eq_none_iff.mpr (by (first | lia | omega))
noncomputable def RelO : Option V -> Option Value -> Prop
 | some v, some u => RelV v u
 | none, none => True
 | _, _ => False
noncomputable def KV {κ : Type} : List (κ × V) -> List (κ × Value) -> Prop := Paired fun (p : κ × V) (q : κ × Value) => p.1 = q.1 /\ RelV p.2 q.2
noncomputable def kV : Key -> V
 | .inl i => .int i
 | .inr x => .str x
inductive HO where
  | lst (xs : List V)
  | tup (xs : List V)
  | dK (kvs : List (Key × V)) | dT (kvs : List (List Key × V))
  | set (S : Int -> Bool) (n : Nat)
  | ins (C dx : Addr) (fs : List (Str × V))
  | own (x : Addr)
  | xd (fs : List (Str × V))
  | met (f x : Addr)
  | rng (lo hi : Int)
  | frz (o : Obj) (u : HO)
  | tbl (ps : Array Value)
  | ext (φ : Heap -> Prop)
noncomputable abbrev Hp := Addr -> Option HO
noncomputable def upd (H : Hp) (a : Addr) (o : HO) : Hp := fun b => if b = a then some o else H b
theorem upd_same {H : Hp} {a : Addr} {o : HO} : upd H a o a = some o := by unfold upd; rw [if_pos rfl]
theorem upd_ne {H : Hp} {a b : Addr} {o : HO} (h : b ≠ a) : upd H a o b = H b := by unfold upd; rw [if_neg h]
theorem upd_upd {H : Hp} {a : Addr} {o u : HO} : upd (upd H a o) a u = upd H a u := by
 funext b; unfold upd; split <;> rfl
theorem ne_of {H : Hp} {a b : Addr} {o u : HO} (h : H a = some o) (h' : H b = some u) (d : o ≠ u) : a ≠ b := by
 intro e; subst e; rw [h] at h'; exact d (Option.some.inj h')
theorem ne_of_none {H : Hp} {a b : Addr} {o : HO} (h : H a = some o) (h' : H b = none) : a ≠ b := by
 intro e; subst e; rw [h] at h'; cases h'
noncomputable def PTup (h : Heap) (a : Addr) (items : Array Value) : Prop := ∃ o, h.get? a = some o /\ o.cls = .type "tuple" /\ (∃ n, o.data = .seq items n) /\ o.dict = none /\ o.slots = #[]
theorem PTup.tup {h : Heap} {a : Addr} {items : Array Value} (p : PTup h a items) : IsTup h a items := by
 obtain ⟨o, e, c, d, _⟩ := p
 exact ⟨o, e, c, d⟩
theorem PTup.new {h : Heap} {items : Array Value} {n : Nat} : PTup (h.push { cls := .type "tuple", data := .seq items n }) h.objs.size items := ⟨_, Heap.get?_push_size _ rfl, rfl, ⟨_, rfl⟩, rfl, rfl⟩
section
variable (P : Program) (w : World)
noncomputable def ObjOk (H : Hp) (h : Heap) (a : Addr) : HO -> Prop
 | .lst xs => xs.length <= sizeLine /\ ∃ (its : List Value) (n : Nat), Vals xs its /\ h.get? a = some { cls := .type "list", data := .seq its.toArray n }
 | .tup xs => xs.length <= sizeLine /\ ∃ its : List Value, Vals xs its /\ PTup h a its.toArray
 | .dK kvs => kvs.length <= sizeLine /\ (a == sysModules) = false /\ ∃ vs, KV kvs vs /\ h.DictOf (mixKind P w) a vs
 | .dT kvs => kvs.length <= sizeLine /\ (a == sysModules) = false /\ ∃ xs : List (List Key × Addr × Value),
   Paired (fun (p : List Key × V) (q : List Key × Addr × Value) => p.1 = q.1 /\ H q.2.1 = some (.tup (p.1.map kV)) /\ RelV p.2 q.2.2) kvs xs /\
   ∃ o es ep, h.get? a = some o /\ o.ExactDict /\ o.data = .dict es ep /\ es.toList = xs.map (entryOfKey (tupleKind (mixKind P w))) /\ (xs.map (·.1)).Nodup
 | .set S n => h.SetOf (intKind P w) a S n
 | .ins C dx fs => H dx = some (.own a) /\ fs.length <= 1000 /\ dx ≠ a /\ h.get? a = some (PySem.W.instObj C dx) /\
   ∃ mA, h.Ns1 dx mA /\ (∀ f, RelO (fs.lookup f) (mA f)) /\ PySem.Within mA (fs.map (·.1))
 | .own _ => ∃ o, h.get? a = some o
 | .xd fs => ∃ mA, h.Ns1 a mA /\ ∀ f, RelO (fs.lookup f) (mA f)
 | .rng lo hi => ∃ t u v, h.get? a = some { cls := .type "range", data := .fields #[.int lo t, .int hi u, .int 1 v] }
 | .frz o u => h.get? a = some o /\ ObjOk H h a u
 | .tbl ps => h.get? a = some { cls := .none, data := .fields ps }
 | .met f x => h.get? a = some (PySem.W.methodObj (.ref f) (.ref x))
 | .ext φ => φ h /\ (∃ o, h.get? a = some o) /\ ∀ h1 h2 : Heap, φ h1 -> (∀ o, h1.get? a = some o -> h2.get? a = some o) -> φ h2
noncomputable def HOk (H : Hp) (h : Heap) : Prop := ∀ a o, H a = some o -> ObjOk P w H h a o
end
section
variable {P : Program} {w : World} {H H' : Hp} {h h' : Heap} {a : Addr} {o : HO}
theorem ObjOk.lt (x : ObjOk P w H h a o) : a < h.objs.size := by
 cases o with
 | lst xs => obtain ⟨_, _, _, _, e⟩ := x; exact Heap.lt_size e
 | tup xs => obtain ⟨_, _, _, p⟩ := x; exact p.tup.lt
 | dK kvs => obtain ⟨_, _, _, _, o, _, _, e, _⟩ := x; exact Heap.lt_size e
 | dT kvs => obtain ⟨_, _, _, _, o, _, _, e, _⟩ := x; exact Heap.lt_size e
 | set S n => obtain ⟨o, _, _, _, e, _⟩ := x; exact Heap.lt_size e
 | ins C dx fs => obtain ⟨_, _, _, e, _⟩ := x; exact Heap.lt_size e
 | own y => obtain ⟨_, e⟩ := x; exact Heap.lt_size e
 | xd fs => obtain ⟨_, ⟨_, _, _, e, _⟩, _⟩ := x; exact Heap.lt_size e
 | rng lo hi => obtain ⟨_, _, _, e⟩ := x; exact Heap.lt_size e
 | frz ob u => obtain ⟨e, _⟩ := x; exact Heap.lt_size e
 | tbl ps => exact Heap.lt_size (show h.get? a = some _ from x)
 | met f y => exact Heap.lt_size (show h.get? a = some _ from x)
 | ext φ => obtain ⟨_, ⟨_, e⟩, _⟩ := x; exact Heap.lt_size e
theorem Paired.mapP {α β : Type} {F G : α -> β -> Prop} : ∀ {l₁ : List α} {l₂ : List β}, Paired F l₁ l₂ -> (∀ a b, F a b -> G a b) -> Paired G l₁ l₂
 | _, _, .nil, _ => .nil
 | _, _, .cons r t, f => .cons (f _ _ r) (Paired.mapP t f)
theorem ObjOk.stay (x : ObjOk P w H h a o) (k : ∀ b u, (b = a ∨ H b = some (.own a)) -> h.get? b = some u -> h'.get? b = some u)
  (ho : ∀ b, H b = some (.own a) -> H' b = some (.own a)) (ht : ∀ b xs, H b = some (.tup xs) -> H' b = some (.tup xs)) : ObjOk P w H' h' a o := by
 induction o with
 | lst xs => obtain ⟨z, its, n, r, e⟩ := x; exact ⟨z, its, n, r, k _ _ (.inl rfl) e⟩
 | tup xs => obtain ⟨z, its, r, ob, e, c⟩ := x; exact ⟨z, its, r, ob, k _ _ (.inl rfl) e, c⟩
 | dK kvs => obtain ⟨z, y, vs, r, ob, es, ep, e, c⟩ := x; exact ⟨z, y, vs, r, ob, es, ep, k _ _ (.inl rfl) e, c⟩
 | dT kvs =>
  obtain ⟨z, y, xs, r, ob, es, ep, e, c⟩ := x
  exact ⟨z, y, xs, Paired.mapP r fun p q z => ⟨z.1, ht _ _ z.2.1, z.2.2⟩, ob, es, ep, k _ _ (.inl rfl) e, c⟩
 | set S n => obtain ⟨ob, es, ep, t, e, c⟩ := x; exact ⟨ob, es, ep, t, k _ _ (.inl rfl) e, c⟩
 | ins C dx fs =>
  obtain ⟨d, z, ne, e, mA, ⟨od, es, ep, e2, c⟩, r⟩ := x
  exact ⟨ho _ d, z, ne, k _ _ (.inl rfl) e, mA, ⟨od, es, ep, k _ _ (.inr d) e2, c⟩, r⟩
 | own y => obtain ⟨ob, e⟩ := x; exact ⟨ob, k _ _ (.inl rfl) e⟩
 | xd fs => obtain ⟨mA, ⟨od, es, ep, e, c⟩, r⟩ := x; exact ⟨mA, ⟨od, es, ep, k _ _ (.inl rfl) e, c⟩, r⟩
 | rng lo hi => obtain ⟨t, u, v, e⟩ := x; exact ⟨t, u, v, k _ _ (.inl rfl) e⟩
 | frz ob u ih => obtain ⟨e, q⟩ := x; exact ⟨k _ _ (.inl rfl) e, ih q⟩
 | tbl ps =>
  have e : h.get? a = some { cls := .none, data := .fields ps } := x
  show h'.get? a = some { cls := .none, data := .fields ps }
  exact k a _ (.inl rfl) e
 | met f y =>
  have e : h.get? a = some (PySem.W.methodObj (.ref f) (.ref y)) := x
  show h'.get? a = some (PySem.W.methodObj (.ref f) (.ref y))
  exact k a _ (.inl rfl) e
 | ext φ => obtain ⟨p, ⟨o, e⟩, st⟩ := x; exact ⟨st _ _ p fun o q => k _ _ (.inl rfl) q, ⟨o, k _ _ (.inl rfl) e⟩, st⟩
theorem HOk.lt (x : HOk P w H h) (e : H a = some o) : a < h.objs.size := (x a o e).lt
theorem HOk.fresh (x : HOk P w H h) (e : h.objs.size <= a) : H a = none := by
 cases q : H a with
 | none => rfl
 | some u => exact absurd (Nat.lt_of_lt_of_le (x.lt q) e) (Nat.lt_irrefl _)
theorem HOk.kept (x : HOk P w H h) (k : ∀ b u, h.get? b = some u -> h'.get? b = some u) : HOk P w H h' := fun a o e =>
 (x a o e).stay (fun b u _ q => k b u q) (fun _ q => q) fun _ _ q => q
theorem HOk.laid (x : HOk P w H h) (k : ∀ b u, h.get? b = some u -> h'.get? b = some u) (hp : h.objs.size <= a) (new : ObjOk P w (upd H a o) h' a o) : HOk P w (upd H a o) h' := fun b u e => by
 have hn := x.fresh hp
 by_cases hb : b = a
 ·subst hb; rw [upd_same] at e; cases e; exact new
 ·rw [upd_ne hb] at e
  exact (x b u e).stay (fun c v _ q => k c v q) (fun c q => by rw [upd_ne (ne_of_none q hn)]; exact q) fun c xs q => by rw [upd_ne (ne_of_none q hn)]; exact q
end
noncomputable def Rd (H : Hp) (a : Addr) (u : HO) : Prop := H a = some u ∨ ∃ o, H a = some (.frz o u)
theorem Rd.ok {P : Program} {w : World} {H : Hp} {h : Heap} {a : Addr} {u : HO} (r : Rd H a u) (x : HOk P w H h) : ObjOk P w H h a u := by
 rcases r with r | ⟨o, r⟩
 ·exact x a u r
 ·obtain ⟨_, q⟩ := x a _ r
  exact q
noncomputable def Mut : Option HO -> Prop
 | some (.lst _) => True
 | some (.dK _) => True
 | some (.dT _) => True
 | some (.set _ _) => True
 | some (.ins _ _ _) => True
 | some (.ext _) => True
 | _ => False
section
variable {P : Program} {w : World} {H : Hp} {h h' : Heap} {x e : Addr} {o' : HO}
theorem HOk.write (ok : HOk P w H h) (mu : Mut (H x)) (he : e = x ∨ H e = some (.own x)) (k : ∀ b u, b ≠ e -> h.get? b = some u -> h'.get? b = some u) (heo : ∃ u, h'.get? e = some u)
  (new : ObjOk P w (upd H x o') h' x o') : HOk P w (upd H x o') h' := fun b u q => by
 have nown : ∀ c y, H c = some (.own y) -> c ≠ x := fun c y r z => by subst z; rw [r] at mu; exact mu
 have ntup : ∀ c xs, H c = some (.tup xs) -> c ≠ x := fun c xs r z => by subst z; rw [r] at mu; exact mu
 by_cases hb : b = x
 ·subst hb; rw [upd_same] at q; cases q; exact new
 ·rw [upd_ne hb] at q
  by_cases hbe : b = e
  ·have q' : H b = some (.own x) := by
    rcases he with z | z
    ·exact absurd (hbe.trans z) hb
    ·rw [hbe]; exact z
   rw [q] at q'; cases q'
   obtain ⟨v, hv⟩ := heo
   exact ⟨v, by rw [hbe]; exact hv⟩
  ·refine (ok b u q).stay (fun c v hc r => k c v ?_ r) (fun c r => by rw [upd_ne (nown c b r)]; exact r) fun c xs r => by rw [upd_ne (ntup c xs r)]; exact r
   rcases hc with rfl | hc
   ·exact hbe
   ·rintro rfl
    rcases he with z | z
    ·exact nown c b hc z
    ·rw [hc] at z; cases z; exact hb rfl
end
structure Un (fs ex : List Addr) (H H' : Hp) (h h' : Heap) : Prop where
 keep : ∀ b o, h.get? b = some o -> H b = none -> b ∉ fs -> b ∉ ex -> h'.get? b = some o
 slot : ∀ b o, h.get? b = some o -> H b = none -> b ∈ fs -> b ∉ ex -> ∃ sl, h'.get? b = some { o with slots := sl }
 free : ∀ b o, h.get? b = some o -> H b = none -> b ∉ ex -> H' b = none
 there : ∀ b o, h.get? b = some o -> b ∉ ex -> ∃ o', h'.get? b = some o'
 tups : ∀ b xs, H b = some (.tup xs) -> H' b = some (.tup xs)
 frzs : ∀ b o u, H b = some (.frz o u) -> H' b = some (.frz o u)
 tbls : ∀ b ps, H b = some (.tbl ps) -> ∃ more, H' b = some (.tbl (ps ++ more))
section
variable {fs fs' ex ex' : List Addr} {H H1 H2 : Hp} {h h1 h2 h' : Heap} {a x e : Addr} {o : HO}
theorem Un.any (u : Un fs ex H H1 h h1) {b : Addr} {ob : Obj} (q : h.get? b = some ob) (n : H b = none) (hx : b ∉ ex) : ∃ sl, h1.get? b = some { ob with slots := sl } := by
 by_cases hb : b ∈ fs
 ·exact u.slot b ob q n hb hx
 ·exact ⟨ob.slots, u.keep b ob q n hb hx⟩
theorem Un.kept (k : ∀ b u, h.get? b = some u -> h'.get? b = some u) : Un fs ex H H h h' :=
 ⟨fun b ob q _ _ _ => k b ob q, fun b ob q _ _ _ => ⟨ob.slots, k b ob q⟩, fun _ _ _ n _ => n, fun b ob q _ => ⟨ob, k b ob q⟩, fun _ _ q => q, fun _ _ _ q => q, fun _ ps q => ⟨#[], by rw [q]; simp⟩⟩
theorem Un.refl : Un fs ex H H h h := Un.kept fun _ _ q => q
theorem Un.laid (k : ∀ b u, h.get? b = some u -> h'.get? b = some u) (hp : h.objs.size <= a) (hn : H a = none) : Un fs ex H (upd H a o) h h' where
 keep := fun b u q _ _ _ => k b u q
 slot := fun b u q _ _ _ => ⟨u.slots, k b u q⟩
 free := fun b u q n _ => by rw [upd_ne (Nat.ne_of_lt (Nat.lt_of_lt_of_le (Heap.lt_size q) hp))]; exact n
 there := fun b u q _ => ⟨u, k b u q⟩
 tups := fun b xs q => by rw [upd_ne (ne_of_none q hn)]; exact q
 frzs := fun b u xs q => by rw [upd_ne (ne_of_none q hn)]; exact q
 tbls := fun b ps q => ⟨#[], by rw [upd_ne (ne_of_none q hn), q]; simp⟩
theorem Un.write (mu : Mut (H x)) (he : e = x ∨ H e = some (.own x)) (k : ∀ b u, b ≠ e -> h.get? b = some u -> h'.get? b = some u) (heo : ∃ u, h'.get? e = some u) : Un fs ex H (upd H x o) h h' := by
 have hx : ∀ b, H b = none -> b ≠ x := fun b n z => by subst z; rw [n] at mu; exact mu
 have hb : ∀ b, H b = none -> b ≠ e := fun b n z => by
  subst z
  rcases he with r | r
  ·exact hx b n r
  ·rw [n] at r; cases r
 have hm : ∀ b u, H b = some u -> ¬ Mut (some u) -> b ≠ x := fun b u q nm z => by subst z; rw [q] at mu; exact nm mu
 refine ⟨fun b u q n _ _ => k b u (hb b n) q, fun b u q n _ _ => ⟨u.slots, k b u (hb b n) q⟩, fun b u q n _ => by rw [upd_ne (hx b n)]; exact n, fun b u q _ => ?_,
  fun b xs q => by rw [upd_ne (hm b _ q fun z => z)]; exact q, fun b u xs q => by rw [upd_ne (hm b _ q fun z => z)]; exact q, fun b ps q => ⟨#[], by rw [upd_ne (hm b _ q fun z => z), q]; simp⟩⟩
 by_cases hbe : b = e
 ·subst hbe; exact heo
 ·exact ⟨u, k b u hbe q⟩
end
noncomputable def trk (h : Heap) (H : Hp) : List Addr := (List.range h.objs.size).filter fun a => (H a).isSome
noncomputable def hidT (h : Heap) (H : Hp) : Heap := PySem.W.hideAll h (trk h H)
theorem hidT_size (h : Heap) (H : Hp) : (hidT h H).objs.size = h.objs.size := PySem.W.hideAll_size _ _
theorem hidT_get {h : Heap} {H : Hp} {b : Addr} {o : Obj} (e : h.get? b = some o) (n : H b = none) : (hidT h H).get? b = some o :=
 PySem.W.hideAll_get _ e fun hm => by
  have q : (H b).isSome = true := (List.mem_filter.mp hm).2
  rw [n] at q; simp at q
theorem of_hidT {h : Heap} {H : Hp} {b : Addr} {o : Obj} (e : (hidT h H).get? b = some o) : h.get? b = some o /\ H b = none := by
 have e' : h.get? b = some o := PySem.W.of_hideAll (trk h H) e
 refine ⟨e', ?_⟩
 cases q : H b with
 | none => rfl
 | some x =>
  have hm : b ∈ trk h H := List.mem_filter.mpr ⟨List.mem_range.mpr (Heap.lt_size e'), by simp [q]⟩
  have z : (hidT h H).get? b = none := PySem.W.hideAll_none (trk h H) hm
  rw [z] at e; cases e
noncomputable def allNews (g h : Heap) (L : Addr) : List (Addr × Obj) := (List.range h.objs.size).filterMap fun a => if a = L ∨ (g.get? a).isSome = true then none else (h.get? a).map fun o => (a, o)
noncomputable def rest (g h : Heap) (L d : Addr) : List (Addr × Obj) := (allNews g h L).filter fun p => decide (p.1 ≠ d)
end L2
namespace L2
open PySem PySem.Spec PyProof.Rows
structure Mod (K : PySem.W.Frag) (mg : Str -> Option Value) (base : Heap) : Prop where
 kin : K.In base
 glob : base.Ns mainGlobals mg
 blt : ∃ mb, base.Ns builtinsNs mb /\ ∀ x : Str, x ≠ "__name__" -> mb x = bootBuiltins x
 nolimit : base.NoLimit
structure Cx where
 prog : Program
 w : World
 K : PySem.W.Frag
 mg : Str -> Option Value
 base : Heap
 A : Around
 N : List Str
 s₀ : Shared
 H₀ : Hp
 env : Env
 outer : List Env
 stack : List Env
 ex : List Addr
 fn : Str -> Bool
 calm : Bool
 pn : List (Addr × Obj)
 xe : Value -> Shared -> Prop
noncomputable def frs (l : List Env) : List Addr := l.filterMap (·.frame)
noncomputable abbrev Cx.fs (X : Cx) : List Addr := frs X.outer
noncomputable def Vis (sc : Scope) (x : Str) : Prop := sc.names.lookup x = some .local ∨ sc.names.lookup x = some .cell ∨ sc.names.lookup x = some .free
noncomputable def Loc (sc : Scope) (x : Str) : Prop := sc.names.lookup x = some .local ∨ sc.names.lookup x = some .cell
noncomputable def Look (env : Env) (h : Heap) (m : Str -> Option Value) (x : Str) (u : Value) : Prop :=
 (env.kindOf x = some .local /\ m x = some u) ∨ ((env.kindOf x = some .cell ∨ env.kindOf x = some .free) /\ ∃ c, env.cells.lookup x = some c /\ h.IsCell c (some u))
structure Cx.Ok (X : Cx) : Prop where
 mod : Mod X.K X.mg X.base
 kind : X.env.scope.kind = .function
 glob : X.env.globals = mainGlobals
 blt : X.env.builtins = builtinsNs
 above : X.s₀.heap.objs.size <= X.env.locals
 inj : ∀ x y c, X.env.cells.lookup x = some c -> X.env.cells.lookup y = some c -> x = y
 has : ∀ x, (X.env.kindOf x = some .cell ∨ X.env.kindOf x = some .free) -> ∃ c, X.env.cells.lookup x = some c
 cab : ∀ x c, X.fn x = true -> X.env.cells.lookup x = some c -> X.s₀.heap.objs.size <= c
 hd : X.calm = true -> X.A.handled = none
 frames : X.A.frames = some X.stack
 stk : X.stack = X.outer ∨ (X.stack = X.env :: X.outer /\ X.env.frame = some X.env.locals)
 exf : ∀ b ∈ X.ex, b ≠ X.env.locals /\ ∀ x c, X.env.cells.lookup x = some c -> c ≠ b
 bs : ∀ b o, X.base.get? b = some o -> X.s₀.heap.get? b = some o /\ X.H₀ b = none
 bsz : X.base.objs.size <= X.s₀.heap.objs.size
 noex : ∀ b o, X.base.get? b = some o -> b ∉ X.ex
 exfs : ∀ b ∈ X.ex, b ∉ X.fs
 funs : X.s₀.heap.FunFrames X.base X.outer
 frf : ∀ b ∈ X.fs, X.H₀ b = none
structure Inv (X : Cx) (pins : List (Addr × Obj)) (σ : List (Option V)) (H : Hp) (s : Shared) : Prop where
 ok : X.Ok
 os : s.os = X.s₀.os
 bare : AllBare s.gens
 base : Un X.fs X.ex X.H₀ H X.s₀.heap s.heap
 loc : ∃ m, s.heap.Ns X.env.locals m /\ ∀ (i : Nat) (x : Str) (v : V), X.N[i]? = some x -> σ[i]? = some (some v) -> Vis X.env.scope x -> ∃ u, RelV v u /\ Look X.env s.heap m x u
 cell : ∀ x c, X.env.cells.lookup x = some c -> ∃ v, s.heap.IsCell c v
 free : H X.env.locals = none
 freeC : ∀ x c, X.env.cells.lookup x = some c -> H c = none
 pin : ∀ p ∈ X.pn ++ pins, s.heap.get? p.1 = some p.2 /\ H p.1 = none /\ p.1 ≠ X.env.locals /\ p.1 ∉ X.fs /\ ∀ v, p.2.data ≠ .cell v
 hok : HOk X.prog X.w H s.heap
 len : σ.length = X.N.length
section
variable {X : Cx} {pins : List (Addr × Obj)} {σ : List (Option V)} {H H' : Hp} {s : Shared} {h' : Heap}
theorem Cx.Ok.nofr (ok : X.Ok) {b : Addr} {o : Obj} (e : X.base.get? b = some o) : b ∉ X.fs := fun hb => by
 have := (ok.funs.mem hb).1
 rw [e] at this; cases this
theorem Inv.bs (I : Inv X pins σ H s) : ∀ b o, X.base.get? b = some o -> s.heap.get? b = some o /\ H b = none := fun b o e =>
 ⟨I.base.keep b o (I.ok.bs b o e).1 (I.ok.bs b o e).2 (I.ok.nofr e) (I.ok.noex b o e), I.base.free b o (I.ok.bs b o e).1 (I.ok.bs b o e).2 (I.ok.noex b o e)⟩
theorem Inv.bk (I : Inv X pins σ H s) : ∀ b o, X.base.get? b = some o -> s.heap.get? b = some o := fun b o e => (I.bs b o e).1
theorem Inv.mod (I : Inv X pins σ H s) : Mod X.K X.mg X.base := I.ok.mod
theorem Inv.kIn (I : Inv X pins σ H s) : X.K.In s.heap := I.ok.mod.kin.keeps I.bk
theorem Inv.lt (I : Inv X pins σ H s) : X.env.locals < s.heap.objs.size := let ⟨_, hn, _⟩ := I.loc; hn.lt
theorem Inv.sz (I : Inv X pins σ H s) : X.s₀.heap.objs.size <= s.heap.objs.size := Nat.le_trans I.ok.above (Nat.le_of_lt I.lt)
theorem Inv.nofs (I : Inv X pins σ H s) {a : Addr} (h : s.heap.objs.size <= a) : a ∉ X.fs := fun hb => by
 obtain ⟨_, o, ho, _⟩ := I.ok.funs.mem hb
 exact absurd (Nat.lt_of_lt_of_le (Heap.lt_size ho) (Nat.le_trans I.sz h)) (Nat.lt_irrefl _)
theorem Inv.cne (I : Inv X pins σ H s) : ∀ x c, X.env.cells.lookup x = some c -> c ≠ X.env.locals := fun x c e z => by
 obtain ⟨v, o, ho, hd⟩ := I.cell x c e
 obtain ⟨m, ⟨o', es, ep, ho', hd', _⟩, _⟩ := I.loc
 rw [z, ho'] at ho; cases ho; rw [hd'] at hd; cases hd
theorem Inv.funs (I : Inv X pins σ H s) : s.heap.FunFrames X.base X.outer := by
 have all : ∀ (l : List Env), (∀ b ∈ frs l, b ∈ X.fs) -> X.s₀.heap.FunFrames X.base l -> s.heap.FunFrames X.base l := by
  intro l
  induction l with
  | nil => intro _ _; trivial
  | cons env r ih =>
   intro hs hl
   obtain ⟨hk, ⟨L, o, hf, hn, ho, hd⟩, hr⟩ := hl
   have hL : L ∈ X.fs := hs L (by unfold frs; rw [List.filterMap_cons, hf]; exact List.mem_cons_self)
   obtain ⟨sl, e⟩ := I.base.slot L o ho (I.ok.frf L hL) hL fun z => I.ok.exfs L z hL
   exact ⟨hk, ⟨L, _, hf, hn, e, hd⟩, ih (fun b hb => hs b (by unfold frs; rw [List.filterMap_cons, hf]; exact List.mem_cons_of_mem _ hb)) hr⟩
 exact all X.outer (fun _ hb => hb) I.ok.funs
theorem Inv.stack (I : Inv X pins σ H s) : s.heap.FunFrames X.base X.stack := by
 rcases I.ok.stk with e | ⟨e, hf⟩
 ·rw [e]; exact I.funs
 ·rw [e]
  obtain ⟨m, hn, _⟩ := I.loc
  refine .cons (by rw [I.ok.kind]; decide) hf hn ?_ I.funs
  exact Heap.get?_none_of_le (Nat.le_trans I.ok.bsz I.ok.above)
theorem Inv.stkSub (I : Inv X pins σ H s) : ∀ b ∈ frs X.stack, b ∈ X.env.locals :: X.fs := fun b hb => by
 rcases I.ok.stk with e | ⟨e, hf⟩
 ·rw [e] at hb; exact List.mem_cons_of_mem _ hb
 ·rw [e] at hb
  unfold frs at hb
  rw [List.filterMap_cons, hf] at hb
  exact hb
theorem Inv.stkFree (I : Inv X pins σ H s) : ∀ b ∈ frs X.stack, H b = none := fun b hb => by
 rcases List.mem_cons.mp (I.stkSub b hb) with e | hb
 ·rw [e]; exact I.free
 ·obtain ⟨_, o, ho, _⟩ := I.ok.funs.mem hb
  exact I.base.free b o ho (I.ok.frf b hb) fun z => I.ok.exfs b z hb
theorem Inv.step {g' : Array GenState} {t' : Nat} {d' : Drawn} {ch : List Addr} (I : Inv X pins σ H s)
  (hch : ∀ b ∈ ch, (b ∈ X.ex ∨ X.s₀.heap.objs.size <= b) /\ b ≠ X.env.locals /\ (∀ x c, X.env.cells.lookup x = some c -> c ≠ b) /\ ∀ p ∈ X.pn ++ pins, p.1 ≠ b)
  (keep : ∀ b o, b ≠ X.env.locals -> b ∉ X.fs -> b ∉ ch -> s.heap.get? b = some o -> H b = none -> h'.get? b = some o)
  (slot : ∀ b o, b ≠ X.env.locals -> b ∈ X.fs -> b ∉ ch -> s.heap.get? b = some o -> H b = none -> ∃ sl, h'.get? b = some { o with slots := sl }) (free : ∀ b o, b ∉ ch -> s.heap.get? b = some o -> H b = none -> H' b = none)
  (there : ∀ b o, b ∉ ch -> s.heap.get? b = some o -> ∃ o', h'.get? b = some o')
  (tups : ∀ b xs, H b = some (.tup xs) -> H' b = some (.tup xs)) (frzs : ∀ b o u, H b = some (.frz o u) -> H' b = some (.frz o u)) (tbls : ∀ b ps, H b = some (.tbl ps) -> ∃ more, H' b = some (.tbl (ps ++ more)))
  (ns : ∀ m, s.heap.Ns X.env.locals m -> h'.Ns X.env.locals m) (hok : HOk X.prog X.w H' h') (hg : AllBare g') :
  Inv X pins σ H' { s with heap := h', gens := g', drawn := d', toks := t' } := by
 have neL : ∀ b o, X.s₀.heap.get? b = some o -> b ≠ X.env.locals := fun b o e => Nat.ne_of_lt (Nat.lt_of_lt_of_le (Heap.lt_size e) I.ok.above)
 have neC : ∀ b o, X.s₀.heap.get? b = some o -> b ∉ X.ex -> b ∉ ch := fun b o e hx hb => by
  rcases (hch b hb).1 with z | z
  ·exact hx z
  ·exact absurd (Nat.lt_of_lt_of_le (Heap.lt_size e) z) (Nat.lt_irrefl _)
 have cellK : ∀ x c, X.env.cells.lookup x = some c -> ∀ v, s.heap.IsCell c v -> h'.IsCell c v := fun x c e v ⟨o, ho, hd⟩ => by
  have nch : c ∉ ch := fun z => (hch c z).2.2.1 x c e rfl
  by_cases hc : c ∈ X.fs
  ·obtain ⟨sl, q⟩ := slot c o (I.cne x c e) hc nch ho (I.freeC x c e)
   exact ⟨_, q, hd⟩
  ·exact ⟨o, keep c o (I.cne x c e) hc nch ho (I.freeC x c e), hd⟩
 refine ⟨I.ok, I.os, hg, ⟨fun b o e n hb hx => ?_, fun b o e n hb hx => ?_, fun b o e n hx => ?_, fun b o e hx => ?_, fun b xs e => tups b xs (I.base.tups b xs e), fun b o xs e => frzs b o xs (I.base.frzs b o xs e), fun b ps e => ?_⟩, ?_, fun x c e => ?_, ?_, fun x c e => ?_, fun p hp => ?_, hok, I.len⟩
 ·exact keep b o (neL b o e) hb (neC b o e hx) (I.base.keep b o e n hb hx) (I.base.free b o e n hx)
 ·obtain ⟨sl, e1⟩ := I.base.slot b o e n hb hx
  obtain ⟨sl', e2⟩ := slot b _ (neL b o e) hb (neC b o e hx) e1 (I.base.free b o e n hx)
  exact ⟨sl', e2⟩
 ·obtain ⟨o', e1⟩ := I.base.there b o e hx
  exact free b o' (neC b o e hx) e1 (I.base.free b o e n hx)
 ·obtain ⟨o', e1⟩ := I.base.there b o e hx
  exact there b o' (neC b o e hx) e1
 ·obtain ⟨m1, e1⟩ := I.base.tbls b ps e
  obtain ⟨m2, e2⟩ := tbls b _ e1
  exact ⟨m1 ++ m2, by rw [e2, Array.append_assoc]⟩
 ·obtain ⟨m, hn, hl⟩ := I.loc
  refine ⟨m, ns m hn, fun i x v e1 e2 e3 => ?_⟩
  obtain ⟨u, r, l⟩ := hl i x v e1 e2 e3
  refine ⟨u, r, ?_⟩
  rcases l with l | ⟨k, c, e, z⟩
  ·exact .inl l
  ·exact .inr ⟨k, c, e, cellK x c e _ z⟩
 ·obtain ⟨v, z⟩ := I.cell x c e
  exact ⟨v, cellK x c e v z⟩
 ·obtain ⟨m, ⟨o, _, _, ho, _⟩, _⟩ := I.loc
  exact free _ o (fun z => (hch _ z).2.1 rfl) ho I.free
 ·obtain ⟨v, o, ho, hd⟩ := I.cell x c e
  exact free c o (fun z => (hch c z).2.2.1 x c e rfl) ho (I.freeC x c e)
 ·obtain ⟨e, n, ne, nf, d⟩ := I.pin p hp
  have nch : p.1 ∉ ch := fun z => (hch p.1 z).2.2.2 p hp rfl
  exact ⟨keep p.1 p.2 ne nf nch e n, free p.1 p.2 nch e n, ne, nf, d⟩
theorem Inv.un {t' : Nat} (I : Inv X pins σ H s) (u : Un X.fs [] H H' s.heap h') (hok : HOk X.prog X.w H' h') : Inv X pins σ H' { s with heap := h', toks := t' } := by
 obtain ⟨m, ⟨o, es, ep, ho, r⟩, _⟩ := id I.loc
 obtain ⟨sl, hL⟩ := u.any ho I.free (by simp)
 exact I.step (g' := s.gens) (d' := s.drawn) (ch := []) (fun _ z => nomatch z) (fun b o _ hb _ e n => u.keep b o e n hb (by simp)) (fun b o _ hb _ e n => u.slot b o e n hb (by simp)) (fun b o _ e n => u.free b o e n (by simp)) (fun b o _ e => u.there b o e (by simp)) u.tups u.frzs u.tbls (fun m' hm => by
  obtain ⟨o', es', ep', ho', r'⟩ := hm
  rw [ho] at ho'; cases ho'
  exact ⟨_, es', ep', hL, r'⟩) hok I.bare
theorem Inv.call {g' : Array GenState} {t' : Nat} {d' : Drawn} {ch : List Addr} (I : Inv X pins σ H s) (u : Un (frs X.stack) ch H H' s.heap h') (hok : HOk X.prog X.w H' h') (hg : AllBare g')
  (hch : ∀ b ∈ ch, (b ∈ X.ex ∨ X.s₀.heap.objs.size <= b) /\ b ≠ X.env.locals /\ (∀ x c, X.env.cells.lookup x = some c -> c ≠ b) /\ ∀ p ∈ X.pn ++ pins, p.1 ≠ b) :
  Inv X pins σ H' { s with heap := h', gens := g', drawn := d', toks := t' } := by
 obtain ⟨m, ⟨o, es, ep, ho, r⟩, _⟩ := id I.loc
 obtain ⟨sl, hL⟩ := u.any ho I.free fun z => (hch _ z).2.1 rfl
 exact I.step (ch := ch) hch (fun b o hL hb hc e n => u.keep b o e n (fun z => (List.mem_cons.mp (I.stkSub b z)).elim hL hb) hc) (fun b o _ _ hc e n => u.any e n hc) (fun b o hc e n => u.free b o e n hc) (fun b o hc e => u.there b o e hc) u.tups u.frzs u.tbls (fun m' hm => by
  obtain ⟨o', es', ep', ho', r'⟩ := hm
  rw [ho] at ho'; cases ho'
  exact ⟨_, es', ep', hL, r'⟩) hok hg
theorem Inv.turned {t' : Nat} {it : Addr} (I : Inv X pins σ H s) (k : ∀ b o, b ≠ it -> s.heap.get? b = some o -> h'.get? b = some o) (hn : H it = none) (hL : it ≠ X.env.locals)
  (h1 : it ∈ X.ex ∨ X.s₀.heap.objs.size <= it) (h2 : ∀ x c, X.env.cells.lookup x = some c -> c ≠ it) (h3 : ∀ p ∈ X.pn ++ pins, p.1 ≠ it) : Inv X pins σ H { s with heap := h', toks := t' } := by
 have nit : ∀ b u, H b = some u -> b ≠ it := fun b u e z => by rw [z, hn] at e; cases e
 refine I.step (g' := s.gens) (d' := s.drawn) (ch := [it]) (fun b hb => ?_) (fun b o _ _ hc e _ => k b o (fun z => hc (by simp [z])) e) (fun b o _ _ hc e _ => ⟨o.slots, k b o (fun z => hc (by simp [z])) e⟩) (fun _ _ _ _ n => n)
  (fun b o hc e => ⟨o, k b o (fun z => hc (by simp [z])) e⟩) (fun _ _ e => e) (fun _ _ _ e => e) (fun b ps e => ⟨#[], by rw [e]; simp⟩) (fun m hm => ?_) (fun b u e => ?_) I.bare
 ·have e : b = it := by simpa using hb
  subst e
  exact ⟨h1, hL, h2, h3⟩
 ·obtain ⟨o, es, ep, ho, r⟩ := hm
  exact ⟨o, es, ep, k _ o (Ne.symm hL) ho, r⟩
 ·refine (I.hok b u e).stay (fun c v hc q => k c v ?_ q) (fun _ q => q) fun _ _ q => q
  rcases hc with z | z
  ·rw [z]; exact nit b u e
  ·exact nit c _ z
theorem Inv.tok (I : Inv X pins σ H s) (t : Nat) : Inv X pins σ H { s with toks := t } := I.un (h' := s.heap) (t' := t) Un.refl I.hok
theorem Inv.kept {t' : Nat} (I : Inv X pins σ H s) (k : ∀ b u, s.heap.get? b = some u -> h'.get? b = some u) : Inv X pins σ H { s with heap := h', toks := t' } := I.un (Un.kept k) (I.hok.kept k)
theorem Inv.laid {a : Addr} {o : HO} {t' : Nat} (I : Inv X pins σ H s) (k : ∀ b u, s.heap.get? b = some u -> h'.get? b = some u) (hp : s.heap.objs.size <= a) (new : ObjOk X.prog X.w (upd H a o) h' a o) :
  Inv X pins σ (upd H a o) { s with heap := h', toks := t' } := I.un (Un.laid k hp (I.hok.fresh hp)) (I.hok.laid k hp new)
theorem Inv.write {x e : Addr} {o : HO} {t' : Nat} (I : Inv X pins σ H s) (mu : Mut (H x)) (he : e = x ∨ H e = some (.own x)) (k : ∀ b u, b ≠ e -> s.heap.get? b = some u -> h'.get? b = some u) (heo : ∃ u, h'.get? e = some u)
  (new : ObjOk X.prog X.w (upd H x o) h' x o) : Inv X pins σ (upd H x o) { s with heap := h', toks := t' } := I.un (Un.write mu he k heo) (I.hok.write mu he k heo new)
theorem Inv.weak {σ' : List (Option V)} (I : Inv X pins σ H s) (hl : σ'.length = σ.length) (w : ∀ (i : Nat) v, σ'[i]? = some (some v) -> σ[i]? = some (some v)) : Inv X pins σ' H s :=
 ⟨I.ok, I.os, I.bare, I.base, let ⟨m, hn, hl'⟩ := I.loc; ⟨m, hn, fun i x v e1 e2 e3 => hl' i x v e1 (w i v e2) e3⟩, I.cell, I.free, I.freeC, I.pin, I.hok, hl.trans I.len⟩
theorem Inv.pins_of {pins' : List (Addr × Obj)} (I : Inv X pins σ H s) (h : ∀ p ∈ pins', s.heap.get? p.1 = some p.2 /\ H p.1 = none /\ p.1 ≠ X.env.locals /\ p.1 ∉ X.fs /\ ∀ v, p.2.data ≠ .cell v) : Inv X pins' σ H s :=
 ⟨I.ok, I.os, I.bare, I.base, I.loc, I.cell, I.free, I.freeC, fun p hp => (List.mem_append.mp hp).elim (fun z => I.pin p (List.mem_append_left _ z)) (h p), I.hok, I.len⟩
theorem nodup_ix {N : List Str} (hN : N.Nodup) {i j : Nat} {x : Str} (a : N[i]? = some x) (b : N[j]? = some x) : i = j := by
 obtain ⟨h1, e1⟩ := List.getElem?_eq_some_iff.mp a
 obtain ⟨h2, e2⟩ := List.getElem?_eq_some_iff.mp b
 exact (List.getElem_inj hN).mp (e1.trans e2.symm)
theorem store_ok2 {M : Model} {A : Around} {E : Value -> Shared -> Prop} {i : Nat} {x : Str} {v : V} {u : Value} {Q : Unit -> Shared -> Prop} (I : Inv X pins σ H s) (hN : X.N.Nodup) (hi : X.N[i]? = some x) (hx : Loc X.env.scope x) (r : RelV v u)
  (h : ∀ s', Inv X pins (σ.set i (some v)) H s' -> (∃ a, Heap.SameBut a s.heap s'.heap /\ (a = X.env.locals ∨ X.env.cells.lookup x = some a)) -> Q () s') (hf : X.fn x = true ∨ X.env.scope.names.lookup x = some .local := by first | exact .inl rfl | exact .inr rfl | assumption) : wpAny M A (storeName X.env x u) Q E s := by
 obtain ⟨m, hn, hl⟩ := id I.loc
 have hcls : (X.env.scope.kind == .class || (X.env.scope.kind == .module && X.env.locals != X.env.globals)) = false := by rw [I.ok.kind]; rfl
 have hiσ : i < σ.length := by rw [I.len]; exact (List.getElem?_eq_some_iff.mp hi).1
 have cne := I.cne
 have tracked : ∀ {a : Addr} {h' : Heap}, (∃ o, s.heap.get? a = some o /\ H a = none) -> Heap.SameBut a s.heap h' -> HOk X.prog X.w H h' := fun {a h'} ha hs b ob e => by
  obtain ⟨_, _, hfree⟩ := ha
  refine (I.hok b ob e).stay (fun c w' hc q => (hs.2 c ?_).trans q) (fun _ q => q) fun _ _ q => q
  rintro rfl
  rcases hc with rfl | hc
  ·rw [hfree] at e; cases e
  ·rw [hfree] at hc; cases hc
 rcases hx with hk | hk
 ·refine wpAny_storeName_local hk hn (fun h' hn' hs => ?_) hcls
  obtain ⟨oL, _, _, hoL, _⟩ := id hn
  refine h _ ⟨I.ok, I.os, I.bare, ⟨fun b o e n hb hx => ?_, fun b o e n hb hx => ?_, I.base.free, fun b o e hx => ?_, I.base.tups, I.base.frzs, I.base.tbls⟩, ⟨_, hn', fun j y v' e1 e2 e3 => ?_⟩, fun y c e => ?_, I.free, I.freeC, fun p hp => ?_, tracked ⟨oL, hoL, I.free⟩ hs, by simpa using I.len⟩ ⟨_, hs, .inl rfl⟩
  ·exact (hs.2 b (Nat.ne_of_lt (Nat.lt_of_lt_of_le (Heap.lt_size e) I.ok.above))).trans (I.base.keep b o e n hb hx)
  ·obtain ⟨sl, e1⟩ := I.base.slot b o e n hb hx
   exact ⟨sl, (hs.2 b (Nat.ne_of_lt (Nat.lt_of_lt_of_le (Heap.lt_size e) I.ok.above))).trans e1⟩
  ·obtain ⟨o', e1⟩ := I.base.there b o e hx
   exact ⟨o', (hs.2 b (Nat.ne_of_lt (Nat.lt_of_lt_of_le (Heap.lt_size e) I.ok.above))).trans e1⟩
  ·by_cases hj : j = i
   ·subst hj
    rw [hi] at e1; cases e1
    rw [List.getElem?_set_self hiσ] at e2
    cases e2
    exact ⟨u, r, .inl ⟨hk, by simp⟩⟩
   ·rw [List.getElem?_set_ne (Ne.symm hj)] at e2
    obtain ⟨u', r', q⟩ := hl j y v' e1 e2 e3
    refine ⟨u', r', ?_⟩
    rcases q with ⟨k, e⟩ | ⟨k, c, e, z⟩
    ·refine .inl ⟨k, ?_⟩
     have : y ≠ x := fun e => hj (nodup_ix hN e1 (e ▸ hi))
     simp [this, e]
    ·exact .inr ⟨k, c, e, z.sameBut hs (cne y c e)⟩
  ·obtain ⟨w', z⟩ := I.cell y c e
   exact ⟨w', z.sameBut hs (cne y c e)⟩
  ·obtain ⟨e, n, ne, nf, d⟩ := I.pin p hp
   exact ⟨(hs.2 p.1 ne).trans e, n, ne, nf, d⟩
 ·have hfn : X.fn x = true := by
   rcases hf with z | z
   ·exact z
   ·rw [z] at hk; cases hk
  obtain ⟨c, hc⟩ := I.ok.has x (.inl hk)
  obtain ⟨w', z⟩ := I.cell x c hc
  refine wpAny_storeName_cell I.ok.kind hk hc z (fun h' hc' hs => ?_)
  obtain ⟨oc, hoc, hocd⟩ := id z
  refine h { s with heap := h' } ⟨I.ok, I.os, I.bare, ⟨fun b o e n hb hx => ?_, fun b o e n hb hx => ?_, I.base.free, fun b o e hx => ?_, I.base.tups, I.base.frzs, I.base.tbls⟩, ⟨m, hn.sameBut hs (Ne.symm (cne x c hc)), fun j y v' e1 e2 e3 => ?_⟩, fun y c' e => ?_, I.free, I.freeC, fun p hp => ?_, tracked ⟨oc, hoc, I.freeC x c hc⟩ hs, by simpa using I.len⟩ ⟨c, hs, .inr hc⟩
  ·exact (hs.2 b (Nat.ne_of_lt (Nat.lt_of_lt_of_le (Heap.lt_size e) (I.ok.cab x c hfn hc)))).trans (I.base.keep b o e n hb hx)
  ·obtain ⟨sl, e1⟩ := I.base.slot b o e n hb hx
   exact ⟨sl, (hs.2 b (Nat.ne_of_lt (Nat.lt_of_lt_of_le (Heap.lt_size e) (I.ok.cab x c hfn hc)))).trans e1⟩
  ·obtain ⟨o', e1⟩ := I.base.there b o e hx
   exact ⟨o', (hs.2 b (Nat.ne_of_lt (Nat.lt_of_lt_of_le (Heap.lt_size e) (I.ok.cab x c hfn hc)))).trans e1⟩
  ·by_cases hj : j = i
   ·subst hj
    rw [hi] at e1; cases e1
    rw [List.getElem?_set_self hiσ] at e2
    cases e2
    exact ⟨u, r, .inr ⟨.inl hk, c, hc, hc'⟩⟩
   ·rw [List.getElem?_set_ne (Ne.symm hj)] at e2
    obtain ⟨u', r', q⟩ := hl j y v' e1 e2 e3
    refine ⟨u', r', ?_⟩
    rcases q with q | ⟨k, c', e, z'⟩
    ·exact .inl q
    ·refine .inr ⟨k, c', e, z'.sameBut hs ?_⟩
     rintro rfl
     exact hj (nodup_ix hN e1 (I.ok.inj _ _ _ e hc ▸ hi))
  ·by_cases hcc : c' = c
   ·subst hcc; exact ⟨_, hc'⟩
   ·obtain ⟨w2, z2⟩ := I.cell y c' e
    exact ⟨w2, z2.sameBut hs hcc⟩
  ·obtain ⟨e, n, ne, nf, d⟩ := I.pin p hp
   refine ⟨(hs.2 p.1 ?_).trans e, n, ne, nf, d⟩
   intro q
   rw [q, hoc] at e
   have q' : oc = p.2 := Option.some.inj e
   exact d w' (by rw [<- q']; exact hocd)
theorem store_ok {M : Model} {A : Around} {E : Value -> Shared -> Prop} {i : Nat} {x : Str} {v : V} {u : Value} {Q : Unit -> Shared -> Prop} (I : Inv X pins σ H s) (hN : X.N.Nodup) (hi : X.N[i]? = some x) (hx : Loc X.env.scope x) (r : RelV v u)
  (h : ∀ s', Inv X pins (σ.set i (some v)) H s' -> Q () s') (hf : X.fn x = true ∨ X.env.scope.names.lookup x = some .local := by first | exact .inl rfl | exact .inr rfl | assumption) : wpAny M A (storeName X.env x u) Q E s :=
 store_ok2 I hN hi hx r (fun s' I' _ => h s' I') hf
theorem Inv.call' {s' : Shared} {ch : List Addr} (I : Inv X pins σ H s) (ho : s'.os = s.os) (u : Un (frs X.stack) ch H H' s.heap s'.heap) (hok : HOk X.prog X.w H' s'.heap) (hg : AllBare s'.gens)
  (hch : ∀ b ∈ ch, (b ∈ X.ex ∨ X.s₀.heap.objs.size <= b) /\ b ≠ X.env.locals /\ (∀ x c, X.env.cells.lookup x = some c -> c ≠ b) /\ ∀ p ∈ X.pn ++ pins, p.1 ≠ b) : Inv X pins σ H' s' := by
 obtain ⟨h', g', d', t', o'⟩ := s'
 have e : o' = s.os := ho
 subst e
 exact I.call (g' := g') (t' := t') (d' := d') u hok hg hch
end
noncomputable abbrev XK := Value -> Option Addr -> Hp -> Prop
noncomputable abbrev St := List (Option V)
noncomputable abbrev VK := V -> Hp -> Prop
noncomputable abbrev TE := St -> Hp -> VK -> Prop
noncomputable abbrev TT := St -> Hp -> (Bool -> Hp -> Prop) -> Prop
noncomputable abbrev TA := St -> Hp -> (List V -> Hp -> Prop) -> Prop
structure Ends where
 nx : St -> Hp -> Prop
 rt : VK
 bk : St -> Hp -> Prop := fun _ _ => False
 ct : St -> Hp -> Prop := fun _ _ => False
noncomputable abbrev TS := Ends -> St -> Hp -> Prop
noncomputable def EP (X : Cx) (pins : List (Addr × Obj)) (σ : St) (Q : VK) (u : Value) (s' : Shared) : Prop := ∃ v H', Inv X pins σ H' s' /\ RelV v u /\ Q v H'
noncomputable def TP (X : Cx) (pins : List (Addr × Obj)) (σ : St) (Q : Bool -> Hp -> Prop) (b : Bool) (s' : Shared) : Prop := ∃ H', Inv X pins σ H' s' /\ Q b H'
noncomputable def AP (X : Cx) (pins : List (Addr × Obj)) (σ : St) (Q : List V -> Hp -> Prop) (us : List Value) (s' : Shared) : Prop := ∃ vs H', Inv X pins σ H' s' /\ Vals vs us /\ Q vs H'
noncomputable def SP (X : Cx) (pins : List (Addr × Obj)) (D : Ends) (f : Flow) (s' : Shared) : Prop :=
 match f with
 | .next => ∃ σ' H', Inv X pins σ' H' s' /\ D.nx σ' H'
 | .brk => ∃ σ' H', Inv X pins σ' H' s' /\ D.bk σ' H'
 | .cont => ∃ σ' H', Inv X pins σ' H' s' /\ D.ct σ' H'
 | .ret u => ∃ v σ' H', Inv X pins σ' H' s' /\ RelV v u /\ D.rt v H'
noncomputable def PE (X : Cx) (e : Expr) (t : TE) : Prop :=
 ∀ (pins : List (Addr × Obj)) (s : Shared) (σ : St) (H : Hp) (Q : VK), Inv X pins σ H s -> t σ H Q -> wpAny (model X.prog X.w) X.A (eval e X.env) (EP X pins σ Q) X.xe s
noncomputable def PT (X : Cx) (e : Expr) (t : TT) : Prop :=
 ∀ (pins : List (Addr × Obj)) (s : Shared) (σ : St) (H : Hp) (Q : Bool -> Hp -> Prop), Inv X pins σ H s -> t σ H Q -> wpAny (model X.prog X.w) X.A (isTrue e X.env (eval e X.env)) (TP X pins σ Q) X.xe s
noncomputable def PW (X : Cx) (e : Expr) (t : TT) : Prop :=
 ∀ (whole : Sem Value) (pins : List (Addr × Obj)) (s : Shared) (σ : St) (H : Hp) (Q : Bool -> Hp -> Prop), Inv X pins σ H s -> t σ H Q -> wpAny (model X.prog X.w) X.A (isTrue e X.env whole) (TP X pins σ Q) X.xe s
theorem PW.pt {X : Cx} {e : Expr} {t : TT} (h : PW X e t) : PT X e t := h _
noncomputable def PA (X : Cx) (es : List Expr) (t : TA) : Prop :=
 ∀ (pos : Pos) (pins : List (Addr × Obj)) (s : Shared) (σ : St) (H : Hp) (Q : List V -> Hp -> Prop), Inv X pins σ H s -> t σ H Q -> wpAny (model X.prog X.w) X.A (spliced (backTo pos (starEach es X.env))) (AP X pins σ Q) X.xe s
noncomputable def PS (X : Cx) (st : Stmt) (t : TS) : Prop :=
 ∀ (pins : List (Addr × Obj)) (s : Shared) (σ : St) (H : Hp) (D : Ends), Inv X pins σ H s -> t D σ H -> wpAny (model X.prog X.w) X.A (exec st X.env) (SP X pins D) X.xe s
noncomputable def PSs (X : Cx) (st : List Stmt) (t : TS) : Prop :=
 ∀ (pins : List (Addr × Obj)) (s : Shared) (σ : St) (H : Hp) (D : Ends), Inv X pins σ H s -> t D σ H -> wpAny (model X.prog X.w) X.A (execs st X.env) (SP X pins D) X.xe s
theorem thn {α : Type} {t : Sem α} {Q Q' : α -> Shared -> Prop} {M : Model} {A : Around} {E : Value -> Shared -> Prop} {s : Shared} (h : wpAny M A t Q E s) (hQ : ∀ a s, Q a s -> Q' a s) : wpAny M A t Q' E s := wpAny_mono h hQ fun _ _ x => x
end L2
namespace L2
open PySem PySem.Spec PyProof.Rows
section
variable {X : Cx}
noncomputable def tVar (i : Nat) : TE := fun σ H Q => ∃ v, σ[i]? = some (some v) /\ Q v H
noncomputable def tC (v : V) : TE := fun _ H Q => Q v H
theorem pe_var {i : Nat} {x : Str} {pos : Pos} (hN : X.N[i]? = some x) (hv : Vis X.env.scope x) (hd : (x == ("__debug__" : Str)) = false := by decide) (hcd : (x == ("__classdict__" : Str)) = false := by decide) : PE X (.Name x pos) (tVar i) := by
 intro pins s σ H Q I h
 obtain ⟨v, e, h⟩ := h
 obtain ⟨m, hn, hl⟩ := I.loc
 obtain ⟨u, r, l⟩ := hl i x v hN e hv
 have fin : EP X pins σ Q u s := ⟨v, H, I, r, h⟩
 rcases l with ⟨hk, hm⟩ | ⟨hk, c, hc, hcell⟩
 ·exact wpAny_Name (wpAny_loadName_local I.ok.kind hk hn hm fin) hd
 ·rcases hk with hk | hk
  ·exact wpAny_Name (wpAny_loadName_cell I.ok.kind hk hc hcell fin) hd
  ·exact wpAny_Name (wpAny_loadName_free I.ok.kind hk hc hcell fin hcd) hd
theorem pe_int {i j pos} : PE X (.Constant (.int i) j pos) (tC (.int i)) := fun _ _ _ H _ I h => wpAny_Constant_int ⟨.int i, H, I.tok _, ⟨_, rfl⟩, h⟩
theorem pe_bl {b j pos} : PE X (.Constant (.bool b) j pos) (tC (.bl b)) := fun _ _ _ H _ I h => Constant_bool ⟨.bl b, H, I, rfl, h⟩
theorem pe_str {x j pos} : PE X (.Constant (.str x) j pos) (tC (.str x)) := fun _ _ _ H _ I h => Calls.Constant_str ⟨.str x, H, I.tok _, ⟨_, rfl⟩, h⟩
noncomputable def Gl (X : Cx) (x : Str) : Prop := X.env.kindOf x = some .globalImplicit
theorem ld_glob {E : Value -> Shared -> Prop} {pins : List (Addr × Obj)} {s : Shared} {σ : St} {H : Hp} {x : Str} {u : Value} {pos : Pos} {Q : Value -> Shared -> Prop} (I : Inv X pins σ H s) (hg : Gl X x) (hm : X.mg x = some u) (h : Q u s)
  (hd : (x == ("__debug__" : Str)) = false := by decide) : wpAny (model X.prog X.w) X.A (eval (.Name x pos) X.env) Q E s :=
 Calls.Name_function_global I.ok.kind hg (Calls.loadGlobal_global (by rw [I.ok.glob]; exact I.mod.glob.keeps I.bk) hm h) hd
theorem ld_blt {E : Value -> Shared -> Prop} {pins : List (Addr × Obj)} {s : Shared} {σ : St} {H : Hp} {x : Str} {u : Value} {pos : Pos} {Q : Value -> Shared -> Prop} (I : Inv X pins σ H s) (hg : Gl X x) (hm : X.mg x = none) (hv : bootBuiltins x = some u) (h : Q u s)
  (hn : x ≠ "__name__" := by decide) (hd : (x == ("__debug__" : Str)) = false := by decide) : wpAny (model X.prog X.w) X.A (eval (.Name x pos) X.env) Q E s := by
 obtain ⟨mb, h1, h2⟩ := I.mod.blt
 exact Calls.Name_function_global I.ok.kind hg (Calls.loadGlobal_builtin (by rw [I.ok.glob]; exact I.mod.glob.keeps I.bk) hm (by rw [I.ok.blt]; exact h1.keeps I.bk) ((h2 x hn).trans hv) h) hd
theorem pe_glob {x : Str} {v : V} {u : Value} {pos : Pos} (hg : Gl X x) (hm : X.mg x = some u) (r : RelV v u) (hd : (x == ("__debug__" : Str)) = false := by decide) : PE X (.Name x pos) (tC v) :=
 fun _ _ _ H _ I h => ld_glob I hg hm ⟨v, H, I, r, h⟩ hd
theorem pe_bltn {x : Str} {v : V} {u : Value} {pos : Pos} (hg : Gl X x) (hm : X.mg x = none) (hv : bootBuiltins x = some u) (r : RelV v u) (hn : x ≠ "__name__" := by decide) (hd : (x == ("__debug__" : Str)) = false := by decide) : PE X (.Name x pos) (tC v) :=
 fun _ _ _ H _ I h => ld_blt I hg hm hv ⟨v, H, I, r, h⟩ hn hd
variable {a b : Expr} {ta tb : TE} {pos : Pos}
noncomputable def tB (t : TE) : TT := fun σ H Q => t σ H fun x H1 => ∃ c, x = .bl c /\ Q c H1
theorem pt_val {e : Expr} {t : TE} (h : PE X e t) (he : ∀ whole, isTrue e X.env whole = (do let v <- whole; standAt e.pos; holding [v] (truthy v)) := by intro _; rfl) : PT X e (tB t) := by
 intro pins s σ H Q I hw
 refine isTrue_plain (thn (h pins s σ H _ I hw) fun v s1 ⟨x, H1, I1, r1, q1⟩ => ?_) (he _)
 obtain ⟨d, rfl, q⟩ := q1
 cases r1
 exact wpAny_truthy_bool ⟨H1, I1, q⟩
variable {tA tB' : TT} {rest : List Expr}
noncomputable def tAnd (t u : TT) : TT := fun σ H Q => t σ H fun c H1 => if c = true then u σ H1 Q else Q false H1
noncomputable def tOr (t u : TT) : TT := fun σ H Q => t σ H fun c H1 => if c = true then Q true H1 else u σ H1 Q
noncomputable def tNot (t : TT) : TT := fun σ H Q => t σ H fun c H1 => Q (!c) H1
theorem pw_and1 (ha : PT X a tA) : PW X (.BoolOp .And [a] pos) tA := by
 intro wh pins s σ H Q I h
 refine isTrue_and (thn (ha pins s σ H Q I h) fun c s1 e => ?_)
 cases c with
 | true => exact isTrue_and_nil e
 | false => exact e
theorem pw_or1 (ha : PT X a tA) : PW X (.BoolOp .Or [a] pos) tA := by
 intro wh pins s σ H Q I h
 refine isTrue_or (thn (ha pins s σ H Q I h) fun c s1 e => ?_)
 cases c with
 | false => exact isTrue_or_nil e
 | true => exact e
theorem pw_and (ha : PT X a tA) (hb : PW X (.BoolOp .And (b :: rest) pos) tB') : PW X (.BoolOp .And (a :: b :: rest) pos) (tAnd tA tB') := by
 intro wh pins s σ H Q I h
 refine isTrue_and (thn (ha pins s σ H _ I h) fun c s1 ⟨H1, I1, q1⟩ => ?_)
 cases c with
 | true => exact hb wh pins s1 σ H1 Q I1 q1
 | false => exact ⟨H1, I1, q1⟩
theorem pw_or (ha : PT X a tA) (hb : PW X (.BoolOp .Or (b :: rest) pos) tB') : PW X (.BoolOp .Or (a :: b :: rest) pos) (tOr tA tB') := by
 intro wh pins s σ H Q I h
 refine isTrue_or (thn (ha pins s σ H _ I h) fun c s1 ⟨H1, I1, q1⟩ => ?_)
 cases c with
 | true => exact ⟨H1, I1, q1⟩
 | false => exact hb wh pins s1 σ H1 Q I1 q1
theorem pt_not (ha : PT X a tA) : PT X (.UnaryOp .Not a pos) (tNot tA) := by
 intro pins s σ H Q I h
 exact isTrue_not (ha pins s σ H (fun c H1 => Q (!c) H1) I h)
noncomputable def tAndV (ta tb : TE) : TE := fun σ H Q => ta σ H fun x H1 => ∃ c, x = .bl c /\ if c = true then tb σ H1 Q else Q (.bl false) H1
noncomputable def tNotV (ta : TE) : TE := fun σ H Q => ta σ H fun x H1 => ∃ c, x = .bl c /\ Q (.bl (!c)) H1
theorem pe_one {op} {t : TE} (h : PE X a t) : PE X (.BoolOp op [a] pos) t := fun pins s σ H Q I hw => BoolOp_one (h pins s σ H Q I hw)
theorem pe_and (ha : PE X a ta) (hb : PE X (.BoolOp .And (b :: rest) pos) tb) : PE X (.BoolOp .And (a :: b :: rest) pos) (tAndV ta tb) := by
 intro pins s σ H Q I h
 refine BoolOp_and (thn (ha pins s σ H _ I h) fun v s1 ⟨x, H1, I1, r1, q1⟩ => ?_)
 obtain ⟨c, rfl, q1⟩ := q1
 cases r1
 refine wpAny_truthy_bool ?_
 cases c with
 | true => exact hb pins s1 σ H1 Q I1 q1
 | false => exact ⟨.bl false, H1, I1, rfl, q1⟩
theorem pe_not (ha : PE X a ta) : PE X (.UnaryOp .Not a pos) (tNotV ta) := by
 intro pins s σ H Q I h
 refine UnaryOp_ (thn (ha pins s σ H _ I h) fun v s1 ⟨x, H1, I1, r1, q1⟩ => ?_)
 obtain ⟨c, rfl, q1⟩ := q1
 cases r1
 exact not_of (wpAny_truthy_bool ⟨.bl (!c), H1, I1, rfl, q1⟩)
end
end L2
namespace L2
open PySem PySem.Spec PyProof.Rows
noncomputable def SqL (K : PySem.W.Frag) (H : Hp) (a : Addr) (xs : List V) : Prop :=
 Rd H a (.lst xs) ∨
  ∃ (o : Obj) (its : Array Value) (n : Nat), K.lookup a = some o /\ o.cls = .type "list" /\ o.dict = none /\ o.data = .seq its n /\ its.size <= sizeLine /\ Vals xs its.toList
noncomputable def SqT (K : PySem.W.Frag) (H : Hp) (a : Addr) (xs : List V) : Prop :=
 Rd H a (.tup xs) ∨
  ∃ (o : Obj) (its : Array Value) (n : Nat), K.lookup a = some o /\ o.cls = .type "tuple" /\ o.data = .seq its n /\ its.size <= sizeLine /\ Vals xs its.toList
noncomputable def absV : Value -> Option V
 | .none => some .non
 | .bool b => some (.bl b)
 | .int i _ => some (.int i)
 | .str x _ => some (.str x)
 | .bytes b _ => some (.byt b)
 | .float b _ => some (.flt b)
 | .ref a => some (.ref a)
 | .type n => some (.ty n)
 | _ => none
theorem RelV.abs {x : V} {u : Value} (r : RelV x u) : absV u = some x := by
 cases x with
 | non => cases r; rfl
 | bl _ => cases r; rfl
 | int _ => obtain ⟨t, rfl⟩ := r; rfl
 | str _ => obtain ⟨t, rfl⟩ := r; rfl
 | byt _ => obtain ⟨t, rfl⟩ := r; rfl
 | flt _ => obtain ⟨t, rfl⟩ := r; rfl
 | ref _ => cases r; rfl
 | ty _ => cases r; rfl
theorem RelV.inj {x y : V} {u : Value} (r : RelV x u) (q : RelV y u) : x = y := Option.some.inj (r.abs.symm.trans q.abs)
theorem Vals.inj : ∀ {xs ys : List V} {us : List Value}, Vals xs us -> Vals ys us -> xs = ys
 | _, _, _, .nil, .nil => rfl
 | _, _, _, .cons r t, .cons r' t' => by rw [r.inj r', Vals.inj t t']
section
variable {X : Cx} {pins : List (Addr × Obj)} {σ : St} {H : Hp} {s : Shared} {a : Addr} {xs ys : List V}
theorem SqL.of {K : PySem.W.Frag} (h : H a = some (.lst xs)) : SqL K H a xs := .inl (.inl h)
theorem SqT.of {K : PySem.W.Frag} (h : H a = some (.tup xs)) : SqT K H a xs := .inl (.inl h)
theorem Inv.list (I : Inv X pins σ H s) (h : SqL X.K H a xs) : ∃ its : List Value, Vals xs its /\ PlainL s.heap a its.toArray /\ xs.length <= sizeLine := by
 rcases h with h | ⟨o, its, n, hk, hc, hd, hs, hz, r⟩
 ·obtain ⟨z, its, n, r, e⟩ := h.ok I.hok
  exact ⟨its, r, ⟨_, n, e, rfl, rfl, rfl⟩, z⟩
 ·refine ⟨its.toList, r, ⟨o, n, I.kIn a o hk, hc, hd, by simpa using hs⟩, ?_⟩
  have e := r.length
  simp only [Array.length_toList] at e
  (first | lia | omega)
theorem Inv.tuple (I : Inv X pins σ H s) (h : SqT X.K H a xs) : ∃ its : List Value, Vals xs its /\ IsTup s.heap a its.toArray /\ xs.length <= sizeLine := by
 rcases h with h | ⟨o, its, n, hk, hc, hs, hz, r⟩
 ·obtain ⟨z, its, r, p⟩ := h.ok I.hok
  exact ⟨its, r, p.tup, z⟩
 ·refine ⟨its.toList, r, ⟨o, I.kIn a o hk, hc, n, by simpa using hs⟩, ?_⟩
  have e := r.length
  simp only [Array.length_toList] at e
  (first | lia | omega)
theorem Inv.list_inj (I : Inv X pins σ H s) (h : SqL X.K H a xs) (h' : SqL X.K H a ys) : xs = ys := by
 obtain ⟨its, r, ⟨o, n, e, _, _, d⟩, _⟩ := I.list h
 obtain ⟨its', r', ⟨o', n', e', _, _, d'⟩, _⟩ := I.list h'
 rw [e] at e'; cases e'
 rw [d] at d'
 injection d' with d1 _
 have : its = its' := by simpa using congrArg Array.toList d1
 subst this
 exact r.inj r'
theorem Inv.tuple_inj (I : Inv X pins σ H s) (h : SqT X.K H a xs) (h' : SqT X.K H a ys) : xs = ys := by
 obtain ⟨its, r, ⟨o, e, _, n, d⟩, _⟩ := I.tuple h
 obtain ⟨its', r', ⟨o', e', _, n', d'⟩, _⟩ := I.tuple h'
 rw [e] at e'; cases e'
 rw [d] at d'
 injection d' with d1 _
 have : its = its' := by simpa using congrArg Array.toList d1
 subst this
 exact r.inj r'
end
noncomputable abbrev Cx.wish (X : Cx) (E : Value -> Shared -> Prop) : Cx := { X with xe := E }
noncomputable abbrev Cx.nox (X : Cx) : Cx := X.wish fun _ _ => False
theorem Cx.Ok.wish {X : Cx} (ok : X.Ok) (E : Value -> Shared -> Prop) : (X.wish E).Ok :=
 ⟨ok.mod, ok.kind, ok.glob, ok.blt, ok.above, ok.inj, ok.has, ok.cab, ok.hd, ok.frames, ok.stk, ok.exf, ok.bs, ok.bsz, ok.noex, ok.exfs, ok.funs, ok.frf⟩
theorem Cx.Ok.unwish {X : Cx} {E : Value -> Shared -> Prop} (ok : (X.wish E).Ok) : X.Ok :=
 ⟨ok.mod, ok.kind, ok.glob, ok.blt, ok.above, ok.inj, ok.has, ok.cab, ok.hd, ok.frames, ok.stk, ok.exf, ok.bs, ok.bsz, ok.noex, ok.exfs, ok.funs, ok.frf⟩
section
variable {X : Cx} {pins : List (Addr × Obj)} {σ : St} {H : Hp} {s : Shared} {E : Value -> Shared -> Prop}
theorem Inv.wish (I : Inv X pins σ H s) (E : Value -> Shared -> Prop) : Inv (X.wish E) pins σ H s := ⟨I.ok.wish E, I.os, I.bare, I.base, I.loc, I.cell, I.free, I.freeC, I.pin, I.hok, I.len⟩
theorem Inv.unwish (I : Inv (X.wish E) pins σ H s) : Inv X pins σ H s := ⟨I.ok.unwish, I.os, I.bare, I.base, I.loc, I.cell, I.free, I.freeC, I.pin, I.hok, I.len⟩
theorem SP.unwish {D : Ends} {f : Flow} {s' : Shared} (h : SP (X.wish E) pins D f s') : SP X pins D f s' := by
 cases f with
 | next => obtain ⟨σ', H', I, q⟩ := h; exact ⟨σ', H', I.unwish, q⟩
 | brk => obtain ⟨σ', H', I, q⟩ := h; exact ⟨σ', H', I.unwish, q⟩
 | cont => obtain ⟨σ', H', I, q⟩ := h; exact ⟨σ', H', I.unwish, q⟩
 | ret u => obtain ⟨v, σ', H', I, r, q⟩ := h; exact ⟨v, σ', H', I.unwish, r, q⟩
theorem PSs.nox {st : List Stmt} {t : TS} (h : PSs X.nox st t) : PSs X st t := fun pins s σ H D I hw =>
 wpAny_mono (h pins s σ H D (I.wish _) hw) (fun _ _ q => q.unwish) fun _ _ z => False.elim z
end
section
variable {X : Cx} {st : Stmt} {rest : List Stmt} {t u : TS} {e : Expr} {te : TE} {pos : Pos}
noncomputable def tNext : TS := fun D σ H => D.nx σ H
noncomputable def tSeq (t u : TS) : TS := fun D σ H => t { D with nx := u D } σ H
theorem pss_nil : PSs X [] tNext := fun _ _ σ H _ I h => wpAny_execs_nil ⟨σ, H, I, h⟩
theorem pss_cons (h1 : PS X st t) (h2 : PSs X rest u) : PSs X (st :: rest) (tSeq t u) := by
 intro pins s σ H D I h
 refine wpAny_execs_cons (thn (h1 pins s σ H { D with nx := u D } I h) fun f s1 q => ?_)
 cases f with
 | next =>
  obtain ⟨σ', H', I', q⟩ := q
  exact h2 pins s1 σ' H' D I' q
 | ret v => exact q
 | brk => exact q
 | cont => exact q
theorem pss_one (h1 : PS X st t) : PSs X [st] t := by
 intro pins s σ H D I h
 refine wpAny_execs_cons (thn (h1 pins s σ H D I h) fun f s1 q => ?_)
 cases f with
 | next => exact wpAny_execs_nil q
 | ret v => exact q
 | brk => exact q
 | cont => exact q
theorem Inv.quiet {pins : List (Addr × Obj)} {σ : St} {H : Hp} {s : Shared} (I : Inv X pins σ H s) : interactive X.env = false := by simp [interactive, I.ok.kind]
noncomputable def tDrop (te : TE) : TS := fun D σ H => te σ H fun _ H1 => D.nx σ H1
theorem ps_expr (he : PE X e te) (hs : swapsWith e none pos.line X.env = pure false := by rfl) : PS X (.Expr e pos) (tDrop te) := by
 intro pins s σ H D I h
 exact wpAny_Expr_any (thn (he pins s σ H _ I h) fun v s1 ⟨x, H1, I1, r1, q1⟩ => ⟨σ, H1, I1, q1⟩) I.quiet hs
noncomputable def tRet (te : TE) : TS := fun D σ H => te σ H D.rt
theorem ps_ret (he : PE X e te) : PS X (.Return (some e) pos) (tRet te) := by
 intro pins s σ H D I h
 exact wpAny_Return_some (thn (he pins s σ H _ I h) fun v s1 ⟨x, H1, I1, r1, q1⟩ => ⟨x, σ, H1, I1, r1, q1⟩)
noncomputable def tIfS (c : TT) (t u : TS) : TS := fun D σ H => c σ H fun b H1 => if b = true then t D σ H1 else u D σ H1
theorem ps_if {c : Expr} {a b : List Stmt} {tc : TT} (hc : PT X c tc) (ha : PSs X a t) (hb : PSs X b u) : PS X (.If c a b pos) (tIfS tc t u) := by
 intro pins s σ H D I h
 refine wpAny_If (thn (hc pins s σ H _ I h) fun d s1 ⟨H1, I1, q1⟩ => ?_)
 cases d with
 | true => exact ha pins s1 σ H1 D I1 q1
 | false => exact hb pins s1 σ H1 D I1 q1
noncomputable def tNever : TS := fun _ _ _ => False
theorem pss_never {sts : List Stmt} : PSs X sts tNever := fun _ _ _ _ _ _ h => h.elim
end
noncomputable abbrev TG := V -> St -> Hp -> (St -> Hp -> Prop) -> Prop
noncomputable abbrev TGs := List V -> St -> Hp -> (St -> Hp -> Prop) -> Prop
noncomputable def PG (X : Cx) (target : Expr) (t : TG) : Prop :=
 ∀ (pins : List (Addr × Obj)) (s : Shared) (σ : St) (H : Hp) (v : V) (u : Value) (Q : St -> Hp -> Prop), Inv X pins σ H s -> RelV v u -> t v σ H Q ->
  wpAny (model X.prog X.w) X.A (assign target X.env u) (fun _ s' => ∃ σ' H', Inv X pins σ' H' s' /\ Q σ' H') X.xe s
noncomputable def PGs (X : Cx) (ts : List Expr) (t : TGs) : Prop :=
 ∀ (pins : List (Addr × Obj)) (s : Shared) (σ : St) (H : Hp) (vs : List V) (us : List Value) (Q : St -> Hp -> Prop), Inv X pins σ H s -> Vals vs us -> t vs σ H Q ->
  wpAny (model X.prog X.w) X.A (assignInOrder ((assignEach ts X.env).map (·.2)) us) (fun _ s' => ∃ σ' H', Inv X pins σ' H' s' /\ Q σ' H') X.xe s
noncomputable abbrev TSet := V -> V -> V -> Hp -> (Hp -> Prop) -> Prop
noncomputable def PSet (X : Cx) (t : TSet) : Prop :=
 ∀ (pins : List (Addr × Obj)) (s : Shared) (σ : St) (H : Hp) (o i v : V) (ov iv u : Value) (Q : Hp -> Prop), Inv X pins σ H s -> RelV o ov -> RelV i iv -> RelV v u -> t o i v H Q ->
  wpAny (model X.prog X.w) X.A (setItem ov iv u) (fun _ s' => ∃ H', Inv X pins σ H' s' /\ Q H') X.xe s
noncomputable abbrev TIp := V -> V -> Hp -> VK -> Prop
noncomputable def PIp (X : Cx) (op : Operator) (t : TIp) : Prop :=
 ∀ (pins : List (Addr × Obj)) (s : Shared) (σ : St) (H : Hp) (x y : V) (v u : Value) (Q : VK), Inv X pins σ H s -> RelV x v -> RelV y u -> t x y H Q ->
  wpAny (model X.prog X.w) X.A (inplaceOp op v u) (EP X pins σ Q) X.xe s
section
variable {X : Cx} {pos : Pos}
noncomputable def gName (i : Nat) : TG := fun v σ H Q => Q (σ.set i (some v)) H
theorem pg_name {i : Nat} {x : Str} (hN : X.N.Nodup) (hi : X.N[i]? = some x) (hx : Loc X.env.scope x) (hf : X.fn x = true ∨ X.env.scope.names.lookup x = some .local := by first | exact .inl rfl | exact .inr rfl | assumption) : PG X (.Name x pos) (gName i) := by
 intro pins s σ H v u Q I r h
 exact wpAny_assign_Name (store_ok I hN hi hx r (fun s' I' => ⟨_, H, I', h⟩) hf)
noncomputable def gNil : TGs := fun vs σ H Q => vs = [] /\ Q σ H
noncomputable def gCons (t : TG) (u : TGs) : TGs := fun vs σ H Q => ∃ v r, vs = v :: r /\ t v σ H fun σ' H' => u r σ' H' Q
theorem pgs_nil : PGs X [] gNil := by
 intro pins s σ H vs us Q I r h
 obtain ⟨e, h⟩ := h
 subst e
 cases r
 exact assignInOrder_nil ⟨σ, H, I, h⟩
theorem pgs_cons {e : Expr} {es : List Expr} {t : TG} {u : TGs} (h1 : PG X e t) (h2 : PGs X es u)
  (hs : (assignEach (e :: es) X.env).map (·.2) = assign e X.env :: (assignEach es X.env).map (·.2) := by rfl) : PGs X (e :: es) (gCons t u) := by
 intro pins s σ H vs us Q I r h
 obtain ⟨v, vr, e1, h⟩ := h
 subst e1
 cases r with
 | cons r rr =>
  rw [hs]
  refine assignInOrder_cons (thn (h1 pins s σ H _ _ _ I r h) fun _ s1 ⟨σ1, H1, I1, q1⟩ => ?_)
  exact h2 pins s1 σ1 H1 _ _ Q I1 rr q1
noncomputable def gTup (K : PySem.W.Frag) (n : Nat) (t : TGs) : TG := fun v σ H Q => ∃ a xs, v = .ref a /\ SqT K H a xs /\ xs.length = n /\ t xs σ H Q
theorem pg_tup {es : List Expr} {k : Nat} {t : TGs} {n : Nat} (hc : X.calm = true) (h : PGs X es t)
  (hn : (assignEach es X.env).length = n := by rfl) (hst : (assignEach es X.env).findIdx? (·.1) = none := by rfl) : PG X (.Tuple es k pos) (gTup X.K n t) := by
 intro pins s σ H v u Q I r hw
 obtain ⟨a, xs, e1, hq, hl, hw⟩ := hw
 subst e1
 cases r
 obtain ⟨its, rv, ht, hz⟩ := I.tuple hq
 refine assign_Tuple_tuple (I.ok.hd hc) ht (by simp [hn, <- hl, rv.length]) hst fun h' hx => ?_
 have I1 : Inv X pins σ H { s with heap := h' } := I.kept (t' := s.toks) fun b o e => hx b o (Nat.ne_of_lt (Heap.lt_size e)) e
 exact h pins _ σ H xs _ Q I1 (by simpa using rv) hw
noncomputable def gSub (to ti : TE) (t : TSet) : TG := fun v σ H Q => to σ H fun o H1 => ti σ H1 fun i H2 => t o i v H2 fun H3 => Q σ H3
theorem pg_sub {o i : Expr} {to ti : TE} {t : TSet} (ho : PE X o to) (hi : PE X i ti) (hs : PSet X t)
  (ha : ∀ v, assign (.Subscript o i pos) X.env v = (do
   let ov <- holding [v] (eval o X.env)
   let iv <- holding [v, ov] (eval i X.env)
   standAt pos
   holding [v, ov, iv] (setItem ov iv v)
   release [v, ov, iv] []) := by intro _; rfl) : PG X (.Subscript o i pos) (gSub to ti t) := by
 intro pins s σ H v u Q I r h
 rw [ha]
 refine wpAny_bind (wpAny_holding (thn (ho pins s σ H _ I h) fun ov s1 ⟨x, H1, I1, r1, q1⟩ => ?_))
 refine wpAny_bind (wpAny_holding (thn (hi pins s1 σ H1 _ I1 q1) fun iv s2 ⟨y, H2, I2, r2, q2⟩ => ?_))
 refine wpAny_bind (wpAny_standAt (wpAny_bind (wpAny_holding (thn (hs pins s2 σ H2 x y v ov iv u _ I2 r1 r2 r q2) fun _ s3 ⟨H3, I3, q3⟩ => ?_))))
 exact wpAny_release ⟨σ, H3, I3, q3⟩
noncomputable def tAsg (te : TE) (g : TG) : TS := fun D σ H => te σ H fun x H1 => g x σ H1 D.nx
theorem ps_asg {tg e : Expr} {te : TE} {g : TG} (he : PE X e te) (hg : PG X tg g) (hs : swapsWithSole [tg] e pos.line X.env = pure false := by rfl) (hw : swappedStores [tg] e X.env = pure none := by rfl)
  (h1 : (assignEach [tg] X.env).map (·.2) = [assign tg X.env] := by rfl) : PS X (.Assign [tg] e pos) (tAsg te g) := by
 intro pins s σ H D I h
 refine wpAny_Assign_stores (thn (he pins s σ H _ I h) fun v s1 ⟨x, H1, I1, r1, q1⟩ => ?_) hs hw
 rw [h1]
 exact thn (hg pins s1 σ H1 x v _ I1 r1 q1) fun _ s2 q => q
theorem ps_set {i : Nat} {x : Str} {e : Expr} {te : TE} {pos' : Pos} (hN : X.N.Nodup) (hi : X.N[i]? = some x) (hx : Loc X.env.scope x) (he : PE X e te) (hs : swapsWith e (some (.Name x pos')) pos.line X.env = pure false := by rfl) (hf : X.fn x = true ∨ X.env.scope.names.lookup x = some .local := by first | exact .inl rfl | exact .inr rfl | assumption) :
  PS X (.Assign [.Name x pos'] e pos) (tAsg te (gName i)) := by
 intro pins s σ H D I h
 refine wpAny_Assign_Name (thn (he pins s σ H _ I h) fun v s1 ⟨y, H1, I1, r1, q1⟩ => ?_) hs
 exact store_ok I1 hN hi hx r1 (fun s2 I2 => ⟨_, H1, I2, q1⟩) hf
noncomputable def tPar (i j : Nat) (ta : TA) : TS := fun D σ H => ta σ H fun vs H1 => ∃ v w, vs = [v, w] /\ D.nx ((σ.set i (some v)).set j (some w)) H1
theorem ps_par {i j : Nat} {x y : Str} {a b : Expr} {ta : TA} {px py pt : Pos} {kt k2 pt2} (hc : X.calm = true) (hN : X.N.Nodup) (hi : X.N[i]? = some x) (hj : X.N[j]? = some y) (hij : i ≠ j)
  (hx : X.env.scope.names.lookup x = some .local) (hy : X.env.scope.names.lookup y = some .local) (ha : PA X [a, b] ta)
  (hw : swappedStores [.Tuple [.Name x px, .Name y py] kt pt] (.Tuple [a, b] k2 pt2) X.env = pure (some [x, y]))
  (hs : swapsWithSole [.Tuple [.Name x px, .Name y py] kt pt] (.Tuple [a, b] k2 pt2) pos.line X.env = pure false := by rfl) :
  PS X (.Assign [.Tuple [.Name x px, .Name y py] kt pt] (.Tuple [a, b] k2 pt2) pos) (tPar i j ta) := by
 intro pins s σ H D I h
 rw [exec_Assign_arm]
 refine wpAny_bind (wpAny_standAt ?_)
 rw [hs]
 refine wpAny_bind (wpAny_pure ?_)
 rw [if_neg (by decide)]
 refine wpAny_bind (Tuple_ (thn (ha _ pins s σ H _ I h) fun us s1 ⟨vs, H1, I1, r1, q1⟩ => ?_))
 obtain ⟨v, w, e1, q1⟩ := q1
 subst e1
 obtain ⟨u1, u2, rfl, rv, rw'⟩ : ∃ u1 u2, us = [u1, u2] /\ RelV v u1 /\ RelV w u2 := by
  cases r1 with
  | cons p q =>
   cases q with
   | cons p' q' =>
    cases q'
    exact ⟨_, _, rfl, p, p'⟩
 refine wpAny_newObj_type ?_ (by show 2 <= sizeLine; decide)
 have I2 : Inv X pins σ H1 { s1 with heap := s1.heap.push { cls := .type "tuple", data := .seq [u1, u2].toArray } } := I1.kept (t' := s1.toks) fun b o e => Heap.get?_push_of_some _ e
 rw [hw]
 refine wpAny_bind (wpAny_pure ?_)
 show wpAny (model X.prog X.w) X.A (do rule "assign.swapped-stores"; let items <- unpackItems (.ref s1.heap.objs.size) 2 none; assignInOrder [fun v => bindName X.env y v, fun v => bindName X.env x v] items.reverse; pure Flow.next) _ _ _
 refine wpAny_bind (wpAny_rule (wpAny_bind (unpackItems_tuple (items := #[u1, u2]) (I.ok.hd hc) (IsTup.new s1.heap _) fun h' hx' => ?_)))
 have I3 := I2.kept (h' := h') (t' := s1.toks) fun b o e => hx' b o (Nat.ne_of_lt (Heap.lt_size e)) e
 show wpAny _ _ (assignInOrder [fun v => bindName X.env y v, fun v => bindName X.env x v] [u2, u1] >>= fun _ => pure Flow.next) _ _ _
 refine wpAny_bind (assignInOrder_cons (wpAny_bindName (store_ok I3 hN hj (.inl hy) rw' (fun s2 I4 => ?_) (.inr hy))))
 refine assignInOrder_cons (wpAny_bindName (store_ok I4 hN hi (.inl hx) rv (fun s3 I5 => assignInOrder_nil (wpAny_pure ?_)) (.inr hx)))
 rw [List.set_comm _ _ (Ne.symm hij)] at I5
 exact ⟨_, H1, I5, q1⟩
noncomputable def tAug (i : Nat) (te : TE) (ti : TIp) : TS := fun D σ H => ∃ x, σ[i]? = some (some x) /\ te σ H fun y H1 => ti x y H1 fun z H2 => D.nx (σ.set i (some z)) H2
theorem ps_aug {i : Nat} {x : Str} {e : Expr} {te : TE} {op : Operator} {ti : TIp} {pos' : Pos} (hN : X.N.Nodup) (hi : X.N[i]? = some x) (hx : Loc X.env.scope x) (he : PE X e te) (ho : PIp X op ti) (hf : X.fn x = true ∨ X.env.scope.names.lookup x = some .local := by first | exact .inl rfl | exact .inr rfl | assumption) :
  PS X (.AugAssign (.Name x pos') op e pos) (tAug i te ti) := by
 intro pins s σ H D I h
 obtain ⟨v, e1, h⟩ := h
 obtain ⟨m, hn, hl⟩ := I.loc
 have vis : Vis X.env.scope x := by rcases hx with k | k; exact .inl k; exact .inr (.inl k)
 obtain ⟨u, r, l⟩ := hl i x v hi e1 vis
 refine wpAny_AugAssign_Name ?_
 have go : wpAny (model X.prog X.w) X.A (eval e X.env) (fun w s₂ => wpAny (model X.prog X.w) X.A (inplaceOp op u w) (fun r s₃ => wpAny (model X.prog X.w) X.A (storeName X.env x r) (fun _ => SP X pins D .next) X.xe s₃) X.xe s₂) X.xe s := by
  refine thn (he pins s σ H _ I h) fun w s1 ⟨y, H1, I1, r1, q1⟩ => ?_
  refine thn (ho pins s1 σ H1 v y u w _ I1 r r1 q1) fun z s2 ⟨zv, H2, I2, r2, q2⟩ => ?_
  exact store_ok I2 hN hi hx r2 (fun s3 I3 => ⟨_, H2, I3, q2⟩) hf
 rcases l with ⟨hk, hm⟩ | ⟨hk, c, hc, hcell⟩
 ·exact wpAny_loadName_local I.ok.kind hk hn hm go
 ·rcases hk with hk | hk
  ·exact wpAny_loadName_cell I.ok.kind hk hc hcell go
  ·rcases hx with k | k
   ·have : X.env.scope.names.lookup x = some .free := hk
    rw [k] at this; cases this
   ·have : X.env.scope.names.lookup x = some .free := hk
    rw [k] at this; cases this
noncomputable def ipI (f : Int -> Int -> Int) : TIp := fun x y H Q => ∃ i j, x = .int i /\ y = .int j /\ Q (.int (f i j)) H
theorem ip_add : PIp X .Add (ipI fun i j => i + j) := by
 intro pins s σ H x y v u Q I r1 r2 h
 obtain ⟨i, j, e1, e2, q⟩ := h
 subst e1; subst e2
 obtain ⟨t, rfl⟩ := r1
 obtain ⟨t', rfl⟩ := r2
 exact iadd_int ⟨.int _, H, I.tok _, ⟨_, rfl⟩, q⟩
end
section
variable {X : Cx} {pos : Pos}
noncomputable def tWhile (c : TT) (tb : TS) : TS := fun D σ H => ∃ W : Nat -> St -> Hp -> Prop, (∃ m, W m σ H) /\ ∀ m σ H, W m σ H ->
 c σ H fun b H1 => if b = true then ∃ N : St -> Hp -> Prop, (∀ σ' H', N σ' H' -> ∃ m', m' < m /\ W m' σ' H') /\ tb { D with nx := N, ct := N, bk := D.nx } σ H1 else D.nx σ H1
theorem ps_while {c : Expr} {body : List Stmt} {tc : TT} {tb : TS} (hp : PassesOwn (model X.prog X.w) X.A X.env X.xe) (hc : PT X c tc) (hb : PSs X body tb) : PS X (.While c body [] pos) (tWhile tc tb) := by
 intro pins s σ H D I h
 obtain ⟨W, ⟨m0, w0⟩, turn⟩ := h
 refine wpAny_While (codeAny_whileLoop (fun n s' => ∃ σ' H', Inv X pins σ' H' s' /\ W n σ' H') ?_ m0 ⟨σ, H, I, w0⟩)
 rintro n s1 ⟨σ1, H1, I1, w1⟩
 refine wpAny_passesOwn hp (thn (hc pins s1 σ1 H1 _ I1 (turn n σ1 H1 w1)) fun b s2 ⟨H2, I2, q2⟩ => ?_)
 cases b with
 | true =>
  obtain ⟨N, hN, q2⟩ := q2
  rw [if_pos rfl]
  refine wpAny_passesOwn hp (thn (hb pins s2 σ1 H2 _ I2 q2) fun f s3 q3 => ?_)
  cases f with
  | next =>
   obtain ⟨σ3, H3, I3, n3⟩ := q3
   obtain ⟨m', hm, w3⟩ := hN σ3 H3 n3
   exact ⟨m', hm, σ3, H3, I3, w3⟩
  | cont =>
   obtain ⟨σ3, H3, I3, n3⟩ := q3
   obtain ⟨m', hm, w3⟩ := hN σ3 H3 n3
   exact ⟨m', hm, σ3, H3, I3, w3⟩
  | brk => exact q3
  | ret v => exact q3
 | false =>
  rw [if_neg Bool.false_ne_true]
  exact wpAny_execs_nil ⟨σ1, H2, I2, q2⟩
end
structure It where
 go : Nat -> Hp -> Prop
 yld : Nat -> Hp -> V -> Hp -> Prop
 stop : Nat -> Hp -> Prop
noncomputable def FpOk (X : Cx) (pins : List (Addr × Obj)) (H : Hp) (b : Addr) : Prop :=
 H b = none /\ b ≠ X.env.locals /\ b ∉ X.fs /\ (b ∈ X.ex ∨ X.s₀.heap.objs.size <= b) /\ (∀ x c, X.env.cells.lookup x = some c -> c ≠ b) /\ ∀ p ∈ X.pn ++ pins, p.1 ≠ b
theorem Inv.fpOk {X : Cx} {pins : List (Addr × Obj)} {σ : St} {H H' : Hp} {s : Shared} {b : Addr} (I : Inv X pins σ H s) (hb : s.heap.objs.size <= b) (hn : H' b = none) : FpOk X pins H' b := by
 refine ⟨hn, Nat.ne_of_gt (Nat.lt_of_lt_of_le I.lt hb), I.nofs hb, .inr (Nat.le_trans I.sz hb), fun x c e z => ?_, fun p hp z => ?_⟩
 ·obtain ⟨v, q⟩ := I.cell x c e
  exact absurd (Nat.lt_of_lt_of_le q.lt (by rw [z]; exact hb)) (Nat.lt_irrefl _)
 ·exact absurd (Nat.lt_of_lt_of_le (Heap.lt_size (I.pin p hp).1) (by rw [z]; exact hb)) (Nat.lt_irrefl _)
structure Turn (P : Program) (w : World) (K : PySem.W.Frag) (tg : Expr) (J : It) (fp : List Addr) (it : Addr) (tn : Nat -> Heap -> Prop) : Prop where
 mem : it ∈ fp
 obj : ∀ i h, tn i h -> ∀ b ∈ fp, ∃ o, h.get? b = some o /\ ∀ v, o.data ≠ .cell v
 keep : ∀ i h h', tn i h -> (∀ b ∈ fp, ∀ o, h.get? b = some o -> h'.get? b = some o) -> tn i h'
 item : ∀ (X : Cx), X.prog = P -> X.w = w -> X.K = K -> X.calm = true -> ∀ (i : Nat) (pins : List (Addr × Obj)) (s : Shared) (σ : St) (H : Hp) (E : Value -> Shared -> Prop), Inv X pins σ H s -> (∀ b ∈ fp, FpOk X pins H b) -> tn i s.heap -> J.go i H ->
  wpAny (model P w) X.A (pyNext (.ref it)) (fun r s1 => ∃ u, r = some u /\
   wpAny (model P w) X.A (letOwnedTupleGo tg (.ref it) u) (fun _ s2 => ∃ x H', Inv X pins σ H' s2 /\ RelV x u /\ J.yld i H x H' /\ tn (i + 1) s2.heap /\ ∀ b ∈ fp, H' b = none) E s1) E s
 done : ∀ (X : Cx), X.prog = P -> X.w = w -> X.K = K -> X.calm = true -> ∀ (i : Nat) (pins : List (Addr × Obj)) (s : Shared) (σ : St) (H : Hp) (E : Value -> Shared -> Prop), Inv X pins σ H s -> (∀ b ∈ fp, FpOk X pins H b) -> tn i s.heap -> J.stop i H ->
  wpAny (model P w) X.A (pyNext (.ref it)) (fun r s1 => r = none /\ Inv X pins σ H s1) E s
 self : ∀ (A : Around) (i : Nat) (s : Shared) (Q : Value -> Shared -> Prop) (E : Value -> Shared -> Prop), tn i s.heap -> Q (.ref it) s -> wpAny (model P w) A (pyIter (.ref it)) Q E s
noncomputable abbrev TI := St -> Hp -> (It -> Hp -> Prop) -> Prop
noncomputable def PIE (X : Cx) (pins : List (Addr × Obj)) (σ : St) (tg : Expr) (R : It -> Hp -> Prop) (itv : Value) (s2 : Shared) : Prop :=
 ∃ (it : Addr) (fp : List Addr) (tn : Nat -> Heap -> Prop) (J : It) (H' : Hp), itv = .ref it /\ Inv X pins σ H' s2 /\ Turn X.prog X.w X.K tg J fp it tn /\ tn 0 s2.heap /\ (∀ b ∈ fp, FpOk X pins H' b) /\ R J H'
noncomputable def PI (X : Cx) (tg iter : Expr) (wi : TI) : Prop :=
 ∀ (pins : List (Addr × Obj)) (s : Shared) (σ : St) (H : Hp) (R : It -> Hp -> Prop), Inv X pins σ H s -> wi σ H R ->
  wpAny (model X.prog X.w) X.A (eval iter X.env) (fun v s1 => wpAny (model X.prog X.w) X.A (pyIter v) (PIE X pins σ tg R) X.xe s1) X.xe s
theorem go_of {M : Model} {A : Around} {E : Value -> Shared -> Prop} {s : Shared} {tg : Expr} {it : Addr} {u : Value} {o : Obj} {n : String} {vs : Array Value} {Q : Unit -> Shared -> Prop} (ho : s.heap.get? it = some o) (hc : o.cls = .type n) (hd : o.data = .fields vs)
    (hn : ["enumerate", "zip", "dict_itemiterator", "dict_reverseitemiterator", "odict_iterator", "itertools.zip_longest", "itertools.pairwise"].contains n = false) (hQ : Q () s) : wpAny M A (letOwnedTupleGo tg (.ref it) u) Q E s := by
  unfold letOwnedTupleGo
  cases tg <;> first
    | exact wpAny_pure hQ
    | (cases u <;> first
        | exact wpAny_pure hQ
        | (refine wpAny_bind (wpAny_load ho ?_)
           rw [hc, hd]
           show wpAny M A (if (["enumerate", "zip", "dict_itemiterator", "dict_reverseitemiterator", "odict_iterator", "itertools.zip_longest", "itertools.pairwise"].contains n && vs[0]? == some (rawInt _)) = true then _ else _) Q E s
           rw [if_neg (by intro h; rw [hn, Bool.false_and] at h; cases h)]
           exact wpAny_pure hQ))
noncomputable def Itl (K : PySem.W.Frag) (a : Addr) : It :=
 ⟨fun i H => ∃ xs x, SqL K H a xs /\ xs[i]? = some x, fun i H x H' => H' = H /\ ∀ xs, SqL K H a xs -> xs[i]? = some x, fun i H => ∃ xs, SqL K H a xs /\ xs.length <= i⟩
noncomputable def Itt (K : PySem.W.Frag) (a : Addr) : It :=
 ⟨fun i H => ∃ xs x, SqT K H a xs /\ xs[i]? = some x, fun i H x H' => H' = H /\ ∀ xs, SqT K H a xs -> xs[i]? = some x, fun i H => ∃ xs, SqT K H a xs /\ xs.length <= i⟩
noncomputable def Itr (lo : Int) (n : Nat) : It := ⟨fun i _ => i < n, fun i H x H' => H' = H /\ x = .int (lo + i), fun i _ => n <= i⟩
theorem turn_list {P : Program} {w : World} {K : PySem.W.Frag} {tg : Expr} (a it : Addr) : Turn P w K tg (Itl K a) [it] it (fun i h => h.IsListIter it a i) where
 mem := by simp
 obj := fun i h st b hb => by
  have e : b = it := by simpa using hb
  subst e
  obtain ⟨o, e, c, d⟩ := st
  exact ⟨o, e, fun v z => by rw [d] at z; cases z⟩
 keep := fun i h h' st k => st.at fun o e => k it (by simp) o e
 item := by
  intro X hP hw hK hc i pins s σ H E I hf st hg
  subst hP hw hK
  obtain ⟨xs, x, hq, hx⟩ := hg
  obtain ⟨its, rv, p, hz⟩ := I.list hq
  obtain ⟨u, hu, ru⟩ := rv.get hx
  obtain ⟨f0, f1, f2, f3, f4, f5⟩ := hf it (by simp)
  refine wpAny_pyNext_list_item st p.isList (x := u) (by simpa using hu) fun h' st' sb => ?_
  have I1 : Inv X pins σ H { s with heap := h' } := I.turned (t' := s.toks) (fun b o hb e => (sb.2 b hb).trans e) f0 f1 f3 f4 f5
  obtain ⟨o, e, c, d⟩ := id st'
  exact ⟨u, rfl, go_of (s := { s with heap := h' }) e c d (by decide) ⟨x, H, I1, ru, ⟨rfl, fun ys hy => by rw [I.list_inj hy hq]; exact hx⟩, st', fun b hb => (hf b hb).1⟩⟩
 done := by
  intro X hP hw hK hc i pins s σ H E I hf st hg
  subst hP hw hK
  obtain ⟨xs, hq, hx⟩ := hg
  obtain ⟨its, rv, p, hz⟩ := I.list hq
  obtain ⟨f0, f1, f2, f3, f4, f5⟩ := hf it (by simp)
  have hl := rv.length
  exact wpAny_pyNext_list_end (I.ok.hd hc) st p.isList (by simp; (first | lia | omega)) fun h' eb => ⟨rfl, I.turned (t' := s.toks) (fun b o hb e => eb b o hb e) f0 f1 f3 f4 f5⟩
 self := fun _ _ _ _ _ st h => wpAny_pyIter_listiter st h
theorem turn_tuple {P : Program} {w : World} {K : PySem.W.Frag} {tg : Expr} (a it : Addr) : Turn P w K tg (Itt K a) [it] it (fun i h => h.IsTupleIter it a i) where
 mem := by simp
 obj := fun i h st b hb => by
  have e : b = it := by simpa using hb
  subst e
  obtain ⟨o, e, c, d⟩ := st
  exact ⟨o, e, fun v z => by rw [d] at z; cases z⟩
 keep := fun i h h' st k => st.at fun o e => k it (by simp) o e
 item := by
  intro X hP hw hK hc i pins s σ H E I hf st hg
  subst hP hw hK
  obtain ⟨xs, x, hq, hx⟩ := hg
  obtain ⟨its, rv, p, hz⟩ := I.tuple hq
  obtain ⟨u, hu, ru⟩ := rv.get hx
  obtain ⟨f0, f1, f2, f3, f4, f5⟩ := hf it (by simp)
  refine wpAny_pyNext_tuple_item st (show s.heap.IsTuple a its.toArray from p) (x := u) (by simpa using hu) fun h' st' sb => ?_
  have I1 : Inv X pins σ H { s with heap := h' } := I.turned (t' := s.toks) (fun b o hb e => (sb.2 b hb).trans e) f0 f1 f3 f4 f5
  obtain ⟨o, e, c, d⟩ := id st'
  exact ⟨u, rfl, go_of (s := { s with heap := h' }) e c d (by decide) ⟨x, H, I1, ru, ⟨rfl, fun ys hy => by rw [I.tuple_inj hy hq]; exact hx⟩, st', fun b hb => (hf b hb).1⟩⟩
 done := by
  intro X hP hw hK hc i pins s σ H E I hf st hg
  subst hP hw hK
  obtain ⟨xs, hq, hx⟩ := hg
  obtain ⟨its, rv, p, hz⟩ := I.tuple hq
  obtain ⟨f0, f1, f2, f3, f4, f5⟩ := hf it (by simp)
  have hl := rv.length
  exact wpAny_pyNext_tuple_end (I.ok.hd hc) st (show s.heap.IsTuple a its.toArray from p) (by simp; (first | lia | omega)) fun h' eb => ⟨rfl, I.turned (t' := s.toks) (fun b o hb e => eb b o hb e) f0 f1 f3 f4 f5⟩
 self := fun _ _ _ _ _ st h => wpAny_pyIter_tupleiter st h
theorem turn_range {P : Program} {w : World} {K : PySem.W.Frag} {tg : Expr} (it : Addr) (lo : Int) (n : Nat) : Turn P w K tg (Itr lo n) [it] it (fun i h => IsRangeIter h it (lo + (i : Nat) * 1) ((n : Int) - (i : Nat)) 1) where
 mem := by simp
 obj := fun i h st b hb => by
  have e : b = it := by simpa using hb
  subst e
  exact ⟨_, st, fun v z => by
   have z' : Data.fields _ = Data.cell v := z
   cases z'⟩
 keep := fun i h h' st k => k it (by simp) _ st
 item := by
  intro X hP hw hK hc i pins s σ H E I hf st hg
  subst hP hw hK
  obtain ⟨f0, f1, f2, f3, f4, f5⟩ := hf it (by simp)
  have W := Walks.range (prog := X.prog) (w := X.w) (I.ok.hd hc) it lo 1 n
  refine W.item i s _ _ hg st fun v h' tk hv st' kk => ?_
  obtain ⟨t, rfl⟩ := hv
  have I1 : Inv X pins σ H { s with heap := h', toks := tk } := I.turned (fun b o hb e => kk b o (by simpa using hb) e) f0 f1 f3 f4 f5
  refine ⟨_, rfl, go_of (s := { s with heap := h', toks := tk }) (n := "range_iterator") st' rfl rfl (by decide) ⟨.int (lo + i), H, I1, ⟨t, ?_⟩, ⟨rfl, rfl⟩, st', fun b hb => (hf b hb).1⟩⟩
  rw [Int.mul_one]
 done := by
  intro X hP hw hK hc i pins s σ H E I hf st hg
  subst hP hw hK
  obtain ⟨f0, f1, f2, f3, f4, f5⟩ := hf it (by simp)
  exact wpAny_pyNext_range_end (I.ok.hd hc) st (by have : n <= i := hg; (first | lia | omega)) fun h' eb => ⟨rfl, I.turned (t' := s.toks) (fun b o hb e => eb b o hb e) f0 f1 f3 f4 f5⟩
 self := fun _ _ _ _ _ st h => wpAny_pyIter_rangeiter st h
end L2
namespace L2
open PySem PySem.Spec PyProof.Rows
section
variable {X : Cx} {tg : Expr}
noncomputable def iList (K : PySem.W.Frag) (tl : TE) : TI := fun σ H R => tl σ H fun x H1 => ∃ a, x = .ref a /\ (∃ xs, SqL K H1 a xs) /\ R (Itl K a) H1
noncomputable def iTup (K : PySem.W.Frag) (tl : TE) : TI := fun σ H R => tl σ H fun x H1 => ∃ a, x = .ref a /\ (∃ xs, SqT K H1 a xs) /\ R (Itt K a) H1
theorem pi_list {l : Expr} {tl : TE} (hl : PE X l tl) : PI X tg l (iList X.K tl) := by
 intro pins s σ H R I h
 refine thn (hl pins s σ H _ I h) fun v s1 ⟨x, H1, I1, r1, q1⟩ => ?_
 obtain ⟨a, e, ⟨xs, hq⟩, q⟩ := q1
 subst e
 cases r1
 obtain ⟨its, rv, p, hz⟩ := I1.list hq
 refine wpAny_pyIter_list p.isList ?_
 refine ⟨s1.heap.objs.size, [s1.heap.objs.size], _, _, H1, rfl, I1.kept (t' := s1.toks) fun b o e => Heap.get?_push_of_some _ e, turn_list a _, ⟨_, Heap.get?_push_size _ rfl, rfl, rfl⟩, fun b hb => ?_, q⟩
 have e : b = s1.heap.objs.size := by simpa using hb
 subst e
 exact I1.fpOk (Nat.le_refl _) (I1.hok.fresh (Nat.le_refl _))
theorem pi_tup {l : Expr} {tl : TE} (hl : PE X l tl) : PI X tg l (iTup X.K tl) := by
 intro pins s σ H R I h
 refine thn (hl pins s σ H _ I h) fun v s1 ⟨x, H1, I1, r1, q1⟩ => ?_
 obtain ⟨a, e, ⟨xs, hq⟩, q⟩ := q1
 subst e
 cases r1
 obtain ⟨its, rv, p, hz⟩ := I1.tuple hq
 refine wpAny_pyIter_tuple (show s1.heap.IsTuple a its.toArray from p) ?_
 refine ⟨s1.heap.objs.size, [s1.heap.objs.size], _, _, H1, rfl, I1.kept (t' := s1.toks) fun b o e => Heap.get?_push_of_some _ e, turn_tuple a _, ⟨_, Heap.get?_push_size _ rfl, rfl, rfl⟩, fun b hb => ?_, q⟩
 have e : b = s1.heap.objs.size := by simpa using hb
 subst e
 exact I1.fpOk (Nat.le_refl _) (I1.hok.fresh (Nat.le_refl _))
theorem range_it {pins : List (Addr × Obj)} {σ : St} {H : Hp} {s : Shared} {R : It -> Hp -> Prop} {E : Value -> Shared -> Prop} {lo hi : Int} {t u v : Tok} {tk : Nat} (I : Inv X pins σ H s) (h1 : -(2 ^ 62) <= lo) (h2 : lo < 2 ^ 62) (h3 : -(2 ^ 62) <= hi) (h4 : hi < 2 ^ 62)
  (q : R (Itr lo (hi - lo).toNat) H) : wpAny (model X.prog X.w) X.A (pyIter (.ref s.heap.objs.size)) (PIE X pins σ tg R) E { s with heap := s.heap.push { cls := .type "range", data := .fields #[.int lo t, .int hi u, .int 1 v] }, toks := tk } := by
 refine wpAny_pyIter_range (IsRange.new ..) (small_one h1 h2 h3 h4) ?_
 have I1 : Inv X pins σ H { s with heap := s.heap.push { cls := .type "range", data := .fields #[.int lo t, .int hi u, .int 1 v] }, toks := tk } := I.kept fun b o e => Heap.get?_push_of_some _ e
 refine ⟨(s.heap.push { cls := .type "range", data := .fields #[.int lo t, .int hi u, .int 1 v] }).objs.size, [(s.heap.push { cls := .type "range", data := .fields #[.int lo t, .int hi u, .int 1 v] }).objs.size], _, _, H, rfl,
  I1.kept (t' := tk) fun b o e => Heap.get?_push_of_some _ e, turn_range _ lo (hi - lo).toNat, ?_, fun b hb => ?_, q⟩
 ·have e1 : lo + ((0 : Nat) : Int) * 1 = lo := by simp
  have e2 : (((hi - lo).toNat : Nat) : Int) - ((0 : Nat) : Int) = Builtin.Range.rangeSize lo hi 1 := by rw [rangeSize_one]; split <;> (first | lia | omega)
  show IsRangeIter _ _ (lo + ((0 : Nat) : Int) * 1) ((((hi - lo).toNat : Nat) : Int) - ((0 : Nat) : Int)) 1
  rw [e1, e2]
  exact Heap.get?_push_size _ rfl
 ·have e : b = (s.heap.push { cls := .type "range", data := .fields #[.int lo t, .int hi u, .int 1 v] }).objs.size := by simpa using hb
  subst e
  exact I1.fpOk (Nat.le_refl _) (I1.hok.fresh (Nat.le_refl _))
noncomputable def iRng1 (ta : TA) : TI := fun σ H R => ta σ H fun vs H1 => ∃ j : Int, vs = [.int j] /\ -(2 ^ 62) <= j /\ j < 2 ^ 62 /\ R (Itr 0 j.toNat) H1
theorem pi_range1 {a : Expr} {ta : TA} {p pos : Pos} (hg : Gl X "range") (hm : X.mg "range" = none) (ha : PA X [a] ta) (hs : starEach [a] X.env = [(false, eval a X.env)] := by rfl) : PI X tg (.Call (.Name "range" p) [a] [] pos) (iRng1 ta) := by
 intro pins s σ H R I h
 refine Call_ (ld_blt I hg hm boot_range (PyProof.Rows.callWith_type1 (thn (ha pos pins s σ H _ I h) fun us s1 ⟨vs, H1, I1, r1, q1⟩ => ?_) hs rfl))
 obtain ⟨j, e, q1, q2, q⟩ := q1
 subst e
 cases r1 with
 | cons r rr =>
  cases rr
  obtain ⟨t, rfl⟩ := r
  exact call_range_1 (range_it I1 (by (first | lia | omega)) (by (first | lia | omega)) q1 q2 (by simpa using q))
noncomputable def tFor (wi : TI) (g : TG) (tb : TS) : TS := fun D σ H => wi σ H fun J H1 => ∃ W : Nat -> Nat -> St -> Hp -> Prop, (∃ m, W 0 m σ H1) /\ ∀ i m σ H, W i m σ H ->
 (J.stop i H /\ D.nx σ H) ∨ (J.go i H /\ ∃ N : St -> Hp -> Prop, (∀ σ' H', N σ' H' -> ∃ m', m' < m /\ W (i + 1) m' σ' H') /\ ∀ x H', J.yld i H x H' -> g x σ H' fun σ2 H2 => tb { D with nx := N, ct := N, bk := D.nx } σ2 H2)
noncomputable def pinsAt (fp : List Addr) (h : Heap) : List (Addr × Obj) := fp.filterMap fun b => (h.get? b).map fun o => (b, o)
theorem mem_pinsAt {fp : List Addr} {h : Heap} {b : Addr} {o : Obj} (hb : b ∈ fp) (e : h.get? b = some o) : (b, o) ∈ pinsAt fp h := List.mem_filterMap.mpr ⟨b, hb, by rw [e]; rfl⟩
theorem of_pinsAt {fp : List Addr} {h : Heap} {p : Addr × Obj} (hp : p ∈ pinsAt fp h) : p.1 ∈ fp /\ h.get? p.1 = some p.2 := by
 obtain ⟨b, hb, e⟩ := List.mem_filterMap.mp hp
 cases q : h.get? b with
 | none => rw [q] at e; cases e
 | some o =>
  rw [q] at e
  have e' : (b, o) = p := Option.some.inj e
  subst e'
  exact ⟨hb, q⟩
theorem Inv.pinned {pins : List (Addr × Obj)} {σ : St} {H : Hp} {s : Shared} {fp : List Addr} (I : Inv X pins σ H s) (hf : ∀ b ∈ fp, FpOk X pins H b) (ho : ∀ b ∈ fp, ∃ o, s.heap.get? b = some o /\ ∀ v, o.data ≠ .cell v) : Inv X (pins ++ pinsAt fp s.heap) σ H s :=
 I.pins_of fun p hp => (List.mem_append.mp hp).elim (fun z => I.pin p (List.mem_append_right _ z)) fun z => by
  obtain ⟨hb, e⟩ := of_pinsAt z
  obtain ⟨f0, f1, f2, _⟩ := hf p.1 hb
  obtain ⟨o, e', d⟩ := ho p.1 hb
  rw [e] at e'; cases e'
  exact ⟨e, f0, f1, f2, d⟩
theorem Inv.unpinned {pins pl : List (Addr × Obj)} {σ : St} {H : Hp} {s : Shared} (I : Inv X (pins ++ pl) σ H s) : Inv X pins σ H s := I.pins_of fun p hp => I.pin p (List.mem_append_right _ (List.mem_append_left _ hp))
theorem ps_for {iter : Expr} {body : List Stmt} {wi : TI} {g : TG} {tb : TS} {pos : Pos} (hp : PassesOwn (model X.prog X.w) X.A X.env X.xe) (hc : X.calm = true) (hi : PI X tg iter wi) (hg : PG X tg g) (hb : PSs X body tb)
  (hs : ∀ x, foldedSetIterable iter X.env x = pure x := by intro _; rfl) : PS X (.For tg iter body [] pos) (tFor wi g tb) := by
 intro pins s σ H D I h
 refine wpAny_For (thn (hi pins s σ H _ I h) fun v s1 h1 => thn h1 fun itv s2 h2 => ?_) hs
 obtain ⟨it, fp, tn, J, H2, e, I2, T, st2, f2, W, ⟨m0, w0⟩, turn⟩ := h2
 subst e
 have stat : ∀ {H' : Hp}, (∀ b ∈ fp, H' b = none) -> ∀ b ∈ fp, FpOk X pins H' b := fun hn b hb => ⟨hn b hb, (f2 b hb).2⟩
 refine codeAny_forLoop_any (fun n s' => ∃ i σ' H', Inv X pins σ' H' s' /\ tn i s'.heap /\ (∀ b ∈ fp, H' b = none) /\ W i n σ' H') ?_ m0 ⟨0, σ, H2, I2, st2, fun b hb => (f2 b hb).1, w0⟩
 rintro n s3 ⟨i, σ3, H3, I3, st3, fr3, w3⟩
 rcases turn i n σ3 H3 w3 with ⟨stop, qn⟩ | ⟨go, N, hN, step⟩
 ·refine wpAny_passesOwn hp (thn (T.done X rfl rfl rfl hc i pins s3 σ3 H3 X.xe I3 (stat fr3) st3 stop) fun r s4 ⟨hr, I4⟩ => ?_)
  subst hr
  exact wpAny_execs_nil ⟨σ3, H3, I4, qn⟩
 ·refine wpAny_passesOwn hp (thn (T.item X rfl rfl rfl hc i pins s3 σ3 H3 X.xe I3 (stat fr3) st3 go) fun r s4 ⟨u, hr, h4⟩ => ?_)
  subst hr
  refine wpAny_passesOwn hp (thn h4 fun _ s5 ⟨x, H5, I5, r5, y5, st5, fr5⟩ => ?_)
  have I5' := I5.pinned (stat fr5) (T.obj _ _ st5)
  refine wpAny_passesOwn hp (thn (hg _ s5 σ3 H5 x u _ I5' r5 (step x H5 y5)) fun _ s6 ⟨σ6, H6, I6, q6⟩ => ?_)
  refine wpAny_passesOwn hp (thn (hb _ s6 σ6 H6 _ I6 q6) fun f s7 q7 => ?_)
  have again : ∀ {σ7 : St} {H7 : Hp}, Inv X (pins ++ pinsAt fp s5.heap) σ7 H7 s7 -> N σ7 H7 -> ∃ m, m < n /\ ∃ i σ' H', Inv X pins σ' H' s7 /\ tn i s7.heap /\ (∀ b ∈ fp, H' b = none) /\ W i m σ' H' := fun {σ7 H7} I7 n7 => by
   obtain ⟨m', hm, w7⟩ := hN σ7 H7 n7
   refine ⟨m', hm, i + 1, σ7, H7, I7.unpinned, T.keep _ _ _ st5 fun b hb o e => (I7.pin (b, o) (List.mem_append_right _ (List.mem_append_right _ (mem_pinsAt hb e)))).1, fun b hb => ?_, w7⟩
   obtain ⟨o, e, d⟩ := T.obj _ _ st5 b hb
   exact (I7.pin (b, o) (List.mem_append_right _ (List.mem_append_right _ (mem_pinsAt hb e)))).2.1
  cases f with
  | next => obtain ⟨σ7, H7, I7, n7⟩ := q7; exact again I7 n7
  | cont => obtain ⟨σ7, H7, I7, n7⟩ := q7; exact again I7 n7
  | brk => obtain ⟨σ7, H7, I7, q7⟩ := q7; exact ⟨σ7, H7, I7.unpinned, q7⟩
  | ret v => obtain ⟨x7, σ7, H7, I7, r7, q7⟩ := q7; exact ⟨x7, σ7, H7, I7.unpinned, r7, q7⟩
end
theorem for_list {K : PySem.W.Frag} {a : Addr} {xs : List V} {g : TG} {tb : TS} {D : Ends} {σ : St} {H : Hp} (Pv : Nat -> St -> Hp -> Prop) (h0 : Pv 0 σ H) (hl : ∀ i σ H, i <= xs.length -> Pv i σ H -> SqL K H a xs)
  (hs : ∀ i x σ H, xs[i]? = some x -> Pv i σ H -> g x σ H fun σ2 H2 => tb { D with nx := Pv (i + 1), ct := Pv (i + 1), bk := D.nx } σ2 H2) (hd : ∀ σ H, Pv xs.length σ H -> D.nx σ H) :
  ∃ W : Nat -> Nat -> St -> Hp -> Prop, (∃ m, W 0 m σ H) /\ ∀ i m σ H, W i m σ H ->
   ((Itl K a).stop i H /\ D.nx σ H) ∨ ((Itl K a).go i H /\ ∃ N : St -> Hp -> Prop, (∀ σ' H', N σ' H' -> ∃ m', m' < m /\ W (i + 1) m' σ' H') /\ ∀ x H', (Itl K a).yld i H x H' -> g x σ H' fun σ2 H2 => tb { D with nx := N, ct := N, bk := D.nx } σ2 H2) := by
 refine ⟨fun i m σ H => m = xs.length - i /\ i <= xs.length /\ Pv i σ H, ⟨xs.length, by simp, Nat.zero_le _, h0⟩, ?_⟩
 rintro i m σ H ⟨rfl, hi, p⟩
 have q := hl i σ H hi p
 by_cases hlt : i < xs.length
 ·refine .inr ⟨⟨xs, xs[i], q, by simp [hlt]⟩, Pv (i + 1), fun σ' H' p' => ⟨xs.length - (i + 1), by (first | lia | omega), rfl, hlt, p'⟩, fun x H' y => ?_⟩
  obtain ⟨e, y⟩ := y
  subst e
  exact hs i x σ _ (y xs q) p
 ·have e : i = xs.length := by (first | lia | omega)
  subst e
  exact .inl ⟨⟨xs, q, Nat.le_refl _⟩, hd σ H p⟩
theorem for_tup {K : PySem.W.Frag} {a : Addr} {xs : List V} {g : TG} {tb : TS} {D : Ends} {σ : St} {H : Hp} (Pv : Nat -> St -> Hp -> Prop) (h0 : Pv 0 σ H) (hl : ∀ i σ H, i <= xs.length -> Pv i σ H -> SqT K H a xs)
  (hs : ∀ i x σ H, xs[i]? = some x -> Pv i σ H -> g x σ H fun σ2 H2 => tb { D with nx := Pv (i + 1), ct := Pv (i + 1), bk := D.nx } σ2 H2) (hd : ∀ σ H, Pv xs.length σ H -> D.nx σ H) :
  ∃ W : Nat -> Nat -> St -> Hp -> Prop, (∃ m, W 0 m σ H) /\ ∀ i m σ H, W i m σ H ->
   ((Itt K a).stop i H /\ D.nx σ H) ∨ ((Itt K a).go i H /\ ∃ N : St -> Hp -> Prop, (∀ σ' H', N σ' H' -> ∃ m', m' < m /\ W (i + 1) m' σ' H') /\ ∀ x H', (Itt K a).yld i H x H' -> g x σ H' fun σ2 H2 => tb { D with nx := N, ct := N, bk := D.nx } σ2 H2) := by
 refine ⟨fun i m σ H => m = xs.length - i /\ i <= xs.length /\ Pv i σ H, ⟨xs.length, by simp, Nat.zero_le _, h0⟩, ?_⟩
 rintro i m σ H ⟨rfl, hi, p⟩
 have q := hl i σ H hi p
 by_cases hlt : i < xs.length
 ·refine .inr ⟨⟨xs, xs[i], q, by simp [hlt]⟩, Pv (i + 1), fun σ' H' p' => ⟨xs.length - (i + 1), by (first | lia | omega), rfl, hlt, p'⟩, fun x H' y => ?_⟩
  obtain ⟨e, y⟩ := y
  subst e
  exact hs i x σ _ (y xs q) p
 ·have e : i = xs.length := by (first | lia | omega)
  subst e
  exact .inl ⟨⟨xs, q, Nat.le_refl _⟩, hd σ H p⟩
theorem for_range {lo : Int} {n : Nat} {g : TG} {tb : TS} {D : Ends} {σ : St} {H : Hp} (Pv : Nat -> St -> Hp -> Prop) (h0 : Pv 0 σ H)
  (hs : ∀ i σ H, i < n -> Pv i σ H -> g (.int (lo + i)) σ H fun σ2 H2 => tb { D with nx := Pv (i + 1), ct := Pv (i + 1), bk := D.nx } σ2 H2) (hd : ∀ σ H, Pv n σ H -> D.nx σ H) :
  ∃ W : Nat -> Nat -> St -> Hp -> Prop, (∃ m, W 0 m σ H) /\ ∀ i m σ H, W i m σ H ->
   ((Itr lo n).stop i H /\ D.nx σ H) ∨ ((Itr lo n).go i H /\ ∃ N : St -> Hp -> Prop, (∀ σ' H', N σ' H' -> ∃ m', m' < m /\ W (i + 1) m' σ' H') /\ ∀ x H', (Itr lo n).yld i H x H' -> g x σ H' fun σ2 H2 => tb { D with nx := N, ct := N, bk := D.nx } σ2 H2) := by
 refine ⟨fun i m σ H => m = n - i /\ i <= n /\ Pv i σ H, ⟨n, by simp, Nat.zero_le _, h0⟩, ?_⟩
 rintro i m σ H ⟨rfl, hi, p⟩
 by_cases hlt : i < n
 ·refine .inr ⟨hlt, Pv (i + 1), fun σ' H' p' => ⟨n - (i + 1), by (first | lia | omega), rfl, hlt, p'⟩, fun x H' y => ?_⟩
  obtain ⟨e, y⟩ := y
  subst e y
  exact hs i σ _ hlt p
 ·have e : i = n := by (first | lia | omega)
  subst e
  exact .inl ⟨Nat.le_refl _, hd σ H p⟩
end L2
namespace L2
open PySem PySem.Spec PyProof.Rows
noncomputable abbrev R2 := V -> V -> Hp -> VK -> Prop
noncomputable def OpR (X : Cx) (f : Value -> Value -> Sem Value) (r : R2) : Prop :=
 ∀ (pins : List (Addr × Obj)) (s : Shared) (σ : St) (H : Hp) (x y : V) (v u : Value) (Q : VK), Inv X pins σ H s -> RelV x v -> RelV y u -> r x y H Q ->
  wpAny (model X.prog X.w) X.A (f v u) (EP X pins σ Q) X.xe s
noncomputable def UnR (X : Cx) (f : Value -> Sem Value) (r : V -> Hp -> VK -> Prop) : Prop :=
 ∀ (pins : List (Addr × Obj)) (s : Shared) (σ : St) (H : Hp) (x : V) (v : Value) (Q : VK), Inv X pins σ H s -> RelV x v -> r x H Q ->
  wpAny (model X.prog X.w) X.A (f v) (EP X pins σ Q) X.xe s
noncomputable def CallR (X : Cx) (f : Value) (r : List V -> Hp -> VK -> Prop) : Prop :=
 ∀ (pins : List (Addr × Obj)) (s : Shared) (σ : St) (H : Hp) (xs : List V) (us : List Value) (Q : VK), Inv X pins σ H s -> Vals xs us -> r xs H Q ->
  wpAny (model X.prog X.w) X.A (call f us) (EP X pins σ Q) X.xe s
noncomputable def TruR (X : Cx) (r : V -> Hp -> (Bool -> Hp -> Prop) -> Prop) : Prop :=
 ∀ (pins : List (Addr × Obj)) (s : Shared) (σ : St) (H : Hp) (x : V) (v : Value) (Q : Bool -> Hp -> Prop), Inv X pins σ H s -> RelV x v -> r x H Q ->
  wpAny (model X.prog X.w) X.A (truthy v) (TP X pins σ Q) X.xe s
noncomputable def tOp (r : R2) (ta tb : TE) : TE := fun σ H Q => ta σ H fun x H1 => tb σ H1 fun y H2 => r x y H2 Q
noncomputable def tUn (r : V -> Hp -> VK -> Prop) (ta : TE) : TE := fun σ H Q => ta σ H fun x H1 => r x H1 Q
noncomputable def rI (C : Int -> Int -> Prop) (g : Int -> Int -> V) : R2 := fun x y H Q => ∃ i j, x = .int i /\ y = .int j /\ C i j /\ Q (g i j) H
noncomputable def rI0 (g : Int -> Int -> V) : R2 := fun x y H Q => ∃ i j, x = .int i /\ y = .int j /\ Q (g i j) H
noncomputable def rU (g : Int -> V) : V -> Hp -> VK -> Prop := fun x H Q => ∃ i, x = .int i /\ Q (g i) H
section
variable {X : Cx} {a b c : Expr} {ta tb tc : TE} {pos : Pos}
theorem binT (ha : PE X a ta) (hb : PE X b tb) {pins : List (Addr × Obj)} {s : Shared} {σ : St} {H : Hp} {R : V -> V -> Hp -> Prop} (I : Inv X pins σ H s)
  (h : ta σ H fun x H1 => tb σ H1 fun y H2 => R x y H2) {Q : Value -> Shared -> Prop} {f : Value -> Value -> Sem Value}
  (hf : ∀ v u s2 x y H2, Inv X pins σ H2 s2 -> RelV x v -> RelV y u -> R x y H2 -> wpAny (model X.prog X.w) X.A (f v u) Q X.xe s2) :
  wpAny (model X.prog X.w) X.A (eval a X.env) (fun v s₁ => wpAny (model X.prog X.w) X.A (eval b X.env) (fun u s₂ => wpAny (model X.prog X.w) X.A (f v u) Q X.xe s₂) X.xe s₁) X.xe s := by
 refine thn (ha pins s σ H _ I h) fun v s1 ⟨x, H1, I1, r1, q1⟩ => ?_
 refine thn (hb pins s1 σ H1 _ I1 q1) fun u s2 ⟨y, H2, I2, r2, q2⟩ => ?_
 exact hf v u s2 x y H2 I2 r1 r2 q2
theorem pe_op {op : Operator} {r : R2} (ho : OpR X (binaryOp op) r) (ha : PE X a ta) (hb : PE X b tb) : PE X (.BinOp a op b pos) (tOp r ta tb) := by
 intro pins s σ H Q I h
 exact wpAny_BinOp (binT ha hb I h fun v u s2 x y H2 I2 rx ry q => ho pins s2 σ H2 x y v u Q I2 rx ry q)
theorem pe_un {op : UnaryOp} {r : V -> Hp -> VK -> Prop} (ho : UnR X (unaryOp op) r) (ha : PE X a ta) : PE X (.UnaryOp op a pos) (tUn r ta) := by
 intro pins s σ H Q I h
 exact UnaryOp_ (thn (ha pins s σ H _ I h) fun v s1 ⟨x, H1, I1, r1, q1⟩ => ho pins s1 σ H1 x v Q I1 r1 q1)
theorem opI {f : Value -> Value -> Sem Value} {C : Int -> Int -> Prop} {g : Int -> Int -> Int}
  (rule : ∀ (i j : Int) (t u : Tok) (s : Shared) (Q : Value -> Shared -> Prop) (E : Value -> Shared -> Prop), C i j -> Q (.int (g i j) s.toks) { s with toks := s.toks + 1 } -> wpAny (model X.prog X.w) X.A (f (.int i t) (.int j u)) Q E s) :
  OpR X f (rI C fun i j => .int (g i j)) := by
 intro pins s σ H x y v u Q I rx ry h
 obtain ⟨i, j, rfl, rfl, hc, q⟩ := h
 obtain ⟨t, rfl⟩ := rx
 obtain ⟨t', rfl⟩ := ry
 exact rule i j t t' s _ _ hc ⟨.int (g i j), H, I.tok _, ⟨_, rfl⟩, q⟩
theorem opI0 {f : Value -> Value -> Sem Value} {g : Int -> Int -> Int}
  (rule : ∀ (i j : Int) (t u : Tok) (s : Shared) (Q : Value -> Shared -> Prop) (E : Value -> Shared -> Prop), Q (.int (g i j) s.toks) { s with toks := s.toks + 1 } -> wpAny (model X.prog X.w) X.A (f (.int i t) (.int j u)) Q E s) :
  OpR X f (rI0 fun i j => .int (g i j)) := by
 intro pins s σ H x y v u Q I rx ry h
 obtain ⟨i, j, rfl, rfl, q⟩ := h
 obtain ⟨t, rfl⟩ := rx
 obtain ⟨t', rfl⟩ := ry
 exact rule i j t t' s _ _ ⟨.int (g i j), H, I.tok _, ⟨_, rfl⟩, q⟩
theorem opB0 {f : Value -> Value -> Sem Value} {g : Int -> Int -> Bool}
  (rule : ∀ (i j : Int) (t u : Tok) (s : Shared) (Q : Value -> Shared -> Prop) (E : Value -> Shared -> Prop), Q (.bool (g i j)) s -> wpAny (model X.prog X.w) X.A (f (.int i t) (.int j u)) Q E s) :
  OpR X f (rI0 fun i j => .bl (g i j)) := by
 intro pins s σ H x y v u Q I rx ry h
 obtain ⟨i, j, rfl, rfl, q⟩ := h
 obtain ⟨t, rfl⟩ := rx
 obtain ⟨t', rfl⟩ := ry
 exact rule i j t t' s _ _ ⟨.bl (g i j), H, I, rfl, q⟩
noncomputable def CDiv (i j : Int) : Prop := 0 < j /\ j < 1073741824
noncomputable def CPow (i j : Int) : Prop := 0 <= j /\ j <= 1000000 /\ i.natAbs < 2 ^ 64
noncomputable def CMul (i j : Int) : Prop := (-(2 ^ 64) < i /\ i < 2 ^ 64) ∨ (-(2 ^ 64) < j /\ j < 2 ^ 64)
theorem CMul.ok {i j : Int} (h : CMul i j) : IntMulOk i j := by
 rcases h with ⟨h1, h2⟩ | ⟨h1, h2⟩
 ·exact .of_left (intBits_le_64 h1 h2)
 ·exact .of_right (intBits_le_64 h1 h2)
theorem op_add : OpR X (binaryOp .Add) (rI0 fun i j => .int (i + j)) := opI0 fun _ _ _ _ _ _ _ q => add_int q
theorem op_sub : OpR X (binaryOp .Sub) (rI0 fun i j => .int (i - j)) := opI0 fun _ _ _ _ _ _ _ q => sub_int q
theorem op_mul : OpR X (binaryOp .Mult) (rI CMul fun i j => .int (i * j)) := opI fun _ _ _ _ _ _ _ hc q => mul_int q hc.ok
theorem op_fdiv : OpR X (binaryOp .FloorDiv) (rI CDiv fun i j => .int (i / j)) := opI fun i j _ _ _ _ _ hc q => by
 have h1 : (0 : Int) < j := hc.1
 have h2 : j < 1073741824 := hc.2
 exact floordiv_int (by (first | lia | omega)) (by rw [Int.fdiv_eq_ediv_of_nonneg i (by (first | lia | omega))]; exact q) (.inl (PyProof.noPylong_small (by (first | lia | omega))))
theorem op_mod : OpR X (binaryOp .Mod) (rI (fun _ j => 0 < j) fun i j => .int (i % j)) := opI fun i j _ _ _ _ _ hc q => by
 have h1 : (0 : Int) < j := hc
 exact mod_int' (by (first | lia | omega)) (by rw [Int.fmod_eq_emod_of_nonneg i (by (first | lia | omega))]; exact q)
theorem op_pow : OpR X (binaryOp .Pow) (rI CPow fun i j => .int (i ^ j.toNat)) := opI fun _ _ _ _ _ _ _ hc q => pow_int_small hc.1 hc.2.1 hc.2.2 q
theorem unI {f : Value -> Sem Value} {g : Int -> Int}
  (rule : ∀ (i : Int) (t : Tok) (s : Shared) (Q : Value -> Shared -> Prop) (E : Value -> Shared -> Prop), Q (.int (g i) s.toks) { s with toks := s.toks + 1 } -> wpAny (model X.prog X.w) X.A (f (.int i t)) Q E s) :
  UnR X f (rU fun i => .int (g i)) := by
 intro pins s σ H x v Q I rx h
 obtain ⟨i, rfl, q⟩ := h
 obtain ⟨t, rfl⟩ := rx
 exact rule i t s _ _ ⟨.int (g i), H, I.tok _, ⟨_, rfl⟩, q⟩
theorem un_neg : UnR X (unaryOp .USub) (rU fun i => .int (-i)) := unI fun _ _ _ _ _ q => neg_int q
end
noncomputable def scal : V -> V -> Bool
 | .non, .non => true | .non, .int _ => true | .int _, .non => true | .non, .bl _ => true | .bl _, .non => true | .non, .str _ => true | .str _, .non => true
 | .int _, .int _ => true | .bl _, .bl _ => true | .str _, .str _ => true | .byt _, .byt _ => true
 | .int _, .str _ => true | .str _, .int _ => true | .bl _, .str _ => true | .str _, .bl _ => true
 | _, _ => false
noncomputable def rEq : R2 := fun x y H Q => scal x y = true /\ Q (.bl (decide (x = y))) H
noncomputable def rNe : R2 := fun x y H Q => scal x y = true /\ Q (.bl (!decide (x = y))) H
theorem dec_int {i j : Int} : decide (V.int i = V.int j) = (i == j) := by
 rw [Bool.eq_iff_iff]
 simp
theorem dec_bl {i j : Bool} : decide (V.bl i = V.bl j) = (i == j) := by
 rw [Bool.eq_iff_iff]
 simp
theorem dec_str {i j : Str} : decide (V.str i = V.str j) = (i == j) := by
 rw [Bool.eq_iff_iff]
 simp
theorem dec_byt {i j : Array UInt8} : decide (V.byt i = V.byt j) = (i.toList == j.toList) := by
 rw [Bool.eq_iff_iff]
 cases i
 cases j
 simp
section
variable {X : Cx} {a b c : Expr} {ta tb tc : TE} {pos : Pos}
theorem fin_bl {pins : List (Addr × Obj)} {σ : St} {H : Hp} {s : Shared} {Q : VK} {k k' : Bool} (I : Inv X pins σ H s) (q : Q (.bl k) H) (e : k = k') : EP X pins σ Q (.bool k') s := by
 subst e
 exact ⟨.bl k, H, I, rfl, q⟩
theorem op_eq : OpR X (compareOp .Eq) rEq := by
 intro pins s σ H x y v u Q I rx ry h
 obtain ⟨hs, q⟩ := h
 cases x with
 | non =>
  cases rx
  cases y with
  | non => cases ry; exact PySem.EqNone.eq_none_none (fin_bl I q (by simp))
  | bl j => cases ry; exact PySem.EqNone.eq_none_bool (fin_bl I q (by simp))
  | int j => obtain ⟨t', rfl⟩ := ry; exact PySem.EqNone.eq_none_int (fin_bl I q (by simp))
  | str j => obtain ⟨t', rfl⟩ := ry; exact PySem.EqNone.eq_none_str (fin_bl I q (by simp))
  | _ => exact absurd (show false = true from hs) Bool.false_ne_true
 | bl i =>
  cases rx
  cases y with
  | non => cases ry; exact PySem.EqNone.eq_bool_none (fin_bl I q (by simp))
  | bl j => cases ry; exact eq_bool (fin_bl I q dec_bl)
  | str j => obtain ⟨t', rfl⟩ := ry; exact PySem.EqMixed.eq_bool_str (fin_bl I q (by simp))
  | _ => exact absurd (show false = true from hs) Bool.false_ne_true
 | int i =>
  obtain ⟨t, rfl⟩ := rx
  cases y with
  | non => cases ry; exact PySem.EqNone.eq_int_none (fin_bl I q (by simp))
  | int j => obtain ⟨t', rfl⟩ := ry; exact eq_int (fin_bl I q dec_int)
  | str j => obtain ⟨t', rfl⟩ := ry; exact PySem.EqMixed.eq_int_str (fin_bl I q (by simp))
  | _ => exact absurd (show false = true from hs) Bool.false_ne_true
 | str i =>
  obtain ⟨t, rfl⟩ := rx
  cases y with
  | non => cases ry; exact PySem.EqNone.eq_str_none (fin_bl I q (by simp))
  | bl j => cases ry; exact PySem.EqMixed.eq_str_bool (fin_bl I q (by simp))
  | int j => obtain ⟨t', rfl⟩ := ry; exact PySem.EqMixed.eq_str_int (fin_bl I q (by simp))
  | str j => obtain ⟨t', rfl⟩ := ry; exact eq_str (fin_bl I q dec_str)
  | _ => exact absurd (show false = true from hs) Bool.false_ne_true
 | byt i =>
  obtain ⟨t, rfl⟩ := rx
  cases y with
  | byt j => obtain ⟨t', rfl⟩ := ry; exact PySem.W.eq_bytes (fin_bl I q dec_byt)
  | _ => exact absurd (show false = true from hs) Bool.false_ne_true
 | _ => cases y <;> exact absurd (show false = true from hs) Bool.false_ne_true
theorem op_ne : OpR X (compareOp .NotEq) rNe := by
 intro pins s σ H x y v u Q I rx ry h
 obtain ⟨hs, q⟩ := h
 cases x with
 | non =>
  cases rx
  cases y with
  | non => cases ry; exact PySem.EqNone.ne_none_none (fin_bl I q (by simp))
  | bl j => cases ry; exact PySem.EqNone.ne_none_bool (fin_bl I q (by simp))
  | int j => obtain ⟨t', rfl⟩ := ry; exact PySem.EqNone.ne_none_int (fin_bl I q (by simp))
  | str j => obtain ⟨t', rfl⟩ := ry; exact PySem.EqNone.ne_none_str (fin_bl I q (by simp))
  | _ => exact absurd (show false = true from hs) Bool.false_ne_true
 | bl i =>
  cases rx
  cases y with
  | non => cases ry; exact PySem.EqNone.ne_bool_none (fin_bl I q (by simp))
  | bl j => cases ry; exact ne_bool (fin_bl I q (congrArg not dec_bl))
  | str j => obtain ⟨t', rfl⟩ := ry; exact PySem.EqMixed.ne_bool_str (fin_bl I q (by simp))
  | _ => exact absurd (show false = true from hs) Bool.false_ne_true
 | int i =>
  obtain ⟨t, rfl⟩ := rx
  cases y with
  | non => cases ry; exact PySem.EqNone.ne_int_none (fin_bl I q (by simp))
  | int j => obtain ⟨t', rfl⟩ := ry; exact ne_int (fin_bl I q (congrArg not dec_int))
  | str j => obtain ⟨t', rfl⟩ := ry; exact PySem.EqMixed.ne_int_str (fin_bl I q (by simp))
  | _ => exact absurd (show false = true from hs) Bool.false_ne_true
 | str i =>
  obtain ⟨t, rfl⟩ := rx
  cases y with
  | non => cases ry; exact PySem.EqNone.ne_str_none (fin_bl I q (by simp))
  | bl j => cases ry; exact PySem.EqMixed.ne_str_bool (fin_bl I q (by simp))
  | int j => obtain ⟨t', rfl⟩ := ry; exact PySem.EqMixed.ne_str_int (fin_bl I q (by simp))
  | str j => obtain ⟨t', rfl⟩ := ry; exact ne_str (fin_bl I q (congrArg not dec_str))
  | _ => exact absurd (show false = true from hs) Bool.false_ne_true
 | byt i =>
  obtain ⟨t, rfl⟩ := rx
  cases y with
  | byt j => obtain ⟨t', rfl⟩ := ry; exact PySem.W.ne_bytes (fin_bl I q (congrArg not dec_byt))
  | _ => exact absurd (show false = true from hs) Bool.false_ne_true
 | _ => cases y <;> exact absurd (show false = true from hs) Bool.false_ne_true
theorem op_lt : OpR X (compareOp .Lt) (rI0 fun i j => .bl (decide (i < j))) := opB0 fun _ _ _ _ _ _ _ q => lt_int q
theorem op_gt : OpR X (compareOp .Gt) (rI0 fun i j => .bl (decide (j < i))) := opB0 fun _ _ _ _ _ _ _ q => gt_int q
theorem op_ge : OpR X (compareOp .GtE) (rI0 fun i j => .bl (decide (j <= i))) := opB0 fun _ _ _ _ _ _ _ q => ge_int q
theorem nomark (b : Expr) {op : CmpOp} (h : op ≠ .In := by decide) (h2 : op ≠ .NotIn := by decide) : behindInMarks op b = false := by
 have e1 : (op == CmpOp.In) = false := by cases op <;> first | rfl | exact absurd rfl h
 have e2 : (op == CmpOp.NotIn) = false := by cases op <;> first | rfl | exact absurd rfl h2
 cases b <;> simp [behindInMarks, e1, e2]
theorem pe_cmpR {op : CmpOp} {r : R2} (ho : OpR X (compareOp op) r) (ha : PE X a ta) (hb : PE X b tb) (hm : behindInMarks op b = false) : PE X (.Compare a [op] [b] pos) (tOp r ta tb) := by
 intro pins s σ H Q I h
 exact wpAny_Compare1 (binT ha hb I h fun v u s2 x y H2 I2 rx ry q => ho pins s2 σ H2 x y v u Q I2 rx ry q) hm
noncomputable def tTest (t : TE) : TT := fun σ H Q => t σ H fun x H' => ∃ k, x = .bl k /\ Q k H'
theorem pt_cmpR {op : CmpOp} {r : R2} (ho : OpR X (compareOp op) r) (ha : PE X a ta) (hb : PE X b tb) (hm : behindInMarks op b = false) : PT X (.Compare a [op] [b] pos) (tTest (tOp r ta tb)) := by
 intro pins s σ H Q I h
 refine wpAny_isTrue_Compare1 (thn (ha pins s σ H _ I h) fun v s1 ⟨x, H1, I1, r1, q1⟩ => thn (hb pins s1 σ H1 _ I1 q1) fun u s2 ⟨y, H2, I2, r2, q2⟩ =>
  thn (ho pins s2 σ H2 x y v u _ I2 r1 r2 q2) fun c s3 ⟨z, H3, I3, r3, k, e, q3⟩ => ?_) hm
 subst e
 cases r3
 exact wpAny_truthy_bool ⟨H3, I3, q3⟩
noncomputable def TruV (K : PySem.W.Frag) (x : V) (H : Hp) (k : Bool) : Prop :=
 match x with
 | .non => k = false
 | .bl b => k = b
 | .int i => k = (i != 0)
 | .str y => y.length <= sizeLine /\ k = ((y.length : Int) != 0)
 | .byt y => y.size <= sizeLine /\ k = ((y.size : Int) != 0)
 | .ref p => (∃ xs, SqL K H p xs /\ k = !xs.isEmpty) ∨ (∃ xs, SqT K H p xs /\ k = !xs.isEmpty) ∨ ∃ kvs, H p = some (.dK kvs) /\ k = !kvs.isEmpty
 | _ => False
theorem isEmpty_kv {κ : Type} {kvs : List (κ × V)} {vs : List (κ × Value)} (r : KV kvs vs) : (!vs.isEmpty) = !kvs.isEmpty := by
 cases r <;> rfl
theorem isEmpty_of {xs : List V} {its : List Value} (r : Vals xs its) : (!its.toArray.isEmpty) = !xs.isEmpty := by
 cases r <;> simp
theorem line63 : (sizeLine : Nat) < 2 ^ 63 := by rw [sizeLine_eq]; decide
theorem tru_ok : TruR X (fun x H Q => ∃ k, TruV X.K x H k /\ Q k H) := by
 intro pins s σ H x v Q I rx h
 obtain ⟨k, e, q⟩ := h
 have hl := line63
 have hs : sizeLine = 16777216 := sizeLine_eq
 cases x with
 | non =>
  cases rx
  have e' : k = false := e
  subst e'
  exact truthy_none ⟨H, I, q⟩
 | bl b =>
  cases rx
  have e' : k = b := e
  subst e'
  exact wpAny_truthy_bool ⟨H, I, q⟩
 | int i =>
  obtain ⟨t, rfl⟩ := rx
  have e' : k = (i != 0) := e
  subst e'
  exact PySem.P.truthy_int ⟨H, I, q⟩
 | str y =>
  obtain ⟨t, rfl⟩ := rx
  obtain ⟨hy, e'⟩ : y.length <= sizeLine /\ k = ((y.length : Int) != 0) := e
  subst e'
  exact PySem.P.truthy_str (by (first | lia | omega)) ⟨H, I.tok _, q⟩
 | byt y =>
  obtain ⟨t, rfl⟩ := rx
  obtain ⟨hy, e'⟩ : y.size <= sizeLine /\ k = ((y.size : Int) != 0) := e
  subst e'
  exact PySem.W.truthy_bytes (by (first | lia | omega)) ⟨H, I.tok _, q⟩
 | ref p =>
  cases rx
  have e' : (∃ xs, SqL X.K H p xs /\ k = !xs.isEmpty) ∨ (∃ xs, SqT X.K H p xs /\ k = !xs.isEmpty) ∨ ∃ kvs, H p = some (.dK kvs) /\ k = !kvs.isEmpty := e
  rcases e' with ⟨xs, hx, e'⟩ | ⟨xs, hx, e'⟩ | ⟨kvs, hx, e'⟩
  ·subst e'
   obtain ⟨its, r, pl, hz⟩ := I.list hx
   have hlen := r.length
   exact wpAny_truthy_list pl.isList (by simp only [List.size_toArray]; (first | lia | omega)) ⟨H, I.tok _, by rw [isEmpty_of r]; exact q⟩
  ·subst e'
   obtain ⟨its, r, pl, hz⟩ := I.tuple hx
   have hlen := r.length
   exact truthy_tuple pl (by simp only [List.size_toArray]; (first | lia | omega)) ⟨H, I.tok _, by rw [isEmpty_of r]; exact q⟩
  ·subst e'
   obtain ⟨hz, hS, vs, r, m⟩ : kvs.length <= sizeLine /\ (p == sysModules) = false /\ ∃ vs, KV kvs vs /\ s.heap.DictOf (mixKind X.prog X.w) p vs := I.hok p _ hx
   have hlen : kvs.length = vs.length := Paired.length r
   exact wpAny_truthy_dict hS m (by (first | lia | omega)) ⟨H, I.tok _, by rw [isEmpty_kv r]; exact q⟩
 | _ => exact (show False from e).elim
theorem pt_truth (ha : PE X a ta) (he : ∀ whole, isTrue a X.env whole = (do let v <- whole; standAt a.pos; holding [v] (truthy v))) :
  PT X a (fun σ H Q => ta σ H fun x H' => ∃ k, TruV X.K x H' k /\ Q k H') := by
 intro pins s σ H Q I h
 exact isTrue_plain (thn (ha pins s σ H _ I h) fun v s1 ⟨x, H1, I1, r1, q1⟩ => tru_ok pins s1 σ H1 x v Q I1 r1 q1) (he _)
theorem vals1 {x : V} {us : List Value} (r : Vals [x] us) : ∃ u, us = [u] /\ RelV x u := by
 cases r with
 | cons r1 r2 => cases r2; exact ⟨_, rfl, r1⟩
theorem vals2 {x y : V} {us : List Value} (r : Vals [x, y] us) : ∃ u w', us = [u, w'] /\ RelV x u /\ RelV y w' := by
 cases r with
 | cons r1 r2 =>
  cases r2 with
  | cons r3 r4 => cases r4; exact ⟨_, _, rfl, r1, r3⟩
theorem call_int1 : CallR X (.type "int") (fun xs H Q => (∃ i, xs = [.int i] /\ Q (.int i) H) ∨ ∃ k, xs = [.bl k] /\ Q (.int (if k then 1 else 0)) H) := by
 intro pins s σ H xs us Q I r h
 rcases h with ⟨i, rfl, q⟩ | ⟨k, rfl, q⟩
 ·obtain ⟨u, rfl, t, rfl⟩ := vals1 r
  exact call_int_int ⟨.int i, H, I, ⟨_, rfl⟩, q⟩
 ·obtain ⟨u, rfl, r1⟩ := vals1 r
  cases r1
  exact call_int_bool ⟨.int (if k then 1 else 0), H, I.tok _, ⟨_, rfl⟩, q⟩
end
end L2
namespace L2
open PySem PySem.Spec PyProof.Rows
structure ObjM (h : Heap) (x dx C : Addr) (mA : Str -> Option Value) : Prop where
 obj : h.get? x = some (PySem.W.instObj C dx)
 ns : h.Ns1 dx mA
 ne : dx ≠ x
theorem lookIn_ns {h : Heap} {dx : Addr} {mA : Str -> Option Value} (n : h.Ns1 dx mA) : ∃ od, h.get? dx = some od /\ ∀ name, PySem.W.lookIn name od = some (mA name) := by
 obtain ⟨o, es, ep, ho, hd, hk, _, hm⟩ := n
 refine ⟨o, ho, fun name => ?_⟩
 have e := hm name
 unfold nsFind findBy at e
 rw [<- Array.find?_toList] at e
 unfold PySem.W.lookIn
 rw [hd]
 dsimp only
 split
 ·rename_i y q
  rw [q] at e
  exact congrArg some e
 ·rename_i q
  rw [q] at e
  have a : es.toList.any (·.refKey) = false := by
   rw [List.any_eq_false]
   intro y hy
   obtain ⟨z, t, hkey⟩ := hk y (Array.mem_toList_iff.mp hy)
   simp [DictEntry.refKey, hkey]
  have a' : ¬ es.toList.any (·.refKey) = true := by rw [a]; exact Bool.false_ne_true
  rw [if_neg a']
  exact congrArg some e
theorem ObjM.look {h : Heap} {x dx C : Addr} {mA : Str -> Option Value} (I : ObjM h x dx C mA) : ∃ od, PySem.W.InstAt h x (PySem.W.instObj C dx) C (some od) /\ ∀ name, PySem.W.lookIn name od = some (mA name) :=
 let ⟨od, ho, hl⟩ := lookIn_ns I.ns
 ⟨od, ⟨I.obj, rfl, rfl, ho⟩, hl⟩
section
variable {prog : Program} {w : World} {A : Around} {E : Value -> Shared -> Prop} {s : Shared} {K : PySem.W.Frag} {x dx C f : Addr} {mA : Str -> Option Value} {name : Str} {v : Value}
end
section
variable {P : Program} {w : World} {H H' : Hp} {h h' : Heap} {a C dx : Addr} {fs fs' : List (Str × V)}
theorem ins_get (hok : HOk P w H h) (e : H a = some (.ins C dx fs)) : ∃ mA, ObjM h a dx C mA /\ (∀ f, RelO (fs.lookup f) (mA f)) /\ PySem.Within mA (fs.map (·.1)) /\ fs.length <= 1000 /\ H dx = some (.own a) := by
 obtain ⟨d, z, ne, ob, mA, n, r, q⟩ := (show ObjOk P w H h a (.ins C dx fs) from hok a _ e)
 exact ⟨mA, ⟨ob, n, ne⟩, r, q, z, d⟩
end
structure Cls (K : PySem.W.Frag) (C : Addr) : Prop where
 pg : PySem.W.plainGet K C Str.empty = true
 hd : PySem.W.hasDictIn K C = true
 po : PySem.W.plainOver K C = true
 sa : PySem.W.findIn K (.ref C) "__setattr__" = some (some (.builtin "object.__setattr__"))
theorem Cls.get {K : PySem.W.Frag} {C : Addr} (c : Cls K C) (f : Str) : PySem.W.plainGet K C f = true := c.pg
structure Con (K : PySem.W.Frag) (C : Addr) (f : Str) (v : V) (u : Value) : Prop where
 at_ : PySem.W.findIn K (.ref C) f = some (some u)
 rel : RelV v u
 get : PySem.W.specialIn K u "__get__" = some none
 cp : PySem.W.copiedNames.contains f = false
structure Meth (K : PySem.W.Frag) (C : Addr) (m : Str) (f : Addr) : Prop where
 at_ : PySem.W.findIn K (.ref C) m = some (some (.ref f))
 fn : PySem.W.isFn K (.ref f) = true
 kp : PySem.W.keepIn K (.ref f) = true
section
variable {X : Cx} {pins : List (Addr × Obj)} {σ : St} {H : Hp} {s : Shared} {a C dx : Addr} {fs : List (Str × V)} {f : Str} {v : V} {A : Around} {E : Value -> Shared -> Prop}
end
section
variable {X : Cx} {o e value : Expr} {f : Str} {pos pos' tpos : Pos} {ta tv : TE}
end
section
variable {X : Cx} {pins : List (Addr × Obj)} {σ : St} {H : Hp} {s : Shared} {A : Around} {E : Value -> Shared -> Prop} {Q : Value -> Shared -> Prop} {c : Value} {b : Bool}
inductive TyOf (K : PySem.W.Frag) (H : Hp) : V -> Value -> Prop where
 | non : TyOf K H .non (.type "NoneType")
 | bl (x : Bool) : TyOf K H (.bl x) (.type "bool")
 | int (i : Int) : TyOf K H (.int i) (.type "int")
 | str (x : Str) : TyOf K H (.str x) (.type "str")
 | flt (x : UInt64) : TyOf K H (.flt x) (.type "float")
 | lst {a : Addr} {xs : List V} (e : H a = some (.lst xs)) : TyOf K H (.ref a) (.type "list")
 | frz {a : Addr} {o : Obj} {xs : List V} (e : H a = some (.frz o (.lst xs))) : TyOf K H (.ref a) (.type "list")
 | tup {a : Addr} {xs : List V} (e : H a = some (.tup xs)) : TyOf K H (.ref a) (.type "tuple")
 | dK {a : Addr} {kvs : List (Key × V)} (e : H a = some (.dK kvs)) : TyOf K H (.ref a) (.type "dict")
 | dT {a : Addr} {kvs : List (List Key × V)} (e : H a = some (.dT kvs)) : TyOf K H (.ref a) (.type "dict")
 | ins {a C dx : Addr} {fs : List (Str × V)} (e : H a = some (.ins C dx fs)) (cl : Cls K C) (ha : PySem.W.findIn K (.ref C) "__class__" = some (some (.builtin "object.__class__")))
   (hn : PySem.W.specialIn K (.builtin "object.__class__") "__get__" = some (some (.builtin "getset_descriptor.__get__"))) (htk : PySem.W.takesIn K (.builtin "object.__class__") = some true)
   (hm : PySem.W.mroIn K C (.type "object") = some true) : TyOf K H (.ref a) (.ref C)
theorem isinst_ok {x : V} {u t : Value} (I : Inv X pins σ H s) (rx : RelV x u) (ty : TyOf X.K H x t) (e : PySem.W.kitOne X.K t c = some b) (h : ∀ tk, Q (.bool b) { s with toks := tk }) :
  wpAny (model X.prog X.w) A (call (.builtin "isinstance") [u, c]) Q E s := by
 cases ty with
 | non => cases (show u = Value.none from rx); exact PySem.W.kia_one PySem.W.kitx_none I.kIn True.intro e (fun z => nomatch z) h
 | bl y => cases (show u = Value.bool y from rx); exact PySem.W.kia_one PySem.W.kitx_bool I.kIn True.intro e (fun z => nomatch z) h
 | int i => obtain ⟨t, q⟩ := (show ∃ t, u = Value.int i t from rx); cases q; exact PySem.W.kia_one PySem.W.kitx_int I.kIn True.intro e (fun z => nomatch z) h
 | str y => obtain ⟨t, q⟩ := (show ∃ t, u = Value.str y t from rx); cases q; exact PySem.W.kia_one PySem.W.kitx_str I.kIn True.intro e (fun z => nomatch z) h
 | flt y => obtain ⟨t, q⟩ := (show ∃ t, u = Value.float y t from rx); cases q; exact PySem.W.kia_one PySem.W.kitx_float I.kIn True.intro e (fun z => nomatch z) h
 | @lst a xs ea =>
  cases (show u = Value.ref a from rx)
  obtain ⟨_, _, n, _, h1⟩ := (show ObjOk X.prog X.w H s.heap a (.lst xs) from I.hok a _ ea)
  exact PySem.W.kia_one PySem.W.kitx_list I.kIn ⟨_, h1, rfl⟩ e (fun z => nomatch z) h
 | @frz a ob xs ea =>
  cases (show u = Value.ref a from rx)
  obtain ⟨_, _, _, n, _, h1⟩ := (show ObjOk X.prog X.w H s.heap a (.frz ob (.lst xs)) from I.hok a _ ea)
  exact PySem.W.kia_one PySem.W.kitx_list I.kIn ⟨_, h1, rfl⟩ e (fun z => nomatch z) h
 | @tup a xs ea =>
  cases (show u = Value.ref a from rx)
  obtain ⟨_, _, _, p⟩ := (show ObjOk X.prog X.w H s.heap a (.tup xs) from I.hok a _ ea)
  obtain ⟨o, h1, h2, _⟩ := p
  exact PySem.W.kia_one PySem.W.kitx_tuple I.kIn ⟨o, h1, h2⟩ e (fun z => nomatch z) h
 | @dK a kvs ea =>
  cases (show u = Value.ref a from rx)
  obtain ⟨_, _, vs, _, p⟩ := (show ObjOk X.prog X.w H s.heap a (.dK kvs) from I.hok a _ ea)
  obtain ⟨o, es, ep, h1, h2, _⟩ := p
  exact PySem.W.kia_one PySem.W.kitx_dict I.kIn ⟨o, h1, h2.1⟩ e (fun z => nomatch z) h
 | @dT a kvs ea =>
  cases (show u = Value.ref a from rx)
  obtain ⟨_, _, xs, _, o, es, ep, h1, h2, _⟩ := (show ObjOk X.prog X.w H s.heap a (.dT kvs) from I.hok a _ ea)
  exact PySem.W.kia_one PySem.W.kitx_dict I.kIn ⟨o, h1, h2.1⟩ e (fun z => nomatch z) h
 | @ins a C dx fs ea cl ha hn htk hm =>
  cases (show u = Value.ref a from rx)
  obtain ⟨mA, O, _⟩ := ins_get I.hok ea
  obtain ⟨od, J, _⟩ := O.look
  exact PySem.W.kia_one (PySem.W.kitx_own (cl.get _) cl.hd ha hn htk hm) I.kIn J e (fun z => nomatch z) h
end
end L2
namespace L2
open PySem PySem.Spec PyProof.Rows
structure Room (k : Nat) (A : Around) : Prop where
 hd : A.handled = none
 dp : A.depth + 3 * k + 5 < recursionLimit
 un : A.units + 16 * k + 200 < cLine
 gd : A.guards = some []
theorem Room.mono {j k : Nat} {A : Around} (r : Room k A) (h : j <= k) : Room j A := ⟨r.hd, by have := r.dp; (first | lia | omega), by have := r.un; (first | lia | omega), r.gd⟩
theorem Room.deeper {k : Nat} {A : Around} (r : Room (k + 1) A) (env : Env) : Room k (A.deeper env) :=
 ⟨r.hd, by have := r.dp; show A.depth + 1 + 3 * k + 5 < _; (first | lia | omega), by have := r.un; show A.units + 3 + 16 * k + 200 < _; (first | lia | omega), r.gd⟩
theorem Room.depth {k : Nat} {A : Around} (r : Room k A) : A.depth < recursionLimit := by have := r.dp; (first | lia | omega)
theorem Room.units {k : Nat} {A : Around} (r : Room k A) : A.units + 64 < cLine := by have := r.un; (first | lia | omega)
noncomputable def tNil : TA := fun _ H Q => Q [] H
noncomputable def tCons (ta : TE) (tr : TA) : TA := fun σ H Q => ta σ H fun x H1 => tr σ H1 fun xs H2 => Q (x :: xs) H2
section
variable {X : Cx} {e : Expr} {es : List Expr} {te : TE} {t : TA} {pos : Pos}
theorem pa_nil : PA X [] tNil := fun _ _ _ _ H Q I h => Calls.spliced_nil ⟨[], H, I, .nil, h⟩
theorem pa_cons (ha : PE X e te) (hr : PA X es t) (hs : starEach (e :: es) X.env = (false, eval e X.env) :: starEach es X.env := by rfl) : PA X (e :: es) (tCons te t) := by
 intro pos pins s σ H Q I h
 rw [hs]
 show wpAny _ _ (spliced ((false, eval e X.env) :: backTo pos (starEach es X.env))) _ _ s
 refine Calls.spliced_cons (thn (ha pins s σ H _ I h) fun u s1 ⟨x, H1, I1, r1, q1⟩ => ?_)
 exact thn (hr pos pins s1 σ H1 _ I1 q1) fun us s2 ⟨xs, H2, I2, r2, q2⟩ => ⟨x :: xs, H2, I2, .cons r1 r2, q2⟩
noncomputable def tTup (t : TA) : TE := fun σ H Q => t σ H fun xs H1 => xs.length <= sizeLine /\ ∀ p, H1 p = none -> Q (.ref p) (upd H1 p (.tup xs))
noncomputable def tLst (t : TA) : TE := fun σ H Q => t σ H fun xs H1 => xs.length <= sizeLine /\ ∀ p, H1 p = none -> Q (.ref p) (upd H1 p (.lst xs))
theorem pe_tup {x1} (h : PA X es t) : PE X (.Tuple es x1 pos) (tTup t) := by
 intro pins s σ H Q I hq
 refine wpAny_Tuple_spliced (thn (h pos pins s σ H _ I hq) fun us s1 ⟨xs, H1, I1, r, z, q⟩ => ⟨by rw [<- r.length]; exact z, ?_⟩)
 have hf : H1 s1.heap.objs.size = none := I1.hok.fresh (Nat.le_refl _)
 refine ⟨.ref s1.heap.objs.size, upd H1 s1.heap.objs.size (.tup xs), I1.laid (t' := s1.toks) (fun b u e => Heap.get?_push_of_some _ e) (Nat.le_refl _) ?_, rfl, q _ hf⟩
 exact ⟨z, us, r, PTup.new⟩
theorem pe_lst (h : PA X es t) : PE X (.List es pos) (tLst t) := by
 intro pins s σ H Q I hq
 refine wpAny_List_spliced (thn (h pos pins s σ H _ I hq) fun us s1 ⟨xs, H1, I1, r, z, q⟩ => ⟨by rw [<- r.length]; exact z, ?_⟩)
 have hf : H1 s1.heap.objs.size = none := I1.hok.fresh (Nat.le_refl _)
 refine ⟨.ref s1.heap.objs.size, upd H1 s1.heap.objs.size (.lst xs), I1.laid (t' := s1.toks) (fun b u e => Heap.get?_push_of_some _ e) (Nat.le_refl _) ?_, rfl, q _ hf⟩
 exact ⟨z, us, 0, r, Heap.get?_push_size _ rfl⟩
end
noncomputable abbrev Sp := List V -> Hp -> VK -> XK -> Prop
noncomputable abbrev CXT := List Env -> Hp -> Shared -> XK -> Value -> Shared -> Prop
structure Env0 (P : Program) (w : World) (K : PySem.W.Frag) (mg : Str -> Option Value) (base : Heap) (A : Around) (outer : List Env) (s : Shared) (H : Hp) : Prop where
 frames : A.frames = some outer
 mod : Mod K mg base
 bs : ∀ b o, base.get? b = some o -> s.heap.get? b = some o /\ H b = none
 bsz : base.objs.size <= s.heap.objs.size
 funs : s.heap.FunFrames base outer
 frf : ∀ b ∈ frs outer, H b = none
 hok : HOk P w H s.heap
 bare : AllBare s.gens
noncomputable def CE (outer : List Env) (P : Program) (w : World) (H : Hp) (s : Shared) (Q : VK) (u : Value) (s' : Shared) : Prop :=
 ∃ v H', s'.os = s.os /\ AllBare s'.gens /\ Un (frs outer) [] H H' s.heap s'.heap /\ HOk P w H' s'.heap /\ RelV v u /\ Q v H'
noncomputable def CR (CX : CXT) (outer : List Env) (P : Program) (w : World) (H : Hp) (s : Shared) (Q : VK) (E : XK) (r : Result) (s' : Shared) : Prop :=
 match r with
 | .ok (.ret u) => CE outer P w H s Q u s'
 | .ok _ => False
 | .error e => CX outer H s E e s'
structure FnOk (P : Program) (w : World) (K : PySem.W.Frag) (mg : Str -> Option Value) (base : Heap) (CX : CXT) (k : Nat) (f : Addr) (fd : FuncData) (ps : List Str) (sp : Sp) : Prop where
 len : ∀ vs H Q E, sp vs H Q E -> vs.length = ps.length
 run : ∀ (A : Around) (outer : List Env) (s : Shared) (H : Hp) (args : Args) (us : List Value) (vs : List V) (Q : VK) (E : XK), Room k A -> Env0 P w K mg base A outer s H -> BindsTo s fd args (ps.zip us) -> Vals vs us -> sp vs H Q E ->
  codeAny (model P w) A (.call (.ref f) args) (CR CX outer P w H s Q E) s
theorem FnOk.mono {P : Program} {w : World} {K : PySem.W.Frag} {mg : Str -> Option Value} {base : Heap} {CX : CXT} {j k : Nat} {f : Addr} {fd : FuncData} {ps : List Str} {sp : Sp} (F : FnOk P w K mg base CX j f fd ps sp) (h : j <= k) :
  FnOk P w K mg base CX k f fd ps sp := ⟨F.len, fun A outer s H args us vs Q E hr => F.run A outer s H args us vs Q E (hr.mono h)⟩
section
variable {X : Cx} {pins : List (Addr × Obj)} {σ : St} {H : Hp} {s s' : Shared}
theorem Inv.env0 (I : Inv X pins σ H s) : Env0 X.prog X.w X.K X.mg X.base X.A X.stack s H :=
 ⟨I.ok.frames, I.ok.mod, I.bs, Nat.le_trans I.ok.bsz I.sz, I.stack, I.stkFree, I.hok, I.bare⟩
theorem Inv.after {Q : VK} {u : Value} (I : Inv X pins σ H s) (h : CE X.stack X.prog X.w H s Q u s') : EP X pins σ Q u s' := by
 obtain ⟨v, H', os, bare, un, hok, r, q⟩ := h
 obtain ⟨hh, g, d, t, os'⟩ := s'
 obtain rfl : os' = s.os := os
 exact ⟨v, H', I.call (h' := hh) (g' := g) (d' := d) (t' := t) (ch := []) un hok bare (fun b z => absurd z (by simp)), r, q⟩
end
noncomputable def tCall (sp : Sp) (dvs : List V) (E : XK) (t : TA) : TE := fun σ H Q => t σ H fun vs H1 => sp (vs ++ dvs) H1 Q E
noncomputable def Binds (K : PySem.W.Frag) (fd : FuncData) (ps : List Str) (ds : List Value) : Prop :=
 ∀ (s : Shared) (us : List Value), K.In s.heap -> (us ++ ds).length = ps.length -> BindsTo s fd ⟨us, []⟩ (ps.zip (us ++ ds))
theorem Binds.all {K : PySem.W.Frag} {fd : FuncData} {ps : List Str} (h : ∀ us : List Value, us.length = ps.length -> bindArgs fd ⟨us, []⟩ = pure (ps.zip us)) : Binds K fd ps [] := fun s us _ hl => by
 rw [List.append_nil] at hl ⊢
 exact .of_eq (h us hl)
noncomputable def Passes (CX : CXT) (X : Cx) (E : XK) : Prop := ∀ (pins : List (Addr × Obj)) (σ : St) (H : Hp) (s : Shared) (e : Value) (s' : Shared), Inv X pins σ H s -> CX X.stack H s E e s' -> X.xe e s'
section
variable {X : Cx} {CX : CXT} {k : Nat} {f C : Addr} {fd : FuncData} {ps : List Str} {sp : Sp} {dvs : List V} {ds : List Value} {E : XK} {x m : Str} {p pos apos : Pos} {e o : Expr} {es : List Expr} {ta : TE} {t : TA}
theorem run_fn {pins : List (Addr × Obj)} {σ : St} {H : Hp} {s : Shared} {Q : VK} {us : List Value} {vs : List V} (F : FnOk X.prog X.w X.K X.mg X.base CX k f fd ps sp) (hr : Room k X.A) (hb : Binds X.K fd ps ds) (hd : Vals dvs ds) (hx : Passes CX X E)
  (I : Inv X pins σ H s) (r : Vals vs us) (h : sp (vs ++ dvs) H Q E) : wpAny (model X.prog X.w) X.A (call (.ref f) us) (EP X pins σ Q) X.xe s := by
 have r2 : Vals (vs ++ dvs) (us ++ ds) := r.append hd
 have hl : (us ++ ds).length = ps.length := by rw [<- r2.length]; exact F.len _ _ _ _ h
 refine wpAny_call (codeAny_mono (F.run X.A X.stack s H ⟨us, []⟩ (us ++ ds) (vs ++ dvs) Q E hr I.env0 (hb s us I.kIn hl) r2 h) fun r s' hq => ?_)
 cases r with
 | error e => exact hx pins σ H s e s' I hq
 | ok fl =>
  cases fl with
  | ret u => exact I.after hq
  | next => exact False.elim hq
  | brk => exact False.elim hq
  | cont => exact False.elim hq
theorem pe_call (F : FnOk X.prog X.w X.K X.mg X.base CX k f fd ps sp) (hr : Room k X.A) (hg : Gl X x) (hm : X.mg x = some (.ref f)) (hk : PySem.W.keepIn X.K (.ref f) = true) (hb : Binds X.K fd ps ds) (hd : Vals dvs ds) (hx : Passes CX X E)
  (ha : PA X (e :: es) t) (hdb : (x == ("__debug__" : Str)) = false := by decide) (he : starEach (e :: es) X.env = (false, eval e X.env) :: starEach es X.env := by rfl) (hpl : (backTo pos (starEach es X.env)).any (·.1) = false := by rfl) :
  PE X (.Call (.Name x p) (e :: es) [] pos) (tCall sp dvs E t) := by
 intro pins s σ H Q I h
 refine wpAny_Call_Name_kw (ld_glob I hg hm ?_ hdb)
 refine PySem.W.callWith_K (h₀ := X.base) I.ok.mod.kin hk (thn (ha pos pins s σ H _ I h) fun us s1 ⟨vs, H1, I1, r, q⟩ => ⟨I1.kIn, ?_⟩) he hpl
 exact run_fn F hr hb hd hx I1 r q
structure Mk (K : PySem.W.Frag) (C f : Addr) : Prop where
 makes : PySem.W.makesIn K C = true
 init : PySem.W.findIn K (.ref C) "__init__" = some (some (.ref f))
 fn : PySem.W.isFn K (.ref f) = true
 kp : PySem.W.keepIn K (.ref C) = true
end
section
variable {X : Cx} {CX : CXT} {k : Nat} {f C : Addr} {fd : FuncData} {ps ks : List Str} {sp : Sp} {E : XK} {x m : Str} {p pos apos kpos : Pos} {e o : Expr} {es : List Expr} {kws : List Keyword} {te ta : TE} {t tk : TA} {nm : Option Str}
structure KBinds (K : PySem.W.Frag) (fd : FuncData) (ps ks : List Str) (g : List Value -> List Value -> List Value) (gV : List V -> List V -> List V) : Prop where
 to : ∀ (s : Shared) (us ws : List Value), K.In s.heap -> (g us ws).length = ps.length -> BindsTo s fd ⟨us, ks.zip ws⟩ (ps.zip (g us ws))
 rel : ∀ {vs : List V} {us : List Value} {zs : List V} {ws : List Value}, Vals vs us -> Vals zs ws -> Vals (gV vs zs) (g us ws)
variable {g : List Value -> List Value -> List Value} {gV : List V -> List V -> List V}
end
structure FnScope (N P : List Str) (sc : Scope) : Prop where
 kind : sc.kind = .function
 co : sc.isCoroutine = false
 gen : sc.isGenerator = false
 nd : N.Nodup
 pre : N.take P.length = P
 par : ∀ x ∈ P, sc.names.lookup x = some .local ∨ sc.names.lookup x = some .cell
 nofree : ∀ y ∈ sc.names, y.2 ≠ .free
theorem bindL_out {kindOf : Str -> Option NameKind} {x : Str} : ∀ {binds : List (Str × Value)} {m : Str -> Option Value}, (∀ v, (x, v) ∉ binds) -> bindL kindOf binds m x = m x
 | [], _, _ => rfl
 | (n, v) :: r, m, h => by
  unfold bindL
  rw [bindL_out fun w hw => h w (List.mem_cons_of_mem _ hw)]
  split
  ·have : x ≠ n := by rintro rfl; exact h v List.mem_cons_self
   simp [this]
  ·rfl
theorem bindC_out {kindOf : Str -> Option NameKind} {x : Str} : ∀ {binds : List (Str × Value)} {m : Str -> Option Value}, (∀ v, (x, v) ∉ binds) -> bindC kindOf binds m x = m x
 | [], _, _ => rfl
 | (n, v) :: r, m, h => by
  unfold bindC
  rw [bindC_out fun w hw => h w (List.mem_cons_of_mem _ hw)]
  split
  ·rfl
  ·have : x ≠ n := by rintro rfl; exact h v List.mem_cons_self
   simp [this]
theorem bindL_get {kindOf : Str -> Option NameKind} {x : Str} {v : Value} : ∀ {P : List Str} {vs : List Value} {i : Nat} {m : Str -> Option Value}, P.Nodup -> P[i]? = some x -> vs[i]? = some v -> kindOf x = some .local ->
  bindL kindOf (P.zip vs) m x = some v
 | [], _, _, _, _, h, _, _ => by simp at h
 | _ :: _, [], _, _, _, _, h, _ => by simp at h
 | p :: P, w :: vs, 0, m, nd, h1, h2, hk => by
  simp at h1 h2; subst h1; subst h2
  show bindL kindOf ((p, w) :: P.zip vs) m p = _
  unfold bindL
  rw [bindL_out fun v hv => (List.nodup_cons.mp nd).1 (List.of_mem_zip hv).1, if_pos hk]
  simp
 | p :: P, w :: vs, i + 1, m, nd, h1, h2, hk => by
  show bindL kindOf ((p, w) :: P.zip vs) m x = _
  unfold bindL
  exact bindL_get (i := i) (List.nodup_cons.mp nd).2 (by simpa using h1) (by simpa using h2) hk
theorem bindC_get {kindOf : Str -> Option NameKind} {x : Str} {v : Value} : ∀ {P : List Str} {vs : List Value} {i : Nat} {m : Str -> Option Value}, P.Nodup -> P[i]? = some x -> vs[i]? = some v -> kindOf x ≠ some .local ->
  bindC kindOf (P.zip vs) m x = some v
 | [], _, _, _, _, h, _, _ => by simp at h
 | _ :: _, [], _, _, _, _, h, _ => by simp at h
 | p :: P, w :: vs, 0, m, nd, h1, h2, hk => by
  simp at h1 h2; subst h1; subst h2
  show bindC kindOf ((p, w) :: P.zip vs) m p = _
  unfold bindC
  rw [bindC_out fun v hv => (List.nodup_cons.mp nd).1 (List.of_mem_zip hv).1, if_neg hk]
  simp
 | p :: P, w :: vs, i + 1, m, nd, h1, h2, hk => by
  show bindC kindOf ((p, w) :: P.zip vs) m x = _
  unfold bindC
  exact bindC_get (i := i) (List.nodup_cons.mp nd).2 (by simpa using h1) (by simpa using h2) hk
noncomputable def start (N : List Str) (vs : List V) : St := vs.map some ++ List.replicate (N.length - vs.length) none
noncomputable def cxOf (CX : CXT) (P : Program) (w : World) (K : PySem.W.Frag) (mg : Str -> Option Value) (base : Heap) (N : List Str) (qual : Str) (scope : Scope) (f : Addr) (cd : Value) (A : Around) (outer : List Env) (s : Shared) (H : Hp) (E : XK) : Cx where
 prog := P
 w := w
 K := K
 mg := mg
 base := base
 A := A.deeper (envOfC qual scope s.heap.objs.size f cd)
 N := N
 s₀ := s
 H₀ := H
 env := envOfC qual scope s.heap.objs.size f cd
 outer := outer
 stack := envOfC qual scope s.heap.objs.size f cd :: outer
 ex := []
 calm := true
 fn := fun _ => true
 pn := []
 xe := fun e s' => wpAny (model P w) (A.deeper (envOfC qual scope s.heap.objs.size f cd)) (leaving (envOfC qual scope s.heap.objs.size f cd) e) (fun _ s'' => CX outer H s E e s'') (fun e' s'' => CX outer H s E e' s'') s'
theorem cell_has {sc : Scope} {n : Nat} {x : Str} (h : sc.names.lookup x = some .cell) : ∃ c, (cellsFrom n sc.names []).lookup x = some c := by
 have q := PySem.W.cellsFrom_some sc.names n [] (.inl h)
 exact Option.isSome_iff_exists.mp q
theorem inv_start {CX : CXT} {P : Program} {w : World} {K : PySem.W.Frag} {mg : Str -> Option Value} {base : Heap} {N ps : List Str} {qual : Str} {scope : Scope} {f : Addr} {cd : Value} {A : Around} {outer : List Env} {s s1 : Shared} {H : Hp} {E : XK} {us : List Value} {vs : List V}
  (S : FnScope N ps scope) (hd : A.handled = none) (e0 : Env0 P w K mg base A outer s H) (hl : vs.length = ps.length) (r : Vals vs us)
  (x : InCallC s s.heap.objs.size (bindL (envOfC qual scope s.heap.objs.size f cd).kindOf (ps.zip us) fun _ => none) (cellsFrom (s.heap.objs.size + 1) scope.names []) (bindC (envOfC qual scope s.heap.objs.size f cd).kindOf (ps.zip us) fun _ => none) s1) :
  Inv (cxOf CX P w K mg base N qual scope f cd A outer s H E) [] (start N vs) H s1 := by
 have hpl : ps.length <= N.length := by have := congrArg List.length S.pre; rw [List.length_take] at this; (first | lia | omega)
 obtain ⟨h1, tk, rfl, hk⟩ := x.done
 have noA : ∀ b : Addr, b ∉ (cxOf CX P w K mg base N qual scope f cd A outer s H E).ex := fun b z => absurd (show b ∈ ([] : List Addr) from z) (by simp)
 refine ⟨⟨e0.mod, S.kind, rfl, rfl, Nat.le_refl _, fun y z c h1 h2 => ?_, fun y hy => ?_, fun y c _ h => ?_, fun _ => hd, Around.frames_deeper e0.frames, .inr ⟨rfl, rfl⟩, fun b z => absurd z (noA b), e0.bs, e0.bsz, fun b _ _ => noA b, fun b z => absurd z (noA b), e0.funs, e0.frf⟩,
  rfl, e0.bare, Un.kept hk, ⟨_, x.toInCall.ns, fun i y v h1 h2 h3 => ?_⟩, fun y c h => ⟨_, x.cell y c h⟩, e0.hok.fresh (Nat.le_refl _), fun y c h => ?_, fun p hp => absurd (show p ∈ ([] : List (Addr × Obj)) from hp) (by simp), e0.hok.kept hk, ?_⟩
 ·exact name_of_addr x.apart (PySem.mem_of_lookup h1) (PySem.mem_of_lookup h2)
 ·have hy : scope.names.lookup y = some .cell ∨ scope.names.lookup y = some .free := hy
  rcases hy with hy | hy
  ·exact cell_has hy
  ·exact absurd rfl (S.nofree _ (PySem.mem_of_lookup hy))
 ·exact Nat.le_of_lt (x.above y c (PySem.mem_of_lookup h))
 ·have hi : i < vs.length := by
   unfold start at h2
   by_cases hi : i < vs.length
   ·exact hi
   ·rw [List.getElem?_append_right (by simpa using hi)] at h2
    rw [List.getElem?_replicate] at h2
    split at h2 <;> cases h2
  have ha : vs[i]? = some v := by
   unfold start at h2
   rw [List.getElem?_append_left (by simpa using hi), List.getElem?_map] at h2
   cases e : vs[i]? with
   | none => rw [e] at h2; cases h2
   | some a => rw [e] at h2; cases h2; rfl
  obtain ⟨u, hu, rv⟩ := r.get ha
  have hp : ps[i]? = some y := by
   rw [<- S.pre, List.getElem?_take_of_lt (by (first | lia | omega))]; exact h1
  have ndP : ps.Nodup := by rw [<- S.pre]; exact S.nd.sublist (List.take_sublist _ _)
  refine ⟨u, rv, ?_⟩
  rcases S.par y (List.mem_of_getElem? hp) with k | k
  ·exact .inl ⟨k, bindL_get ndP hp hu k⟩
  ·obtain ⟨c, e⟩ := cell_has (n := s.heap.objs.size + 1) k
   refine .inr ⟨.inl k, c, e, ?_⟩
   have q := x.cell y c e
   rw [bindC_get ndP hp hu (by show scope.names.lookup y ≠ _; rw [k]; decide)] at q
   exact q
 ·exact e0.hok.fresh (Nat.le_of_lt (x.above y c (PySem.mem_of_lookup h)))
 ·unfold start
  show _ = N.length
  rw [List.length_append, List.length_map, List.length_replicate]
  (first | lia | omega)
theorem fn_of {CX : CXT} {P : Program} {w : World} {K : PySem.W.Frag} {mg : Str -> Option Value} {base : Heap} {k : Nat} {f : Addr} {name qual : Str} {params : Arguments} {body : List Stmt} {scope : Scope} {dV kV doc pm cdv ct oc : Value} {an od : Option Addr}
  {osl : Array (Option Value)} {N ps : List Str} {sp : Sp} (lk : K.lookup f = some ⟨oc, od, .func (PySem.W.fnOf name qual params body scope dV kV doc pm an cdv ct), osl⟩) (hcd : PySem.W.codeIn K cdv qual = true) (S : FnScope N ps scope)
  (len : ∀ vs H Q E, sp vs H Q E -> vs.length = ps.length)
  (hbody : ∀ (A : Around) (outer : List Env) (s : Shared) (H : Hp) (vs : List V) (Q : VK) (E : XK), Room k (A.deeper (envOfC qual scope s.heap.objs.size f cdv)) -> sp vs H Q E ->
   ∃ t, PSs (cxOf CX P w K mg base N qual scope f cdv A outer s H E) body t /\ t { nx := fun _ H' => Q .non H', rt := Q } (start N vs) H) :
  FnOk P w K mg base CX (k + 1) f (PySem.W.fnOf name qual params body scope dV kV doc pm an cdv ct) ps sp := by
 refine ⟨len, fun A outer s H args us vs Q E hr e0 hb r hsp => ?_⟩
 have hl := len _ _ _ _ hsp
 have KX : K.In s.heap := e0.mod.kin.keeps fun b o e => (e0.bs b o e).1
 have lim : s.heap.NoLimit := e0.mod.nolimit.keeps fun b o e => (e0.bs b o e).1
 have hkind : ∀ y ∈ ps.zip us, scope.names.lookup y.1 = some .local ∨ (scope.names.lookup y.1 = some .cell /\ ((cellsFrom (s.heap.objs.size + 1) scope.names []).lookup y.1).isSome = true) := fun ⟨n, v⟩ hy => by
  rcases S.par n (List.of_mem_zip hy).1 with q | q
  ·exact .inl q
  ·exact .inr ⟨q, PySem.W.cellsFrom_some _ _ _ (.inl q)⟩
 refine codeAny_call_function hr.depth (KX _ _ lk) rfl S.co S.gen rfl (PySem.W.codeRec_of KX hcd) (hb _ _ _ _ ?_)
 refine wpAny_newFunctionEnv_cells S.kind hkind fun env he s1 x => ?_
 subst he
 refine ⟨lim.keeps x.toInCall.keep, codeAny_func ?_⟩
 obtain ⟨t, ht, hq⟩ := hbody A outer s H vs Q E (hr.deeper _) hsp
 have I : Inv (cxOf CX P w K mg base N qual scope f cdv A outer s H E) [] (start N vs) H s1 := inv_start S hr.hd e0 hl r x
 refine wpAny_mono (ht [] s1 (start N vs) H _ I hq) (fun fl s' hs => ?_) fun e s' hs => hs
 have fin : ∀ {σ' : St} {H' : Hp} {v : V} {u : Value}, Inv (cxOf CX P w K mg base N qual scope f cdv A outer s H E) [] σ' H' s' -> RelV v u -> Q v H' -> CE outer P w H s Q u s' :=
  fun {σ' H' v u} J rv q => ⟨v, H', J.os, J.bare, J.base, J.hok, rv, q⟩
 cases fl with
 | ret u =>
  obtain ⟨v, σ', H', J, rv, q⟩ := hs
  exact fin J rv q
 | next =>
  obtain ⟨σ', H', J, q⟩ := hs
  exact fin (v := V.non) (u := Value.none) J rfl q
 | brk =>
  obtain ⟨_, _, _, q⟩ := hs
  exact False.elim q
 | cont =>
  obtain ⟨_, _, _, q⟩ := hs
  exact False.elim q
end L2
namespace L2
open PySem PySem.Spec PyProof.Rows
section
variable {X : Cx} {x : Str} {p pos : Pos} {e : Expr} {es : List Expr} {t : TA} {id T : String} {r : List V -> Hp -> VK -> Prop}
noncomputable def tCB (r : List V -> Hp -> VK -> Prop) (t : TA) : TE := fun σ H Q => t σ H fun vs H1 => r vs H1 Q
theorem pe_callB (hc : CallR X (.builtin id) r) (hg : Gl X x) (hm : X.mg x = none) (hv : bootBuiltins x = some (.builtin id)) (ha : PA X (e :: es) t) (hn : x ≠ "__name__" := by decide) (hdb : (x == ("__debug__" : Str)) = false := by decide)
  (he : starEach (e :: es) X.env = (false, eval e X.env) :: starEach es X.env := by rfl) (hpl : (backTo pos (starEach es X.env)).any (·.1) = false := by rfl) : PE X (.Call (.Name x p) (e :: es) [] pos) (tCB r t) := by
 intro pins s σ H Q I h
 refine wpAny_Call_Name_kw (ld_blt I hg hm hv ?_ hn hdb)
 exact PyProof.Rows.callWith_builtin1 (thn (ha pos pins s σ H _ I h) fun us s1 ⟨vs, H1, I1, r1, q1⟩ => hc pins s1 σ H1 vs us Q I1 r1 q1) he hpl
theorem pe_callTy (hc : CallR X (.type T) r) (hg : Gl X x) (hm : X.mg x = none) (hv : bootBuiltins x = some (.type T)) (ha : PA X (e :: es) t) (hn : x ≠ "__name__" := by decide) (hdb : (x == ("__debug__" : Str)) = false := by decide)
  (he : starEach (e :: es) X.env = (false, eval e X.env) :: starEach es X.env := by rfl) (hpl : (backTo pos (starEach es X.env)).any (·.1) = false := by rfl) : PE X (.Call (.Name x p) (e :: es) [] pos) (tCB r t) := by
 intro pins s σ H Q I h
 refine wpAny_Call_Name_kw (ld_blt I hg hm hv ?_ hn hdb)
 exact PyProof.Rows.callWith_type1 (thn (ha pos pins s σ H _ I h) fun us s1 ⟨vs, H1, I1, r1, q1⟩ => hc pins s1 σ H1 vs us Q I1 r1 q1) he hpl
end
end L2
namespace HT
open PySem PyProof.Rows
noncomputable def lexLt : List Int -> List Int -> Bool
 | [], [] => false
 | [], _ :: _ => true
 | _ :: _, [] => false
 | x :: xs, y :: ys => if x = y then lexLt xs ys else decide (x < y)
theorem lexLt_cons (x y : Int) (xs ys : List Int) : lexLt (x :: xs) (y :: ys) = if x = y then lexLt xs ys else decide (x < y) := rfl
theorem lexLt_nil_cons (y : Int) (ys : List Int) : lexLt [] (y :: ys) = true := rfl
theorem lexLt_cons_nil (x : Int) (xs : List Int) : lexLt (x :: xs) [] = false := rfl
section
open PySem.SeqAt
open PySem.AutoSeq1 (wpAny_loadPart')
open PySem.MeetsSeq PySem.MeetsSeq2 PySem.MeetsSeq3
end
section
variable {prog : Program} {w : World} {A : Around} {E : Value -> Shared -> Prop} {s : Shared}
theorem cat_tup {t b : Addr} {vs ws : List Value} {Q : Value -> Shared -> Prop} (ht : IsTup s.heap t vs.toArray) (hb : IsTup s.heap b ws.toArray) (hv : vs ≠ [])
  (h1 : ws = [] -> Q (.ref t) s) (h2 : ws ≠ [] -> Q (.ref s.heap.objs.size) { s with heap := s.heap.push { cls := .type "tuple", data := .seq (vs ++ ws).toArray } })
  (hsz : vs.length + ws.length <= sizeLine) : wpAny (model prog w) A (binaryOp .Add (.ref t) (.ref b)) Q E s := by
 obtain ⟨⟨cls, dd, data, sl⟩, ho, hc, n, hd⟩ := id ht
 obtain ⟨⟨cls2, dd2, data2, sl2⟩, ho2, hc2, n2, hd2⟩ := id hb
 simp only at hc hd hc2 hd2
 subst hc hd hc2 hd2
 have e : vs.toArray ++ ws.toArray = (vs ++ ws).toArray := by simp
 by_cases hw : ws = []
 ·exact concat_meets ⟨_, ho, rfl⟩ ⟨_, ho2, rfl⟩ noFill_tuple_add seq_tuple_add PySem.F.slot_tuple_add PySem.F.entry_tuple_add (PySem.F.args_tuple_add_2 _ _)
   (tuple_addW1 t b vs.toArray ws.toArray n n2 dd dd2 sl sl2 (by simpa using hv) (by simp [hw])) ⟨ho, ho2, h1 hw⟩
 ·refine concat_meets ⟨_, ho, rfl⟩ ⟨_, ho2, rfl⟩ noFill_tuple_add seq_tuple_add PySem.F.slot_tuple_add PySem.F.entry_tuple_add (PySem.F.args_tuple_add_2 _ _)
   (tuple_addW2 t b vs.toArray ws.toArray n n2 dd dd2 sl sl2 (by simpa using hv) (by simpa using hw) (by rw [List.size_toArray, List.size_toArray]; exact hsz)) ⟨ho, ho2, ?_⟩
  rw [e]
  exact h2 hw
noncomputable def sIx (n d : Nat) : Option Int -> Nat
 | none => d
 | some v => if v < 0 then (v + (n : Int)).toNat else min v.toNat n
theorem sIx_le (n d : Nat) (hd : d <= n) (o : Option Int) : sIx n d o <= n := by
 cases o with
 | none => exact hd
 | some v =>
  show (if v < 0 then (v + (n : Int)).toNat else min v.toNat n) <= n
  by_cases hv : v < 0
  ·rw [if_pos hv]; (first | lia | omega)
  ·rw [if_neg hv]; exact Nat.min_le_right _ _
theorem clip_eq (v : Int) (n d : Nat) : (if v < 0 then max (v + (n : Int)) 0 else min v (n : Int)) = ((sIx n d (some v) : Nat) : Int) := by
 show (if v < 0 then max (v + (n : Int)) 0 else min v (n : Int)) = (((if v < 0 then (v + (n : Int)).toNat else min v.toNat n) : Nat) : Int)
 by_cases hv : v < 0
 ·simp only [if_pos hv]; (first | lia | omega)
 ·simp only [if_neg hv]; (first | lia | omega)
theorem adjust_gen (lo hi : Option Int) (n : Nat) : Builtin.Slice.sliceAdjust lo hi 1 (n : Int) = (((sIx n 0 lo : Nat) : Int), ((sIx n n hi : Nat) : Int)) := by
 have h1 : ¬ ((1 : Int) < 0) := by (first | lia | omega)
 unfold Builtin.Slice.sliceAdjust
 simp only [h1, if_false]
 refine Prod.ext ?_ ?_
 ·cases lo with
  | none => rfl
  | some v => exact clip_eq v n 0
 ·cases hi with
  | none => rfl
  | some v => exact clip_eq v n n
theorem places_gen (i j : Nat) : Builtin.Slice.slicePlaces (i : Int) (j : Int) 1 = j - i := by
 unfold Builtin.Slice.slicePlaces
 have h1 : (1 : Int) > 0 := by (first | lia | omega)
 simp only [h1, if_true, Int.ediv_one]
 split <;> (first | lia | omega)
theorem slicePart_ {v : Value} {o : Option Int} {Q : Option Int -> Shared -> Prop} (p : IsPart v o) (h : Q o s) : wpAny (model prog w) A (Builtin.Slice.slicePartIndex v) Q E s := by
 cases p with
 | none => exact slicePart_none h
 | int i t => exact slicePart_int h
theorem sliceApplied_gen {sl : Addr} {vl vu : Value} {lo hi : Option Int} {n : Nat} {Q : Int × Int × Nat -> Shared -> Prop} (hs : s.heap.IsSliceOf sl vl vu .none) (pl : IsPart vl lo) (pu : IsPart vu hi)
  (h : Q (((sIx n 0 lo : Nat) : Int), 1, sIx n n hi - sIx n 0 lo) s) : wpAny (model prog w) A (Builtin.Slice.sliceApplied (.ref sl) (pure (n : Int))) Q E s := by
 obtain ⟨os, hos, hcs, hds⟩ := id hs
 unfold Builtin.Slice.sliceApplied Builtin.Slice.sliceFields
 refine wpAny_bind (wpAny_bind (wpAny_field hos hds (x := vl) rfl (wpAny_bind (wpAny_field hos hds (x := vu) rfl (wpAny_bind (wpAny_field hos hds (x := .none) rfl (wpAny_pure ?_)))))))
 refine wpAny_bind (slicePart_none ?_)
 show wpAny _ _ (if ((1 : Int) == 0) = true then _ else _) _ _ s
 rw [if_neg (by decide)]
 refine wpAny_bind (slicePart_ pl (wpAny_bind (slicePart_ pu (wpAny_bind (wpAny_pure ?_)))))
 show wpAny _ _ (match Builtin.Slice.sliceAdjust lo hi 1 (n : Int) with | (lo, hi) => pure (lo, (1 : Int), Builtin.Slice.slicePlaces lo hi 1)) _ _ s
 rw [adjust_gen lo hi n]
 show wpAny _ _ (pure (((sIx n 0 lo : Nat) : Int), (1 : Int), Builtin.Slice.slicePlaces ((sIx n 0 lo : Nat) : Int) ((sIx n n hi : Nat) : Int) 1)) _ _ s
 rw [places_gen]
 exact wpAny_pure h
theorem pick_gen (xs : Array Value) (i k : Nat) : ((List.range k).filterMap fun (m : Nat) => xs[((i : Int) + (m : Int) * 1).toNat]?).toArray = ((xs.toList.drop i).take k).toArray := by
 have e : (fun (m : Nat) => xs[((i : Int) + (m : Int) * 1).toNat]?) = fun m => xs[i + m]? := by
  funext m
  have : ((i : Int) + (m : Int) * 1).toNat = i + m := by (first | lia | omega)
  rw [this]
 rw [e]
 have := pick_run xs i k
 rw [List.filterMap_map] at this
 have e2 : ((fun x => xs[x]?) ∘ fun x => i + x) = fun m => xs[i + m]? := rfl
 rw [e2] at this
 rw [this]
theorem getItem_tuple_cut {t sl : Addr} {items : Array Value} {vl vu : Value} {lo hi : Option Int} {Q : Value -> Shared -> Prop} (ht : IsTup s.heap t items) (hs : s.heap.IsSliceOf sl vl vu .none) (pl : IsPart vl lo) (pu : IsPart vu hi)
  (hw : ¬ (sIx items.size 0 lo = 0 /\ sIx items.size items.size hi = items.size))
  (h : Q (.ref s.heap.objs.size) { s with heap := s.heap.push { cls := .type "tuple", data := .seq ((items.toList.drop (sIx items.size 0 lo)).take (sIx items.size items.size hi - sIx items.size 0 lo)).toArray } })
  (hsz : items.size <= sizeLine) : wpAny (model prog w) A (getItem (.ref t) (.ref sl)) Q E s := by
 have htake : sizeOk (.seq ((items.toList.drop (sIx items.size 0 lo)).take (sIx items.size items.size hi - sIx items.size 0 lo)).toArray) := by
  show ((items.toList.drop (sIx items.size 0 lo)).take (sIx items.size items.size hi - sIx items.size 0 lo)).toArray.size <= sizeLine
  rw [List.size_toArray, List.length_take, List.length_drop, Array.length_toList]
  (first | lia | omega)
 have hj : sIx items.size items.size hi <= items.size := sIx_le _ _ (Nat.le_refl _) hi
 obtain ⟨os, hos, hcs, hds⟩ := id hs
 have hTs : s.TypeIs (.ref sl) "slice" := ⟨os, hos, hcs⟩
 unfold getItem
 try with_reducible refine wpAny_holding ?_
 first | refine wpAny_bind (wpAny_pure ?_) | skip
 refine wpAny_bind (wpAny_sequenceKey ht.typeIs (by decide) ?_)
 refine wpAny_bind (wpAny_callSpecial?_slot (name := Str.ofString "__getitem__") ht.typeIs PyProof.Rows.slot_tuple_getitem
  (wpAny_call_entry PyProof.Rows.slot_tuple_getitem ht.typeIs entry_tuple_getitem ?_ (args_tuple_getitem _ _)))
 show wpAny _ _ (Builtin.Tuple.tupleItemsOf (.ref t) >>= _) _ _ s
 refine wpAny_bind (tupleItemsOf_ ht ?_)
 refine wpAny_bind (wpAny_typeOf hTs ?_)
 rw [if_pos (by decide)]
 refine wpAny_bind (sliceApplied_gen hs pl pu ?_)
 have hno : ¬ ((((sIx items.size 0 lo : Nat) : Int) == 0 && (1 : Int) == 1 && (sIx items.size items.size hi - sIx items.size 0 lo) == items.size) = true) := by
  intro q
  rw [Bool.and_eq_true, Bool.and_eq_true] at q
  have q1 : ((sIx items.size 0 lo : Nat) : Int) = 0 := eq_of_beq q.1.1
  have q2 : sIx items.size items.size hi - sIx items.size 0 lo = items.size := eq_of_beq q.2
  exact hw ⟨by (first | lia | omega), by (first | lia | omega)⟩
 show wpAny _ _ (if (((sIx items.size 0 lo : Nat) : Int) == 0 && (1 : Int) == 1 && (sIx items.size items.size hi - sIx items.size 0 lo) == items.size) = true then _ else _) _ _ s
 rw [if_neg hno, pick_gen]
 first
  | exact wpAny_bind (m := Builtin.Tuple.tupleExact _) (wpAny_newObj_type (wpAny_pure ⟨_, rfl, wpAny_pure h⟩) htake)
  | exact wpAny_bind (m := Builtin.Tuple.tupleExact _) (wpAny_newObj_type (wpAny_bind (wpAny_pure (wpAny_pure ⟨_, rfl, wpAny_pure h⟩))) htake)
  | exact wpAny_bind (wpAny_bind (m := Builtin.Tuple.tupleExact _) (wpAny_newObj_type (wpAny_pure (wpAny_pure ⟨_, rfl, wpAny_pure h⟩)) htake))
  | exact wpAny_bind (wpAny_bind (m := Builtin.Tuple.tupleExact _) (wpAny_newObj_type (wpAny_pure ⟨_, rfl, wpAny_pure h⟩) htake))
end
end HT
namespace L2
open PySem PySem.Spec PyProof.Rows
noncomputable abbrev TO := St -> Hp -> (Option Int -> Hp -> Prop) -> Prop
noncomputable def PO (X : Cx) (e : Option Expr) (t : TO) : Prop :=
 ∀ (pins : List (Addr × Obj)) (s : Shared) (σ : St) (H : Hp) (Q : Option Int -> Hp -> Prop), Inv X pins σ H s -> t σ H Q ->
  wpAny (model X.prog X.w) X.A (evalPart e X.env) (fun u s' => ∃ o H', Inv X pins σ H' s' /\ IsPart u o /\ Q o H') X.xe s
noncomputable def tNoPart : TO := fun _ H Q => Q none H
noncomputable def tPart (t : TE) : TO := fun σ H Q => t σ H fun x H1 => ∃ i, x = .int i /\ Q (some i) H1
theorem intsAre_of {ns : List Int} : ∀ {us : List Value}, Vals (ns.map V.int) us -> IntsAre us ns := by
 induction ns with
 | nil => intro us r; rw [List.map_nil] at r; cases r; exact .nil
 | cons n ns ih =>
  intro us r
  rw [List.map_cons] at r
  cases r with
  | cons r1 r2 =>
   obtain ⟨t, e⟩ := r1
   subst e
   exact .cons n t (ih r2)
section
variable {X : Cx} {e : Expr} {te : TE} {lo hi : Option Expr} {tl th : TO} {pos p2 : Pos}
theorem po_none : PO X none tNoPart := by
 intro pins s σ H Q I h
 rw [evalPart_none]
 exact wpAny_pure ⟨none, H, I, .none, h⟩
theorem po_some (h : PE X e te) : PO X (some e) (tPart te) := by
 intro pins s σ H Q I hw
 rw [evalPart_some]
 refine thn (h pins s σ H _ I hw) fun u s1 ⟨x, H1, I1, r1, q1⟩ => ?_
 obtain ⟨i, rfl, q⟩ := q1
 obtain ⟨t, rfl⟩ := r1
 exact ⟨some i, H1, I1, .int i t, q⟩
noncomputable def SlR (X : Cx) (r : V -> Option Int -> Option Int -> Hp -> VK -> Prop) : Prop :=
 ∀ (pins : List (Addr × Obj)) (s : Shared) (σ : St) (H : Hp) (x : V) (v vl vu : Value) (lo hi : Option Int) (sl : Addr) (Q : VK), Inv X pins σ H s -> RelV x v -> s.heap.IsSliceOf sl vl vu .none -> IsPart vl lo -> IsPart vu hi -> r x lo hi H Q ->
  ∃ T id, typeLookup (.type T) "__getitem__" = pure (some (.builtin id)) /\ s.TypeIs v T /\ wpAny (model X.prog X.w) X.A (getItem v (.ref sl)) (EP X pins σ Q) X.xe s
noncomputable def tSl (r : V -> Option Int -> Option Int -> Hp -> VK -> Prop) (te : TE) (tl th : TO) : TE := fun σ H Q => te σ H fun x H1 => tl σ H1 fun l H2 => th σ H2 fun u H3 => r x l u H3 Q
theorem pe_slice {r : V -> Option Int -> Option Int -> Hp -> VK -> Prop} (hr : SlR X r) (he : PE X e te) (hl : PO X lo tl) (hu : PO X hi th) : PE X (.Subscript e (.Slice lo hi none p2) pos) (tSl r te tl th) := by
 intro pins s σ H Q I h
 refine Subscript_ (thn (he pins s σ H _ I h) fun v s1 ⟨x, H1, I1, r1, q1⟩ => ?_)
 refine wpAny_Slice (thn (hl pins s1 σ H1 _ I1 q1) fun vl s2 ⟨l, H2, I2, pl, q2⟩ => thn (hu pins s2 σ H2 _ I2 q2) fun vu s3 ⟨u, H3, I3, pu, q3⟩ => ?_)
 rw [evalPart_none]
 refine wpAny_pure ?_
 have I4 : Inv X pins σ H3 { s3 with heap := s3.heap.push { cls := .type "slice", data := .fields #[vl, vu, .none] } } := I3.kept (t' := s3.toks) fun b ob q => Heap.get?_push_of_some _ q
 obtain ⟨T, id, hT, ht, hg⟩ := hr pins { s3 with heap := s3.heap.push { cls := .type "slice", data := .fields #[vl, vu, .none] } } σ H3 x v vl vu l u s3.heap.objs.size Q I4 r1 (Heap.IsSliceOf.new ..) pl pu q3
 show wpAny (model X.prog X.w) X.A (subscriptTail e (.Slice lo hi none p2) v (.ref s3.heap.objs.size)) (EP X pins σ Q) X.xe { s3 with heap := s3.heap.push { cls := .type "slice", data := .fields #[vl, vu, .none] } }
 exact tail_any (ops := [.ref s3.heap.objs.size, v]) ht hT hg (by with_unfolding_all rfl)
noncomputable def cutV (xs : List V) (lo hi : Option Int) : List V := (xs.drop (HT.sIx xs.length 0 lo)).take (HT.sIx xs.length xs.length hi - HT.sIx xs.length 0 lo)
theorem cutV_length (xs : List V) (lo hi : Option Int) : (cutV xs lo hi).length <= xs.length := by
 unfold cutV
 rw [List.length_take, List.length_drop]
 (first | lia | omega)
noncomputable def rSlT (K : PySem.W.Frag) : V -> Option Int -> Option Int -> Hp -> VK -> Prop := fun x lo hi H Q => ∃ a xs, x = .ref a /\ SqT K H a xs /\
 ¬ (HT.sIx xs.length 0 lo = 0 /\ HT.sIx xs.length xs.length hi = xs.length) /\ ∀ p, H p = none -> Q (.ref p) (upd H p (.tup (cutV xs lo hi)))
theorem sl_tup : SlR X (rSlT X.K) := by
 intro pins s σ H x v vl vu lo hi sl Q I rx hs pl pu h
 obtain ⟨a, xs, rfl, hx, hw, q⟩ := h
 cases rx
 obtain ⟨its, r, ht, hz⟩ := I.tuple hx
 have hlen : its.toArray.size = xs.length := by rw [List.size_toArray]; exact r.length.symm
 refine ⟨"tuple", _, PyProof.Rows.slot_tuple_getitem.lookup, ht.typeIs, ?_⟩
 refine HT.getItem_tuple_cut ht hs pl pu (by rw [hlen]; exact hw) ?_ (by rw [hlen]; exact hz)
 rw [hlen]
 refine ⟨.ref s.heap.objs.size, _, I.laid (t' := s.toks) (o := .tup (cutV xs lo hi)) (fun b ob q => Heap.get?_push_of_some _ q) (Nat.le_refl _) ?_, rfl, q _ (I.hok.fresh (Nat.le_refl _))⟩
 exact ⟨Nat.le_trans (cutV_length xs lo hi) hz, _, (r.drop (HT.sIx xs.length 0 lo)).take (HT.sIx xs.length xs.length hi - HT.sIx xs.length 0 lo), PTup.new⟩
noncomputable def rCatT (K : PySem.W.Frag) : R2 := fun x y H Q => ∃ a b xs ys, x = .ref a /\ y = .ref b /\ SqT K H a xs /\ SqT K H b ys /\ xs ≠ [] /\ xs.length + ys.length <= sizeLine /\
 (ys = [] -> Q (.ref a) H) /\ (ys ≠ [] -> ∀ p, H p = none -> Q (.ref p) (upd H p (.tup (xs ++ ys))))
theorem Vals.nil_iff {xs : List V} {us : List Value} (r : Vals xs us) : us = [] ↔ xs = [] := by
 cases r with
 | nil => simp
 | cons _ _ => simp
theorem op_catT : OpR X (binaryOp .Add) (rCatT X.K) := by
 intro pins s σ H x y v u Q I rx ry h
 obtain ⟨a, b, xs, ys, rfl, rfl, ha, hb, hx, hz, q1, q2⟩ := h
 cases rx
 cases ry
 obtain ⟨its, r1, p1, _⟩ := I.tuple ha
 obtain ⟨its2, r2, p2, _⟩ := I.tuple hb
 refine HT.cat_tup p1 p2 (fun z => hx (r1.nil_iff.mp z)) (fun z => ⟨.ref a, H, I, rfl, q1 (r2.nil_iff.mp z)⟩) (fun z => ?_) (by rw [<- r1.length, <- r2.length]; exact hz)
 refine ⟨.ref s.heap.objs.size, _, I.laid (t' := s.toks) (o := .tup (xs ++ ys)) (fun b ob q => Heap.get?_push_of_some _ q) (Nat.le_refl _) ?_, rfl, q2 (fun w => z (r2.nil_iff.mpr w)) _ (I.hok.fresh (Nat.le_refl _))⟩
 exact ⟨by rw [List.length_append]; exact hz, _, r1.append r2, PTup.new⟩
end
end L2
namespace L2
open PySem PySem.Spec PyProof.Rows
noncomputable def ixN (n : Nat) (i : Int) : Option Nat := if 0 <= i then (if i < n then some i.toNat else none) else if -(n : Int) <= i then some (i + n).toNat else none
noncomputable def atI {α : Type} (xs : List α) (i : Int) : Option α := (ixN xs.length i).bind fun j => xs[j]?
theorem ixN_seq {n : Nat} {i : Int} {j : Nat} (h : ixN n i = some j) : seqIndex? i n = some j /\ j < n /\ -(n : Int) <= i /\ i < n := by
 unfold ixN at h
 by_cases h0 : 0 <= i
 ·rw [if_pos h0] at h
  by_cases h1 : i < n
  ·rw [if_pos h1] at h
   have e : i.toNat = j := Option.some.inj h
   exact ⟨by rw [seqIndex_of h0 h1, e], by (first | lia | omega), by (first | lia | omega), h1⟩
  ·rw [if_neg h1] at h; cases h
 ·rw [if_neg h0] at h
  by_cases h1 : -(n : Int) <= i
  ·rw [if_pos h1] at h
   have e : (i + n).toNat = j := Option.some.inj h
   exact ⟨by rw [seqIndex_neg (by (first | lia | omega)) h1, e], by (first | lia | omega), h1, by (first | lia | omega)⟩
  ·rw [if_neg h1] at h; cases h
theorem atI_get {α : Type} {xs : List α} {i : Int} {v : α} (h : atI xs i = some v) : ∃ j, seqIndex? i xs.length = some j /\ xs[j]? = some v /\ j < xs.length /\ -(xs.length : Int) <= i /\ i < xs.length := by
 unfold atI at h
 cases e : ixN xs.length i with
 | none => rw [e] at h; cases h
 | some j =>
  rw [e] at h
  obtain ⟨h1, h2, h3, h4⟩ := ixN_seq e
  exact ⟨j, h1, h, h2, h3, h4⟩
theorem atI_nat {α : Type} {xs : List α} {j : Nat} {v : α} (h : xs[j]? = some v) : atI xs (j : Int) = some v := by
 have hj : j < xs.length := (List.getElem?_eq_some_iff.mp h).1
 have e : ixN xs.length (j : Int) = some j := by
  unfold ixN
  rw [if_pos (by (first | lia | omega)), if_pos (by (first | lia | omega))]; simp
 unfold atI; rw [e]; exact h
noncomputable def PlainIx (b : Expr) : Prop := ∀ o i, subscripted b false o i = operate [o, i] (getItem o i)
noncomputable def IxR (X : Cx) (r : R2) : Prop :=
 ∀ (value slice : Expr) (pins : List (Addr × Obj)) (s : Shared) (σ : St) (H : Hp) (x y : V) (v u : Value) (Q : VK), Inv X pins σ H s -> RelV x v -> RelV y u -> r x y H Q ->
  subscripted slice false v u = operate [v, u] (getItem v u) -> wpAny (model X.prog X.w) X.A (subscriptTail value slice v u) (EP X pins σ Q) X.xe s
noncomputable def MtR (X : Cx) (id : String) (r : V -> List V -> Hp -> VK -> Prop) : Prop :=
 ∀ (pins : List (Addr × Obj)) (s : Shared) (σ : St) (H : Hp) (x : V) (xs : List V) (v : Value) (us : List Value) (Q : VK), Inv X pins σ H s -> RelV x v -> Vals xs us -> r x xs H Q ->
  wpAny (model X.prog X.w) X.A (call (.builtin id) (v :: us)) (EP X pins σ Q) X.xe s
section
variable {X : Cx} {a b : Expr} {ta tb : TE} {pos : Pos}
theorem pe_ix {r : R2} (hr : IxR X r) (ha : PE X a ta) (hb : PE X b tb) (hs : PlainIx b) : PE X (.Subscript a b pos) (tOp r ta tb) := by
 intro pins s σ H Q I h
 exact Subscript_ (binT ha hb I h fun v u s2 x y H2 I2 rx ry q => hr a b pins s2 σ H2 x y v u Q I2 rx ry q (hs _ _))
noncomputable def rIxL (K : PySem.W.Frag) : R2 := fun x y H Q => ∃ p xs i v, x = .ref p /\ y = .int i /\ SqL K H p xs /\ atI xs i = some v /\ Q v H
noncomputable def rIxT (K : PySem.W.Frag) : R2 := fun x y H Q => ∃ p xs i v, x = .ref p /\ y = .int i /\ SqT K H p xs /\ atI xs i = some v /\ Q v H
theorem ix_list : IxR X (rIxL X.K) := by
 intro value slice pins s σ H x y v u Q I rx ry h hs
 obtain ⟨p, xs, i, z, rfl, rfl, hq, he, q⟩ := h
 cases rx
 obtain ⟨t, rfl⟩ := ry
 obtain ⟨its, r, pl, hz⟩ := I.list hq
 obtain ⟨j, h1, h2, h3, h4, h5⟩ := atI_get he
 obtain ⟨w, ew, rw'⟩ := r.get h2
 have hl := r.length
 have hn := line63
 have fin : EP X pins σ Q w s := ⟨z, H, I, rw', q⟩
 by_cases h0 : 0 <= i
 ·have hj : i.toNat = j := by
   rw [seqIndex_of h0 h5] at h1
   exact Option.some.inj h1
  exact item_listR pl.isList h0 (by (first | lia | omega)) (by rw [hj]; simpa using ew) fin hs
 ·have hj : (i + (its.toArray.size : Int)).toNat = j := by
   rw [seqIndex_neg (by (first | lia | omega)) h4] at h1
   rw [List.size_toArray, <- hl]
   exact Option.some.inj h1
  exact subscriptTail_builtinR (x := w) pl.isList.typeIs slot_list_getitem.lookup
   (wpAny_getItem_list_neg (Q := fun r s' => r = w /\ EP X pins σ Q r s') pl.isList (by (first | lia | omega)) (by rw [List.size_toArray] <;> (first | lia | omega)) (by (first | lia | omega)) (by rw [hj]; simpa using ew) ⟨rfl, fin⟩) hs
theorem ix_tup : IxR X (rIxT X.K) := by
 intro value slice pins s σ H x y v u Q I rx ry h hs
 obtain ⟨p, xs, i, z, rfl, rfl, hq, he, q⟩ := h
 cases rx
 obtain ⟨t, rfl⟩ := ry
 obtain ⟨its, r, pl, hz⟩ := I.tuple hq
 obtain ⟨j, h1, h2, h3, h4, h5⟩ := atI_get he
 obtain ⟨w, ew, rw'⟩ := r.get h2
 have hl := r.length
 have hn := line63
 have fin : EP X pins σ Q w s := ⟨z, H, I, rw', q⟩
 exact subscriptTail_builtinR (x := w) pl.typeIs slot_tuple_getitem.lookup
  (getItem_tuple (j := j) (Q := fun r s' => r = w /\ EP X pins σ Q r s') pl (by (first | lia | omega)) (by (first | lia | omega)) (by rw [List.size_toArray, <- hl]; exact h1) (by simpa using ew) ⟨rfl, fin⟩) hs
theorem mapSeq_set (its : List Value) (n j : Nat) (u : Value) : Obj.mapSeq (·.setIfInBounds j u) { cls := .type "list", data := .seq its.toArray n } = { cls := .type "list", data := .seq (its.set j u).toArray n } := by
 simp [Obj.mapSeq]
theorem Inv.lst {pins : List (Addr × Obj)} {σ : St} {H : Hp} {s : Shared} {p : Addr} {xs : List V} (I : Inv X pins σ H s) (h : H p = some (.lst xs)) :
  ∃ (its : List Value) (n : Nat), Vals xs its /\ s.heap.get? p = some { cls := .type "list", data := .seq its.toArray n } /\ xs.length <= sizeLine := by
 obtain ⟨z, its, n, r, e⟩ := I.hok p _ h
 exact ⟨its, n, r, e, z⟩
theorem Inv.lstUpd {pins : List (Addr × Obj)} {σ : St} {H : Hp} {s : Shared} {p : Addr} {xs ys : List V} {its its' : List Value} {n n' : Nat} {f : Obj -> Obj} (I : Inv X pins σ H s) (h : H p = some (.lst xs))
  (ho : s.heap.get? p = some { cls := .type "list", data := .seq its.toArray n }) (hf : f { cls := .type "list", data := .seq its.toArray n } = { cls := .type "list", data := .seq its'.toArray n' }) (r : Vals ys its') (hz : ys.length <= sizeLine) (t : Nat) :
  Inv X pins σ (upd H p (.lst ys)) { s with heap := s.heap.update p f, toks := t } := by
 have e : (s.heap.update p f).get? p = some { cls := .type "list", data := .seq its'.toArray n' } := by
  rw [Heap.get?_update_self f ho (by rw [hf] <;> rfl), hf]
 refine I.write (x := p) (e := p) (by rw [h]; trivial) (.inl rfl) (fun b u hb q => (Heap.get?_update_other _ _ (Ne.symm hb)).trans q) ⟨_, e⟩ ?_
 exact ⟨hz, its', n', r, e⟩
noncomputable def rSetL : V -> V -> V -> Hp -> (Hp -> Prop) -> Prop := fun o i v H Q => ∃ p xs k j, o = .ref p /\ i = .int k /\ H p = some (.lst xs) /\ ixN xs.length k = some j /\ Q (upd H p (.lst (xs.set j v)))
theorem set_list : PSet X rSetL := by
 intro pins s σ H o i v ov iv u Q I ro ri rv h
 obtain ⟨p, xs, k, j, rfl, rfl, hp, hj, q⟩ := h
 cases ro
 obtain ⟨t, rfl⟩ := ri
 obtain ⟨its, n, r, ho, hz⟩ := I.lst hp
 obtain ⟨h1, h2, h3, h4⟩ := ixN_seq hj
 have hl := r.length
 have hn := line63
 have I' : Inv X pins σ (upd H p (.lst (xs.set j v))) { s with heap := s.heap.update p (Obj.mapSeq (·.setIfInBounds j u)) } :=
  I.lstUpd hp ho (mapSeq_set its n j u) (r.set rv j) (by rw [List.length_set]; exact hz) s.toks
 by_cases h0 : 0 <= k
 ·have hk : k.toNat = j := by
   rw [seqIndex_of h0 h4] at h1
   exact Option.some.inj h1
  exact PySem.W.ki_setAt ho h0 (by (first | lia | omega)) (by rw [List.size_toArray, <- hl]; exact h4) (by rw [hk]; exact ⟨_, I', q⟩)
 ·have hk : (k + (its.toArray.size : Int)).toNat = j := by
   rw [seqIndex_neg (by (first | lia | omega)) h3] at h1
   rw [List.size_toArray, <- hl]
   exact Option.some.inj h1
  exact PySem.W.ki_setBack ho (by (first | lia | omega)) (by rw [List.size_toArray, <- hl]; exact h3) (by (first | lia | omega)) (by rw [hk]; exact ⟨_, I', q⟩)
theorem slice_bounds (lo hi : Option Int) (n : Nat) : (sliceBounds lo hi none n).1 = ((HT.sIx n 0 lo : Nat) : Int) /\ (sliceBounds lo hi none n).2.1 = ((HT.sIx n n hi : Nat) : Int) /\ (sliceBounds lo hi none n).2.2 = 1 := by
 refine ⟨?_, ?_, rfl⟩
 ·cases lo with
  | none => simp [sliceBounds, HT.sIx]
  | some i =>
   simp only [sliceBounds, HT.sIx, Option.getD_none, show (1 : Int) > 0 by decide, if_true]
   by_cases h : i < 0
   ·simp only [h, if_true] <;> (first | lia | omega)
   ·simp only [h, if_false] <;> (first | lia | omega)
 ·cases hi with
  | none => simp [sliceBounds, HT.sIx]
  | some i =>
   simp only [sliceBounds, HT.sIx, Option.getD_none, show (1 : Int) > 0 by decide, if_true]
   by_cases h : i < 0
   ·simp only [h, if_true] <;> (first | lia | omega)
   ·simp only [h, if_false] <;> (first | lia | omega)
theorem slicePick_cut (its : List Value) (lo hi : Option Int) : slicePick its.toArray lo hi none = ((its.drop (HT.sIx its.length 0 lo)).take (HT.sIx its.length its.length hi - HT.sIx its.length 0 lo)).toArray := by
 obtain ⟨h1, h2, h3⟩ := slice_bounds lo hi its.toArray.size
 unfold slicePick
 rw [h1, h2, h3]
 simp only [sliceRange_one, pick_run, List.size_toArray] <;> rfl
noncomputable def rSlL (K : PySem.W.Frag) : V -> Option Int -> Option Int -> Hp -> VK -> Prop := fun x lo hi H Q => ∃ a xs, x = .ref a /\ SqL K H a xs /\ ∀ p, H p = none -> Q (.ref p) (upd H p (.lst (cutV xs lo hi)))
theorem sl_list : SlR X (rSlL X.K) := by
 intro pins s σ H x v vl vu lo hi sl Q I rx hs pl pu h
 obtain ⟨a, xs, rfl, hx, q⟩ := h
 cases rx
 obtain ⟨its, r, ht, hz⟩ := I.list hx
 have hlen := r.length
 refine ⟨"list", _, slot_list_getitem.lookup, ht.isList.typeIs, ?_⟩
 refine wpAny_getItem_list_slice ht.isList hs pl pu .none (by simp) ?_ (by rw [List.size_toArray] <;> (first | lia | omega))
 rw [slicePick_cut, <- hlen]
 refine ⟨.ref s.heap.objs.size, _, I.laid (t' := s.toks) (o := .lst (cutV xs lo hi)) (fun b ob q => Heap.get?_push_of_some _ q) (Nat.le_refl _) ?_, rfl, q _ (I.hok.fresh (Nat.le_refl _))⟩
 exact ⟨Nat.le_trans (cutV_length xs lo hi) hz, _, 0, (r.drop (HT.sIx xs.length 0 lo)).take (HT.sIx xs.length xs.length hi - HT.sIx xs.length 0 lo), Heap.get?_push_size _ rfl⟩
noncomputable def flatV : V -> Bool
 | .non => true
 | .bl _ => true
 | .int _ => true
 | .str _ => true
 | _ => false
noncomputable def eqV : V -> V -> Bool
 | .non, .non => true
 | .bl a, .bl b => a == b
 | .bl a, .int b => (if a then 1 else 0) == b
 | .int a, .bl b => a == (if b then 1 else 0)
 | .int a, .int b => a == b
 | .str a, .str b => a == b
 | _, _ => false
theorem eqAt_V {A : Around} {s : Shared} {y x : V} {u v : Value} (ry : RelV y u) (rx : RelV x v) (fy : flatV y = true) (fx : flatV x = true) : SeqAt.EqAt A s u v (eqV y x) := by
 cases y with
 | non =>
  cases ry
  cases x with
  | non => cases rx; exact SeqAt.EqAt.same _
  | bl b => cases rx; exact SeqAt.EqAt.none_bool b
  | int b => obtain ⟨t, rfl⟩ := rx; exact SeqAt.EqAt.none_int b t
  | str b => obtain ⟨t, rfl⟩ := rx; exact SeqAt.EqAt.none_str b t
  | _ => exact absurd (show false = true from fx) Bool.false_ne_true
 | bl a =>
  cases ry
  cases x with
  | non => cases rx; exact SeqAt.EqAt.bool_none a
  | bl b => cases rx; exact SeqAt.EqAt.bool_bool a b
  | int b => obtain ⟨t, rfl⟩ := rx; exact SeqAt.EqAt.bool_int a b t
  | str b => obtain ⟨t, rfl⟩ := rx; exact SeqAt.EqAt.bool_str a b t
  | _ => exact absurd (show false = true from fx) Bool.false_ne_true
 | int a =>
  obtain ⟨t', rfl⟩ := ry
  cases x with
  | non => cases rx; exact SeqAt.EqAt.int_none a t'
  | bl b => cases rx; exact SeqAt.EqAt.int_bool a t' b
  | int b => obtain ⟨t, rfl⟩ := rx; exact SeqAt.EqAt.int_int a t' b t
  | str b => obtain ⟨t, rfl⟩ := rx; exact SeqAt.EqAt.int_str a t' b t
  | _ => exact absurd (show false = true from fx) Bool.false_ne_true
 | str a =>
  obtain ⟨t', rfl⟩ := ry
  cases x with
  | non => cases rx; exact SeqAt.EqAt.str_none a t'
  | bl b => cases rx; exact SeqAt.EqAt.str_bool a t' b
  | int b => obtain ⟨t, rfl⟩ := rx; exact SeqAt.EqAt.str_int a t' b t
  | str b => obtain ⟨t, rfl⟩ := rx; exact SeqAt.EqAt.str_str a t' b t
  | _ => exact absurd (show false = true from fx) Bool.false_ne_true
 | _ => exact absurd (show false = true from fy) Bool.false_ne_true
noncomputable def eqU (x : V) (u : Value) : Bool := match u with
 | .none => eqV .non x
 | .bool b => eqV (.bl b) x
 | .int i _ => eqV (.int i) x
 | .str z _ => eqV (.str z) x
 | _ => false
theorem eqU_of {x y : V} {u : Value} (r : RelV y u) (f : flatV y = true) : eqU x u = eqV y x := by
 cases y with
 | non => cases r; rfl
 | bl b => cases r; rfl
 | int i => obtain ⟨t, rfl⟩ := r; rfl
 | str z => obtain ⟨t, rfl⟩ := r; rfl
 | _ => exact absurd (show false = true from f) Bool.false_ne_true
theorem any_eqU {x : V} : ∀ {xs : List V} {us : List Value}, Vals xs us -> xs.all flatV = true -> us.any (eqU x) = xs.any fun y => eqV y x
 | _, _, .nil, _ => rfl
 | y :: xs, u :: us, .cons r t, f => by
  rw [List.all_cons, Bool.and_eq_true] at f
  rw [List.any_cons, List.any_cons, eqU_of r f.1, any_eqU t f.2]
theorem mem_eqAt {A : Around} {s : Shared} {x : V} {v : Value} (rx : RelV x v) (fx : flatV x = true) : ∀ {xs : List V} {us : List Value}, Vals xs us -> xs.all flatV = true -> ∀ u ∈ us, SeqAt.EqAt A s u v (eqU x u)
 | _, _, .nil, _ => fun u hu => by cases hu
 | y :: xs, u :: us, .cons r t, f => fun u' hu => by
  rw [List.all_cons, Bool.and_eq_true] at f
  rcases List.mem_cons.mp hu with rfl | hu
  ·rw [eqU_of r f.1]; exact eqAt_V r rx f.1 fx
  ·exact mem_eqAt rx fx t f.2 u' hu
noncomputable def inV (x : V) (xs : List V) : Bool := xs.any fun y => eqV y x
noncomputable def rIn (K : PySem.W.Frag) (neg : Bool) : R2 := fun x y H Q => ∃ p xs, y = .ref p /\ (SqL K H p xs ∨ SqT K H p xs) /\ flatV x = true /\ xs.all flatV = true /\ Q (.bl (if neg then !inV x xs else inV x xs)) H
theorem op_notIn_seq : OpR X (compareOp .NotIn) (rIn X.K true) := by
 intro pins s σ H x y v u Q I rx ry h
 obtain ⟨p, xs, rfl, hq, fx, fs, q⟩ := h
 cases ry
 rcases hq with hq | hq
 ·obtain ⟨its, r, pl, hz⟩ := I.list hq
  refine SeqAt.notIn_listAt (eqU x) pl.isList (fun w hw => mem_eqAt rx fx r fs w (by simpa using hw)) ⟨.bl _, H, I, rfl, ?_⟩
  rw [show its.toArray.any (eqU x) = its.any (eqU x) by simp, any_eqU r fs]
  exact q
 ·obtain ⟨its, r, pl, hz⟩ := I.tuple hq
  refine SeqAt.notIn_tupleAt (eqU x) pl (fun w hw => mem_eqAt rx fx r fs w (by simpa using hw)) ⟨.bl _, H, I, rfl, ?_⟩
  rw [show its.toArray.any (eqU x) = its.any (eqU x) by simp, any_eqU r fs]
  exact q
theorem call_len_seq : CallR X (.builtin "len") (fun xs H Q => ∃ p ys, xs = [.ref p] /\ (SqL X.K H p ys ∨ SqT X.K H p ys) /\ Q (.int ys.length) H) := by
 intro pins s σ H xs us Q I r h
 obtain ⟨p, ys, rfl, hq, q⟩ := h
 obtain ⟨u, rfl, rx⟩ := vals1 r
 cases rx
 have hn := line63
 rcases hq with hq | hq
 ·obtain ⟨its, r', pl, hz⟩ := I.list hq
  have hlen := r'.length
  exact Calls.call_len_list pl.isList (by simp only [List.size_toArray] <;> (first | lia | omega)) ⟨.int ys.length, H, I.tok _, ⟨s.toks + 1, by rw [List.size_toArray, hlen]⟩, q⟩
 ·obtain ⟨its, r', pl, hz⟩ := I.tuple hq
  have hlen := r'.length
  exact len_tuple pl (by simp only [List.size_toArray] <;> (first | lia | omega)) ⟨.int ys.length, H, I.tok _, ⟨s.toks + 1, by rw [List.size_toArray, hlen]⟩, q⟩
theorem call_tuple_of : CallR X (.type "tuple") (fun xs H Q => ∃ p ys, xs = [.ref p] /\ ((SqL X.K H p ys /\ ∀ l, H l = none -> Q (.ref l) (upd H l (.tup ys))) ∨ (SqT X.K H p ys /\ Q (.ref p) H))) := by
 intro pins s σ H xs us Q I r h
 obtain ⟨p, ys, rfl, h⟩ := h
 obtain ⟨u, rfl, rx⟩ := vals1 r
 cases rx
 rcases h with ⟨hq, q⟩ | ⟨hq, q⟩
 ·obtain ⟨its, r', pl, hz⟩ := I.list hq
  have hlen := r'.length
  refine call_tuple_list pl.isList (fun h' kp => ?_) (by simp only [List.size_toArray] <;> (first | lia | omega))
  have I1 : Inv X pins σ H { s with heap := h' } := I.kept (t' := s.toks) kp
  have I2 : Inv X pins σ (upd H h'.objs.size (.tup ys)) { s with heap := h'.push { cls := .type "tuple", data := .seq its.toArray } } :=
   I1.laid (t' := s.toks) (fun b o e => Heap.get?_push_of_some _ e) (Nat.le_refl _) (show ObjOk X.prog X.w _ _ _ (.tup ys) from ⟨hz, its, r', PTup.new⟩)
  exact ⟨.ref h'.objs.size, _, I2, rfl, q _ (I1.hok.fresh (Nat.le_refl _))⟩
 ·obtain ⟨its, r', pl, hz⟩ := I.tuple hq
  exact call_tuple_same pl ⟨.ref p, H, I, rfl, q⟩
noncomputable def tyV (K : PySem.W.Frag) (T : String) (x : V) (H : Hp) : Prop := match x with
 | .str _ => T = "str"
 | .int _ => T = "int"
 | .ref p => (T = "list" /\ ∃ xs, SqL K H p xs) ∨ (T = "tuple" /\ ∃ o, K.lookup p = some o /\ o.cls = .type "tuple" /\ o.dict = none) ∨
   (T = "dict" /\ ((∃ kvs, H p = some (.dK kvs)) ∨ ∃ kvs, H p = some (.dT kvs))) ∨ (T = "set" /\ ∃ S n, H p = some (.set S n))
 | _ => False
theorem tyV_is {pins : List (Addr × Obj)} {σ : St} {H : Hp} {s : Shared} {T : String} {x : V} {v : Value} (I : Inv X pins σ H s) (r : RelV x v) (ty : tyV X.K T x H) :
  s.TypeIs v T /\ ∀ a, v = .ref a -> ∃ ob, s.heap.get? a = some ob /\ ob.dict = none := by
 cases x with
 | str z =>
  obtain ⟨t, rfl⟩ := r
  cases (show T = "str" from ty)
  exact ⟨typeIs_str s z t, fun _ e => nomatch e⟩
 | int i =>
  obtain ⟨t, rfl⟩ := r
  cases (show T = "int" from ty)
  exact ⟨typeIs_int s i t, fun _ e => nomatch e⟩
 | ref p =>
  cases r
  rcases ty with ⟨rfl, xs, hq⟩ | ⟨rfl, o, hk, hc, hd⟩ | ⟨rfl, hk⟩ | ⟨rfl, S, n, hk⟩
  ·obtain ⟨its, _, pl, _⟩ := I.list hq
   refine ⟨pl.isList.typeIs, fun a e => ?_⟩
   cases e
   obtain ⟨o, n, e, c, hd, _⟩ := pl
   exact ⟨o, e, hd⟩
  ·refine ⟨⟨o, I.kIn p o hk, hc⟩, fun a e => ?_⟩
   cases e
   exact ⟨o, I.kIn _ o hk, hd⟩
  ·have z : ∃ o, s.heap.get? p = some o /\ o.ExactDict := by
    rcases hk with ⟨kvs, hk⟩ | ⟨kvs, hk⟩
    ·obtain ⟨_, _, _, _, o, _, _, e, ex, _⟩ := I.hok p _ hk
     exact ⟨o, e, ex⟩
    ·obtain ⟨_, _, _, _, o, _, _, e, ex, _⟩ := I.hok p _ hk
     exact ⟨o, e, ex⟩
   obtain ⟨o, e, ex⟩ := z
   refine ⟨⟨o, e, ex.1⟩, fun a e2 => ?_⟩
   cases e2
   exact ⟨o, e, ex.2.1⟩
  ·obtain ⟨o, _, _, _, e, ex, _⟩ := I.hok p _ hk
   refine ⟨⟨o, e, ex.1⟩, fun a e2 => ?_⟩
   cases e2
   exact ⟨o, e, ex.2.1⟩
 | _ => exact False.elim ty
noncomputable def tBM (K : PySem.W.Frag) (T : String) (r : V -> List V -> Hp -> VK -> Prop) (to : TE) (t : TA) : TE := fun σ H Q => to σ H fun x H1 => tyV K T x H1 /\ t σ H1 fun xs H2 => r x xs H2 Q
variable {o e : Expr} {es : List Expr} {to : TE} {t : TA} {name : Str} {apos cpos : Pos} {T id : String} {r : V -> List V -> Hp -> VK -> Prop}
theorem pe_bm (pa : PlainAttrs T) (slot : Slot T name id) (hty : typeOf (.builtin id) = pure (.type "method_descriptor")) (hm : MtR X id r) (ho : PE X o to) (ha : PA X (e :: es) t)
  (hbase : attributeBase o name X.env (eval o X.env) = eval o X.env := by rfl)
  (hfew : ((backTo cpos (starEach (e :: es) X.env)).all (fun x => !x.1) && (backToKw cpos (keywordEach [] X.env)).all (fun x => x.1.isSome)
   && decide ((e :: es).length + ([] : List Keyword).length + (if ([] : List Keyword).isEmpty then 0 else 1) < 30)) = true := by rfl)
  (hline : (apos.endLine == cpos.line) = true := by rfl) (hs : starEach (e :: es) X.env = (false, eval e X.env) :: starEach es X.env := by rfl) (hplain : (backTo cpos (starEach es X.env)).any (·.1) = false := by rfl) :
  PE X (.Call (.Attribute o name apos) (e :: es) [] cpos) (tBM X.K T r to t) := by
 intro pins s σ H Q I h
 refine wpAny_Call_method_late hbase hfew hline rfl (thn (ho pins s σ H _ I h) fun v s1 ⟨x, H1, I1, r1, ty, q1⟩ => ?_)
 obtain ⟨h1, h2⟩ := tyV_is I1 r1 ty
 refine ⟨T, id, pa, slot, hty, h1, h2, ?_⟩
 have hA := ha cpos pins s1 σ H1 _ I1 q1
 rw [hs] at hA ⊢
 refine Calls.callWith_builtin (by show (false || (backTo cpos (starEach es X.env)).any (·.1)) = false; rw [hplain] <;> rfl) (Calls.evalArgs_plain ?_)
 exact thn hA fun us s2 ⟨vs, H2, I2, r2, q2⟩ => hm pins s2 σ H2 x vs v us Q I2 r1 r2 q2
end
end L2
namespace L2
open PySem PySem.Spec PyProof.Rows
noncomputable def MtM (X : Cx) (id : String) (r : V -> List V -> Hp -> VK -> Prop) : Prop :=
 ∀ (pins : List (Addr × Obj)) (s : Shared) (σ : St) (H : Hp) (x : V) (xs : List V) (v : Value) (us : List Value) (Q : VK), Inv X pins σ H s -> RelV x v -> Vals xs us -> r x xs H Q ->
  wpAny (model X.prog X.w) X.A (call (.builtin id) (v :: us)) (EP X pins σ Q) X.xe s
theorem Vals.one : ∀ {x : V} {us : List Value}, Vals [x] us -> ∃ u, us = [u] /\ RelV x u
 | _, _, .cons r .nil => ⟨_, rfl, r⟩
theorem Vals.two : ∀ {x y : V} {us : List Value}, Vals [x, y] us -> ∃ u v, us = [u, v] /\ RelV x u /\ RelV y v
 | _, _, _, .cons r (.cons q .nil) => ⟨_, _, rfl, r, q⟩
theorem Vals.eraseIdx : ∀ {xs : List V} {us : List Value} (i : Nat), Vals xs us -> Vals (xs.eraseIdx i) (us.eraseIdx i)
 | _, _, _, .nil => .nil
 | _, _, 0, .cons _ t => t
 | _, _, i + 1, .cons r t => .cons r (Vals.eraseIdx i t)
theorem Vals.reverse {xs : List V} {us : List Value} (h : Vals xs us) : Vals xs.reverse us.reverse := by
 induction h with
 | nil => exact .nil
 | cons r t ih => rw [List.reverse_cons, List.reverse_cons]; exact Vals.append ih (.cons r .nil)
theorem Vals.rep {xs : List V} {us : List Value} (h : Vals xs us) : ∀ k : Nat, Vals (List.replicate k xs).flatten (List.replicate k us).flatten
 | 0 => .nil
 | k + 1 => by
  rw [List.replicate_succ, List.replicate_succ, List.flatten_cons, List.flatten_cons]
  exact Vals.append h (Vals.rep h k)
theorem len_erase {α : Type} : ∀ (l : List α) (i : Nat), (l.eraseIdx i).length <= l.length
 | [], _ => Nat.le_refl _
 | _ :: _, 0 => Nat.le_succ _
 | _ :: r, i + 1 => Nat.succ_le_succ (len_erase r i)
theorem foldl_rep (its : List Value) : ∀ (k : Nat) (acc : List Value),
  List.foldl (fun x1 x2 => x1 ++ x2) acc.toArray (List.replicate k its.toArray) = (acc ++ (List.replicate k its).flatten).toArray
 | 0, acc => by simp
 | k + 1, acc => by
  have e : acc.toArray ++ its.toArray = (acc ++ its).toArray := by simp
  have e2 : (acc ++ its) ++ (List.replicate k its).flatten = acc ++ (List.replicate (k + 1) its).flatten := by
   rw [List.replicate_succ, List.flatten_cons, List.append_assoc]
  rw [<- e2, <- foldl_rep its k (acc ++ its), <- e, List.replicate_succ, List.foldl_cons]
section
variable {X : Cx} {pins : List (Addr × Obj)} {σ : St} {H : Hp} {s : Shared} {l b : Addr} {xs ys zs : List V}
theorem Inv.lset {its its' : List Value} {n : Nat} {f : Array Value -> Array Value} {t' : Nat} (I : Inv X pins σ H s) (hH : H l = some (.lst xs))
  (e : s.heap.get? l = some { cls := .type "list", data := .seq its.toArray n }) (hf : f its.toArray = its'.toArray) (hv : Vals ys its') (hz : ys.length <= sizeLine) :
  Inv X pins σ (upd H l (.lst ys)) { s with heap := s.heap.update l (Obj.mapSeq f), toks := t' } := by
 have q := PySem.IsL.update e f
 rw [hf] at q
 refine I.write (x := l) (e := l) (by rw [hH]; exact trivial) (.inl rfl) (fun b' u hb hu => (Heap.get?_update_other s.heap (Obj.mapSeq f) (Ne.symm hb)).trans hu) ⟨_, q⟩ ?_
 exact ⟨hz, its', _, hv, q⟩
theorem Inv.lnew {its : List Value} {t' : Nat} (I : Inv X pins σ H s) (hv : Vals ys its) (hz : ys.length <= sizeLine) :
  Inv X pins σ (upd H s.heap.objs.size (.lst ys)) { s with heap := s.heap.push { cls := .type "list", data := .seq its.toArray }, toks := t' } :=
 I.laid (fun _ _ q => Heap.get?_push_of_some _ q) (Nat.le_refl _) ⟨hz, its, 0, hv, Heap.get?_push_size _ rfl⟩
theorem Inv.fresh (I : Inv X pins σ H s) : H s.heap.objs.size = none := I.hok.fresh (Nat.le_refl _)
theorem Inv.lstM (I : Inv X pins σ H s) (hH : H l = some (.lst xs)) : xs.length <= sizeLine /\ ∃ (its : List Value) (n : Nat), Vals xs its /\ xs.length = its.length /\ s.heap.get? l = some { cls := .type "list", data := .seq its.toArray n } := by
 obtain ⟨z, its, n, r, e⟩ := I.hok l _ hH
 exact ⟨z, its, n, r, r.length, e⟩
theorem notLongL {n : Nat} (h : n <= sizeLine) : Builtin.List.listTooLong n = false := by
 unfold Builtin.List.listTooLong
 exact decide_eq_false (by (first | lia | omega))
end
section
variable {X : Cx}
noncomputable def rAppend : V -> List V -> Hp -> VK -> Prop := fun x vs H Q => ∃ l xs y, x = .ref l /\ vs = [y] /\ H l = some (.lst xs) /\ xs.length < sizeLine /\ Q .non (upd H l (.lst (xs ++ [y])))
theorem mt_append : MtM X "list.append" rAppend := by
 intro pins s σ H x vs v us Q I rx rv h
 obtain ⟨l, xs, y, rfl, rfl, hH, hz, q⟩ := h
 cases rx
 obtain ⟨u, rfl, ru⟩ := rv.one
 obtain ⟨z, its, n, r, hl, e⟩ := I.lstM hH
 refine call_meets F.slot_list_append ⟨_, e, rfl⟩ F.entry_list_append (F.args_list_append_2 _ _) (PySem.list_append l its.toArray n u (by rw [List.size_toArray]; (first | lia | omega))) ⟨e, ?_⟩
 refine ⟨.non, _, I.lset (its' := its ++ [u]) hH e (by simp) (r.append (.cons ru .nil)) ?_, rfl, q⟩
 rw [List.length_append, List.length_singleton]
 (first | lia | omega)
noncomputable def rPopAt : V -> List V -> Hp -> VK -> Prop := fun x vs H Q => ∃ l xs i k y, x = .ref l /\ vs = [.int i] /\ H l = some (.lst xs) /\ -(2 ^ 63) <= i /\ i < 2 ^ 63 /\ seqIndex? i xs.length = some k /\ xs[k]? = some y /\ Q y (upd H l (.lst (xs.eraseIdx k)))
theorem mt_popAt : MtM X "list.pop" rPopAt := by
 intro pins s σ H x vs v us Q I rx rv h
 obtain ⟨l, xs, i, k, y, rfl, rfl, hH, h1, h2, hk, hy, q⟩ := h
 cases rx
 obtain ⟨u, rfl, ru⟩ := rv.one
 obtain ⟨t, rfl⟩ := ru
 obtain ⟨z, its, n, r, hl, e⟩ := I.lstM hH
 obtain ⟨w, hw, rw'⟩ := r.get hy
 refine call_meets F.slot_list_pop ⟨_, e, rfl⟩ F.entry_list_pop (F.args_list_pop_2 _ _)
  (MeetsSeq.list_pop_at l its.toArray n i t k w (fitsIndex_both h1 h2) (by rw [List.size_toArray, <- hl]; exact hk) (by rw [<- Array.getElem?_toList]; exact hw) (by rw [List.size_toArray]; (first | lia | omega))) ⟨e, ?_⟩
 refine ⟨y, _, I.lset (its' := its.eraseIdx k) hH e ?_ (r.eraseIdx k) ?_, rw', q⟩
 ·show its.toArray.eraseIdxIfInBounds k = (its.eraseIdx k).toArray
  rw [List.eraseIdxIfInBounds_toArray]
 ·have := len_erase xs k
  (first | lia | omega)
noncomputable def rCat : R2 := fun x y H Q => ∃ l b xs zs, x = .ref l /\ y = .ref b /\ H l = some (.lst xs) /\ H b = some (.lst zs) /\ xs.length + zs.length <= sizeLine /\ ∀ p, H p = none -> Q (.ref p) (upd H p (.lst (xs ++ zs)))
theorem op_cat : OpR X (binaryOp .Add) rCat := by
 intro pins s σ H x y v u Q I rx ry h
 obtain ⟨l, b, xs, zs, rfl, rfl, hH, hB, hz, q⟩ := h
 cases rx
 cases ry
 obtain ⟨z, its, n, r, hl, e⟩ := I.lstM hH
 obtain ⟨z2, its2, n2, r2, hl2, e2⟩ := I.lstM hB
 refine PySem.P.add_list e e2 ?_ (by rw [List.size_toArray, List.size_toArray]; (first | lia | omega))
 have ea : its.toArray ++ its2.toArray = (its ++ its2).toArray := by simp
 rw [ea]
 exact ⟨.ref _, _, I.lnew (t' := s.toks) (r.append r2) (by rw [List.length_append]; (first | lia | omega)), rfl, q _ I.fresh⟩
noncomputable def rRep : R2 := fun x y H Q => ∃ l k xs, x = .ref l /\ y = .int k /\ H l = some (.lst xs) /\ -(2 ^ 63) <= k /\ k < 2 ^ 63 /\ xs.length * k.toNat <= sizeLine /\
 ∀ p, H p = none -> Q (.ref p) (upd H p (.lst (List.replicate k.toNat xs).flatten))
theorem len_rep {α : Type} (xs : List α) (k : Nat) : (List.replicate k xs).flatten.length = k * xs.length := by
 induction k with
 | zero => simp
 | succ k ih => rw [List.replicate_succ, List.flatten_cons, List.length_append, ih, Nat.succ_mul, Nat.add_comm]
theorem op_rep : OpR X (binaryOp .Mult) rRep := by
 intro pins s σ H x y v u Q I rx ry h
 obtain ⟨l, k, xs, rfl, rfl, hH, h1, h2, hz, q⟩ := h
 cases rx
 obtain ⟨t, rfl⟩ := ry
 obtain ⟨z, its, n, r, hl, e⟩ := I.lstM hH
 have hlen : its.toArray.size * k.toNat <= sizeLine := by rw [List.size_toArray, <- hl]; exact hz
 have hcap : ¬ its.toArray.size * k.toNat > (2 ^ 63 - 1) / 8 := by
  have : (sizeLine : Nat) <= (2 ^ 63 - 1) / 8 := by decide
  (first | lia | omega)
 have hfit : ¬ (!Builtin.List.listFitsIndex k) = true := by
  rw [fitsIndex_both h1 h2]
  exact Bool.false_ne_true
 have hlong : ¬ Builtin.List.listTooLong (its.toArray.size * k.toNat) = true := by
  rw [notLongL hlen]
  exact Bool.false_ne_true
 have hnew : List.foldl (fun x1 x2 => x1 ++ x2) #[] (List.replicate (if its.toArray.isEmpty = true then 0 else k.toNat) its.toArray) = (List.replicate k.toNat its).flatten.toArray := by
  have f0 : ∀ m : Nat, List.foldl (fun x1 x2 => x1 ++ x2) #[] (List.replicate m its.toArray) = (List.replicate m its).flatten.toArray := fun m => by
   have := foldl_rep its m []
   rw [List.nil_append] at this
   exact this
  rw [f0]
  cases its with
  | nil => simp
  | cons a r' => rw [if_neg (by simp)]
 refine wpAny_binaryOp_repeat_ref (T := "list") (U := "int") (by decide) ⟨_, e, rfl⟩ (fun s' => typeIs_int s' k t) noFill_list_mul F.fills_int_mul F.slot_int_rmul repeat_list F.slot_int_index.lookup
  (call_meets F.slot_int_rmul (typeIs_int s k t) F.entry_int_rmul (F.args_int_rmul_2 _ _) (int___rmul___int_list k t l its.toArray n)
   ⟨e, rfl, ⟨_, e, rfl⟩, call_meets F.slot_list_mul ⟨_, e, rfl⟩ F.entry_list_mul (F.args_list_mul_2 _ _) (AutoListH.list___mul___list_int_3 l its.toArray n k t hfit hcap hlong) ⟨e, ?_⟩⟩)
 rw [hnew]
 exact ⟨.ref _, _, I.lnew (t' := s.toks) (r.rep k.toNat) (by rw [len_rep, Nat.mul_comm]; exact hz), rfl, q _ I.fresh⟩
end
section
variable {prog : Program} {w : World} {A : Around} {E : Value -> Shared -> Prop} {s : Shared}
end
section
variable {X : Cx}
end
end L2
namespace Att
open PySem PySem.W PySem.Calls PyProof.Rows
theorem ints_of_wellAll {P : Params} {h : Heap} : ∀ (ns : List Int) (vs : List Value), WellAll P h vs (ns.map WData.int) -> IntsAre vs ns := by
 intro ns
 induction ns with
 | nil =>
  intro vs w
  rw [List.map_nil] at w
  cases w
  exact .nil
 | cons n ns ih =>
  intro vs w
  rw [List.map_cons] at w
  cases w with
  | cons a b =>
   cases a
   exact .cons _ _ (ih _ b)
theorem script_of {l : OpenLaw} {n : Nat} (hn : l.most = some n) {P : Params} {h : Heap} {args : List WData} {vals : List Value}
  (hpre : l.row.toRowW.claim.pre args = true) (hwl : WellAll P h vals args) :
  ∃ a vs ns, vals = [Value.ref a] /\ args = [WData.list (ns.map WData.int)] /\ h.get? a = some { cls := .type "list", data := .seq vs.toArray } /\ IntsAre vs ns /\ ns.length <= n := by
 have hsh : WShape.hasAll [] args [.list .int] = true := (pre_splitW hpre).1
 have hc : l.pre.holds [] { args := args } = true := (pre_splitW hpre).2
 obtain ⟨d, r, rfl, h1, h2⟩ := hasAllW_cons hsh
 obtain rfl := hasAllW_nil h2
 obtain ⟨xs, rfl, h3⟩ := hasW_list h1
 obtain ⟨ns, rfl⟩ := items_int h3
 have hlen : ns.length <= n := by
  unfold OpenLaw.pre at hc
  have h4 : (WTm.not (.lt (.lit (.int (n : Int))) (.len (.arg 0)))).holds [] { args := [.list (ns.map .int)] } = true := by
   have h4 := (holds_andW hc).1
   rw [hn] at h4
   exact h4
  have h5 := condW_of h4 (w_not (w_lt w_lit (w_len_list (w_arg rfl))))
  rw [List.length_map] at h5
  refine Nat.le_of_not_lt fun q => ?_
  have q' : (n : Int) < ((ns.length : Nat) : Int) := by (first | lia | omega)
  first
   | (rw [decide_eq_true q'] at h5; exact absurd h5 (by decide))
   | (simp at h5; (first | lia | omega))
 cases hwl with
 | cons w1 w2 =>
  cases w2
  cases w1 with
  | list ho hall => exact ⟨_, _, ns, rfl, rfl, ho, ints_of_wellAll ns _ hall, hlen⟩
theorem post_true (l : OpenLaw) (args : List WData) : l.row.toRowW.claim.post args (.bool true) args = true :=
 postW_of (r := l.row.toRowW) (X := (true == true))
  (show WShape.has [] (.bool true) .bool = true by first | rfl | decide | simp [WShape.has, WShape.arms, WShape.armsAll])
  (show (WTm.eq .res (.lit (.bool true))).value [] { args := args, res := some (.bool true), after := args } = some (.bool (true == true)) from w_eq_bool (w_res rfl) w_lit) rfl
theorem attach_call {l : OpenLaw} {n : Nat} {q : Program} {loose : List Str} {XP : (Str -> Option Value) -> Heap -> Prop} {YP : World -> Heap -> Prop} {d : DefRec}
  (hn : l.most = some n) (hdf : d.params.defaults = [])
  (call : ∀ (w : World) (s₀ s₁ : Shared) (mg mb : Str -> Option Value) (fa : Addr) (o : Obj) (pm cd doc : Value) (a : Addr) (vs : List Value) (ns : List Int),
   Ground q loose [] XP w s₀ mg mb s₁.heap -> YP w s₁.heap ->
   s₁.heap.get? fa = some o -> o.data = .func (docDef d.name d.params d.body d.scope pm cd doc) -> s₁.heap.CodeRec cd d.name -> mg d.name = some (.ref fa) ->
   s₁.heap.get? a = some { cls := .type "list", data := .seq vs.toArray } -> IntsAre vs ns -> ns.length <= n -> s₁.gens = #[] ->
   codeAny (model l.prog w) callerA (.call (.ref fa) ⟨[.ref a], []⟩) (fun r s' => r = .ok (.ret (.bool true)) /\ OldK s₁.heap s'.heap /\ s'.os = s₁.os /\ AllBare s'.gens) s₁) :
  WalkO q loose XP YP l.row.toRowW d [] (fun f vs => PySem.call f vs) := by
 intro w s₀ s₁ mg mb G Y fa o pm cd doc dV kV ho hd hcd hD hmg hg args vals as hpre hlay hrd hwl hlo
 obtain rfl : dV = .none := Dflts.none hD hdf
 obtain rfl : kV = .none := Dflts.noKw hD
 obtain ⟨a, vs, ns, rfl, rfl, hobj, hints, hlen⟩ := script_of hn hpre hwl
 refine enter_call (codeAny_mono (call w s₀ s₁ mg mb fa o pm cd doc a vs ns G Y ho (fd_plain hd) hcd hmg hobj hints hlen hg) fun r s' hq => ?_)
 obtain ⟨rfl, h2, h3, h4⟩ := hq
 exact ⟨.inl ⟨.bool true, .bool true, [], rfl, fun _ => rfl, .bool true, post_true l _, fun _ => ⟨List.Pairwise.nil, fun _ hm => (nomatch hm)⟩⟩, h2, h3, h4⟩
section
variable {prog : Program} {w : World} {A : Around} {E : Value -> Shared -> Prop} {s : Shared} {K : Frag}
end
end Att
namespace L2
open PySem PySem.Spec PyProof.Rows
theorem vals_ints : ∀ {vs : List Value} {ns : List Int}, IntsAre vs ns -> Vals (ns.map V.int) vs
 | _, _, .nil => .nil
 | _, _, .cons n t h => .cons ⟨t, rfl⟩ (vals_ints h)
noncomputable def Only (H : Hp) : Prop := ∀ b, H b = none ∨ ∃ o xs, H b = some (.frz o (.lst xs))
theorem law_call {P : Program} {w : World} {K : PySem.W.Frag} {mg mb : Str -> Option Value} {CX : CXT} {k : Nat} {fa a : Addr} {fd : FuncData} {x : Str} {sp : Sp} {s₁ : Shared} {vs : List Value} {ns : List Int}
  (KX : K.In s₁.heap) (hns : s₁.heap.Ns mainGlobals mg) (hb : s₁.heap.Ns builtinsNs mb) (hbb : ∀ x : Str, x ≠ "__name__" -> mb x = bootBuiltins x) (hlim : s₁.heap.NoLimit) (hg : s₁.gens = #[])
  (ha : s₁.heap.get? a = some { cls := .type "list", data := .seq vs.toArray }) (hi : IntsAre vs ns) (hl : ns.length <= sizeLine) (hr : Room k callerA)
  (F : ∀ base : Heap, K.In base -> base.Ns mainGlobals mg -> FnOk P w K mg base CX k fa fd [x] sp) (hbind : ∀ (s : Shared) (u : Value), BindsTo s fd ⟨[u], []⟩ [(x, u)])
  (hsp : ∀ H : Hp, Only H -> SqL K H a (ns.map V.int) -> sp [.ref a] H (fun v _ => v = .bl true) fun _ _ _ => False)
  (hCX : ∀ H e s', CX [] H s₁ (fun _ _ _ => False) e s' -> False) :
  codeAny (model P w) callerA (.call (.ref fa) ⟨[.ref a], []⟩) (fun r s' => r = .ok (.ret (.bool true)) /\ OldK s₁.heap s'.heap /\ s'.os = s₁.os /\ AllBare s'.gens) s₁ := by
 have rv := vals_ints hi
 have lenV := hi.length
 have core : ∀ H : Hp, Only H -> SqL K H a (ns.map V.int) -> HOk P w H s₁.heap -> (∀ b, H b ≠ none -> b = a) -> (H a ≠ none -> K.lookup a = none) ->
   codeAny (model P w) callerA (.call (.ref fa) ⟨[.ref a], []⟩) (fun r s' => r = .ok (.ret (.bool true)) /\ OldK s₁.heap s'.heap /\ s'.os = s₁.os /\ AllBare s'.gens) s₁ := by
  intro H hO hS hok hA hK
  have base_of : ∀ {b : Addr} {o : Obj}, s₁.heap.get? b = some o -> H b = none -> (hidT s₁.heap H).get? b = some o := fun e n => hidT_get e n
  have noA : ∀ {b : Addr} {o : Obj} {es : Array DictEntry} {ep : Nat}, s₁.heap.get? b = some o -> o.data = .dict es ep -> H b = none := fun {b o es ep} e d => by
   cases q : H b with
   | none => rfl
   | some u =>
    have e' : b = a := hA b (by rw [q]; simp)
    subst e'
    rw [ha] at e; cases e
    have d' : Data.seq vs.toArray _ = Data.dict es ep := d
    cases d'
  have nsK : ∀ {b : Addr} {m : Str -> Option Value}, s₁.heap.Ns b m -> (hidT s₁.heap H).Ns b m := fun {b m} ⟨o, es, ep, e, d, r⟩ => ⟨o, es, ep, base_of e (noA e d), d, r⟩
  have hKb : K.In (hidT s₁.heap H) := fun b o e => base_of (KX b o e) (by
   cases q : H b with
   | none => rfl
   | some u =>
    have e' : b = a := hA b (by rw [q]; simp)
    subst e'
    rw [hK (by rw [q]; simp)] at e; cases e)
  have hM : Mod K mg (hidT s₁.heap H) := ⟨hKb, nsK hns, ⟨mb, nsK hb, hbb⟩, let ⟨mc, h1, h2⟩ := hlim; ⟨mc, nsK h1, h2⟩⟩
  have e0 : Env0 P w K mg (hidT s₁.heap H) callerA [] s₁ H := ⟨rfl, hM, fun b o e => of_hidT e, Nat.le_of_eq (hidT_size _ _), trivial, fun b hb => absurd (show b ∈ ([] : List Addr) from hb) (by simp), hok, .of_eq hg⟩
  refine codeAny_mono ((F _ hKb (nsK hns)).run callerA [] s₁ H ⟨[.ref a], []⟩ [.ref a] [.ref a] _ _ hr e0 (hbind s₁ (.ref a)) (.cons rfl .nil) (hsp H hO hS)) fun r s' h => ?_
  cases r with
  | error e => exact (hCX H e s' h).elim
  | ok fl =>
   cases fl with
   | next => exact False.elim h
   | brk => exact False.elim h
   | cont => exact False.elim h
   | ret u =>
    obtain ⟨v, H', os, bare, un, hok', r', q⟩ := h
    have q' : v = .bl true := q
    subst q'
    obtain rfl : u = Value.bool true := r'
    refine ⟨rfl, OldK.of_keep fun b o e => ?_, os, bare⟩
    cases q : H b with
    | none => exact un.keep b o e q (by intro z; exact absurd (show b ∈ ([] : List Addr) from z) (by simp)) (by simp)
    | some u =>
     rcases hO b with z | ⟨ob, xs, z⟩
     ·rw [q] at z; cases z
     ·have z2 := un.frzs b ob _ z
      obtain ⟨e1, _⟩ := hok b _ z
      obtain ⟨e2, _⟩ := hok' b _ z2
      rw [e] at e1; cases e1
      exact e2
 cases hk : K.lookup a with
 | some o =>
  have e := KX a o hk
  rw [ha] at e
  cases e
  refine core (fun _ => none) (fun _ => .inl rfl) (.inr ⟨_, vs.toArray, _, hk, rfl, rfl, rfl, by rw [List.size_toArray, lenV]; exact hl, by simpa using rv⟩) (fun b u z => by have z' : (none : Option HO) = some u := z; cases z') (fun b z => absurd rfl z) fun z => absurd rfl z
 | none =>
  refine core (fun b => if b = a then some (.frz { cls := .type "list", data := .seq vs.toArray } (.lst (ns.map V.int))) else none) (fun b => ?_) (.inl (.inr ⟨{ cls := .type "list", data := .seq vs.toArray }, if_pos rfl⟩)) (fun b u z => ?_) (fun b z => ?_) fun _ => hk
  ·by_cases hb : b = a
   ·exact .inr ⟨_, _, if_pos hb⟩
   ·exact .inl (if_neg hb)
  ·by_cases hb : b = a
   ·have z' := (if_pos hb).symm.trans z
    cases z'
    subst hb
    exact ⟨ha, by rw [List.length_map]; exact hl, vs, _, rv, ha⟩
   ·have z' := (if_neg hb).symm.trans z
    cases z'
  ·by_cases hb : b = a
   ·exact hb
   ·exact absurd (if_neg hb) z
end L2
namespace L2
open PySem PySem.Spec PyProof.Rows
theorem walk_of {l : PySem.W.OpenLaw} {n k : Nat} {q : Program} {loose : List Str} {XP : (Str -> Option Value) -> Heap -> Prop} {YP : World -> Heap -> Prop} {d : DefRec} {K : Params -> PySem.W.Frag} {CX : World -> CXT} {sp : World -> Sp} {x : Str}
  (hn : l.most = some n) (hn2 : n <= sizeLine) (hdf : d.params.defaults = []) (hr : Room k callerA)
  (hY : ∀ (w : World) (h : Heap), YP w h -> (K w.params).In h)
  (F : ∀ (w : World) (mg : Str -> Option Value) (fa : Addr) (h : Heap), (K w.params).In h -> h.Ns mainGlobals mg -> mg d.name = some (.ref fa) ->
   ∃ fd : FuncData, (∀ (s : Shared) (u : Value), BindsTo s fd ⟨[u], []⟩ [(x, u)]) /\
    ∀ base : Heap, (K w.params).In base -> base.Ns mainGlobals mg -> FnOk l.prog w (K w.params) mg base (CX w) k fa fd [x] (sp w))
  (hsp : ∀ (w : World) (H : Hp) (a : Addr) (ns : List Int), ns.length <= n -> Only H -> SqL (K w.params) H a (ns.map V.int) -> sp w [.ref a] H (fun v _ => v = .bl true) fun _ _ _ => False)
  (hCX : ∀ (w : World) (H : Hp) (s : Shared) (e : Value) (s' : Shared), CX w [] H s (fun _ _ _ => False) e s' -> False) :
  PySem.W.WalkO q loose XP YP l.row.toRowW d [] (fun f vs => PySem.call f vs) := by
 refine Att.attach_call hn hdf fun w s₀ s₁ mg mb fa o pm cd doc a vs ns G Y ho hd hcd hmg hobj hints hlen hg => ?_
 have KX := hY w _ Y
 obtain ⟨fd, hb, hF⟩ := F w mg fa _ KX G.T.g hmg
 exact law_call KX G.T.g G.T.b G.T.builtins G.T.nolimit hg hobj hints (Nat.le_trans hlen hn2) hr hF hb (fun H hO hS => hsp w H a ns hlen hO hS) fun H e s' => hCX w H s₁ e s'
end L2
namespace L2
open PySem PySem.Spec PyProof.Rows
noncomputable def defArgs (s : Stmt) : Arguments := match s with
 | .FunctionDef _ a _ _ _ _ _ _ _ _ => a
 | _ => { posonlyargs := [], args := [], vararg := none, kwonlyargs := [], kw_defaults := [], kwarg := none, defaults := [] }
noncomputable def defBody (s : Stmt) : List Stmt := match s with
 | .FunctionDef _ _ b _ _ _ _ _ _ _ => b
 | _ => []
noncomputable def defScope (s : Stmt) : Scope := match s with
 | .FunctionDef _ _ _ _ _ _ sc _ _ _ => sc
 | _ => { kind := .function, names := [], isGenerator := false, isCoroutine := false }
noncomputable abbrev CX0 : CXT := fun _ _ _ _ _ _ => False
noncomputable abbrev E0 : XK := fun _ _ _ => False
theorem pass0 {X : Cx} : Passes CX0 X E0 := fun _ _ _ _ _ _ _ h => h.elim
structure Fun (K : PySem.W.Frag) (x qual : Str) (st : Stmt) (f : Addr) (fd : FuncData) : Prop where
 ex : ∃ (oc : Value) (od : Option Addr) (kV doc pm : Value) (an : Option Addr) (cdv ct : Value) (osl : Array (Option Value)),
  fd = PySem.W.fnOf x qual (defArgs st) (defBody st) (defScope st) .none kV doc pm an cdv ct /\ K.lookup f = some ⟨oc, od, .func fd, osl⟩ /\ PySem.W.codeIn K cdv qual = true
 kp : PySem.W.keepIn K (.ref f) = true
section
variable {P : Program} {w : World} {K : PySem.W.Frag} {mg : Str -> Option Value} {base : Heap}
theorem Fun.ok {x qual : Str} {st : Stmt} {f : Addr} {fd : FuncData} {N ps : List Str} {k : Nat} {sp : Sp} (F : Fun K x qual st f fd) (S : FnScope N ps (defScope st)) (len : ∀ vs H Q E, sp vs H Q E -> vs.length = ps.length)
  (hbody : ∀ (cdv : Value) (A : Around) (outer : List Env) (s : Shared) (H : Hp) (vs : List V) (Q : VK) (E : XK), Room k (A.deeper (envOfC qual (defScope st) s.heap.objs.size f cdv)) -> sp vs H Q E ->
   ∃ t, PSs (cxOf CX0 P w K mg base N qual (defScope st) f cdv A outer s H E).nox (defBody st) t /\ t { nx := fun _ H' => Q .non H', rt := Q } (start N vs) H) : FnOk P w K mg base CX0 (k + 1) f fd ps sp := by
 obtain ⟨oc, od, kV, doc, pm, an, cdv, ct, osl, rfl, lk, hcd⟩ := F.ex
 refine fn_of lk hcd S len fun A outer s H vs Q E hr hsp => ?_
 obtain ⟨t, h, q⟩ := hbody cdv A outer s H vs Q E hr hsp
 exact ⟨t, h.nox, q⟩
theorem Fun.binds {x qual : Str} {st : Stmt} {f : Addr} {fd : FuncData} {ps : List Str} (F : Fun K x qual st f fd)
  (h : ∀ (kV doc pm : Value) (an : Option Addr) (cdv ct : Value) (us : List Value), us.length = ps.length -> bindArgs (PySem.W.fnOf x qual (defArgs st) (defBody st) (defScope st) .none kV doc pm an cdv ct) ⟨us, []⟩ = pure (ps.zip us)) : Binds K fd ps [] := by
 obtain ⟨oc, od, kV, doc, pm, an, cdv, ct, osl, rfl, lk, hcd⟩ := F.ex
 exact .all (h kV doc pm an cdv ct)
theorem fun_mk {x qual : Str} {st : Stmt} {f : Addr} {oc : Value} {od an : Option Addr} {osl : Array (Option Value)} {kV doc pm cdv ct : Value} (l : K.lookup f = some ⟨oc, od, .func (PySem.W.fnOf x qual (defArgs st) (defBody st) (defScope st) .none kV doc pm an cdv ct), osl⟩)
  (c : PySem.W.codeIn K cdv qual = true) (k : PySem.W.keepIn K (.ref f) = true) : Fun K x qual st f (PySem.W.fnOf x qual (defArgs st) (defBody st) (defScope st) .none kV doc pm an cdv ct) := ⟨⟨oc, od, kV, doc, pm, an, cdv, ct, osl, rfl, l, c⟩, k⟩
end
section
variable {X : Cx}
theorem pv (i : Nat) {x : Str} {pos : Pos} (hN : X.N[i]? = some x := by rfl) (hv : Vis X.env.scope x := by first | exact Or.inl rfl | exact Or.inr (Or.inl rfl) | exact Or.inr (Or.inr rfl)) (hd : (x == ("__debug__" : Str)) = false := by decide)
  (hcd : (x == ("__classdict__" : Str)) = false := by decide) : PE X (.Name x pos) (tVar i) := pe_var hN hv hd hcd
end
theorem iteF {A B : Prop} (h : B) : if false = true then A else B := by
 rw [if_neg Bool.false_ne_true]
 exact h
theorem iteT {A B : Prop} (h : A) : if true = true then A else B := by
 rw [if_pos rfl]
 exact h
theorem ite2 {c A B : Prop} [Decidable c] (h1 : c -> A) (h2 : ¬ c -> B) : if c then A else B := by
 by_cases h : c
 ·rw [if_pos h]
  exact h1 h
 ·rw [if_neg h]
  exact h2 h
theorem iteNS {c A B : Prop} [Decidable c] (hc : c) (h : B) : if (!decide c) = true then A else B := by
 rw [decide_eq_true hc]
 exact iteF h
noncomputable def Same (H H' : Hp) : Prop := ∀ b o, H b = some o -> H' b = some o
theorem Same.refl (H : Hp) : Same H H := fun _ _ h => h
theorem Same.trans {H H1 H2 : Hp} (a : Same H H1) (b : Same H1 H2) : Same H H2 := fun c o h => b c o (a c o h)
theorem Same.free {H H' : Hp} (e : Same H H') {l : Addr} (h : H' l = Option.none) : H l = Option.none := by
 cases q : H l with
 | none => rfl
 | some o =>
  rw [e l o q] at h
  cases h
theorem Same.seq {K : PySem.W.Frag} {H H' : Hp} {a : Addr} {xs : List V} (e : Same H H') (h : SqL K H a xs) : SqL K H' a xs := by
 rcases h with (h | ⟨o, h⟩) | h
 ·exact .inl (.inl (e _ _ h))
 ·exact .inl (.inr ⟨o, e _ _ h⟩)
 ·exact .inr h
end L2
namespace L2
open PySem PySem.Spec PyProof.Rows
theorem closure_ok {env : Env} {scope : Scope} (h : ∀ y ∈ scope.names, y.2 = .free -> ∃ c, env.cells.lookup y.1 = some c) :
  ∃ cl, closureFor scope env = pure cl /\ (∀ x c, cl.lookup x = some c -> env.cells.lookup x = some c) /\ ∀ y ∈ scope.names, y.2 = .free -> cl.lookup y.1 = env.cells.lookup y.1 := by
 have go : ∀ (names : List (Str × NameKind)) (acc : List (Str × Addr)), (∀ y ∈ names, y.2 = .free -> ∃ c, env.cells.lookup y.1 = some c) ->
   (∀ x c, acc.lookup x = some c -> env.cells.lookup x = some c) ->
   ∃ cl, (forIn names acc (fun (y : Str × NameKind) (cs : List (Str × Addr)) => if (y.2 == .free) = true then (do let c <- cellOf env y.1; pure (ForInStep.yield ((y.1, c) :: cs))) else pure (ForInStep.yield cs)) : Sem (List (Str × Addr))) = pure cl /\
    (∀ x c, cl.lookup x = some c -> env.cells.lookup x = some c) /\ (∀ x c, acc.lookup x = some c -> cl.lookup x = some c) /\ ∀ y ∈ names, y.2 = .free -> cl.lookup y.1 = env.cells.lookup y.1 := by
  intro names
  induction names with
  | nil => intro acc _ ha; exact ⟨acc, rfl, ha, fun _ _ h => h, fun y hy => nomatch hy⟩
  | cons y r ih =>
   intro acc hn ha
   obtain ⟨n, k⟩ := y
   by_cases hk : k = .free
   ·subst hk
    obtain ⟨c, hc⟩ := hn (n, .free) List.mem_cons_self rfl
    have ha' : ∀ x d, (((n, c) :: acc : List (Str × Addr))).lookup x = some d -> env.cells.lookup x = some d := fun x d e => by
     rw [List.lookup_cons] at e
     cases hx : x == n with
     | true =>
      rw [hx] at e
      have e1 : x = n := eq_of_beq hx
      subst e1
      cases e
      exact hc
     | false => rw [hx] at e; exact ha x d e
    obtain ⟨cl, e, h1, h2, h3⟩ := ih ((n, c) :: acc) (fun y hy => hn y (List.mem_cons_of_mem _ hy)) ha'
    refine ⟨cl, ?_, h1, fun x d e => ?_, fun y hy hf => ?_⟩
    ·rw [List.forIn_cons]
     have ec : cellOf env n = pure c := by unfold cellOf; rw [hc]
     simp only [beq_self_eq_true, if_true]
     rw [ec]
     exact e
    ·have e' := ha x d e
     by_cases hx : x = n
     ·subst hx
      rw [hc] at e'; cases e'
      exact h2 x c (by rw [List.lookup_cons]; simp)
     ·exact h2 x d (by rw [List.lookup_cons, beq_eq_false_iff_ne.mpr hx]; exact e)
    ·rcases List.mem_cons.mp hy with rfl | hy
     ·show cl.lookup n = env.cells.lookup n
      rw [hc]
      exact h2 n c (by rw [List.lookup_cons]; simp)
     ·exact h3 y hy hf
   ·obtain ⟨cl, e, h1, h2, h3⟩ := ih acc (fun y hy => hn y (List.mem_cons_of_mem _ hy)) ha
    refine ⟨cl, ?_, h1, h2, fun y hy hf => ?_⟩
    ·rw [List.forIn_cons]
     have : (k == NameKind.free) = false := by simpa using hk
     simp only [this, Bool.false_eq_true, if_false]
     exact e
    ·rcases List.mem_cons.mp hy with rfl | hy
     ·exact absurd hf hk
     ·exact h3 y hy hf
 obtain ⟨cl, e, h1, _, h3⟩ := go scope.names [] h (fun x c e => by simp at e)
 refine ⟨cl, ?_, h1, h3⟩
 unfold closureFor
 exact (congrArg (fun m => m >>= fun r => pure r) e).trans rfl
noncomputable def compSt (n : Nat) (ix : List Nat) (σ : St) : St := List.replicate n none ++ ix.map fun i => σ.getD i none
noncomputable def Cx.comp (X : Cx) (s₂ : Shared) (H₂ : Hp) (N' : List Str) (scope : Scope) (cl : List (Str × Addr)) (C : Addr) (fp : List Addr) : Cx :=
 { X with N := N', s₀ := s₂, H₀ := H₂, env := compEnvC scope cl C X.env, outer := X.stack, stack := X.stack, ex := fp, fn := fun _ => false, pn := [], xe := fun _ _ => False }
structure CompScope (X : Cx) (scope : Scope) (N' : List Str) (n : Nat) (ix : List Nat) : Prop where
 kind : scope.kind = .function
 nocell : ∀ y ∈ scope.names, y.2 ≠ .cell
 names : ∀ y ∈ scope.names, y.2 = .local -> scope.names.lookup y.1 = some .local
 free : ∀ y ∈ scope.names, y.2 = .free -> X.env.scope.names.lookup y.1 = some .cell ∨ X.env.scope.names.lookup y.1 = some .free
 nodup : ∀ y : Str, (y, NameKind.free) ∈ scope.names -> scope.names.lookup y = some .local -> False
 len : N'.length = n + ix.length
 at_ : ∀ (j i : Nat), ix[j]? = some i -> ∃ x, N'[n + j]? = some x /\ X.N[i]? = some x /\ (x, NameKind.free) ∈ scope.names
end L2
namespace L2
open PySem PySem.Spec PyProof.Rows
theorem relabel_lookup {env : Env} {scope : Scope} (x : Str) : (relabel scope env).names.lookup x = (scope.names.lookup x).map fun k => if (k == .free && env.scope.kind == .function && env.kindOf x == some .cell) then .cell else k := by
 show (scope.names.map fun (n, k) => if (k == NameKind.free && env.scope.kind == .function && env.kindOf n == some .cell) then (n, NameKind.cell) else (n, k)).lookup x = _
 generalize scope.names = l
 induction l with
 | nil => rfl
 | cons y r ih =>
  obtain ⟨n, k⟩ := y
  rw [List.map_cons, List.lookup_cons]
  cases hx : x == n with
  | true =>
   have e : x = n := eq_of_beq hx
   subst e
   by_cases hc : (k == NameKind.free && env.scope.kind == .function && env.kindOf x == some .cell) = true
   ·rw [if_pos hc, List.lookup_cons]
    simp only [beq_self_eq_true]
    show some NameKind.cell = some (ite _ _ _)
    rw [if_pos hc]
   ·rw [if_neg hc, List.lookup_cons]
    simp only [beq_self_eq_true]
    show some k = some (ite _ _ _)
    rw [if_neg hc]
  | false =>
   by_cases hc : (k == NameKind.free && env.scope.kind == .function && env.kindOf n == some .cell) = true
   ·rw [if_pos hc, List.lookup_cons, hx]; exact ih
   ·rw [if_neg hc, List.lookup_cons, hx]; exact ih
section
variable {X : Cx} {pins : List (Addr × Obj)} {σ : St} {H : Hp} {s : Shared}
theorem relabel_free {env : Env} {scope : Scope} {x : Str} (h : scope.names.lookup x = some .free) : (relabel scope env).names.lookup x = some .cell ∨ (relabel scope env).names.lookup x = some .free := by
 rw [relabel_lookup, h]
 by_cases hc : (NameKind.free == NameKind.free && env.scope.kind == .function && env.kindOf x == some .cell) = true
 ·exact .inl (by show some (ite _ _ _) = _; rw [if_pos hc])
 ·exact .inr (by show some (ite _ _ _) = _; rw [if_neg hc])
theorem of_relabel {env : Env} {scope : Scope} {x : Str} (hn : ∀ y ∈ scope.names, y.2 ≠ .cell) (h : (relabel scope env).names.lookup x = some .cell ∨ (relabel scope env).names.lookup x = some .free) : scope.names.lookup x = some .free := by
 rw [relabel_lookup] at h
 cases e : scope.names.lookup x with
 | none => rw [e] at h; rcases h with h | h <;> cases h
 | some k =>
  rw [e] at h
  have hk := hn _ (PySem.mem_of_lookup e)
  by_cases hf : k = .free
  ·rw [hf]
  ·have hb : (k == NameKind.free) = false := by simpa using hf
   have hr : Option.map (fun k => if (k == NameKind.free && env.scope.kind == .function && env.kindOf x == some .cell) = true then NameKind.cell else k) (some k) = some k := by
    show some (ite _ _ _) = _
    rw [if_neg (by rw [hb]; simp)]
   rw [hr] at h
   rcases h with h | h
   ·cases h; exact absurd rfl hk
   ·exact h
theorem inv_comp {scope : Scope} {N' : List Str} {n : Nat} {ix : List Nat} {cl : List (Str × Addr)} {fp : List Addr} {h₁ : Heap} {acc C : Addr} {na : Nat} {m : Str -> Option Value} {tk : Nat}
  (I : Inv X pins σ H s) (S : CompScope X scope N' n ix) (hcl1 : ∀ x c, cl.lookup x = some c -> X.env.cells.lookup x = some c) (hcl2 : ∀ y ∈ scope.names, y.2 = .free -> cl.lookup y.1 = X.env.cells.lookup y.1)
  (hf : ∀ b ∈ fp, FpOk X pins H b) (hlt : ∀ b ∈ fp, b < s.heap.objs.size) (ha : s.heap.objs.size <= acc) (hC : s.heap.objs.size <= C) (hne : C ≠ acc)
  (k : ∀ b u, s.heap.get? b = some u -> h₁.get? b = some u) (hacc : h₁.get? acc = some { cls := .type "list", data := .seq ([] : List Value).toArray na }) (hns : h₁.Ns C m) :
  Inv (X.comp s H N' scope cl C fp) [] (compSt n ix σ) (upd H acc (.lst [])) { s with heap := h₁, toks := tk } := by
 have fr : ∀ b : Addr, s.heap.objs.size <= b -> H b = none := fun b hb => I.hok.fresh hb
 have cellLt : ∀ x c, cl.lookup x = some c -> c < s.heap.objs.size := fun x c e => by
  obtain ⟨v, q⟩ := I.cell x c (hcl1 x c e)
  exact q.lt
 refine ⟨⟨I.ok.mod, S.kind, I.ok.glob, I.ok.blt, hC, fun x y c e1 e2 => I.ok.inj x y c (hcl1 x c e1) (hcl1 y c e2), fun x hx => ?_, fun x c e _ => absurd e Bool.false_ne_true, I.ok.hd, I.ok.frames, .inl rfl, fun b hb => ⟨Nat.ne_of_lt (Nat.lt_of_lt_of_le (hlt b hb) hC), fun x c e => (hf b hb).2.2.2.2.1 x c (hcl1 x c e)⟩,
   I.bs, Nat.le_trans I.ok.bsz I.sz, fun b o e hb => ?_, fun b hb hs => ?_, I.stack, I.stkFree⟩,
  rfl, I.bare, Un.laid k ha (fr acc ha), ⟨m, hns, fun i x v e1 e2 e3 => ?_⟩, fun x c e => ?_, ?_, fun x c e => ?_, fun p hp => absurd (show p ∈ ([] : List (Addr × Obj)) from hp) (by simp), I.hok.laid k ha ⟨Nat.zero_le _, [], na, .nil, hacc⟩, ?_⟩
 ·have hx' : scope.names.lookup x = some .free := of_relabel (env := X.env) S.nocell hx
  have hm := PySem.mem_of_lookup hx'
  obtain ⟨c, e⟩ := I.ok.has x (S.free _ hm rfl)
  exact ⟨c, (hcl2 _ hm rfl).trans e⟩
 ·rcases (hf b hb).2.2.2.1 with z | z
  ·exact I.ok.noex b o e z
  ·exact absurd (Nat.lt_of_lt_of_le (Heap.lt_size e) (Nat.le_trans I.ok.bsz z)) (Nat.lt_irrefl _)
 ·rcases List.mem_cons.mp (I.stkSub b hs) with z | z
  ·exact (hf b hb).2.1 z
  ·exact (hf b hb).2.2.1 z
 ·-- a name of the frame, seen through its cell
  have hi : n <= i := by
   by_cases hi : n <= i
   ·exact hi
   ·unfold compSt at e2
    rw [List.getElem?_append_left (by simp; (first | lia | omega)), List.getElem?_replicate] at e2
    split at e2 <;> cases e2
  obtain ⟨j, rfl⟩ : ∃ j, i = n + j := ⟨i - n, by (first | lia | omega)⟩
  unfold compSt at e2
  rw [List.getElem?_append_right (by simp), List.length_replicate, Nat.add_sub_cancel_left, List.getElem?_map] at e2
  cases ej : ix[j]? with
  | none => rw [ej] at e2; cases e2
  | some q =>
   rw [ej] at e2
   have e2' : σ.getD q none = some v := Option.some.inj e2
   have e2'' : σ[q]? = some (some v) := by
    rw [List.getD_eq_getElem?_getD] at e2'
    cases eq : σ[q]? with
    | none => rw [eq] at e2'; cases e2'
    | some z => rw [eq] at e2'; exact congrArg some e2'
   obtain ⟨y, h1, h2, h3⟩ := S.at_ j q ej
   have ey : y = x := Option.some.inj (h1.symm.trans e1)
   subst ey
   have hk := S.free _ h3 rfl
   obtain ⟨mX, _, hl⟩ := I.loc
   obtain ⟨u, r, l⟩ := hl q y v h2 e2'' (.inr hk)
   refine ⟨u, r, .inr ?_⟩
   have hkc : X.env.kindOf y = some .cell ∨ X.env.kindOf y = some .free := hk
   have l' : ∃ c, X.env.cells.lookup y = some c /\ s.heap.IsCell c (some u) := by
    rcases l with ⟨z, _⟩ | ⟨_, c, ec, hc⟩
    ·rcases hkc with q | q <;> (rw [q] at z; cases z)
    ·exact ⟨c, ec, hc⟩
   obtain ⟨c, ec, o, ho, hd⟩ := l'
   have e3' : Vis (relabel scope X.env) y := e3
   refine ⟨?_, c, (hcl2 _ h3 rfl).trans ec, o, k _ _ ho, hd⟩
   have nl : scope.names.lookup y ≠ some .local := fun z => ?_
   ·cases el : scope.names.lookup y with
    | none =>
     have : (relabel scope X.env).names.lookup y = none := by rw [relabel_lookup, el]; rfl
     rcases e3' with z | z | z <;> (rw [this] at z; cases z)
    | some kk =>
     have hmem := PySem.mem_of_lookup el
     have ncell := S.nocell _ hmem
     have hr : (relabel scope X.env).names.lookup y = some (if (kk == NameKind.free && X.env.scope.kind == .function && X.env.kindOf y == some .cell) = true then .cell else kk) := by rw [relabel_lookup, el]; rfl
     by_cases hkf : kk = .free
     ·subst hkf
      exact relabel_free (env := X.env) el
     ·have hb : (kk == NameKind.free) = false := by simpa using hkf
      have hr' : (relabel scope X.env).names.lookup y = some kk := by rw [hr, hb]; rfl
      rcases e3' with z | z | z
      ·rw [hr'] at z; cases z; exact absurd el nl
      ·rw [hr'] at z; cases z; exact absurd rfl ncell
      ·rw [hr'] at z; cases z; exact absurd rfl hkf
   ·exact S.nodup _ h3 z
 ·obtain ⟨v, o, ho, hd⟩ := I.cell x c (hcl1 x c e)
  exact ⟨v, o, k _ _ ho, hd⟩
 ·show upd H acc (.lst []) C = none
  rw [upd_ne hne]; exact fr C hC
 ·show upd H acc (.lst []) c = none
  have := cellLt x c e
  rw [upd_ne (Nat.ne_of_lt (Nat.lt_of_lt_of_le this ha))]
  exact I.freeC x c (hcl1 x c e)
 ·show (compSt n ix σ).length = N'.length
  unfold compSt
  rw [List.length_append, List.length_replicate, List.length_map, S.len]
end
end L2
namespace L2
open PySem PySem.Spec PyProof.Rows
noncomputable def Wk (σ σ' : St) : Prop := σ.length = σ'.length /\ ∀ (i : Nat) v, σ[i]? = some (some v) -> σ'[i]? = some (some v)
noncomputable def PTs (Y : Cx) (ifs : List Expr) (t : TT) : Prop :=
 ∀ (pins : List (Addr × Obj)) (s : Shared) (σ : St) (H : Hp) (Q : Bool -> Hp -> Prop), Inv Y pins σ H s -> t σ H Q ->
  wpAny (model Y.prog Y.w) Y.A (forIn ifs true fun c r => if r = true then do let ok <- isTrue c Y.env (eval c Y.env); pure (ForInStep.yield ok) else pure (ForInStep.yield r)) (TP Y pins σ Q) Y.xe s
noncomputable def tNoTest : TT := fun _ H Q => Q true H
theorem pts_nil {Y : Cx} : PTs Y [] tNoTest := fun _ _ _ H _ I h => wpAny_tests_nil ⟨H, I, h⟩
theorem pts_one {Y : Cx} {c : Expr} {t : TT} (h : PT Y c t) : PTs Y [c] t := fun pins s σ H Q I q => wpAny_tests_one (h pins s σ H Q I q)
theorem compLoop_gen {prog : Program} {w : World} {A : Around} {R : Result -> Shared -> Prop} {s : Shared} {elt target iter : Expr} {ifs : List Expr} {scope : Scope} {pos : Pos} {it acc : Value} {env : Env} (I : Nat -> Shared -> Prop)
  (turn : ∀ n s, I n s -> wpAny (model prog w) A (pyNext it) (fun r s₁ => match r with
   | none => R (.ok .next) s₁
   | some v => wpAny (model prog w) A (letOwnedTupleGo target it v) (fun _ s₂ => wpAny (model prog w) A (assign target env v) (fun _ s₃ =>
     wpAny (model prog w) A (forIn ifs true fun c r => if r = true then do let ok <- isTrue c env (eval c env); pure (ForInStep.yield ok) else pure (ForInStep.yield r)) (fun ok s₄ =>
      if ok = true then wpAny (model prog w) A (eval elt env) (fun x s₅ =>
       wpAny (model prog w) A (call (.builtin "list.append") [acc, x]) (fun _ s₆ => ∃ m, m < n /\ I m s₆) (fun _ _ => False) s₅) (fun _ _ => False) s₄
      else ∃ m, m < n /\ I m s₄) (fun _ _ => False) s₃) (fun _ _ => False) s₂) (fun _ _ => False) s₁) (fun _ _ => False) s)
  (n : Nat) (h : I n s) :
  codeAny (model prog w) A (.compLoop (.ListComp elt [⟨target, iter, ifs, 0⟩] scope pos) 0 it acc env) R s := by
 refine codeAny_loop rfl I (fun n s hI => ?_) n h
 show wpAny _ A ((compTurn (.ListComp elt [⟨target, iter, ifs, 0⟩] scope pos) 0 it acc env).onRaise (fun x => do noteFrame x env; theTreesLotGoes x)) _ _ s
 refine wpAny_noted (wpAny_noRaise ?_)
 rw [compTurn_list]
 refine wpAny_bind (wpAny_standAt (wpAny_bind (thn (turn n s hI) fun r s₁ h₁ => ?_)))
 cases r with
 | none => exact wpAny_pure h₁
 | some v =>
  refine wpAny_bind (thn h₁ fun _ s₂ h₂ => wpAny_bind (thn h₂ fun _ s₃ h₃ => wpAny_bind (thn h₃ fun ok s₄ h₄ => ?_)))
  cases ok with
  | false => exact wpAny_pure ⟨rfl, h₄⟩
  | true => exact wpAny_bind (wpAny_bind (thn h₄ fun x s₅ h₅ => wpAny_bind (thn h₅ fun _ s₆ h₆ => wpAny_pure (wpAny_pure ⟨rfl, h₆⟩))))
noncomputable def LcW (J : It) (H1 : Hp) (g : TG) (tt : TT) (te : TE) (n : Nat) (ix : List Nat) (σ : St) (Q : VK) : Prop := ∀ acc, H1 acc = none ->
 ∃ W : Nat -> Nat -> Hp -> Prop, (∃ m, W 0 m (upd H1 acc (.lst []))) /\ ∀ i m H, W i m H ->
  (J.stop i H /\ Q (.ref acc) H) ∨ (J.go i H /\ ∀ x H', J.yld i H x H' -> g x (compSt n ix σ) H' fun σ2 H2 => Wk (compSt n ix σ) σ2 /\ tt σ2 H2 fun b H3 =>
   if b = true then te σ2 H3 fun v H4 => ∃ ys, H4 acc = some (.lst ys) /\ ys.length < sizeLine /\ ∃ m', m' < m /\ W (i + 1) m' (upd H4 acc (.lst (ys ++ [v])))
   else ∃ m', m' < m /\ W (i + 1) m' H3)
noncomputable def tLc (wi : TI) (g : TG) (tt : TT) (te : TE) (n : Nat) (ix : List Nat) : TE := fun σ H Q => wi σ H fun J H1 => LcW J H1 g tt te n ix σ Q
section
variable {X : Cx} {elt tg iter : Expr} {ifs : List Expr} {scope : Scope} {pos : Pos} {wi : TI} {g : TG} {tt : TT} {te : TE} {N' : List Str} {n : Nat} {ix : List Nat}
theorem lc_core {pins : List (Addr × Obj)} {σ : St} {H2 : Hp} {s2 : Shared} {cl : List (Str × Addr)} {it : Addr} {fp : List Addr} {tn : Nat -> Heap -> Prop} {J : It} {Q : VK} {R : Value -> Addr -> Result -> Shared -> Prop}
  (hc : X.calm = true) (S : CompScope X scope N' n ix)
  (hY : ∀ s₂ H₂ cl C fp, PG (X.comp s₂ H₂ N' scope cl C fp) tg g /\ PTs (X.comp s₂ H₂ N' scope cl C fp) ifs tt /\ PE (X.comp s₂ H₂ N' scope cl C fp) elt te)
  (I2 : Inv X pins σ H2 s2) (hcl1 : ∀ x c, cl.lookup x = some c -> X.env.cells.lookup x = some c) (hcl2 : ∀ y ∈ scope.names, y.2 = .free -> cl.lookup y.1 = X.env.cells.lookup y.1)
  (T : Turn X.prog X.w X.K tg J fp it tn) (st2 : tn 0 s2.heap) (f2 : ∀ b ∈ fp, FpOk X pins H2 b)
  (hW : LcW J H2 g tt te n ix σ Q)
  (hR : ∀ acc C s' H' m, s'.heap.Ns C m -> Inv X pins σ H' s' -> H' C = none -> C ≠ X.env.locals -> (C ∈ X.ex ∨ X.s₀.heap.objs.size <= C) -> (∀ x c, X.env.cells.lookup x = some c -> c ≠ C) -> (∀ p ∈ X.pn ++ pins, p.1 ≠ C) -> C ∉ X.fs -> Q (.ref acc) H' -> R (.ref acc) C (.ok .next) s') :
  wpAny (model X.prog X.w) X.A (newList []) (fun acc s₃ => wpAny (model X.prog X.w) X.A (newFunctionEnv scope X.env.globals cl [] X.env.qual none .none (some X.env)) (fun cenv s₄ =>
   codeAny (model X.prog X.w) X.A (.compStart (.ListComp elt [⟨tg, iter, ifs, 0⟩] scope pos) 0 (.ref it) acc { cenv with scope := relabel scope X.env }) (R acc cenv.locals) s₄) X.xe s₃) X.xe s2 := by
 refine wpAny_newObj_type (wpAny_newFunctionEnv S.nocell (by intro y hy; simp at hy) (fun h₁ hns₁ hsb₁ => ?_) S.kind)
 dsimp only at hns₁ hsb₁ ⊢
 generalize hH2 : s2.heap.push { cls := .type "list", dict := none, data := .seq ([] : List Value).toArray } = G at hns₁ hsb₁ ⊢
 have hC : G.objs.size = s2.heap.objs.size + 1 := by rw [<- hH2, Heap.size_push]
 have hlt : ∀ b ∈ fp, b < s2.heap.objs.size := fun b hb => by
  obtain ⟨o, e, _⟩ := T.obj _ _ st2 b hb
  exact Heap.lt_size e
 have old : ∀ b o, s2.heap.get? b = some o -> h₁.get? b = some o := fun b o e => hsb₁.extBut b o (by rw [hC]; exact Nat.ne_of_lt (Nat.lt_succ_of_lt (Heap.lt_size e))) (Heap.get?_push_of_some _ (hH2 ▸ Heap.get?_push_of_some _ e))
 have hacc : h₁.get? s2.heap.objs.size = some { cls := .type "list", dict := none, data := .seq ([] : List Value).toArray } := hsb₁.extBut _ _ (by rw [hC]; exact Nat.ne_of_lt (Nat.lt_succ_self _)) (Heap.get?_push_of_some _ (hH2 ▸ Heap.get?_push_size _ rfl))
 obtain ⟨W, ⟨m0, w0⟩, turn⟩ := hW s2.heap.objs.size (I2.hok.fresh (Nat.le_refl _))
 obtain ⟨hYg, hYt, hYe⟩ := hY s2 H2 cl G.objs.size fp
 have fpY : ∀ {H' : Hp}, (∀ b ∈ fp, H' b = none) -> ∀ b ∈ fp, FpOk (X.comp s2 H2 N' scope cl G.objs.size fp) [] H' b := fun {H'} hn b hb => by
  obtain ⟨_, q1, q2, q3, q4, q5⟩ := f2 b hb
  refine ⟨hn b hb, ?_, fun z => ?_, .inl hb, fun x c e => q4 x c (hcl1 x c e), fun p hp => absurd (show p ∈ ([] : List (Addr × Obj)) from hp) (by simp)⟩
  ·show b ≠ G.objs.size
   rw [hC]
   exact Nat.ne_of_lt (Nat.lt_succ_of_lt (hlt b hb))
  ·rcases List.mem_cons.mp (I2.stkSub b z) with y | y
   ·exact q1 y
   ·exact q2 y
 have loop : ∀ s₃ : Shared, s₃ = { s2 with heap := h₁, toks := s2.toks + ([] : List (Str × Value)).length } ->
   codeAny (model X.prog X.w) X.A (.compLoop (.ListComp elt [⟨tg, iter, ifs, 0⟩] scope pos) 0 (.ref it) (.ref s2.heap.objs.size) (compEnvC scope cl G.objs.size X.env)) (R (.ref s2.heap.objs.size) G.objs.size) s₃ := by
  rintro s₃ rfl
  have I4 := inv_comp (tk := s2.toks + ([] : List (Str × Value)).length) I2 S hcl1 hcl2 f2 hlt (Nat.le_refl _) (by rw [hC]; exact Nat.le_succ _) (by rw [hC]; exact Nat.ne_of_gt (Nat.lt_succ_self _)) old hacc hns₁
  refine compLoop_gen (fun n' s' => ∃ i H', Inv (X.comp s2 H2 N' scope cl G.objs.size fp) [] (compSt n ix σ) H' s' /\ tn i s'.heap /\ (∀ b ∈ fp, H' b = none) /\ W i n' H') ?_ m0
   ⟨0, _, I4, T.keep _ _ _ st2 fun b hb o e => old b o e, fun b hb => ?_, w0⟩
  ·rintro n' s3 ⟨i, H3, I3, st3, fr3, w3⟩
   rcases turn i n' H3 w3 with ⟨stop, q⟩ | ⟨go, step⟩
   ·refine thn (T.done (X.comp s2 H2 N' scope cl G.objs.size fp) rfl rfl rfl hc i [] s3 _ H3 _ I3 (fpY fr3) st3 stop) fun r s4 ⟨hr, I5⟩ => ?_
    subst hr
    obtain ⟨mC, hnC, _⟩ := I5.loc
    have IX : Inv X pins σ H3 s4 := I2.call' I5.os I5.base I5.hok I5.bare fun b hb => by
     obtain ⟨_, q1, q2, q3, q4, q5⟩ := f2 b hb
     exact ⟨q3, q1, q4, q5⟩
    refine hR _ _ s4 H3 mC hnC IX I5.free ?_ (.inr ?_) (fun x c e z => ?_) (fun p hp z => ?_) (I2.nofs (by rw [hC]; exact Nat.le_succ _)) q
    ·rw [hC]
     exact Nat.ne_of_gt (Nat.lt_succ_of_lt I2.lt)
    ·rw [hC]
     exact Nat.le_succ_of_le I2.sz
    ·obtain ⟨v, q⟩ := I2.cell x c e
     rw [hC] at z
     exact absurd z (Nat.ne_of_lt (Nat.lt_succ_of_lt q.lt))
    ·rw [hC] at z
     exact absurd z (Nat.ne_of_lt (Nat.lt_succ_of_lt (Heap.lt_size (I2.pin p hp).1)))
   ·refine thn (T.item (X.comp s2 H2 N' scope cl G.objs.size fp) rfl rfl rfl hc i [] s3 _ H3 _ I3 (fpY fr3) st3 go) fun r s4 ⟨u, hr, h4⟩ => ?_
    subst hr
    refine thn h4 fun _ s5 ⟨x, H5, I5, r5, y5, st5, fr5⟩ => ?_
    have I5' := I5.pinned (fpY fr5) (T.obj _ _ st5)
    refine thn (hYg _ s5 _ H5 x u _ I5' r5 (step x H5 y5)) fun _ s6 ⟨σ6, H6, I6, wk, q6⟩ => ?_
    have back : ∀ {H' : Hp} {s' : Shared}, Inv (X.comp s2 H2 N' scope cl G.objs.size fp) ([] ++ pinsAt fp s5.heap) σ6 H' s' ->
      Inv (X.comp s2 H2 N' scope cl G.objs.size fp) [] (compSt n ix σ) H' s' /\ tn (i + 1) s'.heap /\ ∀ b ∈ fp, H' b = none := fun {H' s'} I7 => by
     refine ⟨I7.unpinned.weak wk.1 wk.2, T.keep _ _ _ st5 fun b hb o e => (I7.pin (b, o) (List.mem_append_right _ (List.mem_append_right _ (mem_pinsAt hb e)))).1, fun b hb => ?_⟩
     obtain ⟨o, e, d⟩ := T.obj _ _ st5 b hb
     exact (I7.pin (b, o) (List.mem_append_right _ (List.mem_append_right _ (mem_pinsAt hb e)))).2.1
    refine thn (hYt _ s6 σ6 H6 _ I6 q6) fun ok s7 ⟨H7, I7, q7⟩ => ?_
    cases ok with
    | false =>
     rw [if_neg Bool.false_ne_true] at q7 ⊢
     obtain ⟨m', hm, w7⟩ := q7
     obtain ⟨b1, b2, b3⟩ := back I7
     exact ⟨m', hm, i + 1, H7, b1, b2, b3, w7⟩
    | true =>
     rw [if_pos rfl] at q7 ⊢
     refine thn (hYe _ s7 σ6 H7 _ I7 q7) fun xv s8 ⟨v8, H8, I8, r8, ys, ha, hz, m', hm, w8⟩ => ?_
     refine thn (mt_append _ s8 σ6 H8 (.ref s2.heap.objs.size) [v8] (.ref s2.heap.objs.size) [xv] (fun _ H' => H' = upd H8 s2.heap.objs.size (.lst (ys ++ [v8]))) I8 rfl (.cons r8 .nil) ⟨_, ys, v8, rfl, rfl, ha, hz, rfl⟩) fun _ s9 ⟨_, H9, I9, _, e9⟩ => ?_
     subst e9
     obtain ⟨b1, b2, b3⟩ := back I9
     exact ⟨m', hm, i + 1, _, b1, b2, b3, w8⟩
  ·rw [upd_ne (Nat.ne_of_lt (hlt b hb))]
   exact (f2 b hb).1
 exact codeAny_compStart_list (loop _ rfl) (T.self _ 0 _ _ _ (T.keep _ _ _ st2 fun b hb o e => old b o e) (loop _ rfl))
theorem pe_lc (hc : X.calm = true) (S : CompScope X scope N' n ix) (hi : PI X tg iter wi)
  (hY : ∀ s₂ H₂ cl C fp, PG (X.comp s₂ H₂ N' scope cl C fp) tg g /\ PTs (X.comp s₂ H₂ N' scope cl C fp) ifs tt /\ PE (X.comp s₂ H₂ N' scope cl C fp) elt te)
  (hs : ∀ x, foldedSetIterable iter X.env x = pure x := by intro _; rfl) : PE X (.ListComp elt [⟨tg, iter, ifs, 0⟩] scope pos) (tLc wi g tt te n ix) := by
 intro pins s σ H Q I h
 obtain ⟨cl, hcl, hcl1, hcl2⟩ := closure_ok (env := X.env) (scope := scope) fun y hy hf => I.ok.has _ (S.free y hy hf)
 rw [eval_ListComp]
 refine wpAny_comprehension_free (use := none) rfl hs hcl S.kind S.names (thn (hi pins s σ H _ I h) fun v s1 h1 => thn h1 fun itv s2 h2 => ?_)
 obtain ⟨it, fp, tn, J, H2, rfl, I2, T, st2, f2, hW⟩ := h2
 refine lc_core (R := fun acc C => compPost (model X.prog X.w) X.A X.xe none (EP X pins σ Q) acc C) hc S hY I2 hcl1 hcl2 T st2 f2 hW ?_
 intro acc C s' H' m hn IX hf hL h1 h2 h3 h4 q
 exact ⟨m, hn, fun h' sb => ⟨.ref acc, H', IX.turned (t' := s'.toks) (fun b o hb e => sb.extBut b o hb e) hf hL h1 h2 h3, rfl, q⟩⟩
theorem ps_lcset {x : Str} {i : Nat} {pos' spos : Pos} (hsw : swapsWith (.ListComp elt [⟨tg, iter, ifs, 0⟩] scope pos) (some (.Name x pos')) spos.line X.env = pure true) (hN : X.N.Nodup) (hi' : X.N[i]? = some x) (hx : X.env.scope.names.lookup x = some .local)
  (hc : X.calm = true) (S : CompScope X scope N' n ix) (hi : PI X tg iter wi)
  (hY : ∀ s₂ H₂ cl C fp, PG (X.comp s₂ H₂ N' scope cl C fp) tg g /\ PTs (X.comp s₂ H₂ N' scope cl C fp) ifs tt /\ PE (X.comp s₂ H₂ N' scope cl C fp) elt te)
  (hs : ∀ x, foldedSetIterable iter X.env x = pure x := by intro _; rfl) : PS X (.Assign [.Name x pos'] (.ListComp elt [⟨tg, iter, ifs, 0⟩] scope pos) spos) (tAsg (tLc wi g tt te n ix) (gName i)) := by
 intro pins s σ H D I h
 obtain ⟨cl, hcl, hcl1, hcl2⟩ := closure_ok (env := X.env) (scope := scope) fun y hy hf => I.ok.has _ (S.free y hy hf)
 rw [exec_Assign_Name_used _ _ _ _ hsw]
 refine wpAny_bind (wpAny_standAt (wpAny_bind ?_))
 show wpAny _ _ (do let _ <- comprehension (.ListComp elt [⟨tg, iter, ifs, 0⟩] scope pos) scope X.env _ (newList []) false (eval iter X.env) (some (assign (.Name x pos') X.env))) _ _ s
 refine wpAny_bind (thn (wpAny_comprehension_free (use := some (assign (.Name x pos') X.env)) (Q := fun _ s' => SP X pins D .next s') rfl hs hcl S.kind S.names (thn (hi pins s σ H _ I h) fun v s1 h1 => thn h1 fun itv s2 h2 => ?_)) fun _ s' hq => wpAny_pure (wpAny_pure hq))
 obtain ⟨it, fp, tn, J, H2, rfl, I2, T, st2, f2, hW⟩ := h2
 refine lc_core (Q := fun x H1 => gName i x σ H1 D.nx) (R := fun acc C => compPost (model X.prog X.w) X.A X.xe (some (assign (.Name x pos') X.env)) (fun _ s' => SP X pins D .next s') acc C) hc S hY I2 hcl1 hcl2 T st2 f2 hW ?_
 intro acc C s' H' m hn IX hf hL h1 h2 h3 h4 q
 show wpAny _ _ (assign (.Name x pos') X.env (.ref acc)) _ _ _
 obtain ⟨oC, esC, epC, hoC, hdC, rC⟩ := id hn
 have IP : Inv X (pins ++ [(C, oC)]) σ H' s' := IX.pins_of fun p hp => by
  rcases List.mem_append.mp hp with z | z
  ·exact IX.pin p (List.mem_append_right _ z)
  ·have e : p = (C, oC) := by simpa using z
   subst e
   exact ⟨hoC, hf, hL, h4, fun v z => by rw [hdC] at z; cases z⟩
 refine thn (pg_name hN hi' (.inl hx) (.inr hx) _ s' σ H' (.ref acc) (.ref acc) D.nx IP rfl q) fun _ s'' ⟨σ', H'', I'', q''⟩ => ?_
 obtain ⟨e1, e2, _⟩ := I''.pin (C, oC) (List.mem_append_right _ (List.mem_append_right _ (by simp)))
 refine ⟨m, ⟨oC, esC, epC, e1, hdC, rC⟩, fun h' sb => ⟨σ', H'', ?_, q''⟩⟩
 exact I''.unpinned.turned (t' := s''.toks) (fun b o hb e => sb.extBut b o hb e) e2 hL h1 h2 h3
end
end L2
namespace L2
open PySem PySem.Spec PyProof.Rows
theorem PE.mono {X : Cx} {e : Expr} {t t' : TE} (h : PE X e t) (m : ∀ σ H Q, t' σ H Q -> t σ H Q) : PE X e t' := fun pins s σ H Q I q => h pins s σ H Q I (m σ H Q q)
theorem same_upd {H : Hp} {a : Addr} {o : HO} (h : H a = none) : Same H (upd H a o) := fun b u e => by
 rw [upd_ne (ne_of_none e h)]; exact e
theorem same_updR {H H' : Hp} {a : Addr} {o : HO} (s : Same H H') (h : H a = none) : Same H (upd H' a o) := fun b u e => by
 rw [upd_ne (ne_of_none e h)]; exact s b u e
noncomputable def SameT (H H' : Hp) : Prop := ∀ b xs, H b = some (.tup xs) -> H' b = some (.tup xs)
theorem Same.t {H H' : Hp} (h : Same H H') : SameT H H' := fun b xs e => h b _ e
theorem SameT.trans {H H1 H2 : Hp} (a : SameT H H1) (b : SameT H1 H2) : SameT H H2 := fun c o h => b c o (a c o h)
theorem sameT_lst {H : Hp} {a : Addr} {xs ys : List V} (h : H a = some (.lst xs)) : SameT H (upd H a (.lst ys)) := fun b zs e => by
 rw [upd_ne (ne_of e h (by intro z; cases z))]; exact e
structure Yields (J : It) (Ok : Hp -> Prop) (xs : List V) : Prop where
 go : ∀ i H, Ok H -> i < xs.length -> J.go i H
 yld : ∀ i H x H', Ok H -> i < xs.length -> J.yld i H x H' -> H' = H /\ xs[i]? = some x
 stop : ∀ H, Ok H -> J.stop xs.length H
theorem yields_list {K : PySem.W.Frag} {a : Addr} {xs : List V} : Yields (Itl K a) (fun H => SqL K H a xs) xs :=
 ⟨fun i H q h => ⟨xs, xs[i], q, by simp [h]⟩, fun i H x H' q _ y => ⟨y.1, y.2 xs q⟩, fun H q => ⟨xs, q, Nat.le_refl _⟩⟩
theorem yields_tup {K : PySem.W.Frag} {a : Addr} {xs : List V} : Yields (Itt K a) (fun H => SqT K H a xs) xs :=
 ⟨fun i H q h => ⟨xs, xs[i], q, by simp [h]⟩, fun i H x H' q _ y => ⟨y.1, y.2 xs q⟩, fun H q => ⟨xs, q, Nat.le_refl _⟩⟩
noncomputable def rangeV (lo : Int) (n : Nat) : List V := (List.range n).map fun (i : Nat) => V.int (lo + (i : Int))
theorem rangeV_len (lo : Int) (n : Nat) : (rangeV lo n).length = n := by simp [rangeV]
section
variable {J : It} {Ok : Hp -> Prop} {xs : List V} {tt : TT} {te : TE} {ix : List Nat} {σ : St} {H1 : Hp} {Q : VK}
theorem lc_pure (Y : Yields J Ok xs) (small : xs.length < sizeLine) (p : V -> Bool) (f : V -> V) (hok : ∀ H, Same H1 H -> Ok H)
  (ht : ∀ x ∈ xs, ∀ H, Same H1 H -> ∀ Q' : Bool -> Hp -> Prop, Q' (p x) H -> tt (some x :: ix.map fun i => σ.getD i none) H Q')
  (he : ∀ x ∈ xs, p x = true -> ∀ H, Same H1 H -> ∀ Q' : VK, Q' (f x) H -> te (some x :: ix.map fun i => σ.getD i none) H Q')
  (fin : ∀ acc, H1 acc = none -> Q (.ref acc) (upd H1 acc (.lst ((xs.filter p).map f)))) :
  LcW J H1 (gName 0) tt te 1 ix σ Q := by
 intro acc ha
 refine ⟨fun i m H => m = xs.length - i /\ i <= xs.length /\ H = upd H1 acc (.lst (((xs.take i).filter p).map f)), ⟨xs.length, by simp, Nat.zero_le _, rfl⟩, ?_⟩
 rintro i m H ⟨rfl, hi, rfl⟩
 have sm : Same H1 (upd H1 acc (.lst (((xs.take i).filter p).map f))) := same_upd ha
 have o := hok _ sm
 by_cases hlt : i < xs.length
 ·refine .inr ⟨Y.go i _ o hlt, fun x H' y => ?_⟩
  obtain ⟨rfl, hx⟩ := Y.yld i _ x H' o hlt y
  have hmem : x ∈ xs := List.mem_of_getElem? hx
  have htk : xs.take (i + 1) = xs.take i ++ [x] := by
   rw [List.take_succ, hx]; rfl
  refine ⟨⟨rfl, fun j v e => ?_⟩, ?_⟩
  ·cases j with
   | zero => cases e
   | succ j => exact e
  ·refine ht x hmem _ sm _ ?_
   cases hp : p x with
   | false =>
    rw [if_neg Bool.false_ne_true]
    refine ⟨xs.length - (i + 1), by (first | lia | omega), rfl, hlt, ?_⟩
    rw [htk, List.filter_append]
    simp [hp]
   | true =>
    rw [if_pos rfl]
    refine he x hmem hp _ sm _ ?_
    refine ⟨_, upd_same, ?_, xs.length - (i + 1), by (first | lia | omega), rfl, hlt, ?_⟩
    ·rw [List.length_map]
     refine Nat.lt_of_le_of_lt (List.length_filter_le _ _) ?_
     rw [List.length_take]; (first | lia | omega)
    ·rw [upd_upd, htk, List.filter_append, List.map_append]
     simp [hp]
 ·have e : i = xs.length := by (first | lia | omega)
  subst e
  refine .inl ⟨Y.stop _ o, ?_⟩
  rw [List.take_length]
  exact fin acc ha
theorem lc_grow (Y : Yields J Ok xs) (small : xs.length < sizeLine) (R : V -> V -> Hp -> Prop) (hR : ∀ x v H H', SameT H H' -> R x v H -> R x v H') (hok : ∀ H, Same H1 H -> Ok H)
  (he : ∀ x ∈ xs, ∀ H, Same H1 H -> ∀ Q' : VK, (∀ v H', Same H H' -> R x v H' -> Q' v H') -> te (some x :: ix.map fun i => σ.getD i none) H Q')
  (fin : ∀ acc ys H', H1 acc = none -> Same H1 H' -> H' acc = some (.lst ys) -> Paired (fun x v => R x v H') xs ys -> Q (.ref acc) H') :
  LcW J H1 (gName 0) tNoTest te 1 ix σ Q := by
 intro acc ha
 refine ⟨fun i m H => m = xs.length - i /\ i <= xs.length /\ Same H1 H /\ ∃ ys, H acc = some (.lst ys) /\ Paired (fun x v => R x v H) (xs.take i) ys, ⟨xs.length, by simp, Nat.zero_le _, same_upd ha, [], upd_same, .nil⟩, ?_⟩
 rintro i m H ⟨rfl, hi, sm, ys, hacc, pr⟩
 have o := hok _ sm
 have hlen : ys.length = i := by rw [<- Paired.length pr, List.length_take]; (first | lia | omega)
 by_cases hlt : i < xs.length
 ·refine .inr ⟨Y.go i _ o hlt, fun x H' y => ?_⟩
  obtain ⟨rfl, hx⟩ := Y.yld i _ x H' o hlt y
  have hmem : x ∈ xs := List.mem_of_getElem? hx
  have htk : xs.take (i + 1) = xs.take i ++ [x] := by
   rw [List.take_succ, hx]; rfl
  refine ⟨⟨rfl, fun j v e => ?_⟩, ?_⟩
  ·cases j with
   | zero => cases e
   | succ j => exact e
  ·unfold tNoTest
   dsimp only
   rw [if_pos rfl]
   refine he x hmem _ sm _ fun v H4 s4 r4 => ?_
   have h4 : H4 acc = some (.lst ys) := s4 _ _ hacc
   refine ⟨ys, h4, by (first | lia | omega), xs.length - (i + 1), by (first | lia | omega), rfl, hlt, same_updR (sm.trans s4) ha, ys ++ [v], upd_same, ?_⟩
   rw [htk]
   have st : SameT H4 (upd H4 acc (.lst (ys ++ [v]))) := sameT_lst h4
   exact Paired.snoc (Paired.mapP pr fun x' v' r' => hR _ _ _ _ (s4.t.trans st) r') (hR _ _ _ _ st r4)
 ·have e : i = xs.length := by (first | lia | omega)
  subst e
  refine .inl ⟨Y.stop _ o, ?_⟩
  rw [List.take_length] at pr
  exact fin acc ys H ha sm hacc pr
end
end L2
namespace L2
open PySem PySem.Spec PyProof.Rows
section
variable {prog : Program} {w : World} {A : Around} {E : Value -> Shared -> Prop} {s : Shared}
theorem nextT_item {it t : Addr} {i : Nat} {its : Array Value} {x : Value} {Q : Value -> Shared -> Prop} (hi : s.heap.IsTupleIter it t i) (ht : s.heap.IsTuple t its) (hx : its[i]? = some x)
  (q : ∀ h', h'.IsTupleIter it t (i + 1) -> Heap.SameBut it s.heap h' -> Q x { s with heap := h' }) : wpAny (model prog w) A (Builtin.SmallTypes.nextOf (.ref it)) Q E s := by
 obtain ⟨o, e1, e2, e3⟩ := id hi
 obtain ⟨u, f1, f2, nu, f3⟩ := ht
 unfold Builtin.SmallTypes.nextOf
 refine wpAny_bind (wpAny_callSpecial?_slot (name := Str.ofString "__next__") hi.typeIs F.slot_tuple_iterator_next (wpAny_call_entry F.slot_tuple_iterator_next hi.typeIs F.entry_tuple_iterator_next ?_ (F.args_tuple_iterator_next_1 _)))
 show wpAny _ _ (field (.ref it) 0 >>= _) _ _ s
 refine wpAny_bind (wpAny_field e1 e3 (x := .ref t) rfl ?_)
 show wpAny _ _ (if (Value.ref t == Value.none) = true then _ else _) _ _ s
 rw [if_neg (show ¬ ((Value.ref t == Value.none) = true) from Bool.false_ne_true)]
 show wpAny _ _ (field (.ref it) 1 >>= _) _ _ s
 refine wpAny_bind (wpAny_field e1 e3 (x := .int i 0) rfl ?_)
 show wpAny _ _ (seqItems? (.ref t) >>= _) _ _ s
 refine wpAny_bind (wpAny_seqItems f1 f3 ?_)
 simp only [Int.toNat_natCast, hx]
 refine wpAny_bind (wpAny_setField e1 e3 (by simp) (wpAny_pure ⟨x, rfl, wpAny_pure (q _ ⟨_, Heap.get?_update_self _ e1 (Obj.isFreed_of_fields (Obj.data_mapFields e3 _)), (Obj.cls_mapFields ..).trans e2, ?_⟩ (Heap.SameBut.update ..))⟩))
 rw [Obj.data_mapFields e3]
 simp [rawInt]
theorem nextT_end {it t : Addr} {i : Nat} {its : Array Value} {Q : Value -> Shared -> Prop} (hh : A.handled = none) (hi : s.heap.IsTupleIter it t i) (ht : s.heap.IsTuple t its) (hx : its[i]? = none)
  (q : ∀ h' e, Heap.ExtBut it s.heap h' -> (∃ o, h'.get? e = some o /\ o.cls = .type "StopIteration") -> E (.ref e) { s with heap := h' }) : wpAny (model prog w) A (Builtin.SmallTypes.nextOf (.ref it)) Q E s := by
 obtain ⟨o, e1, e2, e3⟩ := id hi
 obtain ⟨u, f1, f2, nu, f3⟩ := ht
 unfold Builtin.SmallTypes.nextOf
 refine wpAny_bind (wpAny_callSpecial?_slot (name := Str.ofString "__next__") hi.typeIs F.slot_tuple_iterator_next (wpAny_call_entry F.slot_tuple_iterator_next hi.typeIs F.entry_tuple_iterator_next ?_ (F.args_tuple_iterator_next_1 _)))
 show wpAny _ _ (field (.ref it) 0 >>= _) _ _ s
 refine wpAny_bind (wpAny_field e1 e3 (x := .ref t) rfl ?_)
 show wpAny _ _ (if (Value.ref t == Value.none) = true then _ else _) _ _ s
 rw [if_neg (show ¬ ((Value.ref t == Value.none) = true) from Bool.false_ne_true)]
 show wpAny _ _ (field (.ref it) 1 >>= _) _ _ s
 refine wpAny_bind (wpAny_field e1 e3 (x := .int i 0) rfl ?_)
 show wpAny _ _ (seqItems? (.ref t) >>= _) _ _ s
 refine wpAny_bind (wpAny_seqItems f1 f3 ?_)
 simp only [Int.toNat_natCast, hx]
 refine wpAny_bind (wpAny_rule (wpAny_bind (wpAny_setField e1 e3 (by simp) ?_)))
 show wpAny _ _ (newExc (.type "StopIteration") [] >>= _) _ _ _
 refine wpAny_bind ?_
 simp only [newExc, newTuple]
 refine wpAny_bind (wpAny_newObj_type ?_ (by size_fits))
 refine wpAny_bind (m := firstArgMember _ _) (wpAny_of_eq (a := Value.none) (by first | rfl | (simp only [firstArgMember]; rfl)) ?_)
 refine wpAny_newObj_type ?_ (by size_fits)
 simp only [raiseNew]
 refine wpAny_bind (wpAny_handled ?_)
 first | rw [show A.in1.handled = none from hh] | rw [hh]
 refine wpAny_bind (wpAny_pure (wpAny_throw ?_))
 exact q _ _ (((Heap.SameBut.update ..).extBut.push _).push _) ⟨_, Heap.get?_push_size _ rfl, rfl⟩
end
theorem drawsT {prog : Program} {w : World} {A : Around} (hh : A.handled = none) (it t : Addr) (hne : t ≠ it) (its : Array Value) :
  Draws prog w A it [it, t] its.size (fun i v => its[i]? = some v) (fun i h => h.IsTupleIter it t i /\ h.IsTuple t its) where
 live := fun _ _ st => let ⟨o, ho, _⟩ := st.1; ⟨o, ho⟩
 frame := fun _ _ _ st hk => ⟨let ⟨o, ho, r⟩ := st.1; ⟨o, hk it (by simp) o ho, r⟩, let ⟨o, ho, r⟩ := st.2; ⟨o, hk t (by simp) o ho, r⟩⟩
 item := fun i s Q E hi st hQ => nextT_item st.1 st.2 (x := its[i]) (by simp [hi]) fun h' a b => hQ _ h' s.toks (by simp [hi]) ⟨a, st.2.extBut b.extBut hne⟩ b
 done := fun s Q E st hE => nextT_end hh st.1 st.2 (by simp) hE
theorem enum_newT (l : Addr) (items : Array Value) (n : Nat) (dct : Option Addr) (sl : Array (Option Value)) :
  Meets (Builtin.«enumerate.__new__» ⟨[.type "enumerate", .ref l], []⟩) (fun _ R s => s.heap.get? l = some { cls := .type "tuple", dict := dct, data := .seq items n, slots := sl } /\
   R (.ok (.ret (.ref (s.heap.push { cls := .type "tuple_iterator", data := .fields #[.ref l, .int 0 0] }).objs.size)))
    { s with heap := (s.heap.push { cls := .type "tuple_iterator", data := .fields #[.ref l, .int 0 0] }).push { cls := .type "enumerate", data := .fields #[.none, .bool false, .ref s.heap.objs.size, rawInt 0, .none, .none] } }) :=
 .of_wp fun prog w A R s h => by
  obtain ⟨hp, g, d, tk, os⟩ := s; obtain ⟨hl, h⟩ := h
  have hsub := sub_enumerate
  have hL : Heap.IsTuple (Shared.heap ⟨hp, g, d, tk, os⟩) l items := ⟨_, hl, rfl, n, rfl⟩
  wp_walk using AutoSeq1.wpAny_loadPart' hl
  refine wpAny_stack_any fun st => wpAny_pure ?_
  split
  ·rename_i c _ _ _ _ _
   cases (c == Value.type "enumerate") <;> (wp_walk using AutoSeq1.wpAny_loadPart' hl, wpAny_pyIter_tuple hL; exact ⟨_, rfl, h⟩)
  ·wp_walk using AutoSeq1.wpAny_loadPart' hl, wpAny_pyIter_tuple hL
   exact ⟨_, rfl, h⟩
theorem call_enumT {prog : Program} {w : World} {A : Around} {E : Value -> Shared -> Prop} {s : Shared} {l : Addr} {items : Array Value} {Q : Value -> Shared -> Prop} (hL : s.heap.IsTuple l items)
  (h : ∀ h', IsEnum h' (s.heap.objs.size + 1) s.heap.objs.size 0 .none -> h'.IsTupleIter s.heap.objs.size l 0 -> h'.objs.size = s.heap.objs.size + 2 ->
   (∀ b o, s.heap.get? b = some o -> h'.get? b = some o) -> Q (.ref (s.heap.objs.size + 1)) { s with heap := h' }) :
  wpAny (model prog w) A (call (.type "enumerate") [.ref l]) Q E s := by
 obtain ⟨⟨c, dct, dt, sl⟩, hl, hc, n, hd⟩ := hL
 replace hc : c = .type "tuple" := hc
 replace hd : dt = .seq items n := hd
 subst hc hd
 refine callType_new F.called_enumerate (by decide) (F.typeCall_enumerate_1 _) (F.newCall_enumerate_1 _) (fun obj => F.args_object_init_2 obj _) F.entry_enumerate_new (enum_newT l items n dct sl) ⟨hl, ?_⟩
 have hz : (s.heap.push { cls := .type "tuple_iterator", data := .fields #[.ref l, .int 0 0] }).objs.size = s.heap.objs.size + 1 := Heap.size_push ..
 show _ /\ _
 rw [hz]
 have he := Heap.get?_push_size (s.heap.push { cls := .type "tuple_iterator", data := .fields #[.ref l, .int 0 0] }) (o := { cls := .type "enumerate", data := .fields #[.none, .bool false, .ref s.heap.objs.size, rawInt 0, .none, .none] }) rfl
 rw [hz] at he
 exact ⟨⟨_, he, rfl⟩, h _ he ⟨_, Heap.get?_push_of_some _ (Heap.get?_push_size _ rfl), rfl, rfl⟩ (by rw [Heap.size_push, hz]) fun b o x => Heap.get?_push_of_some _ (Heap.get?_push_of_some _ x)⟩
end L2
namespace L2
open PySem PySem.Spec PyProof.Rows
section
variable {X : Cx} {pins : List (Addr × Obj)} {σ : St} {H : Hp} {s : Shared} {h' : Heap}
theorem Inv.turnedN {t' : Nat} {fp : List Addr} (I : Inv X pins σ H s) (hf : ∀ b ∈ fp, FpOk X pins H b) (k : ∀ b o, b ∉ fp -> s.heap.get? b = some o -> h'.get? b = some o) : Inv X pins σ H { s with heap := h', toks := t' } := by
 have nit : ∀ b u, H b = some u -> b ∉ fp := fun b u e z => by rw [(hf b z).1] at e; cases e
 refine I.step (g' := s.gens) (d' := s.drawn) (ch := fp) (fun b hb => ?_) (fun b o _ _ hc e _ => k b o hc e) (fun b o _ _ hc e _ => ⟨o.slots, k b o hc e⟩) (fun _ _ _ _ n => n)
  (fun b o hc e => ⟨o, k b o hc e⟩) (fun _ _ e => e) (fun _ _ _ e => e) (fun b ps e => ⟨#[], by rw [e]; simp⟩) (fun m hm => ?_) (fun b u e => ?_) I.bare
 ·obtain ⟨_, q1, q2, q3, q4, q5⟩ := hf b hb
  exact ⟨q3, q1, q4, q5⟩
 ·obtain ⟨o, es, ep, ho, r⟩ := hm
  exact ⟨o, es, ep, k _ o (fun z => (hf _ z).2.1 rfl) ho, r⟩
 ·refine (I.hok b u e).stay (fun c v hc q => k c v ?_ q) (fun _ q => q) fun _ _ q => q
  rcases hc with z | z
  ·rw [z]; exact nit b u e
  ·exact nit c _ z
theorem Inv.trackT {a : Addr} {xs : List V} {its : List Value} (I : Inv X pins σ H s) (hn : H a = none) (hs : X.s₀.heap.objs.size <= a) (hL : a ≠ X.env.locals) (hc : ∀ x c, X.env.cells.lookup x = some c -> c ≠ a) (hp : ∀ p ∈ X.pn ++ pins, p.1 ≠ a)
  (rv : Vals xs its) (ht : PTup s.heap a its.toArray) (hz : xs.length <= sizeLine) : Inv X pins σ (upd H a (.tup xs)) s := by
 have ne : ∀ {b u}, H b = some u -> b ≠ a := fun e => ne_of_none e hn
 refine ⟨I.ok, I.os, I.bare, ⟨I.base.keep, I.base.slot, fun b o e n hx => ?_, I.base.there, fun b ys e => ?_, fun b o u e => ?_, fun b ps e => ?_⟩, I.loc, I.cell, ?_, fun x c e => ?_, fun p hp' => ?_, fun b u e => ?_, I.len⟩
 ·rw [upd_ne (Nat.ne_of_lt (Nat.lt_of_lt_of_le (Heap.lt_size e) hs))]
  exact I.base.free b o e n hx
 ·have q := I.base.tups b ys e
  rw [upd_ne (ne q)]; exact q
 ·have q := I.base.frzs b o u e
  rw [upd_ne (ne q)]; exact q
 ·obtain ⟨m, q⟩ := I.base.tbls b ps e
  exact ⟨m, by rw [upd_ne (ne q)]; exact q⟩
 ·rw [upd_ne (Ne.symm hL)]; exact I.free
 ·rw [upd_ne (hc x c e)]; exact I.freeC x c e
 ·obtain ⟨q1, q2, q3⟩ := I.pin p hp'
  exact ⟨q1, by rw [upd_ne (hp p hp')]; exact q2, q3⟩
 ·by_cases hb : b = a
  ·subst hb
   rw [upd_same] at e; cases e
   exact ⟨hz, its, rv, ht⟩
  ·rw [upd_ne hb] at e
   exact (I.hok b u e).stay (fun _ _ _ q => q) (fun c q => by rw [upd_ne (ne q)]; exact q) fun c ys q => by rw [upd_ne (ne q)]; exact q
theorem Inv.turnedT {t' : Nat} {fp : List Addr} {xs : List V} {its : List Value} (I : Inv X pins σ H s) (hf : ∀ b ∈ fp, FpOk X pins H b) (k : ∀ b o, b ∉ fp -> s.heap.get? b = some o -> h'.get? b = some o)
  (rv : Vals xs its) (ht : PTup h' s.heap.objs.size its.toArray) (hz : xs.length <= sizeLine) : Inv X pins σ (upd H s.heap.objs.size (.tup xs)) { s with heap := h', toks := t' } := by
 refine (I.turnedN (t' := t') hf k).trackT (I.hok.fresh (Nat.le_refl _)) I.sz (Nat.ne_of_gt I.lt) (fun x c e => ?_) (fun p hp => ?_) rv ht hz
 ·obtain ⟨v, q⟩ := I.cell x c e
  exact Nat.ne_of_lt q.lt
 ·exact Nat.ne_of_lt (Heap.lt_size (I.pin p hp).1)
end
noncomputable def Ite (K : PySem.W.Frag) (a : Addr) : It :=
 ⟨fun i H => ∃ xs x, SqT K H a xs /\ xs[i]? = some x, fun i H v H' => ∃ t x, H t = none /\ v = .ref t /\ H' = upd H t (.tup [.int i, x]) /\ ∀ xs, SqT K H a xs -> xs[i]? = some x, fun i H => ∃ xs, SqT K H a xs /\ xs.length = i⟩
theorem turn_enumT {P : Program} {w : World} {K : PySem.W.Frag} {els : List Expr} {kx} {tp : Pos} (a e it : Addr) (hne : e ≠ it) : Turn P w K (.Tuple els kx tp) (Ite K a) [e, it] e (fun i h => (∃ old, IsEnum h e it i old) /\ h.IsTupleIter it a i) where
 mem := by simp
 obj := fun i h st b hb => by
  obtain ⟨⟨old, he⟩, o, ho, hc, hd⟩ := st
  rcases List.mem_cons.mp hb with rfl | hb
  ·exact ⟨_, he, fun v z => by cases z⟩
  ·rw [List.mem_singleton.mp hb]
   exact ⟨o, ho, fun v z => by rw [hd] at z; cases z⟩
 keep := fun i h h' st k => by
  obtain ⟨⟨old, he⟩, o, ho, r⟩ := st
  exact ⟨⟨old, k e (by simp) _ he⟩, o, k it (by simp) _ ho, r⟩
 item := by
  intro X hP hw hK hc i pins s σ H E I hf st hg
  subst hP hw hK
  obtain ⟨xs, x, hq, hx⟩ := hg
  obtain ⟨its, rv, p, hz⟩ := I.tuple hq
  obtain ⟨u, hu, ru⟩ := rv.get hx
  obtain ⟨⟨old, he⟩, hi⟩ := st
  obtain ⟨o, ho, hcl, hd⟩ := id hi
  have hT : s.heap.IsTuple a its.toArray := p
  have hai : a ≠ it := fun z => by
   obtain ⟨o', e1, e2, _⟩ := p
   rw [z, ho] at e1; cases e1; rw [hcl] at e2; injection e2 with z2; revert z2; decide
  have hae : e ≠ a := fun z => by
   obtain ⟨o', e1, e2, _⟩ := p
   rw [<- z, he] at e1; cases e1; injection e2 with z2; revert z2; decide
  have hlt : i < its.toArray.size := by
   have := (List.getElem?_eq_some_iff.mp hu).1
   simpa using this
  have hh : X.A.in1.handled = none := I.ok.hd hc
  refine wpAny_pyNext_enum_itemD (drawsT hh it a hai its.toArray) he ⟨hi, hT⟩ hlt hne (by simp [hne, hae]) fun x' h1 tk hP1 ho1 hs1 hT1 hz1 hk1 => ?_
  have ex : x' = u := by
   have q : its[i]? = some x' := by simpa using hP1
   rw [hu] at q; exact (Option.some.inj q).symm
  subst ex
  refine ⟨_, rfl, wpAny_letOwnedTupleGo_enum ho1 fun h2 he2 hs2 => ?_⟩
  have hne0 : s.heap.objs.size ≠ e := Nat.ne_of_gt (Heap.lt_size he)
  have keep : ∀ b o, b ∉ [e, it] -> s.heap.get? b = some o -> h2.get? b = some o := fun b o hb e0 => (hs2.2 b fun z => hb (by simp [z])).trans (hk1 b o (fun z => hb (by simp [z])) (fun z => hb (by simp [z])) e0)
  refine ⟨.ref s.heap.objs.size, _, I.turnedT (h' := h2) (t' := tk + 1) (xs := [.int i, x]) hf keep (.cons ⟨tk, rfl⟩ (.cons ru .nil)) ⟨_, (hs2.2 _ hne0).trans hT1, rfl, ⟨_, rfl⟩, rfl, rfl⟩ (by show 2 <= sizeLine; decide), rfl, ⟨_, x, I.hok.fresh (Nat.le_refl _), rfl, rfl, fun ys hy => by rw [I.tuple_inj hy hq]; exact hx⟩, ⟨⟨_, by simpa using he2⟩, ?_⟩, fun b hb => ?_⟩
  ·obtain ⟨⟨o1, e1, r1⟩, _⟩ := hs1
   exact ⟨o1, (hs2.2 it (Ne.symm hne)).trans e1, r1⟩
  ·rcases List.mem_cons.mp hb with rfl | hb'
   ·rw [upd_ne (Nat.ne_of_lt (Heap.lt_size he))]; exact (hf _ hb).1
   ·have e9 := List.mem_singleton.mp hb'
    subst e9
    rw [upd_ne (Nat.ne_of_lt (Heap.lt_size ho))]; exact (hf _ hb).1
 done := by
  intro X hP hw hK hc i pins s σ H E I hf st hg
  subst hP hw hK
  obtain ⟨xs, hq, hx⟩ := hg
  obtain ⟨its, rv, p, hz⟩ := I.tuple hq
  obtain ⟨⟨old, he⟩, hi⟩ := st
  obtain ⟨o, ho, hcl, hd⟩ := id hi
  have hT : s.heap.IsTuple a its.toArray := p
  have hai : a ≠ it := fun z => by
   obtain ⟨o', e1, e2, _⟩ := p
   rw [z, ho] at e1; cases e1; rw [hcl] at e2; injection e2 with z2; revert z2; decide
  have hh : X.A.in1.handled = none := I.ok.hd hc
  have hl : its.toArray.size = i := by rw [List.size_toArray, <- rv.length, hx]
  refine wpAny_pyNext_enum_endD (drawsT hh it a hai its.toArray) he (by rw [hl]; exact ⟨hi, hT⟩) fun h1 hk => ⟨rfl, ?_⟩
  exact I.turnedN (t' := s.toks) hf fun b o hb e0 => hk b o (fun z => hb (by simp [z])) e0
 self := fun _ _ _ _ _ st h => by
  obtain ⟨⟨old, he⟩, _⟩ := st
  exact wpAny_pyIter_enum he h
section
variable {X : Cx}
noncomputable def iEnum (K : PySem.W.Frag) (ta : TA) : TI := fun σ H R => ta σ H fun vs H1 => ∃ a, vs = [.ref a] /\ (∃ xs, SqT K H1 a xs) /\ R (Ite K a) H1
theorem pi_enumT {els : List Expr} {kx} {tp : Pos} {l : Expr} {ta : TA} {p pos : Pos} (hg : Gl X "enumerate") (hm : X.mg "enumerate" = none) (ha : PA X [l] ta) (hs : starEach [l] X.env = [(false, eval l X.env)] := by rfl) :
  PI X (.Tuple els kx tp) (.Call (.Name "enumerate" p) [l] [] pos) (iEnum X.K ta) := by
 intro pins s σ H R I h
 refine Call_ (ld_blt I hg hm boot_enumerate (PyProof.Rows.callWith_type1 (thn (ha pos pins s σ H _ I h) fun us s1 ⟨vs, H1, I1, r1, q1⟩ => ?_) hs rfl))
 obtain ⟨a, rfl, ⟨xs, hq⟩, q⟩ := q1
 obtain ⟨u, rfl, ru⟩ := vals1 r1
 cases (show u = Value.ref a from ru)
 obtain ⟨its, rv, p', hz⟩ := I1.tuple hq
 refine call_enumT (show s1.heap.IsTuple a its.toArray from p') fun h' he hi hsz hk => wpAny_pyIter_enum he ?_
 have I2 : Inv X pins σ H1 { s1 with heap := h' } := I1.kept (t' := s1.toks) hk
 refine ⟨s1.heap.objs.size + 1, [s1.heap.objs.size + 1, s1.heap.objs.size], _, _, H1, rfl, I2, turn_enumT a _ _ (Nat.ne_of_gt (Nat.lt_succ_self _)), ⟨⟨_, he⟩, hi⟩, fun b hb => ?_, q⟩
 rcases List.mem_cons.mp hb with rfl | hb
 ·exact I1.fpOk (Nat.le_succ _) (I1.hok.fresh (Nat.le_succ _))
 ·rw [List.mem_singleton.mp hb]
  exact I1.fpOk (Nat.le_refl _) (I1.hok.fresh (Nat.le_refl _))
end
end L2
namespace L2
open PySem PySem.Spec PyProof.Rows
structure ZipT (h : Heap) (z TI TO i1 i2 a b : Addr) (i : Nat) : Prop where
 z : IsZip h z TI TO .none
 ti : IsPair h TI (.ref i1) (.ref i2)
 to : ∃ x y, IsPair h TO x y
 one : h.IsTupleIter i1 a i
 two : h.IsTupleIter i2 b i
structure ZipNe (z TI TO i1 i2 : Addr) : Prop where
 az : TI ≠ z
 bz : TO ≠ z
 cz : i1 ≠ z
 dz : i2 ≠ z
 ab : TI ≠ TO
 ac : TI ≠ i1
 ad : TI ≠ i2
 bc : TO ≠ i1
 bd : TO ≠ i2
 cd : i1 ≠ i2
section
variable {prog : Program} {w : World} {A : Around} {E : Value -> Shared -> Prop} {s : Shared} {z TI TO i1 i2 a b : Addr} {i : Nat} {xs ys : Array Value}
theorem pairSet {T : Addr} {p q x : Value} {k : Nat} {Q : Unit -> Shared -> Prop} (hT : IsPair s.heap T p q) (h : ∀ h', h'.get? T = some { cls := .type "tuple", data := .seq ((#[p, q] : Array Value).setIfInBounds k x) } -> Heap.SameBut T s.heap h' -> Q () { s with heap := h' }) :
  wpAny (model prog w) A (updateSeq T (·.setIfInBounds k x)) Q E s := wpAny_updateSeq_pair hT h
theorem tupNe {h : Heap} {t j : Addr} {k : Nat} {its : Array Value} {u : Addr} (ht : h.IsTuple t its) (hj : h.IsTupleIter j u k) : t ≠ j := fun e => by
 obtain ⟨o, e1, e2, _⟩ := ht
 obtain ⟨o', f1, f2, _⟩ := hj
 rw [e, f1] at e1; cases e1; rw [f2] at e2; injection e2 with z2; revert z2; decide
theorem zipT_item {x y : Value} {Q : Option Value -> Shared -> Prop} (D : ZipNe z TI TO i1 i2) (S : ZipT s.heap z TI TO i1 i2 a b i) (ha : s.heap.IsTuple a xs) (hb : s.heap.IsTuple b ys) (haz : a ≠ z /\ a ≠ TO) (hbz : b ≠ z /\ b ≠ TO) (hx : xs[i]? = some x) (hy : ys[i]? = some y)
  (q : ∀ h', IsZip h' z TI TO (rawInt s.heap.objs.size) -> IsPair h' TI (.ref i1) (.ref i2) -> IsPair h' TO x y -> h'.IsTupleIter i1 a (i + 1) -> h'.IsTupleIter i2 b (i + 1) -> IsPair h' s.heap.objs.size x y ->
   (∀ c o, c ≠ z -> c ≠ TO -> c ≠ i1 -> c ≠ i2 -> s.heap.get? c = some o -> h'.get? c = some o) -> Q (some (.ref s.heap.objs.size)) { s with heap := h' }) :
  wpAny (model prog w) A (pyNext (.ref z)) Q E s := by
 obtain ⟨hz, hti, ⟨p0, p1, hto⟩, h1, h2⟩ := S
 have ai1 := tupNe ha h1
 have ai2 := tupNe ha h2
 have bi1 := tupNe hb h1
 have bi2 := tupNe hb h2
 have hT : s.TypeIs (.ref z) "zip" := ⟨_, hz, rfl⟩
 unfold pyNext
 refine wpAny_bind (wpAny_attempt (wpAny_callSpecial?_slot (name := Str.ofString "__next__") hT F.slot_zip_next (wpAny_call_entry F.slot_zip_next hT F.entry_zip_next ?_ (F.args_zip_next_1 _))))
 show wpAny _ _ (field (.ref z) 2 >>= _) _ _ _
 refine wpAny_bind (wpAny_field hz rfl (x := .bool false) rfl ?_); show wpAny _ _ (field (.ref z) 3 >>= _) _ _ _
 refine wpAny_bind (wpAny_field hz rfl (x := .ref TI) rfl (wpAny_bind (wpAny_seqItems hti rfl ?_)))
 show wpAny _ _ (Builtin.SmallTypes.ownedTupleIsFree (.ref z) >>= _) _ _ _
 refine wpAny_bind ?_
 unfold Builtin.SmallTypes.ownedTupleIsFree
 refine wpAny_bind (wpAny_field hz rfl (x := .none) rfl (wpAny_pure ?_)); simp only [if_true]
 refine wpAny_bind (wpAny_rule (wpAny_bind (wpAny_field hz rfl (x := .ref TO) rfl (wpAny_bind (wpAny_setField_rec hz (by simp) fun g1 k1 s1 => ?_)))))
 replace k1 : IsZip g1 z TI TO .ellipsis := k1
 refine wpAny_bind ?_
 simp only [List.zipIdx_cons, List.zipIdx_nil, List.forIn_cons, List.forIn_nil]
 refine wpAny_bind (wpAny_bind (wpAny_onRaise ?_)); show wpAny _ _ (Builtin.SmallTypes.nextOf (.ref i1) >>= _) _ _ _
 refine wpAny_bind (nextT_item (h1.extBut s1.extBut D.cz) (ha.extBut s1.extBut haz.1) hx fun g2 j2 s2 => wpAny_pure ?_)
 have t2 : IsPair g2 TO p0 p1 := s2.extBut _ _ D.bc (s1.extBut _ _ D.bz hto)
 refine wpAny_bind (wpAny_seqItems t2 rfl (wpAny_bind (pairSet t2 fun g3 t3 s3 => ?_)))
 replace t3 : IsPair g3 TO x p1 := t3
 refine wpAny_bind (wpAny_letGo (wpAny_pure ?_))
 refine wpAny_bind (wpAny_bind (wpAny_onRaise ?_)); show wpAny _ _ (Builtin.SmallTypes.nextOf (.ref i2) >>= _) _ _ _
 have e3 : ∀ c o, c ≠ z -> c ≠ i1 -> c ≠ TO -> s.heap.get? c = some o -> g3.get? c = some o := fun c o c1 c2 c3 e => s3.extBut _ _ c3 (s2.extBut _ _ c2 (s1.extBut _ _ c1 e))
 have h23 : g3.IsTupleIter i2 b i := let ⟨o, ho, r⟩ := h2; ⟨o, e3 _ _ D.dz D.cd.symm D.bd.symm ho, r⟩
 have hb3 : g3.IsTuple b ys := let ⟨o, ho, r⟩ := hb; ⟨o, e3 _ _ hbz.1 bi1 hbz.2 ho, r⟩
 refine wpAny_bind (nextT_item h23 hb3 hy fun g4 j4 s4 => wpAny_pure ?_)
 have t4 : IsPair g4 TO x p1 := s4.extBut _ _ D.bd t3
 refine wpAny_bind (wpAny_seqItems t4 rfl (wpAny_bind (pairSet t4 fun g5 t5 s5 => ?_)))
 replace t5 : IsPair g5 TO x y := t5
 refine wpAny_bind (wpAny_letGo (wpAny_pure (wpAny_pure ?_)))
 refine wpAny_bind (wpAny_seqItems t5 rfl (wpAny_bind (wpAny_newTuple ?_)))
 have z5 : g5.objs.size = s.heap.objs.size := by rw [s5.1, s4.1, s3.1, s2.1, s1.1]
 have e5 : ∀ c o, c ≠ z -> c ≠ TO -> c ≠ i1 -> c ≠ i2 -> s.heap.get? c = some o -> g5.get? c = some o := fun c o c1 c2 c3 c4 e => s5.extBut _ _ c2 (s4.extBut _ _ c4 (e3 c o c1 c3 c2 e))
 have k5 : IsZip g5 z TI TO .ellipsis := s5.extBut _ _ D.bz.symm (s4.extBut _ _ D.dz.symm (s3.extBut _ _ D.bz.symm (s2.extBut _ _ D.cz.symm k1)))
 have m1 : g5.IsTupleIter i1 a (i + 1) := ((j2.extBut s3.extBut D.bc.symm).extBut s4.extBut D.cd).extBut s5.extBut D.bc.symm
 have m2 : g5.IsTupleIter i2 b (i + 1) := j4.extBut s5.extBut D.bd.symm
 have zlt : z < g5.objs.size := Heap.lt_size k5
 show wpAny _ _ (Builtin.SmallTypes.ownedTupleHandOut (.ref z) (.ref g5.objs.size) >>= _) _ _ _
 refine wpAny_bind ?_
 unfold Builtin.SmallTypes.ownedTupleHandOut
 have k6 : IsZip (g5.push { cls := .type "tuple", data := .seq #[x, y] }) z TI TO .ellipsis := Heap.get?_push_of_some _ k5
 refine wpAny_bind (wpAny_setField_rec k6 (by simp) fun g7 k7 s7 => ?_)
 replace k7 : IsZip g7 z TI TO (rawInt g5.objs.size) := k7
 refine wpAny_setField_rec k7 (by simp) fun g8 k8 s8 => ?_
 replace k8 : IsZip g8 z TI TO (rawInt g5.objs.size) := k8
 have up : ∀ c o, c ≠ z -> g5.get? c = some o -> g8.get? c = some o := fun c o c1 e => s8.extBut _ _ c1 (s7.extBut _ _ c1 (Heap.get?_push_of_some _ e))
 have t8 : IsPair g8 g5.objs.size x y := s8.extBut _ _ (Nat.ne_of_gt zlt) (s7.extBut _ _ (Nat.ne_of_gt zlt) (Heap.get?_push_size _ rfl))
 rw [z5] at k8 t8
 refine wpAny_pure ⟨_, rfl, wpAny_pure ?_⟩
 show Q (some (.ref g5.objs.size)) _
 rw [z5]
 exact q g8 k8 (up _ _ D.az (e5 _ _ D.az D.ab D.ac D.ad hti)) (up _ _ D.bz t5) (let ⟨o, ho, r⟩ := m1; ⟨o, up _ _ D.cz ho, r⟩) (let ⟨o, ho, r⟩ := m2; ⟨o, up _ _ D.dz ho, r⟩) t8 fun c o c1 c2 c3 c4 e => up c o c1 (e5 c o c1 c2 c3 c4 e)
end
end L2
namespace L2
open PySem PySem.Spec PyProof.Rows
section
variable {prog : Program} {w : World} {A : Around} {E : Value -> Shared -> Prop} {s : Shared} {z TI TO i1 i2 a b : Addr} {i : Nat} {xs ys : Array Value}
theorem zipT_end {Q : Option Value -> Shared -> Prop} (hh : A.in1.handled = none) (D : ZipNe z TI TO i1 i2) (S : ZipT s.heap z TI TO i1 i2 a b i) (ha : s.heap.IsTuple a xs) (hb : s.heap.IsTuple b ys) (haz : a ≠ z /\ a ≠ TO) (hbz : b ≠ z /\ b ≠ TO) (hend : xs[i]? = none ∨ ys[i]? = none)
  (q : ∀ h', (∀ c o, c ≠ z -> c ≠ TO -> c ≠ i1 -> c ≠ i2 -> s.heap.get? c = some o -> h'.get? c = some o) -> Q none { s with heap := h' }) :
  wpAny (model prog w) A (pyNext (.ref z)) Q E s := by
 obtain ⟨hz, hti, ⟨p0, p1, hto⟩, h1, h2⟩ := S
 have bi1 := tupNe hb h1
 have hT : s.TypeIs (.ref z) "zip" := ⟨_, hz, rfl⟩
 unfold pyNext
 refine wpAny_bind (wpAny_attempt (wpAny_callSpecial?_slot (name := Str.ofString "__next__") hT F.slot_zip_next (wpAny_call_entry F.slot_zip_next hT F.entry_zip_next ?_ (F.args_zip_next_1 _))))
 show wpAny _ _ (field (.ref z) 2 >>= _) _ _ _
 refine wpAny_bind (wpAny_field hz rfl (x := .bool false) rfl ?_); show wpAny _ _ (field (.ref z) 3 >>= _) _ _ _
 refine wpAny_bind (wpAny_field hz rfl (x := .ref TI) rfl (wpAny_bind (wpAny_seqItems hti rfl ?_)))
 show wpAny _ _ (Builtin.SmallTypes.ownedTupleIsFree (.ref z) >>= _) _ _ _
 refine wpAny_bind ?_
 unfold Builtin.SmallTypes.ownedTupleIsFree
 refine wpAny_bind (wpAny_field hz rfl (x := .none) rfl (wpAny_pure ?_)); simp only [if_true]
 refine wpAny_bind (wpAny_rule (wpAny_bind (wpAny_field hz rfl (x := .ref TO) rfl (wpAny_bind (wpAny_setField_rec hz (by simp) fun g1 k1 s1 => ?_)))))
 replace k1 : IsZip g1 z TI TO .ellipsis := k1
 refine wpAny_bind ?_
 simp only [List.zipIdx_cons, List.zipIdx_nil, List.forIn_cons, List.forIn_nil]
 have fin : ∀ (g : Heap) (e : Addr), IsZip g z TI TO .ellipsis -> (∀ c o, c ≠ z -> c ≠ TO -> c ≠ i1 -> c ≠ i2 -> s.heap.get? c = some o -> g.get? c = some o) -> (∃ o, g.get? e = some o /\ o.cls = .type "StopIteration") ->
   wpAny (model prog w) A.in1 (setField (.ref z) 0 .none) (fun _ s' => wpAny (model prog w) A (do if <- isInstance (.ref e) (.type "StopIteration") then pure none else throw (Value.ref e)) Q E s') (fun e' s' => wpAny (model prog w) A (do if <- isInstance e' (.type "StopIteration") then pure none else throw e') Q E s') { s with heap := g } := by
  rintro g e kz kk ⟨oe, f1, f2⟩
  have ez : e ≠ z := fun y => by subst y; rw [kz] at f1; cases f1; injection f2 with z2; revert z2; decide
  refine wpAny_setField_rec kz (by simp) fun g' _ s' => ?_
  refine wpAny_bind (wpAny_isInstance (T := "StopIteration") (b := true) ⟨oe, s'.extBut _ _ ez f1, f2⟩ isSubtype_stop ?_)
  exact wpAny_pure (q g' fun c o c1 c2 c3 c4 y => s'.extBut _ _ c1 (kk c o c1 c2 c3 c4 y))
 refine wpAny_bind (wpAny_bind (wpAny_onRaise ?_)); show wpAny _ _ (Builtin.SmallTypes.nextOf (.ref i1) >>= _) _ _ _
 cases hx : xs[i]? with
 | none =>
  refine wpAny_bind (nextT_end hh (h1.extBut s1.extBut D.cz) (ha.extBut s1.extBut haz.1) hx fun g2 e s2 he => ?_)
  exact fin g2 e (s2 _ _ D.cz.symm k1) (fun c o c1 _ c3 _ y => s2 _ _ c3 (s1.extBut _ _ c1 y)) he
 | some x =>
  have hy : ys[i]? = none := by rcases hend with h | h; rw [hx] at h; cases h; exact h
  refine wpAny_bind (nextT_item (h1.extBut s1.extBut D.cz) (ha.extBut s1.extBut haz.1) hx fun g2 j2 s2 => wpAny_pure ?_)
  have t2 : IsPair g2 TO p0 p1 := s2.extBut _ _ D.bc (s1.extBut _ _ D.bz hto)
  refine wpAny_bind (wpAny_seqItems t2 rfl (wpAny_bind (pairSet t2 fun g3 t3 s3 => ?_)))
  refine wpAny_bind (wpAny_letGo (wpAny_pure ?_))
  refine wpAny_bind (wpAny_bind (wpAny_onRaise ?_)); show wpAny _ _ (Builtin.SmallTypes.nextOf (.ref i2) >>= _) _ _ _
  have e3 : ∀ c o, c ≠ z -> c ≠ i1 -> c ≠ TO -> s.heap.get? c = some o -> g3.get? c = some o := fun c o c1 c2 c3 e => s3.extBut _ _ c3 (s2.extBut _ _ c2 (s1.extBut _ _ c1 e))
  have h23 : g3.IsTupleIter i2 b i := let ⟨o, ho, r⟩ := h2; ⟨o, e3 _ _ D.dz D.cd.symm D.bd.symm ho, r⟩
  have hb3 : g3.IsTuple b ys := let ⟨o, ho, r⟩ := hb; ⟨o, e3 _ _ hbz.1 bi1 hbz.2 ho, r⟩
  refine wpAny_bind (nextT_end hh h23 hb3 hy fun g4 e s4 he => ?_)
  exact fin g4 e (s4 _ _ D.dz.symm (s3.extBut _ _ D.bz.symm (s2.extBut _ _ D.cz.symm k1))) (fun c o c1 c2 c3 c4 y => s4 _ _ c4 (e3 c o c1 c3 c2 y)) he
noncomputable abbrev zT1 (h : Heap) (l1 : Addr) : Heap := h.push { cls := .type "tuple_iterator", data := .fields #[.ref l1, .int 0 0] }
noncomputable abbrev zT2 (h : Heap) (l1 l2 : Addr) : Heap := (zT1 h l1).push { cls := .type "tuple_iterator", data := .fields #[.ref l2, .int 0 0] }
noncomputable abbrev zT3 (h : Heap) (l1 l2 : Addr) : Heap := (zT2 h l1 l2).push { cls := .type "tuple", data := .seq #[.ref h.objs.size, .ref (zT1 h l1).objs.size] }
noncomputable abbrev zT4 (h : Heap) (l1 l2 : Addr) : Heap := (zT3 h l1 l2).push { cls := .type "tuple", data := .seq #[.none, .none] }
noncomputable abbrev zT5 (h : Heap) (l1 l2 : Addr) : Heap := (zT4 h l1 l2).push { cls := .type "zip", data := .fields #[.none, .bool false, .bool false, .ref (zT2 h l1 l2).objs.size, .ref (zT3 h l1 l2).objs.size] }
theorem zip_newT (l1 l2 : Addr) (xs ys : Array Value) :
  Meets (Builtin.«zip.__new__» ⟨[.type "zip", .ref l1, .ref l2], []⟩) (fun _ R s => s.heap.IsTuple l1 xs /\ s.heap.IsTuple l2 ys /\ R (.ok (.ret (.ref (zT4 s.heap l1 l2).objs.size))) { s with heap := zT5 s.heap l1 l2 }) :=
 .of_wp fun prog w A R s h => by
  obtain ⟨hp, g, d, tk, os⟩ := s; obtain ⟨hl1, hl2, h⟩ := h
  have hsub := sub_zip
  have hL1 : Heap.IsTuple (Shared.heap ⟨hp, g, d, tk, os⟩) l1 xs := hl1
  have hL2 : Heap.IsTuple (Shared.heap ⟨hp.push { cls := .type "tuple_iterator", data := .fields #[.ref l1, .int 0 0] }, g, d, tk, os⟩) l2 ys := Heap.IsTuple.push hl2 _
  wp_walk using wpAny_pyIter_tuple hL1, wpAny_pyIter_tuple hL2
  exact ⟨_, rfl, h⟩
theorem call_zipT {l1 l2 : Addr} {Q : Value -> Shared -> Prop} (hl1 : s.heap.IsTuple l1 xs) (hl2 : s.heap.IsTuple l2 ys)
  (h : ∀ h', ZipT h' (s.heap.objs.size + 4) (s.heap.objs.size + 2) (s.heap.objs.size + 3) s.heap.objs.size (s.heap.objs.size + 1) l1 l2 0 -> (∀ c o, s.heap.get? c = some o -> h'.get? c = some o) -> Q (.ref (s.heap.objs.size + 4)) { s with heap := h' }) :
  wpAny (model prog w) A (call (.type "zip") [.ref l1, .ref l2]) Q E s := by
 refine callType_new F.called_zip (by decide) (F.typeCall_zip_2 _ _) (F.newCall_zip_2 _ _) (fun obj => F.args_object_init_3 obj _ _) F.entry_zip_new (zip_newT l1 l2 xs ys) ⟨hl1, hl2, ?_⟩
 have z1 : (zT1 s.heap l1).objs.size = s.heap.objs.size + 1 := Heap.size_push ..
 have z2 : (zT2 s.heap l1 l2).objs.size = s.heap.objs.size + 2 := by rw [Heap.size_push, z1]
 have z3 : (zT3 s.heap l1 l2).objs.size = s.heap.objs.size + 3 := by rw [Heap.size_push, z2]
 have z4 : (zT4 s.heap l1 l2).objs.size = s.heap.objs.size + 4 := by rw [Heap.size_push, z3]
 have p1 : ∀ {g : Heap} {c o u}, g.get? c = some o -> (g.push u).get? c = some o := fun e => Heap.get?_push_of_some _ e
 have g5 : (zT5 s.heap l1 l2).get? (zT4 s.heap l1 l2).objs.size = some _ := Heap.get?_push_size _ rfl
 have g4 : (zT5 s.heap l1 l2).get? (zT3 s.heap l1 l2).objs.size = some _ := p1 (Heap.get?_push_size _ rfl)
 have g3 : (zT5 s.heap l1 l2).get? (zT2 s.heap l1 l2).objs.size = some _ := p1 (p1 (Heap.get?_push_size _ rfl))
 have g2 : (zT5 s.heap l1 l2).get? (zT1 s.heap l1).objs.size = some _ := p1 (p1 (p1 (Heap.get?_push_size _ rfl)))
 have g1 : (zT5 s.heap l1 l2).get? s.heap.objs.size = some _ := p1 (p1 (p1 (p1 (Heap.get?_push_size _ rfl))))
 show _ /\ _
 rw [z2, z3, z4] at g5
 rw [z1, z2] at g3
 rw [z3] at g4
 rw [z1] at g2
 rw [z4]
 exact ⟨⟨_, g5, rfl⟩, h _ ⟨g5, g3, ⟨_, _, g4⟩, ⟨_, g1, rfl, rfl⟩, ⟨_, g2, rfl, rfl⟩⟩ fun c o x => p1 (p1 (p1 (p1 (p1 x))))⟩
end
noncomputable def Itz (K : PySem.W.Frag) (a b : Addr) : It :=
 ⟨fun i H => ∃ xs ys x y, SqT K H a xs /\ SqT K H b ys /\ xs[i]? = some x /\ ys[i]? = some y, fun i H v H' => ∃ t x y, H t = none /\ v = .ref t /\ H' = upd H t (.tup [x, y]) /\ ∀ xs ys, SqT K H a xs -> SqT K H b ys -> xs[i]? = some x /\ ys[i]? = some y,
  fun i H => ∃ xs ys, SqT K H a xs /\ SqT K H b ys /\ (xs[i]? = none ∨ ys[i]? = none)⟩
theorem zipNe_of {z TI TO i1 i2 : Addr} {h : Heap} {a b : Addr} {i : Nat} (S : ZipT h z TI TO i1 i2 a b i) (h1 : TI ≠ TO) (h2 : i1 ≠ i2) : ZipNe z TI TO i1 i2 := by
 obtain ⟨hz, hti, ⟨p0, p1, hto⟩, ⟨o1, e1, c1, d1⟩, ⟨o2, e2, c2, d2⟩⟩ := S
 refine ⟨fun e => ?_, fun e => ?_, fun e => ?_, fun e => ?_, h1, fun e => ?_, fun e => ?_, fun e => ?_, fun e => ?_, h2⟩
 ·have q := (show h.get? TI = _ from hti); rw [e, show h.get? z = _ from hz] at q; injection q with q; injection q with q1; injection q1 with q2; revert q2; decide
 ·have q := (show h.get? TO = _ from hto); rw [e, show h.get? z = _ from hz] at q; injection q with q; injection q with q1; injection q1 with q2; revert q2; decide
 ·rw [e, hz] at e1; cases e1; injection c1 with q2; revert q2; decide
 ·rw [e, hz] at e2; cases e2; injection c2 with q2; revert q2; decide
 ·rw [<- e, hti] at e1; cases e1; injection c1 with q2; revert q2; decide
 ·rw [<- e, hti] at e2; cases e2; injection c2 with q2; revert q2; decide
 ·rw [<- e, hto] at e1; cases e1; injection c1 with q2; revert q2; decide
 ·rw [<- e, hto] at e2; cases e2; injection c2 with q2; revert q2; decide
theorem SqT.fpNe {X : Cx} {pins : List (Addr × Obj)} {σ : St} {H : Hp} {s : Shared} {t c : Addr} {zs : List V} (I : Inv X pins σ H s) (hq : SqT X.K H t zs) (f : FpOk X pins H c) : t ≠ c := by
 rintro rfl
 rcases hq with (h | ⟨o, h⟩) | h
 ·rw [f.1] at h; cases h
 ·rw [f.1] at h; cases h
 ·obtain ⟨o, _, _, hl, _⟩ := h
  have e := I.ok.mod.kin _ _ hl
  rcases f.2.2.2.1 with z | z
  ·exact I.ok.noex _ _ e z
  ·exact absurd (Nat.lt_of_lt_of_le (Heap.lt_size e) (Nat.le_trans I.ok.bsz z)) (Nat.lt_irrefl _)
theorem turn_zipT {P : Program} {w : World} {K : PySem.W.Frag} {els : List Expr} {kx} {tp : Pos} (a b z TI TO i1 i2 : Addr) (h1 : TI ≠ TO) (h2 : i1 ≠ i2) : Turn P w K (.Tuple els kx tp) (Itz K a b) [z, TI, TO, i1, i2] z (fun i h => ZipT h z TI TO i1 i2 a b i) where
 mem := by simp
 obj := fun i h st c hc => by
  obtain ⟨hz, hti, ⟨p0, p1, hto⟩, ⟨o1, e1, c1, d1⟩, ⟨o2, e2, c2, d2⟩⟩ := st
  simp only [List.mem_cons, List.not_mem_nil, or_false] at hc
  rcases hc with rfl | rfl | rfl | rfl | rfl
  ·exact ⟨_, hz, fun v q => by cases q⟩
  ·exact ⟨_, hti, fun v q => by cases q⟩
  ·exact ⟨_, hto, fun v q => by cases q⟩
  ·exact ⟨_, e1, fun v q => by rw [d1] at q; cases q⟩
  ·exact ⟨_, e2, fun v q => by rw [d2] at q; cases q⟩
 keep := fun i h h' st k => by
  obtain ⟨hz, hti, ⟨p0, p1, hto⟩, ⟨o1, e1, r1⟩, ⟨o2, e2, r2⟩⟩ := st
  exact ⟨k _ (by simp) _ hz, k _ (by simp) _ hti, ⟨p0, p1, k _ (by simp) _ hto⟩, ⟨o1, k _ (by simp) _ e1, r1⟩, ⟨o2, k _ (by simp) _ e2, r2⟩⟩
 item := by
  intro X hP hw hK hc i pins s σ H E I hf st hg
  subst hP hw hK
  obtain ⟨xs, ys, x, y, hqa, hqb, hx, hy⟩ := hg
  obtain ⟨its, rv, p, _⟩ := I.tuple hqa
  obtain ⟨jts, rw', p', _⟩ := I.tuple hqb
  obtain ⟨u, hu, ru⟩ := rv.get hx
  obtain ⟨v, hv, rvv⟩ := rw'.get hy
  have D := zipNe_of st h1 h2
  obtain ⟨hz, hti, ⟨p0, p1, hto⟩, hi1, hi2⟩ := id st
  have apart : ∀ {t : Addr} {zs : List V}, SqT X.K H t zs -> t ≠ z /\ t ≠ TO := fun hq => ⟨SqT.fpNe I hq (hf z (by simp)), SqT.fpNe I hq (hf TO (by simp))⟩
  refine zipT_item D st p p' (apart hqa) (apart hqb) (by simpa using hu) (by simpa using hv) fun g k1 k2 k3 k4 k5 k6 k7 => ?_
  refine ⟨_, rfl, wpAny_letOwnedTupleGo_zip k1 fun g2 l1 s2 => ?_⟩
  have hne0 : s.heap.objs.size ≠ z := Nat.ne_of_gt (Heap.lt_size hz)
  have keep : ∀ c o, c ∉ [z, TI, TO, i1, i2] -> s.heap.get? c = some o -> g2.get? c = some o := fun c o hc e => s2.extBut _ _ (fun q => hc (by simp [q])) (k7 c o (fun q => hc (by simp [q])) (fun q => hc (by simp [q])) (fun q => hc (by simp [q])) (fun q => hc (by simp [q])) e)
  refine ⟨.ref s.heap.objs.size, _, I.turnedT (h' := g2) (t' := s.toks) (xs := [x, y]) hf keep (.cons ru (.cons rvv .nil)) ⟨_, s2.extBut _ _ hne0 k6, rfl, ⟨_, rfl⟩, rfl, rfl⟩ (by show 2 <= sizeLine; decide), rfl,
   ⟨_, x, y, I.hok.fresh (Nat.le_refl _), rfl, rfl, fun as bs ha hb => ⟨by rw [I.tuple_inj ha hqa]; exact hx, by rw [I.tuple_inj hb hqb]; exact hy⟩⟩, ⟨l1, s2.extBut _ _ D.az k2, ⟨_, _, s2.extBut _ _ D.bz k3⟩, k4.extBut s2.extBut D.cz, k5.extBut s2.extBut D.dz⟩, fun c hc => ?_⟩
  have : c < s.heap.objs.size := by
   obtain ⟨o1, e1, _⟩ := hi1
   obtain ⟨o2, e2, _⟩ := hi2
   simp only [List.mem_cons, List.not_mem_nil, or_false] at hc
   rcases hc with rfl | rfl | rfl | rfl | rfl
   ·exact Heap.lt_size hz
   ·exact Heap.lt_size hti
   ·exact Heap.lt_size hto
   ·exact Heap.lt_size e1
   ·exact Heap.lt_size e2
  rw [upd_ne (Nat.ne_of_lt this)]
  exact (hf c hc).1
 done := by
  intro X hP hw hK hc i pins s σ H E I hf st hg
  subst hP hw hK
  obtain ⟨xs, ys, hqa, hqb, hx⟩ := hg
  obtain ⟨its, rv, p, _⟩ := I.tuple hqa
  obtain ⟨jts, rw', p', _⟩ := I.tuple hqb
  have D := zipNe_of st h1 h2
  have apart : ∀ {t : Addr} {zs : List V}, SqT X.K H t zs -> t ≠ z /\ t ≠ TO := fun hq => ⟨SqT.fpNe I hq (hf z (by simp)), SqT.fpNe I hq (hf TO (by simp))⟩
  refine zipT_end (I.ok.hd hc) D st p p' (apart hqa) (apart hqb) (hx.elim (fun q => .inl (by simpa using rv.none_of q)) fun q => .inr (by simpa using rw'.none_of q)) fun g k => ⟨rfl, ?_⟩
  exact I.turnedN (t' := s.toks) hf fun c o hc e => k c o (fun q => hc (by simp [q])) (fun q => hc (by simp [q])) (fun q => hc (by simp [q])) (fun q => hc (by simp [q])) e
 self := fun _ _ _ _ _ st h => wpAny_pyIter_zip st.z h
section
variable {X : Cx}
noncomputable def iZip (K : PySem.W.Frag) (ta : TA) : TI := fun σ H R => ta σ H fun vs H1 => ∃ a b, vs = [.ref a, .ref b] /\ (∃ xs, SqT K H1 a xs) /\ (∃ ys, SqT K H1 b ys) /\ R (Itz K a b) H1
theorem pi_zipT {els : List Expr} {kx} {tp : Pos} {l l' : Expr} {ta : TA} {p pos : Pos} (hg : Gl X "zip") (hm : X.mg "zip" = none) (ha : PA X [l, l'] ta) (hs : starEach [l, l'] X.env = [(false, eval l X.env), (false, eval l' X.env)] := by rfl) (hs2 : starEach [l'] X.env = [(false, eval l' X.env)] := by rfl) :
  PI X (.Tuple els kx tp) (.Call (.Name "zip" p) [l, l'] [] pos) (iZip X.K ta) := by
 intro pins s σ H R I h
 refine Call_ (ld_blt I hg hm boot_zip (PyProof.Rows.callWith_type1 (thn (ha pos pins s σ H _ I h) fun us s1 ⟨vs, H1, I1, r1, q1⟩ => ?_) (by rw [hs, hs2]) (by rw [hs2]; rfl)))
 obtain ⟨a, b, rfl, ⟨xs, hqa⟩, ⟨ys, hqb⟩, q⟩ := q1
 obtain ⟨u, v, rfl, ru, rv⟩ := vals2 r1
 cases (show u = Value.ref a from ru)
 cases (show v = Value.ref b from rv)
 obtain ⟨its, _, p1, _⟩ := I1.tuple hqa
 obtain ⟨jts, _, p2, _⟩ := I1.tuple hqb
 refine call_zipT (show s1.heap.IsTuple a its.toArray from p1) (show s1.heap.IsTuple b jts.toArray from p2) fun h' S hk => wpAny_pyIter_zip S.z ?_
 have I2 : Inv X pins σ H1 { s1 with heap := h' } := I1.kept (t' := s1.toks) hk
 refine ⟨_, _, _, _, H1, rfl, I2, turn_zipT a b _ _ _ _ _ (Nat.ne_of_lt (Nat.lt_succ_self _)) (Nat.ne_of_lt (Nat.lt_succ_self _)), S, fun c hc => ?_, q⟩
 have : s1.heap.objs.size <= c := by
  simp only [List.mem_cons, List.not_mem_nil, or_false] at hc
  rcases hc with rfl | rfl | rfl | rfl | rfl <;> first | exact Nat.le_refl _ | exact Nat.le_add_right _ _ | exact Nat.le_succ _ | exact Nat.le_succ_of_le (Nat.le_add_right _ _)
 exact I1.fpOk this (I1.hok.fresh this)
end
end L2
namespace L2
open PySem PySem.Spec PyProof.Rows
theorem fm_congr {α β : Type} {f g : α -> Option β} : ∀ {l : List α}, (∀ x ∈ l, f x = g x) -> l.filterMap f = l.filterMap g
 | [], _ => rfl
 | a :: l, h => by rw [List.filterMap_cons, List.filterMap_cons, h a List.mem_cons_self, fm_congr fun x hx => h x (List.mem_cons_of_mem _ hx)]
theorem rev_pick (its : List Value) : (List.range its.length).filterMap (fun (k : Nat) => its.toArray[its.length - 1 - k]?) = its.reverse := by
 apply List.ext_getElem?
 intro i
 have e : (List.range its.length).filterMap (fun (k : Nat) => its.toArray[its.length - 1 - k]?) = (List.range its.length).map fun k => its.getD (its.length - 1 - k) .none := by
  rw [<- List.filterMap_eq_map]
  apply fm_congr
  intro k hk
  have hk' := List.mem_range.mp hk
  have h1 : its.length - 1 - k < its.length := by (first | lia | omega)
  simp [h1]
 rw [e, List.getElem?_map]
 by_cases h : i < its.length
 ·rw [List.getElem?_range h, List.getElem?_reverse h]
  have h1 : its.length - 1 - i < its.length := by (first | lia | omega)
  simp [h1]
 ·rw [List.getElem?_eq_none (by simpa using h), List.getElem?_eq_none (by simpa using h)]
  rfl
theorem pick_rev (its : List Value) : slicePick its.toArray none none (some (-1)) = its.reverse.toArray := by
 have hb : sliceBounds none none (some (-1)) its.length = ((its.length : Int) - 1, -1, -1) := by
  unfold sliceBounds; simp
 have hr : ∀ n : Nat, sliceRange ((n : Int) - 1) (-1) (-1) = (List.range n).map fun k => n - 1 - k := by
  intro n
  unfold sliceRange
  have e1 : (if (-1 : Int) > 0 then (if (n : Int) - 1 < -1 then (-1 - ((n : Int) - 1) + -1 - 1) / -1 else 0) else if (n : Int) - 1 > -1 then ((n : Int) - 1 - -1 - -1 - 1) / - -1 else 0).toNat = n := by
   rw [if_neg (by decide)]
   by_cases h : (n : Int) - 1 > -1
   ·rw [if_pos h]
    have : ((n : Int) - 1 - -1 - -1 - 1) / - -1 = n := by
     rw [show (- -1 : Int) = 1 by decide, Int.ediv_one]; (first | lia | omega)
    rw [this]; rfl
   ·rw [if_neg h]; (first | lia | omega)
  dsimp only
  rw [e1]
  apply List.map_congr_left
  intro k hk
  have := List.mem_range.mp hk
  (first | lia | omega)
 unfold slicePick
 rw [List.size_toArray, hb]
 show (List.filterMap _ (sliceRange ((its.length : Int) - 1) (-1) (-1))).toArray = _
 rw [hr, List.filterMap_map]
 congr 1
 exact rev_pick its
section
variable {X : Cx} {e : Expr} {te : TE} {p2 pos : Pos}
noncomputable def RvR (X : Cx) (r : V -> Hp -> VK -> Prop) : Prop :=
 ∀ (pins : List (Addr × Obj)) (s : Shared) (σ : St) (H : Hp) (x : V) (v vs : Value) (sl : Addr) (Q : VK), Inv X pins σ H s -> RelV x v -> s.heap.IsSliceOf sl .none .none vs -> IsPart vs (some (-1)) -> r x H Q ->
  ∃ T id, typeLookup (.type T) "__getitem__" = pure (some (.builtin id)) /\ s.TypeIs v T /\ wpAny (model X.prog X.w) X.A (getItem v (.ref sl)) (EP X pins σ Q) X.xe s
theorem pe_rev {r : V -> Hp -> VK -> Prop} {j : Nat} {p3 p4 : Pos} (hr : RvR X r) (he : PE X e te) : PE X (.Subscript e (.Slice none none (some (.UnaryOp .USub (.Constant (.int 1) j p3) p4)) p2) pos) (tUn r te) := by
 intro pins s σ H Q I h
 have hst : PO X (some (.UnaryOp .USub (.Constant (.int 1) j p3) p4)) (tPart (tUn (rU fun i => .int (-i)) (tC (.int 1)))) := po_some (pe_un un_neg pe_int)
 refine Subscript_ (thn (he pins s σ H _ I h) fun v s1 ⟨x, H1, I1, r1, q1⟩ => ?_)
 refine wpAny_Slice (thn (po_none pins s1 σ H1 (fun o H' => o = none /\ r x H' Q) I1 ⟨rfl, q1⟩) fun vl s2 ⟨l, H2, I2, pl, el, q2⟩ => thn (po_none pins s2 σ H2 (fun o H' => o = none /\ r x H' Q) I2 ⟨rfl, q2⟩) fun vu s3 ⟨u, H3, I3, pu, eu, q3⟩ => ?_)
 subst el eu
 refine thn (hst pins s3 σ H3 (fun o H' => o = some (-1) /\ r x H' Q) I3 ⟨1, rfl, -1, rfl, rfl, q3⟩) fun vs s4 ⟨o, H4, I4, ps, eo, q4⟩ => ?_
 subst eo
 cases pl
 cases pu
 have I5 : Inv X pins σ H4 { s4 with heap := s4.heap.push { cls := .type "slice", data := .fields #[.none, .none, vs] } } := I4.kept (t' := s4.toks) fun b ob q => Heap.get?_push_of_some _ q
 obtain ⟨T, id, hT, ht, hg⟩ := hr pins { s4 with heap := s4.heap.push { cls := .type "slice", data := .fields #[.none, .none, vs] } } σ H4 x v vs s4.heap.objs.size Q I5 r1 (Heap.IsSliceOf.new ..) ps q4
 show wpAny (model X.prog X.w) X.A (subscriptTail e (.Slice none none (some (.UnaryOp .USub (.Constant (.int 1) j p3) p4)) p2) v (.ref s4.heap.objs.size)) (EP X pins σ Q) X.xe { s4 with heap := s4.heap.push { cls := .type "slice", data := .fields #[.none, .none, vs] } }
 exact tail_any (ops := [v, .ref s4.heap.objs.size]) ht hT hg (by with_unfolding_all rfl)
noncomputable def rRvL (K : PySem.W.Frag) : V -> Hp -> VK -> Prop := fun x H Q => ∃ a xs, x = .ref a /\ SqL K H a xs /\ ∀ p, H p = none -> Q (.ref p) (upd H p (.lst xs.reverse))
theorem rv_list : RvR X (rRvL X.K) := by
 intro pins s σ H x v vs sl Q I rx hs ps h
 obtain ⟨a, xs, rfl, hx, q⟩ := h
 cases rx
 obtain ⟨its, r, ht, hz⟩ := I.list hx
 have hlen := r.length
 refine ⟨"list", _, slot_list_getitem.lookup, ht.isList.typeIs, ?_⟩
 refine wpAny_getItem_list_slice ht.isList hs .none .none ps (by simp) ?_ (by rw [List.size_toArray] <;> (first | lia | omega))
 rw [pick_rev]
 refine ⟨.ref s.heap.objs.size, _, I.laid (t' := s.toks) (o := .lst xs.reverse) (fun b ob q => Heap.get?_push_of_some _ q) (Nat.le_refl _) ?_, rfl, q _ (I.hok.fresh (Nat.le_refl _))⟩
 exact ⟨by rw [List.length_reverse]; exact hz, _, 0, r.reverse, Heap.get?_push_size _ rfl⟩
end
end L2
namespace L2
open PySem PySem.Spec PyProof.Rows
section
variable {X : Cx}
noncomputable def rRange1 : List V -> Hp -> VK -> Prop := fun xs H Q => ∃ j : Int, xs = [.int j] /\ ∀ p, H p = none -> Q (.ref p) (upd H p (.rng 0 j))
theorem call_range1 : CallR X (.type "range") rRange1 := by
 intro pins s σ H xs us Q I rs h
 obtain ⟨j, rfl, q⟩ := h
 obtain ⟨u, rfl, t, rfl⟩ := vals1 rs
 refine call_range_1 ⟨.ref s.heap.objs.size, _, I.laid (o := .rng 0 j) (fun b ob q => Heap.get?_push_of_some _ q) (Nat.le_refl _) ?_, rfl, q _ (I.hok.fresh (Nat.le_refl _))⟩
 exact ⟨_, _, _, Heap.get?_push_size _ rfl⟩
noncomputable def rListRng : List V -> Hp -> VK -> Prop := fun xs H Q => ∃ (a : Addr) (j : Int), xs = [.ref a] /\ H a = some (.rng 0 j) /\ 0 <= j /\ j <= 1000 /\ ∀ p, H p = none -> Q (.ref p) (upd H p (.lst (rangeV 0 j.toNat)))
theorem call_list_rng (hc : X.calm = true) : CallR X (.type "list") rListRng := by
 intro pins s σ H xs us Q I rs h
 obtain ⟨a, j, rfl, ha, h0, h1, q⟩ := h
 obtain ⟨u, rfl, ru⟩ := vals1 rs
 cases (show u = Value.ref a from ru)
 obtain ⟨t, u, v, ho⟩ := (show ObjOk X.prog X.w H s.heap a (.rng 0 j) from I.hok a _ ha)
 have hh : X.A.handled = none := I.ok.hd hc
 have hsz : Builtin.Range.rangeSize 0 j 1 = ((j.toNat : Nat) : Int) := by rw [rangeSize_one]; split <;> (first | lia | omega)
 refine call_list_range hh ho (small_one (by (first | lia | omega)) (by (first | lia | omega)) (by (first | lia | omega)) (by (first | lia | omega))) hsz (by (first | lia | omega)) fun h' tk acc c hk hS hi => ?_
 obtain ⟨i1, i2⟩ := hi
 refine ⟨.ref s.heap.objs.size, _, I.laid (t' := tk) (o := .lst (rangeV 0 j.toNat)) hk (Nat.le_refl _) ?_, rfl, q _ (I.hok.fresh (Nat.le_refl _))⟩
 refine ⟨by rw [rangeV_len]; exact Nat.le_trans (by (first | lia | omega) : j.toNat <= 1000) (by decide), acc.toList, c, ?_, by simpa using hS⟩
 have key : ∀ (n : Nat) (l : List Value) (k : Int), l.length = n -> (∀ (i : Nat) v, l[i]? = some v -> ∃ t, v = Value.int (k + (i : Int)) t) -> Vals ((List.range n).map fun (i : Nat) => V.int (k + (i : Int))) l := by
  intro n
  induction n with
  | zero => intro l k hl _; cases l with
   | nil => exact .nil
   | cons _ _ => cases hl
  | succ n ih =>
   intro l k hl hv
   cases l with
   | nil => cases hl
   | cons x r =>
    rw [List.range_succ_eq_map, List.map_cons, List.map_map]
    refine .cons ?_ ?_
    ·obtain ⟨t, e⟩ := hv 0 x rfl
     exact ⟨t, e⟩
    ·have := ih r (k + 1) (by simpa using hl) (fun i v e => by
      obtain ⟨t, e'⟩ := hv (i + 1) v (by simpa using e)
      exact ⟨t, by rw [e']; congr 1; push_cast; (first | lia | omega)⟩)
     have e : ((fun (i : Nat) => V.int (k + (i : Int))) ∘ Nat.succ) = fun (i : Nat) => V.int (k + 1 + (i : Int)) := by
      funext i
      show V.int (k + ((i + 1 : Nat) : Int)) = _
      congr 1; push_cast; (first | lia | omega)
     rw [e]
     exact this
 refine key _ _ 0 (by simpa using i1) fun i v e => ?_
 obtain ⟨t, e'⟩ := i2 i v (by simpa using e)
 exact ⟨t, by rw [e']; congr 1; (first | lia | omega)⟩
end
end L2
namespace L2
open PySem PySem.Spec PyProof.Rows
theorem range_all_getD (f : Nat -> Bool) : ∀ (bs : List Bool), (∀ i, i < bs.length -> f i = bs.getD i false) -> (List.range bs.length).all f = bs.all id := by
 intro bs h
 rw [Bool.eq_iff_iff, List.all_eq_true, List.all_eq_true]
 constructor
 ·intro q b hb
  obtain ⟨i, hi, e⟩ := List.getElem_of_mem hb
  have := q i (List.mem_range.mpr hi)
  rw [h i hi, List.getD_eq_getElem?_getD, List.getElem?_eq_getElem hi, e] at this
  exact this
 ·intro q i hi
  have hi' := List.mem_range.mp hi
  rw [h i hi', List.getD_eq_getElem?_getD, List.getElem?_eq_getElem hi']
  exact q _ (List.getElem_mem hi')
section
variable {X : Cx}
noncomputable def rIsi (K : PySem.W.Frag) : List V -> Hp -> VK -> Prop := fun xs H Q => ∃ x T t b, xs = [x, .ty T] /\ TyOf K H x t /\ PySem.W.kitOne K t (.type T) = some b /\ Q (.bl b) H
theorem call_isi : CallR X (.builtin "isinstance") (rIsi X.K) := by
 intro pins s σ H xs us Q I rs h
 obtain ⟨x, T, t, b, rfl, ty, e, q⟩ := h
 obtain ⟨u, c, rfl, ru, rc⟩ := vals2 rs
 cases (show c = Value.type T from rc)
 exact isinst_ok I ru ty e fun tk => ⟨.bl b, H, I.tok tk, rfl, q⟩
noncomputable def rAll : List V -> Hp -> VK -> Prop := fun xs H Q => ∃ (a : Addr) (bs : List Bool), xs = [.ref a] /\ H a = some (.lst (bs.map V.bl)) /\ Q (.bl (bs.all id)) H
theorem call_all (hc : X.calm = true) : CallR X (.builtin "all") rAll := by
 intro pins s σ H xs us Q I rs h
 obtain ⟨a, bs, rfl, ha, q⟩ := h
 obtain ⟨u, rfl, ru⟩ := vals1 rs
 cases (show u = Value.ref a from ru)
 obtain ⟨hz, its, n, rv, ho⟩ := (show ObjOk X.prog X.w H s.heap a (.lst (bs.map V.bl)) from I.hok a _ ha)
 have hl : s.heap.IsList a its.toArray := ⟨_, ho, rfl, n, rfl⟩
 have hh : X.A.in1.handled = none := I.ok.hd hc
 have hlen : its.length = bs.length := by rw [<- rv.length, List.length_map]
 have hne : a ≠ s.heap.objs.size := Nat.ne_of_lt (Heap.lt_size ho)
 have hit : ∀ (i : Nat) v, its.toArray[i]? = some v -> v = Value.bool (bs.getD i false) := fun i v e => by
  have e' : its[i]? = some v := by simpa using e
  have hi : i < bs.length := by rw [<- hlen]; exact (List.getElem?_eq_some_iff.mp e').1
  obtain ⟨u, hu, ru⟩ := rv.get (i := i) (x := V.bl bs[i]) (by rw [List.getElem?_map, List.getElem?_eq_getElem hi]; rfl)
  rw [e'] at hu; cases hu
  cases (show v = Value.bool bs[i] from ru)
  rw [List.getD_eq_getElem?_getD, List.getElem?_eq_getElem hi]
  rfl
 refine call_all_walk (wpAny_pyIter_list hl ⟨s.heap.objs.size, _, _, _, _, _, fun i => bs.getD i false, rfl, Walks.list hh _ a hne its.toArray, ⟨⟨_, Heap.get?_push_size _ rfl, rfl, rfl⟩, hl.push _⟩, ?_, fun h' tk hk => ?_⟩)
 ·intro i v s' Q' E' hP hQ
  rw [hit i v hP]
  exact wpAny_truthy_bool hQ
 ·refine ⟨.bl (bs.all id), H, I.kept (t' := tk) fun b o e => hk b o ?_ (Heap.get?_push_of_some _ e), ?_, q⟩
  ·exact fun hm => absurd (List.mem_singleton.mp hm) (Nat.ne_of_lt (Heap.lt_size e))
  ·show Value.bool _ = Value.bool _
   have hs : its.toArray.size = bs.length := by simpa using hlen
   rw [hs, range_all_getD _ bs fun i _ => rfl]
noncomputable def rInsert : V -> List V -> Hp -> VK -> Prop := fun x vs H Q => ∃ l xs i y, x = .ref l /\ vs = [.int i, y] /\ H l = some (.lst xs) /\ 0 <= i /\ i <= xs.length /\ xs.length < sizeLine /\ Q .non (upd H l (.lst (xs.take i.toNat ++ y :: xs.drop i.toNat)))
theorem mt_insert : MtM X "list.insert" rInsert := by
 intro pins s σ H x vs v us Q I rx rv h
 obtain ⟨l, xs, i, y, rfl, rfl, hH, h0, h1, hz, q⟩ := h
 cases rx
 obtain ⟨ui, uy, rfl, ri, ry⟩ := rv.two
 obtain ⟨ti, rfl⟩ := ri
 obtain ⟨z, its, n, r, hl, e⟩ := I.lstM hH
 have hfit : ¬ (!Builtin.List.listFitsIndex i) = true := by
  have hb : (i : Int) < 2 ^ 63 := Int.lt_of_le_of_lt h1 (by have := line63; (first | lia | omega))
  simp [Builtin.List.listFitsIndex]
  (first | lia | omega)
 refine call_meets F.slot_list_insert ⟨_, e, rfl⟩ F.entry_list_insert (F.args_list_insert_3 _ _ _) (AutoSeq1.list_insert_list_int_val_1 l its.toArray n i ti uy hfit (by rw [List.size_toArray]; (first | lia | omega))) ⟨e, ?_⟩
 refine ⟨.non, _, I.lset (its' := its.take i.toNat ++ uy :: its.drop i.toNat) hH e ?_ ((r.take _).append (.cons ry (r.drop _))) ?_, rfl, q⟩
 ·have hle : i.toNat <= its.length := by (first | lia | omega)
  simp only [List.size_toArray]
  rw [if_neg (by (first | lia | omega)), Nat.min_eq_left hle]
  apply Array.ext'
  simp
  rw [List.take_of_length_le (by simp)]
 ·rw [List.length_append, List.length_cons, List.length_take, List.length_drop]
  (first | lia | omega)
end
end L2
namespace L2
open PySem PySem.Spec PyProof.Rows
mutual
inductive Is (H : Hp) : V -> PyData -> Prop
 | non : Is H .non .none
 | bl (b : Bool) : Is H (.bl b) (.bool b)
 | int (i : Int) : Is H (.int i) (.int i)
 | str (x : Str) : Is H (.str x) (.str x)
 | tup {a : Addr} {vs : List V} {ds : List PyData} : H a = some (.tup vs) -> IsAll H vs ds -> Is H (.ref a) (.tuple ds)
 | lst {a : Addr} {vs : List V} {ds : List PyData} : H a = some (.lst vs) -> IsAll H vs ds -> Is H (.ref a) (.list ds)
inductive IsAll (H : Hp) : List V -> List PyData -> Prop
 | nil : IsAll H [] []
 | cons {v : V} {vs : List V} {d : PyData} {ds : List PyData} : Is H v d -> IsAll H vs ds -> IsAll H (v :: vs) (d :: ds)
end
theorem IsAll.ints {H : Hp} : ∀ ns : List Int, IsAll H (ns.map V.int) (ns.map PyData.int)
 | [] => .nil
 | n :: r => .cons (.int n) (IsAll.ints r)
theorem Is.ints {H : Hp} {a : Addr} {ns : List Int} (h : H a = some (.tup (ns.map V.int))) : Is H (.ref a) (.tuple (ns.map PyData.int)) := .tup h (IsAll.ints ns)
section
variable {X : Cx} {pins : List (Addr × Obj)} {σ : St} {H : Hp} {s : Shared}
mutual
theorem Inv.reads (I : Inv X pins σ H s) : ∀ {v : V} {d : PyData} {u : Value}, Is H v d -> RelV v u -> ∃ as, Reads s.heap u d as
 | _, _, _, .non, r => by cases (show _ = Value.none from r); exact ⟨_, .none⟩
 | _, _, _, .bl b, r => by cases (show _ = Value.bool b from r); exact ⟨_, .bool b⟩
 | _, _, _, .int i, r => by obtain ⟨t, rfl⟩ := r; exact ⟨_, .int i t⟩
 | _, _, _, .str x, r => by obtain ⟨t, rfl⟩ := r; exact ⟨_, .str x t⟩
 | _, _, _, .tup (a := a) (vs := vs) h al, r => by
  cases (show _ = Value.ref a from r)
  obtain ⟨_, its, rv, o, ho, hc, ⟨n, hd⟩, _⟩ := (show ObjOk X.prog X.w H s.heap a (.tup vs) from I.hok a _ h)
  obtain ⟨as, q⟩ := Inv.readsAll I al rv
  exact ⟨as, .tuple ho hc hd (by simpa using q)⟩
 | _, _, _, .lst (a := a) (vs := vs) h al, r => by
  cases (show _ = Value.ref a from r)
  obtain ⟨_, its, n, rv, ho⟩ := (show ObjOk X.prog X.w H s.heap a (.lst vs) from I.hok a _ h)
  obtain ⟨as, q⟩ := Inv.readsAll I al rv
  exact ⟨_, .list ho rfl rfl (by simpa using q)⟩
theorem Inv.readsAll (I : Inv X pins σ H s) : ∀ {vs : List V} {ds : List PyData} {us : List Value}, IsAll H vs ds -> Vals vs us -> ∃ as, ReadsAll s.heap us ds as
 | _, _, _, .nil, .nil => ⟨_, .nil⟩
 | _, _, _, .cons h al, .cons r rs => by
  obtain ⟨as, q⟩ := Inv.reads I h r
  obtain ⟨bs, q'⟩ := Inv.readsAll I al rs
  exact ⟨_, .cons q q'⟩
end
noncomputable def rEqD : R2 := fun x y H Q => ∃ d e, Is H x d /\ Is H y e /\ SeqAt.shaped d = true /\ SeqAt.shaped e = true /\ Q (.bl (PyData.eqv d e)) H
noncomputable def rNeD : R2 := fun x y H Q => ∃ d e, Is H x d /\ Is H y e /\ SeqAt.shaped d = true /\ SeqAt.shaped e = true /\ Q (.bl (!PyData.eqv d e)) H
theorem op_eqD (hu : X.A.units + 64 < cLine) : OpR X (compareOp .Eq) rEqD := by
 intro pins s σ H x y v u Q I rx ry h
 obtain ⟨d, e, hd, he, sd, se, q⟩ := h
 obtain ⟨as, ra⟩ := I.reads hd rx
 obtain ⟨bs, rb⟩ := I.reads he ry
 exact eq_dataH ra rb sd se hu ⟨.bl _, H, I, rfl, q⟩
theorem op_neD (hu : X.A.units + 64 < cLine) : OpR X (compareOp .NotEq) rNeD := by
 intro pins s σ H x y v u Q I rx ry h
 obtain ⟨d, e, hd, he, sd, se, q⟩ := h
 obtain ⟨as, ra⟩ := I.reads hd rx
 obtain ⟨bs, rb⟩ := I.reads he ry
 exact ne_dataH ra rb sd se hu ⟨.bl _, H, I, rfl, q⟩
end
theorem lay_ints : ∀ ns : List Int, PyData.canLayAll0 (ns.map PyData.int) = true
 | [] => rfl
 | _ :: r => by simp [PyData.canLayAll0, PyData.canLay0, lay_ints r]
theorem deep_ints : ∀ ns : List Int, PyData.depthAll (ns.map PyData.int) = 0
 | [] => rfl
 | _ :: r => by simp [PyData.depthAll, PyData.depth, deep_ints r]
theorem shaped_tints (ns : List Int) : SeqAt.shaped (.tuple (ns.map PyData.int)) = true := by
 simp [SeqAt.shaped, PyData.canLay0, PyData.depth, lay_ints, deep_ints]
theorem shaped_lints (ns : List Int) : SeqAt.shaped (.list (ns.map PyData.int)) = true := by
 simp [SeqAt.shaped, PyData.canLay0, PyData.depth, lay_ints, deep_ints]
theorem eqv_ints : ∀ ns ms : List Int, PyData.eqvAll (ns.map PyData.int) (ms.map PyData.int) = decide (ns = ms)
 | [], [] => by simp [PyData.eqvAll]
 | [], _ :: _ => by simp [PyData.eqvAll]
 | _ :: _, [] => by simp [PyData.eqvAll]
 | a :: r, b :: t => by
  simp only [List.map_cons, PyData.eqvAll, PyData.eqv, eqv_ints r t]
  by_cases h : a = b <;> by_cases h' : r = t <;> simp [h, h']
end L2
namespace L2
open PySem PySem.Spec PyProof.Rows
noncomputable def cscopeB (sc : Scope) (N : List Str) (scope : Scope) (N' : List Str) (n : Nat) (ix : List Nat) : Bool :=
 scope.kind == .function && scope.names.all (fun y => y.2 != .cell) && scope.names.all (fun y => y.2 != .local || scope.names.lookup y.1 == some .local) &&
 scope.names.all (fun y => y.2 != .free || (sc.names.lookup y.1 == some .cell || sc.names.lookup y.1 == some .free)) && scope.names.all (fun y => y.2 != .free || scope.names.lookup y.1 != some .local) &&
 N'.length == n + ix.length && (List.range ix.length).all fun j => match ix[j]?, N'[n + j]? with
  | some i, some x => N[i]? == some x && scope.names.contains (x, .free)
  | _, _ => false
theorem CompScope.of {X : Cx} {sc : Scope} {N : List Str} {scope : Scope} {N' : List Str} {n : Nat} {ix : List Nat} (h : cscopeB sc N scope N' n ix = true) (hs : X.env.scope = sc) (hN : X.N = N) : CompScope X scope N' n ix := by
 unfold cscopeB at h
 simp only [Bool.and_eq_true, List.all_eq_true] at h
 obtain ⟨⟨⟨⟨⟨⟨h1, h2⟩, h3⟩, h4⟩, h5⟩, h6⟩, h7⟩ := h
 subst hs hN
 refine ⟨eq_of_beq h1, fun y hy => by simpa using h2 y hy, fun y hy hl => ?_, fun y hy hf => ?_, fun y hy hl => ?_, eq_of_beq h6, fun j i e => ?_⟩
 ·have := h3 y hy
  rw [hl] at this
  simpa using this
 ·have := h4 y hy
  rw [hf] at this
  simpa using this
 ·have := h5 _ hy
  rw [hl] at this
  simp at this
 ·have hj : j < ix.length := (List.getElem?_eq_some_iff.mp e).1
  have := h7 j (List.mem_range.mpr hj)
  rw [e] at this
  cases hx : N'[n + j]? with
  | none => rw [hx] at this; simp at this
  | some x =>
   rw [hx] at this
   simp only [Bool.and_eq_true] at this
   exact ⟨x, rfl, eq_of_beq this.1, by simpa using this.2⟩
structure Cal (P : Program) (w : World) (K : PySem.W.Frag) (mg : Str -> Option Value) (base : Heap) (k : Nat) (x : Str) (ps : List Str) (sp : Sp) : Prop where
 ex : ∃ f fd, FnOk P w K mg base CX0 k f fd ps sp /\ mg x = some (.ref f) /\ PySem.W.keepIn K (.ref f) = true /\ Binds K fd ps []
section
variable {X : Cx} {k : Nat} {ps : List Str} {sp : Sp} {x : Str} {p pos : Pos} {e : Expr} {es : List Expr} {t : TA}
theorem pe_cal (C : Cal X.prog X.w X.K X.mg X.base k x ps sp) (hr : Room k X.A) (hg : Gl X x) (ha : PA X (e :: es) t) (hdb : (x == ("__debug__" : Str)) = false := by decide) (he : starEach (e :: es) X.env = (false, eval e X.env) :: starEach es X.env := by rfl)
  (hpl : (backTo pos (starEach es X.env)).any (·.1) = false := by rfl) : PE X (.Call (.Name x p) (e :: es) [] pos) (fun σ H Q => t σ H fun vs H1 => sp vs H1 Q E0) := by
 obtain ⟨f, fd, F, hm, hk, hb⟩ := C.ex
 exact (pe_call F hr hg hm hk hb .nil pass0 ha hdb he hpl).mono fun σ H Q q => by
  have e : (fun (vs : List V) (H1 : Hp) => sp (vs ++ []) H1 Q E0) = fun vs H1 => sp vs H1 Q E0 := by funext vs H1; rw [List.append_nil]
  show t σ H fun vs H1 => sp (vs ++ []) H1 Q E0
  rw [e]
  exact q
end
structure Top (mg : Str -> Option Value) : Prop where
 n_len : mg "len" = none
 n_tuple : mg "tuple" = none
 n_list : mg "list" = none
 n_range : mg "range" = none
 n_int : mg "int" = none
 n_bool : mg "bool" = none
 n_isinstance : mg "isinstance" = none
 n_all : mg "all" = none
 n_zip : mg "zip" = none
 n_enumerate : mg "enumerate" = none
 n_min : mg "min" = none
 n_sum : mg "sum" = none
 n_max : mg "max" = none
 n_abs : mg "abs" = none
 n_sorted : mg "sorted" = none
end L2
namespace L2
open PySem PySem.Spec PyProof.Rows
section
variable {X : Cx}
noncomputable def rCat2 : R2 := fun x y H Q => ∃ a b xs ys, x = .ref a /\ y = .ref b /\ H a = some (.tup xs) /\ H b = some (.tup ys) /\ xs.length + ys.length <= sizeLine /\ ∀ p H', Same H H' -> H' p = some (.tup (xs ++ ys)) -> Q (.ref p) H'
theorem op_cat2 : OpR X (binaryOp .Add) rCat2 := by
 intro pins s σ H x y v u Q I rx ry h
 obtain ⟨a, b, xs, ys, rfl, rfl, ha, hb, hz, q⟩ := h
 have ha' : SqT X.K H a xs := SqT.of ha
 have hb' : SqT X.K H b ys := SqT.of hb
 by_cases hx : xs = []
 ·subst hx
  cases rx
  cases ry
  obtain ⟨its, r1, p1, _⟩ := I.tuple ha'
  obtain ⟨its2, r2, p2, _⟩ := I.tuple hb'
  cases r1
  obtain ⟨⟨cls, dd, data, sl⟩, ho, hc, n, hd⟩ := id p1
  obtain ⟨⟨cls2, dd2, data2, sl2⟩, ho2, hc2, n2, hd2⟩ := id p2
  simp only at hc hd hc2 hd2
  subst hc hd hc2 hd2
  exact concat_meets ⟨_, ho, rfl⟩ ⟨_, ho2, rfl⟩ noFill_tuple_add seq_tuple_add PySem.F.slot_tuple_add PySem.F.entry_tuple_add (PySem.F.args_tuple_add_2 _ _)
   (tuple_addW0 a b #[] its2.toArray n n2 dd dd2 sl sl2 rfl) ⟨ho, ho2, ⟨.ref b, H, I, rfl, q b H (Same.refl H) hb⟩⟩
 ·refine op_catT pins s σ H _ _ v u Q I rx ry ⟨a, b, xs, ys, rfl, rfl, ha', hb', hx, hz, fun hy => ?_, fun _ p hp => ?_⟩
  ·subst hy
   exact q a H (Same.refl H) (by rw [List.append_nil]; exact ha)
  ·exact q p _ (same_upd hp) upd_same
end
theorem small1 {n : Nat} (h : n <= 1000) : n < sizeLine := Nat.lt_of_le_of_lt h (by decide)
theorem mapI_len (ns : List Int) : (ns.map V.int).length = ns.length := List.length_map ..
theorem map_of_ints {f : V -> V} {g : Int -> Int} (h : ∀ n, f (.int n) = .int (g n)) (ns : List Int) : (ns.map V.int).map f = (ns.map g).map V.int := by
 rw [List.map_map, List.map_map]
 apply List.map_congr_left
 intro n _
 exact h n
theorem filter_true {α : Type} (l : List α) : l.filter (fun _ => true) = l := by simp
end L2
namespace L2
open PySem PySem.Spec PyProof.Rows
noncomputable def Hand (H : Hp) (p q : Addr) : Prop := ∃ (ns : List Int) (seed : Int), H p = some (.lst [.ref q, .int seed]) /\ H q = some (.lst (ns.map V.int)) /\ (∀ n ∈ ns, 0 <= n) /\ ns.length <= 63
noncomputable def Keep (p q : Addr) (H H' : Hp) : Prop := ∀ b o, H b = some o -> b ≠ p -> b ≠ q -> H' b = some o
theorem Keep.refl (p q : Addr) (H : Hp) : Keep p q H H := fun _ _ h _ _ => h
theorem Keep.trans {p q : Addr} {H H1 H2 : Hp} (a : Keep p q H H1) (b : Keep p q H1 H2) : Keep p q H H2 := fun c o h h1 h2 => b c o (a c o h h1 h2) h1 h2
theorem Same.keep {p q : Addr} {H H' : Hp} (s : Same H H') : Keep p q H H' := fun b o h _ _ => s b o h
theorem Hand.same {p q : Addr} {H H' : Hp} (h : Hand H p q) (s : Same H H') : Hand H' p q := by
 obtain ⟨ns, seed, h1, h2, h3, h4⟩ := h
 exact ⟨ns, seed, s _ _ h1, s _ _ h2, h3, h4⟩
theorem Hand.ne {p q : Addr} {H : Hp} (h : Hand H p q) : p ≠ q := by
 obtain ⟨ns, seed, h1, h2, _⟩ := h
 refine ne_of h1 h2 fun z => ?_
 injection z with z
 cases ns with
 | nil => cases z
 | cons a r => injection z with z _; cases z
theorem Keep.free {p q : Addr} {H H' : Hp} (k : Keep p q H H') (h : Hand H p q) {l : Addr} (hl : H' l = none) (h' : Hand H' p q) : H l = none := by
 cases e : H l with
 | none => rfl
 | some o =>
  obtain ⟨_, _, h1, h2, _⟩ := h'
  have := k l o e (fun z => by subst z; rw [h1] at hl; cases hl) (fun z => by subst z; rw [h2] at hl; cases hl)
  rw [hl] at this; cases this
noncomputable def spHand (K : PySem.W.Frag) : Sp := fun vs H Q _ => ∃ (a : Addr) (ns : List Int), vs = [.ref a] /\ SqL K H a (ns.map V.int) /\ ns.length <= 63 /\ ∀ p q H', Same H H' -> Hand H' p q -> H p = none -> H q = none -> Q (.ref p) H'
noncomputable def spPick : Sp := fun vs H Q _ => ∃ (p q : Addr) (m : Int), vs = [.ref p, .int m] /\ 0 < m /\ m < 1073741824 /\ Hand H p q /\ ∀ d H', 0 <= d -> d < m -> Hand H' p q -> Keep p q H H' -> Q (.int d) H'
noncomputable def spSize : Sp := fun vs H Q _ => ∃ (p q : Addr) (m : Int), vs = [.ref p, .int m] /\ 9 <= m /\ m < 1000 /\ Hand H p q /\ ∀ d H', 0 <= d -> d <= m -> Hand H' p q -> Keep p q H H' -> Q (.int d) H'
noncomputable def num0 (n : Nat) : List Int := (List.range n).map fun (i : Nat) => (i : Int)
noncomputable def spAny : Sp := fun vs H Q _ => ∃ (p q : Addr) (m : Nat), vs = [.ref p, .int m] /\ m <= 500 /\ Hand H p q /\ ∀ (l : Addr) (ys : List Int) (H' : Hp), ys.Perm (num0 m) -> H l = none -> H' l = some (.lst (ys.map V.int)) -> Hand H' p q -> Keep p q H H' -> Q (.ref l) H'
noncomputable def spOrder : Sp := fun vs H Q _ => ∃ (p q : Addr) (m : Nat), vs = [.ref p, .int m] /\ m <= 500 /\ Hand H p q /\ ∀ (l : Addr) (ys : List Int) (H' : Hp), ys.Perm (num0 m) -> H' l = some (.tup (ys.map V.int)) -> Hand H' p q -> Keep p q H H' -> Q (.ref l) H'
theorem upd_hand {p q l : Addr} {H : Hp} {o : HO} (h : Hand H p q) (hl : H l = none) : Hand (upd H l o) p q := h.same (same_upd hl)
theorem lset_hand {p q l : Addr} {H : Hp} {o u : HO} (h : Hand H p q) (hl : H l = some u) (hp : l ≠ p) (hq : l ≠ q) : Hand (upd H l o) p q := by
 obtain ⟨ns, seed, h1, h2, h3, h4⟩ := h
 exact ⟨ns, seed, by rw [upd_ne (Ne.symm hp)]; exact h1, by rw [upd_ne (Ne.symm hq)]; exact h2, h3, h4⟩
end L2
namespace L2
open PySem PySem.Spec PyProof.Rows
theorem PS.mono {X : Cx} {st : Stmt} {t t' : TS} (h : PS X st t) (m : ∀ D σ H, t' D σ H -> t D σ H) : PS X st t' := fun pins s σ H D I q => h pins s σ H D I (m D σ H q)
theorem rangeV_num0 (n : Nat) : rangeV 0 n = (num0 n).map V.int := by
 unfold rangeV num0
 rw [List.map_map]
 apply List.map_congr_left
 intro i _
 show V.int (0 + (i : Int)) = V.int (i : Int)
 rw [Int.zero_add]
theorem num0_mem {n : Nat} {x : Int} (h : x ∈ num0 n) : 0 <= x /\ x < n := by
 unfold num0 at h
 obtain ⟨i, hi, rfl⟩ := List.mem_map.mp h
 have := List.mem_range.mp hi
 (first | lia | omega)
theorem num0_split (c m : Nat) (h : c <= m) : num0 m = num0 c ++ (num0 (m - c)).map fun x => (c : Int) + x := by
 unfold num0
 apply List.ext_getElem?
 intro i
 by_cases hi : i < c
 ·rw [List.getElem?_append_left (by simpa using hi)]
  simp [hi, (by (first | lia | omega) : i < m)]
 ·rw [List.getElem?_append_right (by simpa using hi)]
  simp only [List.length_map, List.length_range, List.map_map, List.getElem?_map]
  by_cases hm : i < m
  ·rw [List.getElem?_range hm, List.getElem?_range (by (first | lia | omega) : i - c < m - c)]
   simp
   (first | lia | omega)
  ·rw [List.getElem?_eq_none (by simpa using hm), List.getElem?_eq_none (by simp; (first | lia | omega))]
   rfl
theorem set_swap_perm : ∀ (ys : List Int) (i j : Nat) (a b : Int), ys[i]? = some a -> ys[j]? = some b -> ((ys.set i b).set j a).Perm ys := by
 intro ys i j a b hi hj
 obtain ⟨h1, e1⟩ := List.getElem?_eq_some_iff.mp hi
 obtain ⟨h2, e2⟩ := List.getElem?_eq_some_iff.mp hj
 subst e1 e2
 exact List.set_set_perm h1 h2
theorem round_perm {row ys : List Int} {m : Nat} (hr : row.Perm (num0 m)) (hl : ys.length = m) (h : ∀ (k : Nat) (a : Int), row[k]? = some a -> ∀ b, row[(k + 1) % m]? = some b -> ys[a.toNat]? = some b) : ys.Perm (num0 m) := by
 have hrl : row.length = m := by rw [hr.length_eq]; simp [num0]
 have e1 : ys = (num0 m).map fun a => ys.getD a.toNat 0 := by
  apply List.ext_getElem?
  intro i
  unfold num0
  rw [List.map_map, List.getElem?_map]
  by_cases hi : i < m
  ·rw [List.getElem?_range hi, List.getElem?_eq_getElem (by (first | lia | omega))]
   simp [hl, hi]
  ·rw [List.getElem?_eq_none (by (first | lia | omega)), List.getElem?_eq_none (by simpa using hi)]
   rfl
 have e2 : (row.map fun a => ys.getD a.toNat 0) = row.drop 1 ++ row.take 1 := by
  apply List.ext_getElem?
  intro i
  rw [List.getElem?_map]
  by_cases hi : i < m
  ·rw [List.getElem?_eq_getElem (by (first | lia | omega) : i < row.length)]
   have hn : (i + 1) % m < row.length := by rw [hrl]; exact Nat.mod_lt _ (by (first | lia | omega))
   have := h i row[i] (List.getElem?_eq_getElem (by (first | lia | omega))) _ (List.getElem?_eq_getElem hn)
   show some (ys.getD _ 0) = _
   rw [List.getD_eq_getElem?_getD, this]
   by_cases hlast : i + 1 = m
   ·have e : (i + 1) % m = 0 := by rw [hlast, Nat.mod_self]
    rw [List.getElem?_append_right (by simp; (first | lia | omega))]
    simp only [e]
    rw [List.getElem?_take]
    simp [hrl, (by (first | lia | omega) : i - (m - 1) = 0)]
   ·have e : (i + 1) % m = i + 1 := Nat.mod_eq_of_lt (by (first | lia | omega))
    rw [List.getElem?_append_left (by simp; (first | lia | omega)), List.getElem?_drop]
    simp only [e]
    rw [Nat.add_comm 1 i, List.getElem?_eq_getElem (by (first | lia | omega) : i + 1 < row.length)]
    rfl
  ·rw [List.getElem?_eq_none (by (first | lia | omega)), List.getElem?_eq_none (by simp; (first | lia | omega))]
   rfl
 have e3 : (row.map fun a => ys.getD a.toNat 0).Perm row := by
  rw [e2]
  refine List.perm_append_comm.trans ?_
  rw [List.take_append_drop]
 rw [e1]
 exact ((hr.map _).symm.trans e3).trans hr
end L2
namespace L2
open PySem PySem.Spec PyProof.Rows
theorem kit_tt {K : PySem.W.Frag} {a b : String} {r : Bool} (h : (if (Value.type a == Value.type b) = true then some true else if PySem.W.kitMeta b = true then (fastBuiltinMro a).map (·.contains (Value.type b)) else none) = some r) : PySem.W.kitOne K (.type a) (.type b) = some r := h
theorem kit_int_tuple {K : PySem.W.Frag} : PySem.W.kitOne K (.type "int") (.type "tuple") = some false := kit_tt (by decide +kernel)
theorem kit_int_bool {K : PySem.W.Frag} : PySem.W.kitOne K (.type "int") (.type "bool") = some false := kit_tt (by decide +kernel)
theorem kit_int_int {K : PySem.W.Frag} : PySem.W.kitOne K (.type "int") (.type "int") = some true := kit_tt (by decide +kernel)
theorem kit_tuple_tuple {K : PySem.W.Frag} : PySem.W.kitOne K (.type "tuple") (.type "tuple") = some true := kit_tt (by decide +kernel)
theorem pg_pair {X : Cx} {i j : Nat} {x y : Str} {px py pt : Pos} {kt : Nat} (hc : X.calm = true) (hN : X.N.Nodup) (hi : X.N[i]? = some x) (hj : X.N[j]? = some y) (hx : Loc X.env.scope x) (hy : Loc X.env.scope y) (fx : X.fn x = true ∨ X.env.scope.names.lookup x = some .local) (fy : X.fn y = true ∨ X.env.scope.names.lookup y = some .local) :
  PG X (.Tuple [.Name x px, .Name y py] kt pt) (gTup X.K 2 (gCons (gName i) (gCons (gName j) gNil))) := pg_tup hc (pgs_cons (pg_name hN hi hx fx) (pgs_cons (pg_name hN hj hy fy) pgs_nil))
theorem pg_pairK {X : Cx} (K : PySem.W.Frag) {i j : Nat} {x y : Str} {px py pt : Pos} {kt : Nat} (hK : X.K = K) (hc : X.calm = true) (hN : X.N.Nodup) (hi : X.N[i]? = some x) (hj : X.N[j]? = some y) (hx : Loc X.env.scope x) (hy : Loc X.env.scope y) (fx : X.fn x = true ∨ X.env.scope.names.lookup x = some .local) (fy : X.fn y = true ∨ X.env.scope.names.lookup y = some .local) :
  PG X (.Tuple [.Name x px, .Name y py] kt pt) (gTup K 2 (gCons (gName i) (gCons (gName j) gNil))) := hK ▸ pg_tup hc (pgs_cons (pg_name hN hi hx fx) (pgs_cons (pg_name hN hj hy fy) pgs_nil))
noncomputable def Alike (H : Hp) : Nat -> V -> V -> Prop
 | 0, x, y => ∃ a : Int, x = .int a /\ y = .int a
 | n + 1, x, y => (∃ a : Int, x = .int a /\ y = .int a) ∨ ∃ a b xs ys, x = .ref a /\ y = .ref b /\ H a = some (.tup xs) /\ H b = some (.tup ys) /\ xs.length <= 1000 /\ Paired (Alike H n) xs ys
theorem Alike.sameT {H H' : Hp} (s : SameT H H') : ∀ {n : Nat} {x y : V}, Alike H n x y -> Alike H' n x y
 | 0, _, _, h => h
 | n + 1, _, _, .inl h => .inl h
 | n + 1, _, _, .inr ⟨a, b, xs, ys, e1, e2, h1, h2, h3, pr⟩ => .inr ⟨a, b, xs, ys, e1, e2, s _ _ h1, s _ _ h2, h3, Paired.mapP pr fun _ _ q => Alike.sameT s q⟩
theorem alike_ints {H : Hp} {a b : Addr} {ns : List Int} (ha : H a = some (.tup (ns.map V.int))) (hb : H b = some (.tup (ns.map V.int))) (hl : ns.length <= 1000) : Alike H 1 (.ref a) (.ref b) := by
 refine .inr ⟨a, b, _, _, rfl, rfl, ha, hb, by rw [mapI_len]; exact hl, ?_⟩
 clear ha hb hl
 induction ns with
 | nil => exact .nil
 | cons x r ih => exact .cons ⟨x, rfl, rfl⟩ ih
theorem paired_get {F : V -> V -> Prop} : ∀ {xs ys : List V}, Paired F xs ys -> ∀ {i : Nat} {x y : V}, xs[i]? = some x -> ys[i]? = some y -> F x y
 | _, _, .nil, _, _, _, h, _ => by simp at h
 | _, _, .cons r _, 0, _, _, h, h' => by simp at h h'; subst h h'; exact r
 | _, _, .cons _ t, i + 1, _, _, h, h' => paired_get t (by simpa using h) (by simpa using h')
noncomputable def spSame (n : Nat) : Sp := fun vs H Q _ => ∃ x y, vs = [x, y] /\ Alike H n x y /\ ∀ H', Same H H' -> Q (.bl true) H'
theorem lc_zip_true {K : PySem.W.Frag} {a b : Addr} {xs ys : List V} {te : TE} {σ : L2.St} {H1 : Hp} {Q : VK} (hx : SqT K H1 a xs) (hy : SqT K H1 b ys) (hxy : xs.length = ys.length) (small : xs.length <= 1000) (Fx : ∀ {H}, Same H1 H -> SqT K H a xs) (Fy : ∀ {H}, Same H1 H -> SqT K H b ys)
  (he : ∀ (i : Nat) x y, xs[i]? = some x -> ys[i]? = some y -> ∀ H, Same H1 H -> ∀ Q' : VK, (∀ H', Same H H' -> Q' (.bl true) H') -> te [some x, some y] H Q')
  (fin : ∀ acc H', H1 acc = none -> Same H1 H' -> H' acc = some (.lst ((List.replicate xs.length true).map V.bl)) -> Q (.ref acc) H') :
  LcW (Itz K a b) H1 (gTup K 2 (gCons (gName 0) (gCons (gName 1) gNil))) tNoTest te 2 [] σ Q := by
 intro acc ha
 refine ⟨fun i m H => m = xs.length - i /\ i <= xs.length /\ Same H1 H /\ H acc = some (.lst ((List.replicate i true).map V.bl)), ⟨xs.length, by simp, Nat.zero_le _, same_upd ha, upd_same⟩, ?_⟩
 rintro i m H ⟨rfl, hi, sm, hacc⟩
 by_cases hlt : i < xs.length
 ·have hlt' : i < ys.length := by (first | lia | omega)
  refine .inr ⟨⟨xs, ys, xs[i], ys[i], Fx sm, Fy sm, List.getElem?_eq_getElem hlt, List.getElem?_eq_getElem hlt'⟩, fun v H' y => ?_⟩
  obtain ⟨t, x, y, ht, rfl, rfl, hv⟩ := y
  obtain ⟨e1, e2⟩ := hv xs ys (Fx sm) (Fy sm)
  refine ⟨t, _, rfl, SqT.of upd_same, rfl, x, _, rfl, y, _, rfl, rfl, ⟨rfl, fun j v e => ?_⟩, ?_⟩
  ·match j, e with
   | 0, e => cases e
   | 1, e => cases e
   | j + 2, e => cases e
  ·unfold tNoTest
   dsimp only
   rw [if_pos rfl]
   refine he i x y e1 e2 _ (sm.trans (same_upd ht)) _ fun H4 s4 => ?_
   have h4 : H4 acc = some (.lst ((List.replicate i true).map V.bl)) := s4 _ _ (by rw [upd_ne (ne_of_none hacc ht)]; exact hacc)
   refine ⟨_, h4, small1 (by simp; (first | lia | omega)), xs.length - (i + 1), by (first | lia | omega), rfl, hlt, ?_, ?_⟩
   ·exact same_updR ((sm.trans (same_upd ht)).trans s4) ha
   ·rw [upd_same, List.replicate_succ', List.map_append]
    rfl
 ·have e : i = xs.length := by (first | lia | omega)
  subst e
  exact .inl ⟨⟨xs, ys, Fx sm, Fy sm, .inl (List.getElem?_eq_none (Nat.le_refl _))⟩, fin acc H ha sm hacc⟩
end L2
namespace L2
open PySem PySem.Spec PyProof.Rows
theorem eqv_tints (ns ms : List Int) : PyData.eqv (.tuple (ns.map PyData.int)) (.tuple (ms.map PyData.int)) = decide (ns = ms) := eqv_ints ns ms
theorem neTT {H : Hp} {a b : Addr} {ns ms : List Int} {Q : VK} (ha : H a = some (.tup (ns.map V.int))) (hb : H b = some (.tup (ms.map V.int))) (e : ns = ms) (h : Q (.bl false) H) : rNeD (.ref a) (.ref b) H Q := by
 refine ⟨_, _, Is.ints ha, Is.ints hb, shaped_tints ns, shaped_tints ms, ?_⟩
 rw [eqv_tints, decide_eq_true e]
 exact h
theorem at_getD {ys : List Int} {i : Int} (h0 : 0 <= i) (h1 : i < ys.length) : atI (ys.map V.int) i = some (.int (ys.getD i.toNat 0)) := by
 have hlt : i.toNat < ys.length := by (first | lia | omega)
 have e : ((i.toNat : Nat) : Int) = i := by (first | lia | omega)
 have := atI_nat (xs := ys.map V.int) (j := i.toNat) (v := .int (ys.getD i.toNat 0)) (by rw [List.getElem?_map, List.getD_eq_getElem?_getD, List.getElem?_eq_getElem hlt]; rfl)
 rwa [e] at this
end L2
namespace L2
open PySem PySem.Spec PyProof.Rows
structure Def (K : PySem.W.Frag) (x : Str) (st : Stmt) : Prop where
 ex : ∃ (f : Addr) (oc : Value) (od an : Option Addr) (kV doc pm cdv ct : Value) (osl : Array (Option Value)), PySem.W.nsIn K mainGlobals x = some (some (.ref f)) /\
  K.lookup f = some ⟨oc, od, .func (PySem.W.fnOf x x (defArgs st) (defBody st) (defScope st) .none kV doc pm an cdv ct), osl⟩ /\ PySem.W.codeIn K cdv x = true /\ PySem.W.keepIn K (.ref f) = true
section
variable {K : PySem.W.Frag} {h : Heap} {mg : Str -> Option Value} {x : Str} {st : Stmt}
theorem Def.of {f : Addr} {oc : Value} {od an : Option Addr} {kV doc pm cdv ct : Value} {osl : Array (Option Value)} (a : PySem.W.nsIn K mainGlobals x = some (some (.ref f)))
  (l : K.lookup f = some ⟨oc, od, .func (PySem.W.fnOf x x (defArgs st) (defBody st) (defScope st) .none kV doc pm an cdv ct), osl⟩) (c : PySem.W.codeIn K cdv x = true) (k : PySem.W.keepIn K (.ref f) = true) : Def K x st :=
 ⟨f, oc, od, an, kV, doc, pm, cdv, ct, osl, a, l, c, k⟩
theorem Def.fn (D : Def K x st) (X : K.In h) (G : h.Ns mainGlobals mg) : ∃ f fd, Fun K x x st f fd /\ mg x = some (.ref f) := by
 obtain ⟨f, oc, od, an, kV, doc, pm, cdv, ct, osl, a, l, c, k⟩ := D.ex
 exact ⟨f, _, fun_mk (st := st) l c k, PySem.W.mg_of X G a⟩
end
structure TopK (K : PySem.W.Frag) : Prop where
 k_len : PySem.W.nsIn K mainGlobals "len" = some none
 k_tuple : PySem.W.nsIn K mainGlobals "tuple" = some none
 k_list : PySem.W.nsIn K mainGlobals "list" = some none
 k_range : PySem.W.nsIn K mainGlobals "range" = some none
 k_int : PySem.W.nsIn K mainGlobals "int" = some none
 k_bool : PySem.W.nsIn K mainGlobals "bool" = some none
 k_isinstance : PySem.W.nsIn K mainGlobals "isinstance" = some none
 k_all : PySem.W.nsIn K mainGlobals "all" = some none
 k_zip : PySem.W.nsIn K mainGlobals "zip" = some none
 k_enumerate : PySem.W.nsIn K mainGlobals "enumerate" = some none
 k_min : PySem.W.nsIn K mainGlobals "min" = some none
 k_sum : PySem.W.nsIn K mainGlobals "sum" = some none
 k_max : PySem.W.nsIn K mainGlobals "max" = some none
 k_abs : PySem.W.nsIn K mainGlobals "abs" = some none
 k_sorted : PySem.W.nsIn K mainGlobals "sorted" = some none
theorem TopK.top {K : PySem.W.Frag} {h : Heap} {mg : Str -> Option Value} (T : TopK K) (X : K.In h) (G : h.Ns mainGlobals mg) : Top mg :=
  ⟨PySem.W.mg_none_of X G T.k_len, PySem.W.mg_none_of X G T.k_tuple, PySem.W.mg_none_of X G T.k_list, PySem.W.mg_none_of X G T.k_range, PySem.W.mg_none_of X G T.k_int, PySem.W.mg_none_of X G T.k_bool, PySem.W.mg_none_of X G T.k_isinstance,
   PySem.W.mg_none_of X G T.k_all, PySem.W.mg_none_of X G T.k_zip, PySem.W.mg_none_of X G T.k_enumerate, PySem.W.mg_none_of X G T.k_min, PySem.W.mg_none_of X G T.k_sum, PySem.W.mg_none_of X G T.k_max, PySem.W.mg_none_of X G T.k_abs, PySem.W.mg_none_of X G T.k_sorted⟩
end L2
namespace L2
open PySem PySem.Spec PyProof.Rows
open Sem (wp)
open AutoSeq1 (wpAny_loadPart')
section
variable {prog : Program} {w : World} {A : Around} {E : Value -> Shared -> Prop} {s : Shared}
theorem wpAny_forR {β : Type} {M : Model} {a b : Nat} {f : Nat -> β -> Sem (ForInStep β)} (I : Nat -> β -> Shared -> Prop) (Q : β -> Shared -> Prop)
  (hstep : ∀ i c s, i < b -> I i c s -> wpAny M A (f i c) (fun r s' => match r with | .yield c' => I (i + 1) c' s' | .done c' => Q c' s') E s)
  (hend : ∀ c s, I b c s -> Q c s) (hab : a <= b) {c : β} (h : I a c s) : wpAny M A (forIn [a:b] c f) Q E s := by
 rw [Std.Legacy.Range.forIn_eq_forIn_range']
 have hsz : ([a:b] : Std.Legacy.Range).size = b - a := by simp [Std.Legacy.Range.size]
 show wpAny M A (forIn (List.range' a ([a:b] : Std.Legacy.Range).size 1) c f) Q E s
 rw [hsz]
 refine wpAny_forIn_list f (fun l c st => ∃ i, i <= b /\ l = List.range' i (b - i) 1 /\ I i c st) Q ?_ ?_ _ c ⟨a, hab, rfl, h⟩
 ·rintro x rest c st ⟨i, hib, hl, hI⟩
  have hlt : i < b := by
   rcases Nat.lt_or_ge i b with z | z
   ·exact z
   ·rw [show b - i = 0 by (first | lia | omega)] at hl; simp at hl
  obtain ⟨n, hn⟩ : ∃ n, b - i = n + 1 := ⟨b - i - 1, by (first | lia | omega)⟩
  rw [hn, List.range'_succ] at hl
  obtain ⟨rfl, rfl⟩ := List.cons.inj hl
  refine wpAny_mono (hstep x c st hlt hI) (fun r st' h' => ?_) fun _ _ z => z
  cases r with
  | done c' => exact h'
  | yield c' => exact ⟨x + 1, by (first | lia | omega), by congr 1; (first | lia | omega), h'⟩
 ·rintro c st ⟨i, hib, hl, hI⟩
  have e : i = b := by
   rcases Nat.lt_or_ge i b with z | z
   ·obtain ⟨n, hn⟩ : ∃ n, b - i = n + 1 := ⟨b - i - 1, by (first | lia | omega)⟩
    rw [hn, List.range'_succ] at hl
    cases hl
   ·(first | lia | omega)
  subst e
  exact hend c st hI
end
theorem tup_indexAt (l : Addr) (items : Array Value) (n : Nat) (dd : Option Addr) (sl : Array (Option Value)) (x : Value) (e : Value -> Bool) (j : Nat) (y0 : Value) (hj : items[j]? = some y0) (hy0 : e y0 = true)
  (hlt : ∀ (i : Nat) y, i < j -> items[i]? = some y -> e y = false) (he : ∀ y, y ∈ items -> MeetsSeq.EqGives y x (e y)) :
  Meets (Builtin.«tuple.index» ⟨[.ref l, x], []⟩)
   (fun A R s => s.heap.get? l = some { cls := .type "tuple", dict := dd, data := .seq items n, slots := sl } /\ R (.ok (.ret (.int (j : Int) s.toks))) { s with toks := s.toks + 1 }) :=
 .of_wp fun prog w A R s h => by
  obtain ⟨hp, g, d, tk, os⟩ := s; obtain ⟨hl, h⟩ := h
  have hjs : j < items.size := (Array.getElem?_eq_some_iff.mp hj).1
  wp_walk using wpAny_loadPart' hl, wpAny_forR (fun i b s' => b.1 = none /\ s' = ⟨hp, g, d, tk, os⟩ /\ i <= j) _
  case hstep =>
   rintro i c s' hi ⟨hc, rfl, hij⟩
   have hi' : i < items.size := by (first | lia | omega)
   have hg : items[i]? = some items[i] := by simp [hi']
   rw [hg]
   dsimp only
   refine wpAny_bind (he _ (Array.getElem_mem hi') prog w _ _ _ _ ?_)
   by_cases hij' : i = j
   ·subst hij'
    have e0 : items[i] = y0 := by rw [hg] at hj; exact Option.some.inj hj
    rw [e0, hy0]
    wp_walk
    exact ⟨_, rfl, h⟩
   ·have e0 : e items[i] = false := hlt i _ (by (first | lia | omega)) hg
    rw [e0]
    wp_walk
    exact ⟨rfl, rfl, by (first | lia | omega)⟩
  case hend =>
   rintro c s' ⟨hc, rfl, hij⟩
   (first | lia | omega)
  case hab => exact Nat.zero_le _
  case h => exact ⟨rfl, rfl, Nat.zero_le _⟩
section
variable {X : Cx}
noncomputable def tBMT (r : V -> List V -> Hp -> VK -> Prop) (to : TE) (t : TA) : TE := fun σ H Q => to σ H fun x H1 => (∃ a xs, x = .ref a /\ H1 a = some (.tup xs)) /\ t σ H1 fun xs H2 => r x xs H2 Q
theorem pe_bmT {o e : Expr} {es : List Expr} {to : TE} {t : TA} {name : Str} {apos cpos : Pos} {id : String} {r : V -> List V -> Hp -> VK -> Prop} (slot : Slot "tuple" name id) (hty : typeOf (.builtin id) = pure (.type "method_descriptor")) (hm : MtR X id r) (ho : PE X o to) (ha : PA X (e :: es) t)
  (hbase : attributeBase o name X.env (eval o X.env) = eval o X.env := by rfl)
  (hfew : ((backTo cpos (starEach (e :: es) X.env)).all (fun x => !x.1) && (backToKw cpos (keywordEach [] X.env)).all (fun x => x.1.isSome)
   && decide ((e :: es).length + ([] : List Keyword).length + (if ([] : List Keyword).isEmpty then 0 else 1) < 30)) = true := by rfl)
  (hline : (apos.endLine == cpos.line) = true := by rfl) (hs : starEach (e :: es) X.env = (false, eval e X.env) :: starEach es X.env := by rfl) (hplain : (backTo cpos (starEach es X.env)).any (·.1) = false := by rfl) :
  PE X (.Call (.Attribute o name apos) (e :: es) [] cpos) (tBMT r to t) := by
 intro pins s σ H Q I h
 refine wpAny_Call_method_late hbase hfew hline rfl (thn (ho pins s σ H _ I h) fun v s1 ⟨x, H1, I1, r1, ⟨a, xs, e1, hH⟩, q1⟩ => ?_)
 subst e1
 cases (show v = Value.ref a from r1)
 obtain ⟨_, its, _, ob, e1, e2, _, e4, _⟩ := (show ObjOk X.prog X.w H1 s1.heap a (.tup xs) from I1.hok a _ hH)
 refine ⟨"tuple", id, PySem.F.plainAttrs_tuple, slot, hty, ⟨ob, e1, e2⟩, fun b eb => by cases eb; exact ⟨ob, e1, e4⟩, ?_⟩
 have hA := ha cpos pins s1 σ H1 _ I1 q1
 rw [hs] at hA ⊢
 refine Calls.callWith_builtin (by show (false || (backTo cpos (starEach es X.env)).any (·.1)) = false; rw [hplain] <;> rfl) (Calls.evalArgs_plain ?_)
 exact thn hA fun us s2 ⟨vs, H2, I2, r2, q2⟩ => hm pins s2 σ H2 (.ref a) vs _ us Q I2 rfl r2 q2
noncomputable def rTIndex : V -> List V -> Hp -> VK -> Prop := fun x vs H Q => ∃ (a : Addr) (ns : List Int) (n : Int), x = .ref a /\ vs = [.int n] /\ H a = some (.tup (ns.map V.int)) /\ n ∈ ns /\ Q (.int (ns.idxOf n)) H
theorem vals_mem : ∀ {ns : List Int} {its : List Value}, Vals (ns.map V.int) its -> ∀ y ∈ its, ∃ n t, n ∈ ns /\ y = Value.int n t
 | [], _, .nil, _, h => by cases h
 | n :: ns, _, .cons r t, y, h => by
  rcases List.mem_cons.mp h with rfl | h
  ·obtain ⟨t, rfl⟩ := r
   exact ⟨n, t, by simp, rfl⟩
  ·obtain ⟨m, t', hm, rfl⟩ := vals_mem t y h
   exact ⟨m, t', by simp [hm], rfl⟩
theorem mt_tindex : MtR X "tuple.index" rTIndex := by
 intro pins s σ H x vs v us Q I rx rv h
 obtain ⟨a, ns, n, rfl, rfl, hH, hn, q⟩ := h
 cases rx
 obtain ⟨u, rfl, t, rfl⟩ := vals1 rv
 obtain ⟨hz, its, r, ⟨cls, dd, data, sl⟩, e1, e2, ⟨c, e3⟩, e4, _⟩ := (show ObjOk X.prog X.w H s.heap a (.tup (ns.map V.int)) from I.hok a _ hH)
 dsimp only at e2 e3 e4
 subst e2 e3 e4
 have hidx : ns.idxOf n < ns.length := List.idxOf_lt_length_of_mem hn
 obtain ⟨y0, hy0, ry0⟩ := r.get (i := ns.idxOf n) (x := .int n) (by rw [List.getElem?_map, List.getElem?_eq_getElem hidx, List.getElem_idxOf hidx]; rfl)
 refine call_meets PySem.F.slot_tuple_index ⟨_, e1, rfl⟩ PySem.F.entry_tuple_index (PySem.F.args_tuple_index_2 _ _)
  (tup_indexAt a its.toArray c none sl (.int n t) (fun y => match y with | .int m _ => m == n | _ => false) (ns.idxOf n) y0 (by simpa using hy0) ?_ ?_ ?_) ⟨e1, ⟨.int (ns.idxOf n), H, I.tok _, ⟨_, rfl⟩, q⟩⟩
 ·obtain ⟨t', rfl⟩ := ry0
  simp
 ·intro i y hi hy
  have hyi : its[i]? = some y := by simpa using hy
  obtain ⟨m, t', hm, rfl⟩ := vals_mem r y (List.mem_of_getElem? hyi)
  have hil : i < ns.length := by (first | lia | omega)
  obtain ⟨y1, hy1, ry1⟩ := r.get (i := i) (x := .int ns[i]) (by rw [List.getElem?_map, List.getElem?_eq_getElem hil]; rfl)
  rw [hyi] at hy1
  cases hy1
  obtain ⟨t2, e⟩ := ry1
  injection e with e _
  have hne : ns[i] ≠ n := by
   have := List.not_of_lt_findIdx (p := (· == n)) (xs := ns) (i := i) (by simpa [List.idxOf] using hi)
   simpa using this
  simp [e, hne]
 ·intro y hy
  obtain ⟨m, t', _, rfl⟩ := vals_mem r y (by simpa using hy)
  exact MeetsSeq.EqGives.int m n t' t
end
end L2
namespace L2
open PySem PySem.Spec PyProof.Rows
open Sem (wp)
open AutoSeq1 (wpAny_loadPart')
section
variable {prog : Program} {w : World} {A : Around} {E : Value -> Shared -> Prop} {s : Shared}
end
section
variable {X : Cx} {pos : Pos}
end
section
variable {prog : Program} {w : World} {A : Around} {E : Value -> Shared -> Prop} {s : Shared}
end
section
variable {X : Cx}
end
end L2
namespace L2
open PySem PySem.Spec PyProof.Rows
noncomputable def atO (ns : List Int) (x : Int) : Int := ns.getD x.toNat 0
noncomputable def invO (ns : List Int) : List Int := (num0 ns.length).map fun x => ((ns.idxOf x : Nat) : Int)
noncomputable def compO (ns ms : List Int) : List Int := ms.map (atO ns)
noncomputable def Ord (m : Nat) (ns : List Int) : Prop := ns.Perm (num0 m)
theorem num0_len' (n : Nat) : (num0 n).length = n := by simp [num0]
theorem num0_nodup' (n : Nat) : (num0 n).Nodup := by
 unfold num0
 refine List.Pairwise.map _ (fun a b (h : a ≠ b) => ?_) (List.nodup_range (n := n))
 show (a : Int) ≠ (b : Int)
 (first | lia | omega)
theorem mem_num0 {n : Nat} {x : Int} : x ∈ num0 n ↔ 0 <= x /\ x < n := by
 refine ⟨num0_mem, fun ⟨h0, h1⟩ => ?_⟩
 unfold num0
 exact List.mem_map.mpr ⟨x.toNat, List.mem_range.mpr (by (first | lia | omega)), by (first | lia | omega)⟩
theorem num0_get {n i : Nat} (h : i < n) : (num0 n)[i]? = some (i : Int) := by simp [num0, h]
section
variable {m : Nat} {ns ms ks : List Int} {x : Int}
theorem Ord.len (h : Ord m ns) : ns.length = m := by rw [List.Perm.length_eq h, num0_len']
theorem Ord.nodup (h : Ord m ns) : ns.Nodup := h.symm.nodup (num0_nodup' m)
theorem Ord.mem (h : Ord m ns) : x ∈ ns ↔ 0 <= x /\ x < m := by rw [List.Perm.mem_iff h, mem_num0]
theorem Ord.rng (h : Ord m ns) : ∀ y ∈ ns, 0 <= y /\ y < m := fun _ hy => h.mem.mp hy
theorem atO_get {i : Nat} (h : i < ns.length) : atO ns (i : Int) = ns[i] := by
 unfold atO
 rw [Int.toNat_natCast, List.getD_eq_getElem?_getD, List.getElem?_eq_getElem h]
 rfl
theorem atO_mem (h0 : 0 <= x) (h1 : x < ns.length) : atO ns x ∈ ns := by
 unfold atO
 rw [List.getD_eq_getElem?_getD, List.getElem?_eq_getElem (by (first | lia | omega))]
 exact List.getElem_mem _
theorem atO_num0 (h0 : 0 <= x) (h1 : x < m) : atO (num0 m) x = x := by
 unfold atO
 rw [List.getD_eq_getElem?_getD, num0_get (by (first | lia | omega))]
 show ((x.toNat : Nat) : Int) = x
 (first | lia | omega)
theorem atO_comp (h0 : 0 <= x) (h1 : x < ms.length) : atO (compO ns ms) x = atO ns (atO ms x) := by
 show (compO ns ms).getD x.toNat 0 = atO ns (ms.getD x.toNat 0)
 unfold compO
 have hlt : x.toNat < ms.length := by (first | lia | omega)
 rw [List.getD_eq_getElem?_getD, List.getElem?_map, List.getD_eq_getElem?_getD, List.getElem?_eq_getElem hlt]
 rfl
theorem atO_inv (h : Ord m ns) (h0 : 0 <= x) (h1 : x < m) : atO (invO ns) x = (ns.idxOf x : Nat) := by
 unfold atO invO
 rw [h.len, List.getD_eq_getElem?_getD, List.getElem?_map, num0_get (by (first | lia | omega) : x.toNat < m)]
 show ((ns.idxOf ((x.toNat : Nat) : Int) : Nat) : Int) = _
 rw [show ((x.toNat : Nat) : Int) = x by (first | lia | omega)]
theorem inv_comp' (h : Ord m ns) : compO (invO ns) ns = num0 m := by
 apply List.ext_getElem?
 intro i
 unfold compO
 rw [List.getElem?_map]
 by_cases hi : i < m
 ·have hi' : i < ns.length := by rw [h.len]; exact hi
  rw [num0_get hi, List.getElem?_eq_getElem hi']
  show some (atO (invO ns) ns[i]) = _
  have := h.rng _ (List.getElem_mem hi')
  rw [atO_inv h this.1 this.2, List.Nodup.idxOf_getElem h.nodup i hi']
 ·rw [List.getElem?_eq_none (by rw [h.len]; (first | lia | omega)), List.getElem?_eq_none (by rw [num0_len']; (first | lia | omega))]
  rfl
end
theorem rep_one {α : Type} (x : α) (n : Nat) : (List.replicate n [x]).flatten = List.replicate n x := by
 induction n with
 | zero => rfl
 | succ n ih => rw [List.replicate_succ, List.flatten_cons, ih]; rfl
theorem eqTT {H : Hp} {a b : Addr} {ns ms : List Int} {Q : VK} (ha : H a = some (.tup (ns.map V.int))) (hb : H b = some (.tup (ms.map V.int))) (e : ns = ms) (h : Q (.bl true) H) : rEqD (.ref a) (.ref b) H Q := by
 refine ⟨_, _, Is.ints ha, Is.ints hb, shaped_tints ns, shaped_tints ms, ?_⟩
 rw [eqv_tints, decide_eq_true e]
 exact h
end L2
namespace L2
open PySem PySem.Spec PyProof.Rows
noncomputable def itO (ns : List Int) (x : Int) : Nat -> Int
 | 0 => x
 | k + 1 => atO ns (itO ns x k)
noncomputable def orbO (ns : List Int) (x : Int) (k : Nat) : List Int := (List.range k).map (itO ns x)
structure IsRound (ns : List Int) (x : Int) (row : List Int) : Prop where
 ex : ∃ k, row = orbO ns x (k + 1) /\ itO ns x (k + 1) = x
 nd : row.Nodup
theorem orb_len (ns : List Int) (x : Int) (k : Nat) : (orbO ns x k).length = k := by simp [orbO]
theorem orb_succ (ns : List Int) (x : Int) (k : Nat) : orbO ns x (k + 1) = orbO ns x k ++ [itO ns x k] := by simp [orbO, List.range_succ]
theorem mem_orb {ns : List Int} {x y : Int} {k : Nat} : y ∈ orbO ns x k ↔ ∃ j, j < k /\ itO ns x j = y := by
 unfold orbO
 rw [List.mem_map]
 constructor
 ·rintro ⟨j, hj, e⟩; exact ⟨j, List.mem_range.mp hj, e⟩
 ·rintro ⟨j, hj, e⟩; exact ⟨j, List.mem_range.mpr hj, e⟩
theorem orb_get {ns : List Int} {x : Int} {k j : Nat} (h : j < k) : (orbO ns x k)[j]? = some (itO ns x j) := by simp [orbO, h]
theorem it_add (ns : List Int) (x : Int) (j : Nat) : ∀ k, itO ns x (j + k) = itO ns (itO ns x j) k
 | 0 => rfl
 | k + 1 => by show atO ns (itO ns x (j + k)) = atO ns _; rw [it_add ns x j k]
theorem len_le {α : Type} [DecidableEq α] : ∀ {l L : List α}, l.Nodup -> (∀ y ∈ l, y ∈ L) -> l.length <= L.length
 | [], _, _, _ => Nat.zero_le _
 | a :: t, L, h, s => by
  have ha := s a (by simp)
  have hn := List.nodup_cons.mp h
  have h1 : t.length <= (L.erase a).length := len_le hn.2 fun y hy => by
   have hne : y ≠ a := fun e => hn.1 (e ▸ hy)
   exact (List.mem_erase_of_ne hne).mpr (s y (by simp [hy]))
  have h2 := List.length_erase_of_mem ha
  have h3 : 0 < L.length := List.length_pos_of_mem ha
  simp only [List.length_cons]
  (first | lia | omega)
section
variable {m : Nat} {ns : List Int} {x y : Int}
theorem it_rng (h : Ord m ns) (h0 : 0 <= x /\ x < m) : ∀ k, 0 <= itO ns x k /\ itO ns x k < m
 | 0 => h0
 | k + 1 => h.rng _ (atO_mem (it_rng h h0 k).1 (by rw [h.len]; exact (it_rng h h0 k).2))
theorem atO_inj (h : Ord m ns) (hx : 0 <= x /\ x < m) (hy : 0 <= y /\ y < m) (e : atO ns x = atO ns y) : x = y := by
 have ln := h.len
 have q : ∀ {z : Int}, 0 <= z /\ z < m -> atO (invO ns) (atO ns z) = z := fun {z} hz => by
  have this : atO (compO (invO ns) ns) z = atO (num0 m) z := congrArg (fun l => atO l z) (inv_comp' h)
  rw [atO_comp hz.1 (by rw [ln]; exact hz.2), atO_num0 hz.1 hz.2] at this
  exact this
 rw [<- q hx, <- q hy, e]
theorem orb_more (h : Ord m ns) (hx : 0 <= x /\ x < m) {k : Nat} (nd : (orbO ns x (k + 1)).Nodup) (hne : itO ns x (k + 1) ≠ x) : (orbO ns x (k + 2)).Nodup := by
 rw [orb_succ]
 refine List.nodup_append.mpr ⟨nd, by simp, ?_⟩
 intro a ha b hb e
 rw [List.mem_singleton] at hb
 subst hb
 obtain ⟨j, hj, e1⟩ := mem_orb.mp ha
 cases j with
 | zero => exact hne (e.symm.trans e1.symm)
 | succ j =>
  have e2 : itO ns x j = itO ns x k := atO_inj h (it_rng h hx j) (it_rng h hx k) (e1.trans e)
  have g1 : (orbO ns x (k + 1))[j]? = some (itO ns x j) := orb_get (by (first | lia | omega))
  have g2 : (orbO ns x (k + 1))[k]? = some (itO ns x k) := orb_get (by (first | lia | omega))
  rw [e2] at g1
  obtain ⟨l1, g1⟩ := List.getElem?_eq_some_iff.mp g1
  obtain ⟨l2, g2⟩ := List.getElem?_eq_some_iff.mp g2
  have q1 := List.Nodup.idxOf_getElem nd j l1
  have q2 := List.Nodup.idxOf_getElem nd k l2
  rw [g1] at q1
  rw [g2] at q2
  (first | lia | omega)
theorem orb_bound (h : Ord m ns) (hx : 0 <= x /\ x < m) {k : Nat} (nd : (orbO ns x k).Nodup) : k <= m := by
 have := len_le (L := num0 m) nd fun y hy => by
  obtain ⟨j, _, rfl⟩ := mem_orb.mp hy
  exact mem_num0.mpr (it_rng h hx j)
 rwa [orb_len, num0_len'] at this
theorem round_at (h : Ord m ns) (hx : 0 <= x /\ x < m) : ∀ (n k : Nat), m - k = n -> (orbO ns x (k + 1)).Nodup -> ∃ row, IsRound ns x row
 | n, k, e, nd => by
  by_cases hk : itO ns x (k + 1) = x
  ·exact ⟨_, ⟨k, rfl, hk⟩, nd⟩
  ·have nd2 := orb_more h hx nd hk
   have b := orb_bound h hx nd2
   cases n with
   | zero => (first | lia | omega)
   | succ n => exact round_at h hx n (k + 1) (by (first | lia | omega)) nd2
theorem round_ex (h : Ord m ns) (hx : 0 <= x /\ x < m) : ∃ row, IsRound ns x row := round_at h hx m 0 rfl (by simp [orbO])
theorem round_one {r r' : List Int} (a : IsRound ns x r) (b : IsRound ns x r') : r = r' := by
 obtain ⟨⟨k, rfl, hk⟩, nd⟩ := a
 obtain ⟨⟨k', rfl, hk'⟩, nd'⟩ := b
 have key : ∀ {k k' : Nat}, itO ns x (k + 1) = x -> (orbO ns x (k' + 1)).Nodup -> ¬ k < k' := fun {k k'} hk nd hlt => by
  have g1 : (orbO ns x (k' + 1))[0]? = some (itO ns x 0) := orb_get (by (first | lia | omega))
  have g2 : (orbO ns x (k' + 1))[k + 1]? = some (itO ns x (k + 1)) := orb_get (by (first | lia | omega))
  rw [hk] at g2
  obtain ⟨l1, g1⟩ := List.getElem?_eq_some_iff.mp g1
  obtain ⟨l2, g2⟩ := List.getElem?_eq_some_iff.mp g2
  have q1 := List.Nodup.idxOf_getElem nd 0 l1
  have q2 := List.Nodup.idxOf_getElem nd (k + 1) l2
  rw [g1] at q1
  rw [g2] at q2
  have e : itO ns x 0 = x := rfl
  rw [e] at q1
  (first | lia | omega)
 have := key hk nd'
 have := key hk' nd
 have e : k = k' := by (first | lia | omega)
 rw [e]
open Classical in
noncomputable def rowO (ns : List Int) (x : Int) : List Int := if h : ∃ row, IsRound ns x row then choose h else []
theorem row_is (h : Ord m ns) (hx : 0 <= x /\ x < m) : IsRound ns x (rowO ns x) := by
 unfold rowO
 rw [dif_pos (round_ex h hx)]
 exact Classical.choose_spec _
theorem row_eq (h : Ord m ns) (hx : 0 <= x /\ x < m) {r : List Int} (a : IsRound ns x r) : r = rowO ns x := round_one a (row_is h hx)
noncomputable def stepO (ns : List Int) (acc : List (List Int)) (f : Int) : List (List Int) := if f ∈ acc.flatten then acc else acc ++ [rowO ns f]
noncomputable def walkO (ns fs : List Int) : List (List Int) := fs.foldl (stepO ns) []
noncomputable def roundsO (ns : List Int) : List (List Int) := walkO ns (num0 ns.length)
theorem walk_snoc (ns fs : List Int) (f : Int) : walkO ns (fs ++ [f]) = stepO ns (walkO ns fs) f := by simp [walkO, List.foldl_append]
theorem row_len (h : Ord m ns) (hx : 0 <= x /\ x < m) : 1 <= (rowO ns x).length /\ (rowO ns x).length <= m := by
 obtain ⟨⟨k, e, _⟩, nd⟩ := row_is h hx
 rw [e] at nd
 rw [e, orb_len]
 exact ⟨by (first | lia | omega), orb_bound h hx nd⟩
theorem row_mem (h : Ord m ns) (hx : 0 <= x /\ x < m) : ∀ y ∈ rowO ns x, 0 <= y /\ y < m := fun y hy => by
 obtain ⟨⟨k, e, _⟩, nd⟩ := row_is h hx
 rw [e] at hy
 obtain ⟨j, _, rfl⟩ := mem_orb.mp hy
 exact it_rng h hx j
structure MetO (ns : List Int) (m : Nat) (rows : List (List Int)) : Prop where
 nd : rows.flatten.Nodup
 rng : ∀ y ∈ rows.flatten, 0 <= y /\ y < m
 clo : ∀ y ∈ rows.flatten, atO ns y ∈ rows.flatten
 row : ∀ r ∈ rows, ∃ f : Int, 0 <= f /\ f < m /\ r = rowO ns f
theorem MetO.it {rows : List (List Int)} (M : MetO ns m rows) (hy : y ∈ rows.flatten) : ∀ k, itO ns y k ∈ rows.flatten
 | 0 => hy
 | k + 1 => M.clo _ (M.it hy k)
theorem MetO.step (h : Ord m ns) {rows : List (List Int)} (M : MetO ns m rows) {f : Int} (hf : 0 <= f /\ f < m) : MetO ns m (stepO ns rows f) := by
 unfold stepO
 split
 ·exact M
 ·rename_i hn
  obtain ⟨⟨k, e, hk⟩, nd⟩ := row_is h hf
  have e1 : (rows ++ [rowO ns f]).flatten = rows.flatten ++ rowO ns f := by simp
  refine ⟨?_, ?_, ?_, ?_⟩
  ·rw [e1]
   refine List.nodup_append.mpr ⟨M.nd, nd, fun a ha b hb eab => hn ?_⟩
   subst eab
   rw [e] at hb
   obtain ⟨j, hj, rfl⟩ := mem_orb.mp hb
   have := M.it ha (k + 1 - j)
   rw [<- it_add, show j + (k + 1 - j) = k + 1 by (first | lia | omega), hk] at this
   exact this
  ·rw [e1]
   intro y hy
   rcases List.mem_append.mp hy with hy | hy
   ·exact M.rng y hy
   ·exact row_mem h hf y hy
  ·rw [e1]
   intro y hy
   rcases List.mem_append.mp hy with hy | hy
   ·exact List.mem_append_left _ (M.clo y hy)
   ·refine List.mem_append_right _ ?_
    rw [e] at hy ⊢
    obtain ⟨j, hj, rfl⟩ := mem_orb.mp hy
    by_cases hlast : j = k
    ·subst hlast
     exact mem_orb.mpr ⟨0, by (first | lia | omega), hk.symm⟩
    ·exact mem_orb.mpr ⟨j + 1, by (first | lia | omega), rfl⟩
  ·intro r hr
   rcases List.mem_append.mp hr with hr | hr
   ·exact M.row r hr
   ·exact ⟨f, hf.1, hf.2, List.mem_singleton.mp hr⟩
theorem met_nil : MetO ns m [] := ⟨by simp, by simp, by simp, by simp⟩
theorem met_walk (h : Ord m ns) : ∀ (fs : List Int), (∀ f ∈ fs, 0 <= f /\ f < m) -> ∀ {acc : List (List Int)}, MetO ns m acc -> MetO ns m (fs.foldl (stepO ns) acc)
 | [], _, _, M => M
 | f :: fs, hf, _, M => met_walk h fs (fun g hg => hf g (by simp [hg])) (M.step h (hf f (by simp)))
theorem MetO.lens (h : Ord m ns) {rows : List (List Int)} (M : MetO ns m rows) : rows.flatten.length <= m /\ rows.length <= m /\ ∀ r ∈ rows, 1 <= r.length /\ r.length <= m := by
 have h1 : rows.flatten.length <= m := by
  have := len_le (L := num0 m) M.nd fun y hy => mem_num0.mpr (M.rng y hy)
  rwa [num0_len'] at this
 have h3 : ∀ r ∈ rows, 1 <= r.length /\ r.length <= m := fun r hr => by
  obtain ⟨f, f0, f1, rfl⟩ := M.row r hr
  exact row_len h ⟨f0, f1⟩
 have h2 : ∀ {rows : List (List Int)}, (∀ r ∈ rows, 1 <= r.length /\ r.length <= m) -> rows.length <= rows.flatten.length := fun {rows} => by
  induction rows with
  | nil => intro _; simp
  | cons r t ih =>
   intro h
   have := h r (by simp)
   have := ih fun r hr => h r (by simp [hr])
   simp only [List.length_cons, List.flatten_cons, List.length_append]
   (first | lia | omega)
 exact ⟨h1, Nat.le_trans (h2 h3) h1, h3⟩
theorem walk_has (h : Ord m ns) : ∀ (fs : List Int), (∀ f ∈ fs, 0 <= f /\ f < m) -> ∀ (acc : List (List Int)) y, (y ∈ acc.flatten ∨ y ∈ fs) -> y ∈ (fs.foldl (stepO ns) acc).flatten
 | [], _, acc, y, hy => by
  rcases hy with hy | hy
  ·exact hy
  ·cases hy
 | f :: fs, hf, acc, y, hy => by
  refine walk_has h fs (fun g hg => hf g (by simp [hg])) (stepO ns acc f) y ?_
  have grow : ∀ z, z ∈ acc.flatten -> z ∈ (stepO ns acc f).flatten := fun z hz => by
   unfold stepO
   split
   ·exact hz
   ·simp only [List.flatten_append]; exact List.mem_append_left _ hz
  rcases hy with hy | hy
  ·exact .inl (grow y hy)
  ·rcases List.mem_cons.mp hy with rfl | hy
   ·left
    unfold stepO
    split
    ·assumption
    ·obtain ⟨⟨k, e, _⟩, _⟩ := row_is h (hf y (by simp))
     simp only [List.flatten_append]
     refine List.mem_append_right _ ?_
     simp only [List.flatten_cons, List.flatten_nil, List.append_nil]
     rw [e]
     exact mem_orb.mpr ⟨0, by (first | lia | omega), rfl⟩
   ·exact .inr hy
theorem perm_of_nd {l L : List Int} (hl : l.Nodup) (hL : L.Nodup) (e : ∀ y, y ∈ l ↔ y ∈ L) : l.Perm L := (List.perm_ext_iff_of_nodup hl hL).mpr e
theorem rounds_perm (h : Ord m ns) : (roundsO ns).flatten.Perm (num0 m) := by
 unfold roundsO walkO
 rw [h.len]
 have M := met_walk h (num0 m) (fun f hf => num0_mem hf) met_nil
 exact perm_of_nd M.nd (num0_nodup' m) fun y => ⟨fun hy => mem_num0.mpr (M.rng y hy), fun hy => walk_has h (num0 m) (fun f hf => num0_mem hf) [] y (.inr hy)⟩
end
end L2
namespace L2
open PySem PySem.Spec PyProof.Rows
section
variable {X : Cx}
noncomputable def rSorted : List V -> Hp -> VK -> Prop := fun xs H Q => ∃ (l : Addr) (ns : List Int), xs = [.ref l] /\ H l = some (.lst (ns.map V.int)) /\ ns.length < 64 /\
 ∀ p (ns' : List Int), ns'.Perm ns -> ns'.Pairwise (· <= ·) -> H p = none -> Q (.ref p) (upd H p (.lst (ns'.map V.int)))
theorem call_sorted : CallR X (.builtin "sorted") rSorted := by
 intro pins s σ H xs us Q I rs h
 obtain ⟨l, ns, rfl, hH, h64, q⟩ := h
 obtain ⟨u, rfl, ru⟩ := vals1 rs
 cases (show u = Value.ref l from ru)
 obtain ⟨z, its, n, r, hl, e⟩ := I.lstM hH
 have hln : its.length = ns.length := by rw [<- r.length, mapI_len]
 refine sorted_ints (l := l) (vs := its) (ns := ns) ⟨_, e, rfl, n, rfl⟩ (intsAre_of r) (by (first | lia | omega)) fun out ns' a1 a2 a3 => ?_
 obtain ⟨c, hc⟩ := sortedAll_at s.heap its out
 have hk : ∀ b o, s.heap.get? b = some o -> (sortedAll s.heap its out).get? b = some o := fun b o hb => sortedAll_old hb
 have hf : H (s.heap.objs.size + 1) = none := I.hok.fresh (Nat.le_succ _)
 refine ⟨.ref (s.heap.objs.size + 1), _, I.laid (t' := s.toks) (o := .lst (ns'.map V.int)) hk (Nat.le_succ _) ?_, rfl, q _ ns' a2 a3 hf⟩
 refine ⟨?_, out.toList, c, vals_ints a1, by simpa using hc⟩
 rw [mapI_len, a2.length_eq]
 exact Nat.le_trans (by (first | lia | omega) : ns.length <= 1000) (by decide)
end
section
variable {prog : Program} {w : World} {A : Around} {E : Value -> Shared -> Prop} {s : Shared}
theorem getItem_tuple_whole {t sl : Addr} {items : Array Value} {vl vu : Value} {lo hi : Option Int} {Q : Value -> Shared -> Prop} (ht : IsTup s.heap t items) (hs : s.heap.IsSliceOf sl vl vu .none) (pl : IsPart vl lo) (pu : IsPart vu hi)
  (hw : HT.sIx items.size 0 lo = 0 /\ HT.sIx items.size items.size hi = items.size) (h : Q (.ref t) s) : wpAny (model prog w) A (getItem (.ref t) (.ref sl)) Q E s := by
 obtain ⟨os, hos, hcs, hds⟩ := id hs
 have hTs : s.TypeIs (.ref sl) "slice" := ⟨os, hos, hcs⟩
 unfold getItem
 try with_reducible refine wpAny_holding ?_
 first | refine wpAny_bind (wpAny_pure ?_) | skip
 refine wpAny_bind (wpAny_sequenceKey ht.typeIs (by decide) ?_)
 refine wpAny_bind (wpAny_callSpecial?_slot (name := Str.ofString "__getitem__") ht.typeIs PyProof.Rows.slot_tuple_getitem
  (wpAny_call_entry PyProof.Rows.slot_tuple_getitem ht.typeIs entry_tuple_getitem ?_ (args_tuple_getitem _ _)))
 show wpAny _ _ (Builtin.Tuple.tupleItemsOf (.ref t) >>= _) _ _ s
 refine wpAny_bind (tupleItemsOf_ ht ?_)
 refine wpAny_bind (wpAny_typeOf hTs ?_)
 rw [if_pos (by decide)]
 refine wpAny_bind (HT.sliceApplied_gen hs pl pu ?_)
 show wpAny _ _ (if (((HT.sIx items.size 0 lo : Nat) : Int) == 0 && (1 : Int) == 1 && (HT.sIx items.size items.size hi - HT.sIx items.size 0 lo) == items.size) = true then _ else _) _ _ s
 rw [if_pos (by rw [hw.1, hw.2]; simp)]
 unfold Builtin.Tuple.tupleIsExact
 refine wpAny_bind (wpAny_bind (wpAny_typeOf ht.typeIs (wpAny_pure ?_)))
 rw [if_pos (by decide)]
 refine wpAny_bind (wpAny_rule ?_)
 exact wpAny_pure ⟨_, rfl, wpAny_pure h⟩
end
section
variable {X : Cx} {e : Expr} {te : TE} {p2 pos : Pos}
end
end L2
namespace L2
open PySem PySem.Spec PyProof.Rows
noncomputable abbrev RowsAt (H : Hp) (zs : List Addr) (rows : List (List Int)) : Prop := Paired (fun (z : Addr) (r : List Int) => H z = some (.tup (r.map V.int))) zs rows
theorem RowsAt.sameT {H H' : Hp} {zs : List Addr} {rows : List (List Int)} (h : RowsAt H zs rows) (s : SameT H H') : RowsAt H' zs rows := Paired.mapP h fun _ _ q => s _ _ q
theorem RowsAt.same {H H' : Hp} {zs : List Addr} {rows : List (List Int)} (h : RowsAt H zs rows) (s : Same H H') : RowsAt H' zs rows := h.sameT s.t
structure Bits (bs : List Bool) (m : Nat) (S : List Int) : Prop where
 len : bs.length = m
 bit : ∀ i, i < m -> bs[i]? = some (decide ((i : Int) ∈ S))
theorem bits0 (m : Nat) : Bits (List.replicate m false) m [] := ⟨by simp, fun i hi => by simp [hi]⟩
theorem Bits.set {bs : List Bool} {m : Nat} {S : List Int} {y : Int} (B : Bits bs m S) (h0 : 0 <= y) (h1 : y < m) : Bits (bs.set y.toNat true) m (S ++ [y]) := by
 refine ⟨by rw [List.length_set]; exact B.len, fun i hi => ?_⟩
 have hl := B.len
 by_cases e : i = y.toNat
 ·subst e
  rw [List.getElem?_set_self (by (first | lia | omega))]
  have : ((y.toNat : Nat) : Int) = y := by (first | lia | omega)
  rw [this]
  simp
 ·rw [List.getElem?_set_ne (Ne.symm e), B.bit i hi]
  have hne : ((i : Nat) : Int) ≠ y := by (first | lia | omega)
  simp [hne]
noncomputable def spRoundFrom : Sp := fun vs H Q _ => ∃ (a : Addr) (ns : List Int) (m : Nat) (x : Int), vs = [.ref a, .int x] /\ H a = some (.tup (ns.map V.int)) /\ Ord m ns /\ m <= 500 /\ 0 <= x /\ x < m /\ ∀ p H', Same H H' -> H' p = some (.tup ((rowO ns x).map V.int)) -> Q (.ref p) H'
noncomputable def spRoundsMet : Sp := fun vs H Q _ => ∃ (a l : Addr) (ns fs : List Int) (m : Nat), vs = [.ref a, .ref l] /\ H a = some (.tup (ns.map V.int)) /\ H l = some (.lst (fs.map V.int)) /\ Ord m ns /\ m <= 500 /\ (∀ f ∈ fs, 0 <= f /\ f < m) /\
 ∀ p zs H', Same H H' -> H' p = some (.lst (zs.map V.ref)) -> RowsAt H' zs (walkO ns fs) -> Q (.ref p) H'
noncomputable def spRounds : Sp := fun vs H Q _ => ∃ (a : Addr) (ns : List Int) (m : Nat), vs = [.ref a] /\ H a = some (.tup (ns.map V.int)) /\ Ord m ns /\ m <= 500 /\ ∀ p zs H', Same H H' -> H' p = some (.tup (zs.map V.ref)) -> RowsAt H' zs (roundsO ns) -> Q (.ref p) H'
theorem mapR_len (zs : List Addr) : (zs.map V.ref).length = zs.length := List.length_map ..
end L2
namespace L2
open PySem PySem.Spec PyProof.Rows
inductive Ents (P : Params) : List DictEntry -> List (Str × Addr) -> Prop
 | nil : Ents P [] []
 | cons {x : Str} {t : Tok} {f : Addr} {es : List DictEntry} {kvs : List (Str × Addr)} : Ents P es kvs -> Ents P (⟨PyData.keyHash P x, .str x t, .ref f⟩ :: es) ((x, f) :: kvs)
structure GDict (K : PySem.W.Frag) (P : Params) (C : Addr) (kvs : List (Str × Addr)) : Prop where
 ex : ∃ es n, K.lookup C = some { cls := .type "dict", data := .dict es n } /\ Ents P es.toList kvs
 nd : (kvs.map (·.1)).Nodup
theorem Ents.keys {prog : Program} {w : World} : ∀ {es : List DictEntry} {kvs : List (Str × Addr)}, Ents w.params es kvs -> ∀ e ∈ es, ∃ k, (PySem.strKind prog w).is k e.key = true /\ e.hash = (PySem.strKind prog w).hash k
 | _, _, .nil, _, h => by cases h
 | _, _, .cons (x := x) t, e, h => by
  rcases List.mem_cons.mp h with rfl | h
  ·exact ⟨x, by simp [PySem.strKind, Value.isStrOf], rfl⟩
  ·exact Ents.keys t e h
theorem Ents.pairs {prog : Program} {w : World} : ∀ {es : List DictEntry} {kvs : List (Str × Addr)}, Ents w.params es kvs -> Pairs (PySem.strKind prog w) es (kvs.map fun kv => (kv.1, Value.ref kv.2))
 | _, _, .nil => .nil
 | _, _, .cons t => .cons (by simp [PySem.strKind, Value.isStrOf]) rfl (Ents.pairs t)
theorem value_lookup : ∀ (kvs : List (Str × Addr)) (x : Str), valueAt (kvs.map fun kv => (kv.1, Value.ref kv.2)) x = (kvs.lookup x).map Value.ref
 | [], _ => rfl
 | (y, f) :: t, x => by
  have ih := value_lookup t x
  unfold valueAt at ih ⊢
  rw [List.map_cons, List.find?_cons, List.lookup_cons]
  by_cases h : y = x
  ·subst h
   simp
  ·have h2 : (x == y) = false := beq_eq_false_iff_ne.mpr fun z => h z.symm
   simp only [decide_eq_false h, h2]
   exact ih
section
variable {X : Cx}
noncomputable def rGd (K : PySem.W.Frag) (P : Params) : R2 := fun x y H Q => ∃ C kvs z f, x = .ref C /\ y = .str z /\ GDict K P C kvs /\ kvs.lookup z = some f /\ Q (.ref f) H
theorem ix_gd : IxR X (rGd X.K X.w.params) := by
 intro value slice pins s σ H x y v u Q I rx ry h hs
 obtain ⟨C, kvs, z, f, rfl, rfl, ⟨⟨es, n, hk, en⟩, nd⟩, hl, q⟩ := h
 cases rx
 obtain ⟨t, rfl⟩ := ry
 have hg := I.kIn C _ hk
 have hD : s.heap.DictOf (PySem.strKind X.prog X.w) C (kvs.map fun kv => (kv.1, Value.ref kv.2)) :=
  ⟨_, es, n, hg, ⟨rfl, rfl, rfl⟩, rfl, fun e he => en.keys e (by simpa using he), en.pairs, by rw [List.map_map]; exact nd⟩
 have fin : EP X pins σ Q (.ref f) { s with toks := s.toks + 1 } := ⟨.ref f, H, I.tok _, rfl, q⟩
 exact subscriptTail_builtinR (x := .ref f) hD.typeIs PySem.F.slot_dict_getitem.lookup
  (wpAny_getItem_of (k := z) (knd := PySem.strKind X.prog X.w) (Q := fun r s' => r = .ref f /\ EP X pins σ Q r s') (by simp [PySem.strKind, Value.isStrOf]) hD.mapOf (by rw [value_lookup, hl]; rfl) ⟨rfl, fin⟩) hs
end
structure CalF (P : Program) (w : World) (K : PySem.W.Frag) (mg : Str -> Option Value) (base : Heap) (k : Nat) (f : Addr) (ps : List Str) (sp : Sp) : Prop where
 ex : ∃ fd, FnOk P w K mg base CX0 k f fd ps sp /\ PySem.W.keepIn K (.ref f) = true /\ Binds K fd ps []
section
variable {X : Cx} {k : Nat} {x : Str} {p pos : Pos} {e : Expr} {es : List Expr} {t : TA} {tf : TE}
noncomputable def tCallV (P : Program) (w : World) (K : PySem.W.Frag) (mg : Str -> Option Value) (base : Heap) (k : Nat) (tf : TE) (t : TA) : TE := fun σ H Q => tf σ H fun v H1 => ∃ f ps sp, v = .ref f /\ CalF P w K mg base k f ps sp /\ t σ H1 fun vs H2 => sp vs H2 Q E0
theorem pe_callV (hf : PE X (.Name x p) tf) (hr : Room k X.A) (ha : PA X (e :: es) t) (he : starEach (e :: es) X.env = (false, eval e X.env) :: starEach es X.env := by rfl)
  (hpl : (backTo pos (starEach es X.env)).any (·.1) = false := by rfl) : PE X (.Call (.Name x p) (e :: es) [] pos) (tCallV X.prog X.w X.K X.mg X.base k tf t) := by
 intro pins s σ H Q I h
 refine wpAny_Call_Name_kw (thn (hf pins s σ H _ I h) fun v s1 ⟨y, H1, I1, r1, f, ps, sp, ey, ⟨fd, F, hk, hb⟩, q1⟩ => ?_)
 subst ey
 cases (show v = Value.ref f from r1)
 refine PySem.W.callWith_K (h₀ := X.base) I1.ok.mod.kin hk (thn (ha pos pins s1 σ H1 _ I1 q1) fun us s2 ⟨vs, H2, I2, r2, q2⟩ => ⟨I2.kIn, ?_⟩) he hpl
 exact run_fn F hr hb .nil pass0 I2 r2 (by rw [List.append_nil]; exact q2)
end
end L2
namespace L2
open PySem PySem.Spec PyProof.Rows
noncomputable abbrev lc2 (elt tg iter : Expr) (ifs : List Expr) (tg2 iter2 : Expr) (ifs2 : List Expr) (scope : Scope) (pos : Pos) : Expr := .ListComp elt [⟨tg, iter, ifs, 0⟩, ⟨tg2, iter2, ifs2, 0⟩] scope pos
theorem compTurn_in (elt tg iter : Expr) (ifs : List Expr) (tg2 iter2 : Expr) (ifs2 : List Expr) (scope : Scope) (pos : Pos) (it acc : Value) (env : Env) :
  compTurn (lc2 elt tg iter ifs tg2 iter2 ifs2 scope pos) 1 it acc env = (do
   standAt iter2.pos
   match <- pyNext it with
   | none => pure (.done .next)
   | some v =>
    letOwnedTupleGo tg2 it v
    assign tg2 env v
    let mut ok := true
    for c in ifs2 do
     if ok then ok <- isTrue c env (eval c env)
    if ok then
     (do let _ <- call (.builtin "list.append") [acc, <- eval elt env])
    again (.compLoop (lc2 elt tg iter ifs tg2 iter2 ifs2 scope pos) 1 it acc env)) := by rfl
theorem compTurn_out (elt tg iter : Expr) (ifs : List Expr) (tg2 iter2 : Expr) (ifs2 : List Expr) (scope : Scope) (pos : Pos) (it acc : Value) (env : Env) :
  compTurn (lc2 elt tg iter ifs tg2 iter2 ifs2 scope pos) 0 it acc env = (do
   standAt iter.pos
   match <- pyNext it with
   | none => pure (.done .next)
   | some v =>
    letOwnedTupleGo tg it v
    assign tg env v
    let mut ok := true
    for c in ifs do
     if ok then ok <- isTrue c env (eval c env)
    if ok then
     let x <- eval iter2 env
     standAt iter2.pos
     let x <- foldedSetIterable iter2 env x
     let _ <- runOwn (.compStart (lc2 elt tg iter ifs tg2 iter2 ifs2 scope pos) 1 (<- holding [x] (pyIter x)) acc env) env
    again (.compLoop (lc2 elt tg iter ifs tg2 iter2 ifs2 scope pos) 0 it acc env)) := by rfl
section
variable {prog : Program} {w : World} {A : Around} {R : Result -> Shared -> Prop} {s : Shared} {elt tg iter tg2 iter2 : Expr} {ifs ifs2 : List Expr} {scope : Scope} {pos : Pos} {it acc : Value} {env : Env}
theorem compLoop_in (I : Nat -> Shared -> Prop)
  (turn : ∀ n s, I n s -> wpAny (model prog w) A (pyNext it) (fun r s₁ => match r with
   | none => R (.ok .next) s₁
   | some v => wpAny (model prog w) A (letOwnedTupleGo tg2 it v) (fun _ s₂ => wpAny (model prog w) A (assign tg2 env v) (fun _ s₃ =>
     wpAny (model prog w) A (forIn ifs2 true fun c r => if r = true then do let ok <- isTrue c env (eval c env); pure (ForInStep.yield ok) else pure (ForInStep.yield r)) (fun ok s₄ =>
      if ok = true then wpAny (model prog w) A (eval elt env) (fun x s₅ =>
       wpAny (model prog w) A (call (.builtin "list.append") [acc, x]) (fun _ s₆ => ∃ m, m < n /\ I m s₆) (fun _ _ => False) s₅) (fun _ _ => False) s₄
      else ∃ m, m < n /\ I m s₄) (fun _ _ => False) s₃) (fun _ _ => False) s₂) (fun _ _ => False) s₁) (fun _ _ => False) s)
  (n : Nat) (h : I n s) :
  codeAny (model prog w) A (.compLoop (lc2 elt tg iter ifs tg2 iter2 ifs2 scope pos) 1 it acc env) R s := by
 refine codeAny_loop rfl I (fun n s hI => ?_) n h
 show wpAny _ A ((compTurn (lc2 elt tg iter ifs tg2 iter2 ifs2 scope pos) 1 it acc env).onRaise (fun x => do noteFrame x env; theTreesLotGoes x)) _ _ s
 refine wpAny_noted (wpAny_noRaise ?_)
 rw [compTurn_in]
 refine wpAny_bind (wpAny_standAt (wpAny_bind (thn (turn n s hI) fun r s₁ h₁ => ?_)))
 cases r with
 | none => exact wpAny_pure h₁
 | some v =>
  refine wpAny_bind (thn h₁ fun _ s₂ h₂ => wpAny_bind (thn h₂ fun _ s₃ h₃ => wpAny_bind (thn h₃ fun ok s₄ h₄ => ?_)))
  cases ok with
  | false => exact wpAny_pure ⟨rfl, h₄⟩
  | true => exact wpAny_bind (wpAny_bind (thn h₄ fun x s₅ h₅ => wpAny_bind (thn h₅ fun _ s₆ h₆ => wpAny_pure (wpAny_pure ⟨rfl, h₆⟩))))
theorem compLoop_out (hs2 : ∀ x, foldedSetIterable iter2 env x = pure x) (I : Nat -> Shared -> Prop)
  (turn : ∀ n s, I n s -> wpAny (model prog w) A (pyNext it) (fun r s₁ => match r with
   | none => R (.ok .next) s₁
   | some v => wpAny (model prog w) A (letOwnedTupleGo tg it v) (fun _ s₂ => wpAny (model prog w) A (assign tg env v) (fun _ s₃ =>
     wpAny (model prog w) A (forIn ifs true fun c r => if r = true then do let ok <- isTrue c env (eval c env); pure (ForInStep.yield ok) else pure (ForInStep.yield r)) (fun ok s₄ =>
      if ok = true then wpAny (model prog w) A (eval iter2 env) (fun x s₅ => wpAny (model prog w) A (pyIter x) (fun it2 s₆ =>
       codeAny (model prog w) A (.compStart (lc2 elt tg iter ifs tg2 iter2 ifs2 scope pos) 1 it2 acc env) (fun r s₇ => r = .ok .next /\ ∃ m, m < n /\ I m s₇) s₆) (fun _ _ => False) s₅) (fun _ _ => False) s₄
      else ∃ m, m < n /\ I m s₄) (fun _ _ => False) s₃) (fun _ _ => False) s₂) (fun _ _ => False) s₁) (fun _ _ => False) s)
  (n : Nat) (h : I n s) :
  codeAny (model prog w) A (.compLoop (lc2 elt tg iter ifs tg2 iter2 ifs2 scope pos) 0 it acc env) R s := by
 refine codeAny_loop rfl I (fun n s hI => ?_) n h
 show wpAny _ A ((compTurn (lc2 elt tg iter ifs tg2 iter2 ifs2 scope pos) 0 it acc env).onRaise (fun x => do noteFrame x env; theTreesLotGoes x)) _ _ s
 refine wpAny_noted (wpAny_noRaise ?_)
 rw [compTurn_out]
 refine wpAny_bind (wpAny_standAt (wpAny_bind (thn (turn n s hI) fun r s₁ h₁ => ?_)))
 cases r with
 | none => exact wpAny_pure h₁
 | some v =>
  refine wpAny_bind (thn h₁ fun _ s₂ h₂ => wpAny_bind (thn h₂ fun _ s₃ h₃ => wpAny_bind (thn h₃ fun ok s₄ h₄ => ?_)))
  cases ok with
  | false => exact wpAny_pure ⟨rfl, h₄⟩
  | true =>
   refine wpAny_bind (thn h₄ fun x s₅ h₅ => wpAny_bind (wpAny_standAt (wpAny_bind (wpAny_of_eq (hs2 x) (wpAny_bind (wpAny_holding (thn h₅ fun it2 s₆ h₆ => ?_)))))))
   refine wpAny_bind (wpAny_runOwn (codeAny_mono h₆ fun r s₇ hr => ?_))
   obtain ⟨rfl, hr⟩ := hr
   exact wpAny_pure ⟨rfl, hr⟩
theorem codeAny_compStart_in
  (h0 : codeAny (model prog w) A (.compLoop (lc2 elt tg iter ifs tg2 iter2 ifs2 scope pos) 1 it acc env) R s)
  (h : wpAny (model prog w) A (pyIter it) (fun it' s' => codeAny (model prog w) A (.compLoop (lc2 elt tg iter ifs tg2 iter2 ifs2 scope pos) 1 it' acc env) R s')
   (notedBy (model prog w) A env fun x s' => R (.error x) s') s) :
  codeAny (model prog w) A (.compStart (lc2 elt tg iter ifs tg2 iter2 ifs2 scope pos) 1 it acc env) R s := by
 refine codeAny_of_tree ?_
 show wpAny _ _ ((compStart (lc2 elt tg iter ifs tg2 iter2 ifs2 scope pos) 1 it acc env).onRaise (fun x => do noteFrame x env; standAt theWindowsPlace)) _ _ s
 refine wpAny_notedAt ?_
 unfold compStart
 show wpAny _ _ (ask >>= _) _ _ s
 refine wpAny_bind (wpAny_askSetting (wpAny_ite ?_))
 split
 ·first
   | exact wpAny_bind (wpAny_pure (wpAny_pure (And.intro rfl h0)))
   | exact wpAny_pure (And.intro rfl h0)
 ·refine wpAny_bind (wpAny_rule (wpAny_bind (wpAny_standAt (wpAny_bind (wpAny_mono h (fun it' s' h' => wpAny_pure (And.intro rfl h')) fun _ _ e => e)))))
end
end L2
namespace L2
open PySem PySem.Spec PyProof.Rows
noncomputable def InW (J : It) (H1 : Hp) (g : TG) (tt : TT) (te : TE) (acc : Addr) (σ : St) (Kt : Hp -> Prop) : Prop :=
 ∃ V : Nat -> Nat -> Hp -> Prop, (∃ m, V 0 m H1) /\ ∀ i m H, V i m H ->
  (J.stop i H /\ Kt H) ∨ (J.go i H /\ ∀ x H', J.yld i H x H' -> g x σ H' fun σ2 H2 => Wk σ σ2 /\ tt σ2 H2 fun b H3 =>
   if b = true then te σ2 H3 fun v H4 => ∃ ys, H4 acc = some (.lst ys) /\ ys.length < sizeLine /\ ∃ m', m' < m /\ V (i + 1) m' (upd H4 acc (.lst (ys ++ [v])))
   else ∃ m', m' < m /\ V (i + 1) m' H3)
noncomputable def LcW2 (J : It) (H1 : Hp) (g : TG) (tt : TT) (wi2 : TI) (g2 : TG) (tt2 : TT) (te : TE) (n : Nat) (ix : List Nat) (σ : St) (Q : VK) : Prop := ∀ acc, H1 acc = none ->
 ∃ W : Nat -> Nat -> Hp -> Prop, (∃ m, W 0 m (upd H1 acc (.lst []))) /\ ∀ i m H, W i m H ->
  (J.stop i H /\ Q (.ref acc) H) ∨ (J.go i H /\ ∀ x H', J.yld i H x H' -> g x (compSt n ix σ) H' fun σ2 H2 => Wk (compSt n ix σ) σ2 /\ tt σ2 H2 fun b H3 =>
   if b = true then wi2 σ2 H3 fun J2 H4 => InW J2 H4 g2 tt2 te acc σ2 fun H5 => ∃ m', m' < m /\ W (i + 1) m' H5
   else ∃ m', m' < m /\ W (i + 1) m' H3)
noncomputable def tLc2 (wi : TI) (g : TG) (tt : TT) (wi2 : TI) (g2 : TG) (tt2 : TT) (te : TE) (n : Nat) (ix : List Nat) : TE := fun σ H Q => wi σ H fun J H1 => LcW2 J H1 g tt wi2 g2 tt2 te n ix σ Q
section
variable {X : Cx} {elt tg iter tg2 iter2 : Expr} {ifs ifs2 : List Expr} {scope : Scope} {pos : Pos} {wi wi2 : TI} {g g2 : TG} {tt tt2 : TT} {te : TE} {N' : List Str} {n : Nat} {ix : List Nat}
theorem lc_core2 {pins : List (Addr × Obj)} {σ : St} {H2 : Hp} {s2 : Shared} {cl : List (Str × Addr)} {it : Addr} {fp : List Addr} {tn : Nat -> Heap -> Prop} {J : It} {Q : VK} {R : Value -> Addr -> Result -> Shared -> Prop}
  (hc : X.calm = true) (S : CompScope X scope N' n ix)
  (hY : ∀ s₂ H₂ cl C fp, PG (X.comp s₂ H₂ N' scope cl C fp) tg g /\ PTs (X.comp s₂ H₂ N' scope cl C fp) ifs tt /\ PI (X.comp s₂ H₂ N' scope cl C fp) tg2 iter2 wi2 /\ PG (X.comp s₂ H₂ N' scope cl C fp) tg2 g2 /\ PTs (X.comp s₂ H₂ N' scope cl C fp) ifs2 tt2 /\
   PE (X.comp s₂ H₂ N' scope cl C fp) elt te)
  (hs2 : ∀ env x, foldedSetIterable iter2 env x = pure x)
  (I2 : Inv X pins σ H2 s2) (hcl1 : ∀ x c, cl.lookup x = some c -> X.env.cells.lookup x = some c) (hcl2 : ∀ y ∈ scope.names, y.2 = .free -> cl.lookup y.1 = X.env.cells.lookup y.1)
  (T : Turn X.prog X.w X.K tg J fp it tn) (st2 : tn 0 s2.heap) (f2 : ∀ b ∈ fp, FpOk X pins H2 b)
  (hW : LcW2 J H2 g tt wi2 g2 tt2 te n ix σ Q)
  (hR : ∀ acc C s' H' m, s'.heap.Ns C m -> Inv X pins σ H' s' -> H' C = none -> C ≠ X.env.locals -> (C ∈ X.ex ∨ X.s₀.heap.objs.size <= C) -> (∀ x c, X.env.cells.lookup x = some c -> c ≠ C) -> (∀ p ∈ X.pn ++ pins, p.1 ≠ C) -> C ∉ X.fs -> Q (.ref acc) H' -> R (.ref acc) C (.ok .next) s') :
  wpAny (model X.prog X.w) X.A (newList []) (fun acc s₃ => wpAny (model X.prog X.w) X.A (newFunctionEnv scope X.env.globals cl [] X.env.qual none .none (some X.env)) (fun cenv s₄ =>
   codeAny (model X.prog X.w) X.A (.compStart (lc2 elt tg iter ifs tg2 iter2 ifs2 scope pos) 0 (.ref it) acc { cenv with scope := relabel scope X.env }) (R acc cenv.locals) s₄) X.xe s₃) X.xe s2 := by
 refine wpAny_newObj_type (wpAny_newFunctionEnv S.nocell (by intro y hy; simp at hy) (fun h₁ hns₁ hsb₁ => ?_) S.kind)
 dsimp only at hns₁ hsb₁ ⊢
 generalize hH2 : s2.heap.push { cls := .type "list", dict := none, data := .seq ([] : List Value).toArray } = G at hns₁ hsb₁ ⊢
 have hC : G.objs.size = s2.heap.objs.size + 1 := by rw [<- hH2, Heap.size_push]
 have hlt : ∀ b ∈ fp, b < s2.heap.objs.size := fun b hb => by
  obtain ⟨o, e, _⟩ := T.obj _ _ st2 b hb
  exact Heap.lt_size e
 have old : ∀ b o, s2.heap.get? b = some o -> h₁.get? b = some o := fun b o e => hsb₁.extBut b o (by rw [hC]; exact Nat.ne_of_lt (Nat.lt_succ_of_lt (Heap.lt_size e))) (Heap.get?_push_of_some _ (hH2 ▸ Heap.get?_push_of_some _ e))
 have hacc : h₁.get? s2.heap.objs.size = some { cls := .type "list", dict := none, data := .seq ([] : List Value).toArray } := hsb₁.extBut _ _ (by rw [hC]; exact Nat.ne_of_lt (Nat.lt_succ_self _)) (Heap.get?_push_of_some _ (hH2 ▸ Heap.get?_push_size _ rfl))
 obtain ⟨W, ⟨m0, w0⟩, turn⟩ := hW s2.heap.objs.size (I2.hok.fresh (Nat.le_refl _))
 obtain ⟨hYg, hYt, hYi, hYg2, hYt2, hYe⟩ := hY s2 H2 cl G.objs.size fp
 have fpY : ∀ {H' : Hp}, (∀ b ∈ fp, H' b = none) -> ∀ b ∈ fp, FpOk (X.comp s2 H2 N' scope cl G.objs.size fp) [] H' b := fun {H'} hn b hb => by
  obtain ⟨_, q1, q2, q3, q4, q5⟩ := f2 b hb
  refine ⟨hn b hb, ?_, fun z => ?_, .inl hb, fun x c e => q4 x c (hcl1 x c e), fun p hp => absurd (show p ∈ ([] : List (Addr × Obj)) from hp) (by simp)⟩
  ·show b ≠ G.objs.size
   rw [hC]
   exact Nat.ne_of_lt (Nat.lt_succ_of_lt (hlt b hb))
  ·rcases List.mem_cons.mp (I2.stkSub b z) with y | y
   ·exact q1 y
   ·exact q2 y
 have loop : ∀ s₃ : Shared, s₃ = { s2 with heap := h₁, toks := s2.toks + ([] : List (Str × Value)).length } ->
   codeAny (model X.prog X.w) X.A (.compLoop (lc2 elt tg iter ifs tg2 iter2 ifs2 scope pos) 0 (.ref it) (.ref s2.heap.objs.size) (compEnvC scope cl G.objs.size X.env)) (R (.ref s2.heap.objs.size) G.objs.size) s₃ := by
  rintro s₃ rfl
  have I4 := inv_comp (tk := s2.toks + ([] : List (Str × Value)).length) I2 S hcl1 hcl2 f2 hlt (Nat.le_refl _) (by rw [hC]; exact Nat.le_succ _) (by rw [hC]; exact Nat.ne_of_gt (Nat.lt_succ_self _)) old hacc hns₁
  refine compLoop_out (fun x => hs2 _ x) (fun n' s' => ∃ i H', Inv (X.comp s2 H2 N' scope cl G.objs.size fp) [] (compSt n ix σ) H' s' /\ tn i s'.heap /\ (∀ b ∈ fp, H' b = none) /\ W i n' H') ?_ m0
   ⟨0, _, I4, T.keep _ _ _ st2 fun b hb o e => old b o e, fun b hb => ?_, w0⟩
  ·rintro n' s3 ⟨i, H3, I3, st3, fr3, w3⟩
   rcases turn i n' H3 w3 with ⟨stop, q⟩ | ⟨go, step⟩
   ·refine thn (T.done (X.comp s2 H2 N' scope cl G.objs.size fp) rfl rfl rfl hc i [] s3 _ H3 _ I3 (fpY fr3) st3 stop) fun r s4 ⟨hr, I5⟩ => ?_
    subst hr
    obtain ⟨mC, hnC, _⟩ := I5.loc
    have IX : Inv X pins σ H3 s4 := I2.call' I5.os I5.base I5.hok I5.bare fun b hb => by
     obtain ⟨_, q1, q2, q3, q4, q5⟩ := f2 b hb
     exact ⟨q3, q1, q4, q5⟩
    refine hR _ _ s4 H3 mC hnC IX I5.free ?_ (.inr ?_) (fun x c e z => ?_) (fun p hp z => ?_) (I2.nofs (by rw [hC]; exact Nat.le_succ _)) q
    ·rw [hC]
     exact Nat.ne_of_gt (Nat.lt_succ_of_lt I2.lt)
    ·rw [hC]
     exact Nat.le_succ_of_le I2.sz
    ·obtain ⟨v, q⟩ := I2.cell x c e
     rw [hC] at z
     exact absurd z (Nat.ne_of_lt (Nat.lt_succ_of_lt q.lt))
    ·rw [hC] at z
     exact absurd z (Nat.ne_of_lt (Nat.lt_succ_of_lt (Heap.lt_size (I2.pin p hp).1)))
   ·refine thn (T.item (X.comp s2 H2 N' scope cl G.objs.size fp) rfl rfl rfl hc i [] s3 _ H3 _ I3 (fpY fr3) st3 go) fun r s4 ⟨u, hr, h4⟩ => ?_
    subst hr
    refine thn h4 fun _ s5 ⟨x, H5, I5, r5, y5, st5, fr5⟩ => ?_
    have I5' := I5.pinned (fpY fr5) (T.obj _ _ st5)
    refine thn (hYg _ s5 _ H5 x u _ I5' r5 (step x H5 y5)) fun _ s6 ⟨σ6, H6, I6, wk, q6⟩ => ?_
    have back : ∀ {H' : Hp} {s' : Shared}, Inv (X.comp s2 H2 N' scope cl G.objs.size fp) ([] ++ pinsAt fp s5.heap) σ6 H' s' ->
      Inv (X.comp s2 H2 N' scope cl G.objs.size fp) [] (compSt n ix σ) H' s' /\ tn (i + 1) s'.heap /\ ∀ b ∈ fp, H' b = none := fun {H' s'} I7 => by
     refine ⟨I7.unpinned.weak wk.1 wk.2, T.keep _ _ _ st5 fun b hb o e => (I7.pin (b, o) (List.mem_append_right _ (List.mem_append_right _ (mem_pinsAt hb e)))).1, fun b hb => ?_⟩
     obtain ⟨o, e, d⟩ := T.obj _ _ st5 b hb
     exact (I7.pin (b, o) (List.mem_append_right _ (List.mem_append_right _ (mem_pinsAt hb e)))).2.1
    refine thn (hYt _ s6 σ6 H6 _ I6 q6) fun ok s7 ⟨H7, I7, q7⟩ => ?_
    cases ok with
    | false =>
     rw [if_neg Bool.false_ne_true] at q7 ⊢
     obtain ⟨m', hm, w7⟩ := q7
     obtain ⟨b1, b2, b3⟩ := back I7
     exact ⟨m', hm, i + 1, H7, b1, b2, b3, w7⟩
    | true =>
     rw [if_pos rfl] at q7 ⊢
     refine thn (hYi _ s7 σ6 H7 _ I7 q7) fun xv s8 h8 => thn h8 fun itv s9 h9 => ?_
     obtain ⟨it2, fp2, tn2, J2, H9, rfl, I9, T2, st9, f9, V, ⟨m1, v0⟩, turn2⟩ := h9
     have stat2 : ∀ {H' : Hp}, (∀ b ∈ fp2, H' b = none) -> ∀ b ∈ fp2, FpOk (X.comp s2 H2 N' scope cl G.objs.size fp) ([] ++ pinsAt fp s5.heap) H' b := fun hn b hb => ⟨hn b hb, (f9 b hb).2⟩
     have loop2 : codeAny (model X.prog X.w) X.A (.compLoop (lc2 elt tg iter ifs tg2 iter2 ifs2 scope pos) 1 (.ref it2) (.ref s2.heap.objs.size) (compEnvC scope cl G.objs.size X.env))
       (fun r s₇ => r = .ok .next /\ ∃ m, m < n' /\ ∃ i H', Inv (X.comp s2 H2 N' scope cl G.objs.size fp) [] (compSt n ix σ) H' s₇ /\ tn i s₇.heap /\ (∀ b ∈ fp, H' b = none) /\ W i m H') s9 := by
      refine compLoop_in (fun n'' s' => ∃ j H', Inv (X.comp s2 H2 N' scope cl G.objs.size fp) ([] ++ pinsAt fp s5.heap) σ6 H' s' /\ tn2 j s'.heap /\ (∀ b ∈ fp2, H' b = none) /\ V j n'' H') ?_ m1 ⟨0, H9, I9, st9, fun b hb => (f9 b hb).1, v0⟩
      rintro n'' s10 ⟨j, H10, I10, st10, fr10, v10⟩
      rcases turn2 j n'' H10 v10 with ⟨stop2, q10⟩ | ⟨go2, step2⟩
      ·refine thn (T2.done (X.comp s2 H2 N' scope cl G.objs.size fp) rfl rfl rfl hc j _ s10 _ H10 _ I10 (stat2 fr10) st10 stop2) fun r s11 ⟨hr, I11⟩ => ?_
       subst hr
       obtain ⟨m', hm, w10⟩ := q10
       obtain ⟨b1, b2, b3⟩ := back I11
       exact ⟨rfl, m', hm, i + 1, H10, b1, b2, b3, w10⟩
      ·refine thn (T2.item (X.comp s2 H2 N' scope cl G.objs.size fp) rfl rfl rfl hc j _ s10 _ H10 _ I10 (stat2 fr10) st10 go2) fun r s11 ⟨u2, hr, h11⟩ => ?_
       subst hr
       refine thn h11 fun _ s12 ⟨y, H12, I12, r12, y12, st12, fr12⟩ => ?_
       have I12' := I12.pinned (stat2 fr12) (T2.obj _ _ st12)
       refine thn (hYg2 _ s12 _ H12 y u2 _ I12' r12 (step2 y H12 y12)) fun _ s13 ⟨σ13, H13, I13, wk2, q13⟩ => ?_
       have back2 : ∀ {H' : Hp} {s' : Shared}, Inv (X.comp s2 H2 N' scope cl G.objs.size fp) (([] ++ pinsAt fp s5.heap) ++ pinsAt fp2 s12.heap) σ13 H' s' ->
         Inv (X.comp s2 H2 N' scope cl G.objs.size fp) ([] ++ pinsAt fp s5.heap) σ6 H' s' /\ tn2 (j + 1) s'.heap /\ ∀ b ∈ fp2, H' b = none := fun {H' s'} I7 => by
        refine ⟨I7.unpinned.weak wk2.1 wk2.2, T2.keep _ _ _ st12 fun b hb o e => (I7.pin (b, o) (List.mem_append_right _ (List.mem_append_right _ (mem_pinsAt hb e)))).1, fun b hb => ?_⟩
        obtain ⟨o, e, d⟩ := T2.obj _ _ st12 b hb
        exact (I7.pin (b, o) (List.mem_append_right _ (List.mem_append_right _ (mem_pinsAt hb e)))).2.1
       refine thn (hYt2 _ s13 σ13 H13 _ I13 q13) fun ok2 s14 ⟨H14, I14, q14⟩ => ?_
       cases ok2 with
       | false =>
        rw [if_neg Bool.false_ne_true] at q14 ⊢
        obtain ⟨m', hm, v14⟩ := q14
        obtain ⟨b1, b2, b3⟩ := back2 I14
        exact ⟨m', hm, j + 1, H14, b1, b2, b3, v14⟩
       | true =>
        rw [if_pos rfl] at q14 ⊢
        refine thn (hYe _ s14 σ13 H14 _ I14 q14) fun xv s15 ⟨v15, H15, I15, r15, ys, ha, hz, m', hm, w15⟩ => ?_
        refine thn (mt_append _ s15 σ13 H15 (.ref s2.heap.objs.size) [v15] (.ref s2.heap.objs.size) [xv] (fun _ H' => H' = upd H15 s2.heap.objs.size (.lst (ys ++ [v15]))) I15 rfl (.cons r15 .nil) ⟨_, ys, v15, rfl, rfl, ha, hz, rfl⟩) fun _ s16 ⟨_, H16, I16, _, e16⟩ => ?_
        subst e16
        obtain ⟨b1, b2, b3⟩ := back2 I16
        exact ⟨m', hm, j + 1, _, b1, b2, b3, w15⟩
     exact codeAny_compStart_in loop2 (T2.self _ 0 _ _ _ st9 loop2)
  ·rw [upd_ne (Nat.ne_of_lt (hlt b hb))]
   exact (f2 b hb).1
 exact codeAny_compStart_list (loop _ rfl) (T.self _ 0 _ _ _ (T.keep _ _ _ st2 fun b hb o e => old b o e) (loop _ rfl))
theorem pe_lc2 (hc : X.calm = true) (S : CompScope X scope N' n ix) (hi : PI X tg iter wi)
  (hY : ∀ s₂ H₂ cl C fp, PG (X.comp s₂ H₂ N' scope cl C fp) tg g /\ PTs (X.comp s₂ H₂ N' scope cl C fp) ifs tt /\ PI (X.comp s₂ H₂ N' scope cl C fp) tg2 iter2 wi2 /\ PG (X.comp s₂ H₂ N' scope cl C fp) tg2 g2 /\ PTs (X.comp s₂ H₂ N' scope cl C fp) ifs2 tt2 /\
   PE (X.comp s₂ H₂ N' scope cl C fp) elt te)
  (hs : ∀ x, foldedSetIterable iter X.env x = pure x := by intro _; rfl) (hs2 : ∀ env x, foldedSetIterable iter2 env x = pure x := by intro _ _; rfl) :
  PE X (.ListComp elt [⟨tg, iter, ifs, 0⟩, ⟨tg2, iter2, ifs2, 0⟩] scope pos) (tLc2 wi g tt wi2 g2 tt2 te n ix) := by
 intro pins s σ H Q I h
 obtain ⟨cl, hcl, hcl1, hcl2⟩ := closure_ok (env := X.env) (scope := scope) fun y hy hf => I.ok.has _ (S.free y hy hf)
 rw [eval_ListComp]
 refine wpAny_comprehension_free (use := none) rfl hs hcl S.kind S.names (thn (hi pins s σ H _ I h) fun v s1 h1 => thn h1 fun itv s2 h2 => ?_)
 obtain ⟨it, fp, tn, J, H2, rfl, I2, T, st2, f2, hW⟩ := h2
 refine lc_core2 (R := fun acc C => compPost (model X.prog X.w) X.A X.xe none (EP X pins σ Q) acc C) hc S hY hs2 I2 hcl1 hcl2 T st2 f2 hW ?_
 intro acc C s' H' m hn IX hf hL h1 h2 h3 h4 q
 exact ⟨m, hn, fun h' sb => ⟨.ref acc, H', IX.turned (t' := s'.toks) (fun b o hb e => sb.extBut b o hb e) hf hL h1 h2 h3, rfl, q⟩⟩
end
end L2
namespace L2
open PySem PySem.Spec PyProof.Rows
noncomputable def Itel (K : PySem.W.Frag) (a : Addr) : It :=
 ⟨fun i H => ∃ xs x, SqL K H a xs /\ xs[i]? = some x, fun i H v H' => ∃ t x, H t = none /\ v = .ref t /\ H' = upd H t (.tup [.int i, x]) /\ ∀ xs, SqL K H a xs -> xs[i]? = some x, fun i H => ∃ xs, SqL K H a xs /\ xs.length = i⟩
theorem turn_enumL {P : Program} {w : World} {K : PySem.W.Frag} {els : List Expr} {kx} {tp : Pos} (a e it : Addr) (hne : e ≠ it) : Turn P w K (.Tuple els kx tp) (Itel K a) [e, it] e (fun i h => (∃ old, IsEnum h e it i old) /\ h.IsListIter it a i) where
 mem := by simp
 obj := fun i h st b hb => by
  obtain ⟨⟨old, he⟩, o, ho, hc, hd⟩ := st
  rcases List.mem_cons.mp hb with rfl | hb
  ·exact ⟨_, he, fun v z => by cases z⟩
  ·rw [List.mem_singleton.mp hb]
   exact ⟨o, ho, fun v z => by rw [hd] at z; cases z⟩
 keep := fun i h h' st k => by
  obtain ⟨⟨old, he⟩, o, ho, r⟩ := st
  exact ⟨⟨old, k e (by simp) _ he⟩, o, k it (by simp) _ ho, r⟩
 item := by
  intro X hP hw hK hc i pins s σ H E I hf st hg
  subst hP hw hK
  obtain ⟨xs, x, hq, hx⟩ := hg
  obtain ⟨its, rv, p, hz⟩ := I.list hq
  obtain ⟨u, hu, ru⟩ := rv.get hx
  obtain ⟨⟨old, he⟩, hi⟩ := st
  obtain ⟨o, ho, hcl, hd⟩ := id hi
  have hT : s.heap.IsList a its.toArray := p.isList
  have hai : a ≠ it := fun z => by
   obtain ⟨o', e1, e2, _⟩ := p.isList
   rw [z, ho] at e1; cases e1; rw [hcl] at e2; injection e2 with z2; revert z2; decide
  have hae : e ≠ a := fun z => by
   obtain ⟨o', e1, e2, _⟩ := p.isList
   rw [<- z, he] at e1; cases e1; injection e2 with z2; revert z2; decide
  have hlt : i < its.toArray.size := by
   have := (List.getElem?_eq_some_iff.mp hu).1
   simpa using this
  have hh : X.A.in1.handled = none := I.ok.hd hc
  refine wpAny_pyNext_enum_itemD (Draws.list hh it a hai its.toArray) he ⟨hi, hT⟩ hlt hne (by simp [hne, hae]) fun x' h1 tk hP1 ho1 hs1 hT1 hz1 hk1 => ?_
  have ex : x' = u := by
   have q : its[i]? = some x' := by simpa using hP1
   rw [hu] at q; exact (Option.some.inj q).symm
  subst ex
  refine ⟨_, rfl, wpAny_letOwnedTupleGo_enum ho1 fun h2 he2 hs2 => ?_⟩
  have hne0 : s.heap.objs.size ≠ e := Nat.ne_of_gt (Heap.lt_size he)
  have keep : ∀ b o, b ∉ [e, it] -> s.heap.get? b = some o -> h2.get? b = some o := fun b o hb e0 => (hs2.2 b fun z => hb (by simp [z])).trans (hk1 b o (fun z => hb (by simp [z])) (fun z => hb (by simp [z])) e0)
  refine ⟨.ref s.heap.objs.size, _, I.turnedT (h' := h2) (t' := tk + 1) (xs := [.int i, x]) hf keep (.cons ⟨tk, rfl⟩ (.cons ru .nil)) ⟨_, (hs2.2 _ hne0).trans hT1, rfl, ⟨_, rfl⟩, rfl, rfl⟩ (by show 2 <= sizeLine; decide), rfl, ⟨_, x, I.hok.fresh (Nat.le_refl _), rfl, rfl, fun ys hy => by rw [I.list_inj hy hq]; exact hx⟩, ⟨⟨_, by simpa using he2⟩, ?_⟩, fun b hb => ?_⟩
  ·obtain ⟨⟨o1, e1, r1⟩, _⟩ := hs1
   exact ⟨o1, (hs2.2 it (Ne.symm hne)).trans e1, r1⟩
  ·rcases List.mem_cons.mp hb with rfl | hb'
   ·rw [upd_ne (Nat.ne_of_lt (Heap.lt_size he))]; exact (hf _ hb).1
   ·have e9 := List.mem_singleton.mp hb'
    subst e9
    rw [upd_ne (Nat.ne_of_lt (Heap.lt_size ho))]; exact (hf _ hb).1
 done := by
  intro X hP hw hK hc i pins s σ H E I hf st hg
  subst hP hw hK
  obtain ⟨xs, hq, hx⟩ := hg
  obtain ⟨its, rv, p, hz⟩ := I.list hq
  obtain ⟨⟨old, he⟩, hi⟩ := st
  obtain ⟨o, ho, hcl, hd⟩ := id hi
  have hT : s.heap.IsList a its.toArray := p.isList
  have hai : a ≠ it := fun z => by
   obtain ⟨o', e1, e2, _⟩ := p.isList
   rw [z, ho] at e1; cases e1; rw [hcl] at e2; injection e2 with z2; revert z2; decide
  have hh : X.A.in1.handled = none := I.ok.hd hc
  have hl : its.toArray.size = i := by rw [List.size_toArray, <- rv.length, hx]
  refine wpAny_pyNext_enum_endD (Draws.list hh it a hai its.toArray) he (by rw [hl]; exact ⟨hi, hT⟩) fun h1 hk => ⟨rfl, ?_⟩
  exact I.turnedN (t' := s.toks) hf fun b o hb e0 => hk b o (fun z => hb (by simp [z])) e0
 self := fun _ _ _ _ _ st h => by
  obtain ⟨⟨old, he⟩, _⟩ := st
  exact wpAny_pyIter_enum he h
section
variable {X : Cx}
noncomputable def iEnumL (K : PySem.W.Frag) (ta : TA) : TI := fun σ H R => ta σ H fun vs H1 => ∃ a, vs = [.ref a] /\ (∃ xs, SqL K H1 a xs) /\ R (Itel K a) H1
theorem pi_enumL {els : List Expr} {kx} {tp : Pos} {l : Expr} {ta : TA} {p pos : Pos} (hg : Gl X "enumerate") (hm : X.mg "enumerate" = none) (ha : PA X [l] ta) (hs : starEach [l] X.env = [(false, eval l X.env)] := by rfl) :
  PI X (.Tuple els kx tp) (.Call (.Name "enumerate" p) [l] [] pos) (iEnumL X.K ta) := by
 intro pins s σ H R I h
 refine Call_ (ld_blt I hg hm boot_enumerate (PyProof.Rows.callWith_type1 (thn (ha pos pins s σ H _ I h) fun us s1 ⟨vs, H1, I1, r1, q1⟩ => ?_) hs rfl))
 obtain ⟨a, rfl, ⟨xs, hq⟩, q⟩ := q1
 obtain ⟨u, rfl, ru⟩ := vals1 r1
 cases (show u = Value.ref a from ru)
 obtain ⟨its, rv, p', hz⟩ := I1.list hq
 refine call_enumerate_list p'.isList fun h' he hi hsz hk => wpAny_pyIter_enum he ?_
 have I2 : Inv X pins σ H1 { s1 with heap := h' } := I1.kept (t' := s1.toks) hk
 refine ⟨s1.heap.objs.size + 1, [s1.heap.objs.size + 1, s1.heap.objs.size], _, _, H1, rfl, I2, turn_enumL a _ _ (Nat.ne_of_gt (Nat.lt_succ_self _)), ⟨⟨_, he⟩, hi⟩, fun b hb => ?_, q⟩
 rcases List.mem_cons.mp hb with rfl | hb
 ·exact I1.fpOk (Nat.le_succ _) (I1.hok.fresh (Nat.le_succ _))
 ·rw [List.mem_singleton.mp hb]
  exact I1.fpOk (Nat.le_refl _) (I1.hok.fresh (Nat.le_refl _))
end
end L2
namespace L2
open PySem PySem.Spec PyProof.Rows
noncomputable def pairs2 (xs : List V) (ys : V -> List V) (p : V -> V -> Bool) : List (V × V) := xs.flatMap fun x => ((ys x).filter (p x)).map fun y => (x, y)
theorem lc2_grow {J : It} {Ok : Hp -> Prop} {xs : List V} {wi2 : TI} {tt2 : TT} {te : TE} {ix : List Nat} {σ : L2.St} {H1 : Hp} {Q : VK} (Y : Yields J Ok xs) (ys : V -> List V) (p : V -> V -> Bool) (R : V × V -> V -> Hp -> Prop)
  (small : (pairs2 xs ys p).length < sizeLine) (hR : ∀ xy v H H', SameT H H' -> R xy v H -> R xy v H') (hok : ∀ H, Same H1 H -> Ok H)
  (hin : ∀ x ∈ xs, ∀ H, Same H1 H -> ∀ Rr : It -> Hp -> Prop, (∀ J2 Ok2 H', Same H H' -> Yields J2 Ok2 (ys x) -> (∀ G, SameT H' G -> Same H1 G -> Ok2 G) -> Rr J2 H') -> wi2 (some x :: none :: ix.map fun i => σ.getD i none) H Rr)
  (ht : ∀ x ∈ xs, ∀ y ∈ ys x, ∀ H, Same H1 H -> ∀ Q' : Bool -> Hp -> Prop, Q' (p x y) H -> tt2 (some x :: some y :: ix.map fun i => σ.getD i none) H Q')
  (he : ∀ x ∈ xs, ∀ y ∈ ys x, p x y = true -> ∀ H, Same H1 H -> ∀ Q' : VK, (∀ v H', Same H H' -> R (x, y) v H' -> Q' v H') -> te (some x :: some y :: ix.map fun i => σ.getD i none) H Q')
  (fin : ∀ acc vs H', H1 acc = none -> Same H1 H' -> H' acc = some (.lst vs) -> Paired (fun xy v => R xy v H') (pairs2 xs ys p) vs -> Q (.ref acc) H') :
  LcW2 J H1 (gName 0) tNoTest wi2 (gName 1) tt2 te 2 ix σ Q := by
 intro acc ha
 refine ⟨fun i m H => m = xs.length - i /\ i <= xs.length /\ Same H1 H /\ ∃ vs, H acc = some (.lst vs) /\ Paired (fun xy v => R xy v H) (pairs2 (xs.take i) ys p) vs, ⟨xs.length, by simp, Nat.zero_le _, same_upd ha, [], upd_same, .nil⟩, ?_⟩
 rintro i m H ⟨rfl, hi, sm, vs, hacc, pr⟩
 have o := hok _ sm
 by_cases hlt : i < xs.length
 ·refine .inr ⟨Y.go i _ o hlt, fun x H' y => ?_⟩
  obtain ⟨rfl, hx⟩ := Y.yld i _ x H' o hlt y
  have hmem : x ∈ xs := List.mem_of_getElem? hx
  have htk : pairs2 (xs.take (i + 1)) ys p = pairs2 (xs.take i) ys p ++ ((ys x).filter (p x)).map fun y => (x, y) := by
   unfold pairs2
   rw [List.take_succ, hx]
   simp
  have hle : (pairs2 (xs.take (i + 1)) ys p).length <= (pairs2 xs ys p).length := by
   have e : pairs2 xs ys p = pairs2 (xs.take (i + 1)) ys p ++ pairs2 (xs.drop (i + 1)) ys p := by
    unfold pairs2
    conv => lhs; rw [<- List.take_append_drop (i + 1) xs]
    rw [List.flatMap_append]
   rw [e, List.length_append]
   (first | lia | omega)
  refine ⟨⟨rfl, fun j v e => ?_⟩, ?_⟩
  ·cases j with
   | zero => cases e
   | succ j => exact e
  ·unfold tNoTest
   dsimp only
   rw [if_pos rfl]
   refine hin x hmem _ sm _ fun J2 Ok2 H4 s4 Y2 hok2 => ?_
   refine ⟨fun j m2 G => m2 = (ys x).length - j /\ j <= (ys x).length /\ SameT H4 G /\ Same H1 G /\ ∃ us, G acc = some (.lst us) /\ Paired (fun xy v => R xy v G) (pairs2 (xs.take i) ys p ++ (((ys x).take j).filter (p x)).map fun y => (x, y)) us,
    ⟨(ys x).length, by simp, Nat.zero_le _, fun _ _ e => e, sm.trans s4, vs, s4 _ _ hacc, by simpa using Paired.mapP pr fun xy v r => hR xy v _ _ s4.t r⟩, ?_⟩
   rintro j m2 G ⟨rfl, hj, st, sm5, us, hus, pr5⟩
   have o2 := hok2 G st sm5
   by_cases hjl : j < (ys x).length
   ·refine .inr ⟨Y2.go j _ o2 hjl, fun y G' yy => ?_⟩
    obtain ⟨rfl, hy⟩ := Y2.yld j _ y G' o2 hjl yy
    have hymem : y ∈ ys x := List.mem_of_getElem? hy
    have htk2 : (ys x).take (j + 1) = (ys x).take j ++ [y] := by rw [List.take_succ, hy]; rfl
    refine ⟨⟨rfl, fun k v e => ?_⟩, ?_⟩
    ·cases k with
     | zero => exact e
     | succ k =>
      cases k with
      | zero => cases e
      | succ k => exact e
    ·refine ht x hmem y hymem _ sm5 _ ?_
     cases hp : p x y with
     | false =>
      rw [if_neg Bool.false_ne_true]
      refine ⟨(ys x).length - (j + 1), by (first | lia | omega), rfl, hjl, st, sm5, us, hus, ?_⟩
      rw [htk2, List.filter_append]
      simpa [hp] using pr5
     | true =>
      rw [if_pos rfl]
      refine he x hmem y hymem hp _ sm5 _ fun v G4 t4 r4 => ?_
      have hus4 : G4 acc = some (.lst us) := t4 _ _ hus
      have st6 : SameT G4 (upd G4 acc (.lst (us ++ [v]))) := sameT_lst hus4
      have hlen : us.length < sizeLine := by
       have e1 := Paired.length pr5
       rw [List.length_append, List.length_map] at e1
       have e2 : (((ys x).take j).filter (p x)).length <= ((ys x).filter (p x)).length := by
        conv => rhs; rw [<- List.take_append_drop j (ys x), List.filter_append, List.length_append]
        (first | lia | omega)
       rw [htk, List.length_append, List.length_map] at hle
       (first | lia | omega)
      refine ⟨us, hus4, hlen, (ys x).length - (j + 1), by (first | lia | omega), rfl, hjl, (st.trans t4.t).trans st6, same_updR (sm5.trans t4) ha, us ++ [v], upd_same, ?_⟩
      rw [htk2, List.filter_append, List.map_append, <- List.append_assoc]
      simp only [List.filter_cons, hp, if_true, List.filter_nil, List.map_cons, List.map_nil]
      exact Paired.snoc (Paired.mapP pr5 fun xy v r => hR xy v _ _ (t4.t.trans st6) r) (hR _ _ _ _ st6 r4)
   ·have e : j = (ys x).length := by (first | lia | omega)
    subst e
    refine .inl ⟨Y2.stop _ o2, xs.length - (i + 1), by (first | lia | omega), rfl, hlt, sm5, us, hus, ?_⟩
    rw [List.take_length] at pr5
    rw [htk]
    exact pr5
 ·have e : i = xs.length := by (first | lia | omega)
  subst e
  refine .inl ⟨Y.stop _ o, ?_⟩
  rw [List.take_length] at pr
  exact fin acc vs H ha sm hacc pr
end L2
namespace L2
open PySem PySem.Spec PyProof.Rows
section
variable {X : Cx}
noncomputable def rSlA : V -> Option Int -> Option Int -> Hp -> VK -> Prop := fun x lo hi H Q => ∃ a xs, x = .ref a /\ H a = some (.tup xs) /\ ∀ p H', Same H H' -> H' p = some (.tup (cutV xs lo hi)) -> Q (.ref p) H'
theorem sl_tupA : SlR X rSlA := by
 intro pins s σ H x v vl vu lo hi sl Q I rx hs pl pu h
 obtain ⟨a, xs, rfl, ha, q⟩ := h
 by_cases hw : HT.sIx xs.length 0 lo = 0 /\ HT.sIx xs.length xs.length hi = xs.length
 ·cases rx
  obtain ⟨its, r, ht, hz⟩ := I.tuple (SqT.of (K := X.K) ha)
  have hl : its.toArray.size = xs.length := by rw [List.size_toArray]; exact r.length.symm
  refine ⟨"tuple", _, PyProof.Rows.slot_tuple_getitem.lookup, ht.typeIs, ?_⟩
  refine getItem_tuple_whole ht hs pl pu (by rw [hl]; exact hw) ⟨.ref a, H, I, rfl, q a H (Same.refl H) ?_⟩
  unfold cutV
  rw [hw.1, hw.2, List.drop_zero, Nat.sub_zero, List.take_length]
  exact ha
 ·exact sl_tup pins s σ H _ v vl vu lo hi sl Q I rx hs pl pu ⟨a, xs, rfl, SqT.of ha, hw, fun p hp => q p _ (same_upd hp) upd_same⟩
end
theorem for_enumL {K : PySem.W.Frag} {a : Addr} {xs : List V} {g : TG} {tb : TS} {D : Ends} {σ : L2.St} {H : Hp} (Pv : Nat -> L2.St -> Hp -> Prop) (h0 : Pv 0 σ H) (hl : ∀ i σ H, i <= xs.length -> Pv i σ H -> SqL K H a xs)
  (hs : ∀ i x t σ H, xs[i]? = some x -> Pv i σ H -> H t = none -> g (.ref t) σ (upd H t (.tup [.int i, x])) fun σ2 H2 => tb { D with nx := Pv (i + 1), ct := Pv (i + 1), bk := D.nx } σ2 H2) (hd : ∀ σ H, Pv xs.length σ H -> D.nx σ H) :
  ∃ W : Nat -> Nat -> L2.St -> Hp -> Prop, (∃ m, W 0 m σ H) /\ ∀ i m σ H, W i m σ H ->
   ((Itel K a).stop i H /\ D.nx σ H) ∨ ((Itel K a).go i H /\ ∃ N : L2.St -> Hp -> Prop, (∀ σ' H', N σ' H' -> ∃ m', m' < m /\ W (i + 1) m' σ' H') /\ ∀ x H', (Itel K a).yld i H x H' -> g x σ H' fun σ2 H2 => tb { D with nx := N, ct := N, bk := D.nx } σ2 H2) := by
 refine ⟨fun i m σ H => m = xs.length - i /\ i <= xs.length /\ Pv i σ H, ⟨xs.length, by simp, Nat.zero_le _, h0⟩, ?_⟩
 rintro i m σ H ⟨rfl, hi, p⟩
 have q := hl i σ H hi p
 by_cases hlt : i < xs.length
 ·refine .inr ⟨⟨xs, xs[i], q, by simp [hlt]⟩, Pv (i + 1), fun σ' H' p' => ⟨xs.length - (i + 1), by (first | lia | omega), rfl, hlt, p'⟩, fun x H' y => ?_⟩
  obtain ⟨t, x', ht, rfl, rfl, y⟩ := y
  exact hs i x' t σ _ (y xs q) p ht
 ·have e : i = xs.length := by (first | lia | omega)
  subst e
  exact .inl ⟨⟨xs, q, rfl⟩, hd σ H p⟩
section
variable {X : Cx} {elt tg iter tg2 iter2 : Expr} {ifs ifs2 : List Expr} {scope : Scope} {pos : Pos} {wi wi2 : TI} {g g2 : TG} {tt tt2 : TT} {te : TE} {N' : List Str} {n : Nat} {ix : List Nat}
end
end L2
namespace L2
open PySem PySem.Spec PyProof.Rows
noncomputable def freeO (m : Nat) (b : List Int) : List Int := (num0 m).filter fun x => decide (x ∉ b)
structure Beg (m k : Nat) (b : List Int) : Prop where
 len : b.length = k
 nd : b.Nodup
 rng : ∀ y ∈ b, 0 <= y /\ y < m
 free : (freeO m b).length + k = m
end L2
namespace L2
open PySem PySem.Spec PyProof.Rows
theorem inV_ints (n : Int) : ∀ S : List Int, inV (.int n) (S.map V.int) = decide (n ∈ S)
 | [] => by simp [inV]
 | a :: t => by
  have ih := inV_ints n t
  have e : inV (.int n) ((a :: t).map V.int) = ((a == n) || inV (.int n) (t.map V.int)) := rfl
  rw [e, ih]
  by_cases h : a = n
  ·subst h
   simp
  ·have h' : ¬ n = a := fun z => h z.symm
   rw [beq_eq_false_iff_ne.mpr h, Bool.false_or, decide_eq_decide]
   rw [List.mem_cons]
   exact ⟨.inr, fun z => z.resolve_left h'⟩
theorem flat_ints (S : List Int) : (S.map V.int).all flatV = true := by
 rw [List.all_eq_true]
 intro x hx
 obtain ⟨n, _, rfl⟩ := List.mem_map.mp hx
 rfl
theorem at_last {ns : List Int} {x : Int} {j : Nat} : atI ((orbO ns x (j + 1)).map V.int) (-1) = some (.int (itO ns x j)) := by
 unfold atI ixN
 rw [mapI_len, orb_len, if_neg (by decide), if_pos (by (first | lia | omega))]
 show ((orbO ns x (j + 1)).map V.int)[((-1 : Int) + ((j + 1 : Nat) : Int)).toNat]? = _
 rw [show ((-1 : Int) + ((j + 1 : Nat) : Int)).toNat = j by (first | lia | omega), List.getElem?_map, orb_get (by (first | lia | omega))]
 rfl
theorem num0_succ (n : Nat) : num0 (n + 1) = num0 n ++ [(n : Int)] := by simp [num0, List.range_succ]
end L2
namespace L2
open PySem PySem.Spec PyProof.Rows
theorem neLL {H : Hp} {a b : Addr} {ns ms : List Int} {Q : VK} (ha : H a = some (.lst (ns.map V.int))) (hb : H b = some (.lst (ms.map V.int))) (e : ns = ms) (h : Q (.bl false) H) : rNeD (.ref a) (.ref b) H Q := by
 refine ⟨_, _, .lst ha (IsAll.ints ns), .lst hb (IsAll.ints ms), shaped_lints ns, shaped_lints ms, ?_⟩
 rw [show PyData.eqv (.list (ns.map PyData.int)) (.list (ms.map PyData.int)) = decide (ns = ms) from eqv_ints ns ms, decide_eq_true e]
 exact h
theorem RowsAt.get {H : Hp} : ∀ {zs : List Addr} {rows : List (List Int)}, RowsAt H zs rows -> ∀ {i : Nat} {z : Addr}, zs[i]? = some z -> ∃ r, rows[i]? = some r /\ H z = some (.tup (r.map V.int))
 | _, _, .nil, _, _, h => by simp at h
 | _, _, .cons r _, 0, _, h => by simp at h; subst h; exact ⟨_, rfl, r⟩
 | _, _, .cons _ t, i + 1, _, h => RowsAt.get t (i := i) (by simpa using h)
end L2
namespace L2
open PySem PySem.Spec PyProof.Rows
section
variable {X : Cx}
noncomputable def rMaxT : List V -> Hp -> VK -> Prop := fun xs H Q => ∃ (l : Addr) (ns : List Int), xs = [.ref l] /\ H l = some (.tup (ns.map V.int)) /\ ns ≠ [] /\ ∀ M, M ∈ ns -> (∀ a ∈ ns, a <= M) -> Q (.int M) H
theorem max_of_best {xs : Array (Int × Tok)} {ns : List Int} (hnum : xs.toList.map (·.1) = ns) (hsz : 0 < xs.size) :
  numAt xs (argBest (fun i j => decide (numAt xs i > numAt xs j)) (xs.size - 1)) ∈ ns /\ ∀ a ∈ ns, a <= numAt xs (argBest (fun i j => decide (numAt xs i > numAt xs j)) (xs.size - 1)) := by
 obtain ⟨h1, h2⟩ := argBest_gt (numAt xs) (xs.size - 1)
 subst hnum
 refine ⟨?_, fun a ha => ?_⟩
 ·rw [numAt_eq]; exact getD_mem (by rw [List.length_map, Array.length_toList]; (first | lia | omega))
 ·obtain ⟨j, hj, rfl⟩ := mem_getD ha
  rw [List.length_map, Array.length_toList] at hj
  rw [<- numAt_eq]; exact h2 j (by (first | lia | omega))
theorem call_maxT (hc : X.calm = true) : CallR X (.builtin "max") rMaxT := by
 intro pins s σ H xs us Q I rs h
 obtain ⟨l, ns, rfl, hH, hne, q⟩ := h
 obtain ⟨u, rfl, ru⟩ := vals1 rs
 cases (show u = Value.ref l from ru)
 obtain ⟨its, r, ht, hz⟩ := I.tuple (SqT.of (K := X.K) hH)
 have hI := intsAre_of r
 obtain ⟨xs, hxs⟩ := hI.allInts.items
 have hnum : xs.toList.map (·.1) = ns := by rw [<- nums_intItems, <- hxs]; exact hI.numsOf
 have hsz : 0 < xs.size := by
  have : ns.length = xs.size := by rw [<- hnum, List.length_map, Array.length_toList]
  have := List.length_pos_iff.mpr hne
  (first | lia | omega)
 obtain ⟨b1, b2⟩ := max_of_best hnum hsz
 have hT : s.heap.IsTuple l (intItems xs) := by rw [<- hxs]; exact ht
 have hlt : l < s.heap.objs.size := by obtain ⟨_, e, _⟩ := hT; exact Heap.lt_size e
 have hT2 : (s.heap.push { cls := .type "tuple_iterator", data := .fields #[.ref l, .int 0 0] }).IsTuple l (intItems xs) := by
  obtain ⟨o, e, r⟩ := hT
  exact ⟨o, Heap.get?_push_of_some _ e, r⟩
 have hh : X.A.handled = none := I.ok.hd hc
 refine call_max_walk (wpAny_pyIter_tuple hT ?_)
 refine ⟨_, _, _, _, _, _, _, rfl, Walks.tuple (A := X.A.in1) hh s.heap.objs.size l (Nat.ne_of_lt hlt) (intItems xs), ⟨⟨_, Heap.get?_push_size _ rfl, rfl, rfl⟩, hT2⟩, fun b hb => ?_, by simpa [intItems] using hsz, CmpOf.ints_gt (numAt xs) (fun _ _ => intItems_at), fun v h' tk hP hk => ?_⟩
 ·show b < (s.heap.push _).objs.size
  rw [Heap.size_push]
  rcases List.mem_cons.mp hb with rfl | hb
  ·exact Nat.lt_succ_self _
  ·rw [List.mem_singleton.mp hb]
   exact Nat.lt_succ_of_lt hlt
 ·have hv : (intItems xs)[argBest (fun i j => decide (numAt xs i > numAt xs j)) (xs.size - 1)]? = some v := by simpa [intItems] using hP
  obtain ⟨t, rfl⟩ := intItems_at hv
  refine ⟨.int _, H, I.kept (t' := tk) (fun b o e => hk b o (fun hm => ?_) (Heap.get?_push_of_some _ e)), ⟨_, rfl⟩, q _ b1 b2⟩
  rw [List.mem_singleton.mp hm] at e
  exact absurd (Heap.lt_size e) (Nat.lt_irrefl _)
end
noncomputable def enF (p : Nat -> V -> Bool) (f : Nat -> V -> V) : Nat -> List V -> List V
 | _, [] => []
 | i, x :: t => (if p i x then [f i x] else []) ++ enF p f (i + 1) t
theorem enF_append (p : Nat -> V -> Bool) (f : Nat -> V -> V) : ∀ (i : Nat) (a b : List V), enF p f i (a ++ b) = enF p f i a ++ enF p f (i + a.length) b
 | _, [], _ => by simp [enF]
 | i, x :: t, b => by
  show (if p i x then [f i x] else []) ++ enF p f (i + 1) (t ++ b) = _
  rw [enF_append p f (i + 1) t b]
  simp only [enF, List.append_assoc, List.length_cons]
  rw [show i + 1 + t.length = i + (t.length + 1) by (first | lia | omega)]
theorem enF_len (p : Nat -> V -> Bool) (f : Nat -> V -> V) : ∀ (i : Nat) (a : List V), (enF p f i a).length <= a.length
 | _, [] => Nat.le_refl _
 | i, x :: t => by
  have := enF_len p f (i + 1) t
  simp only [enF, List.length_append, List.length_cons]
  split <;> simp <;> (first | lia | omega)
end L2
namespace L2
open PySem PySem.Spec PyProof.Rows
end L2
namespace L2
open PySem PySem.Spec PyProof.Rows
noncomputable def sumR (n : Nat) (g : Nat -> Int) : Int := ((List.range n).map g).sum
theorem sumR_succ (n : Nat) (g : Nat -> Int) : sumR (n + 1) g = sumR n g + g n := by simp [sumR, List.range_succ]
noncomputable def highsO (ns : List Int) : Int := sumR ns.length fun k => if (ns.take (k + 1)).all (fun a => decide (a <= atO ns k)) then 1 else 0
theorem getD_atO (ns : List Int) (j : Nat) : ns.getD j 0 = atO ns (j : Int) := by unfold atO; rw [Int.toNat_natCast]
structure Heaps (ns : List Int) (L : List Int) (es : List Int) : Prop where
 inc : L.Pairwise (· < ·)
 len : es.length = ns.length
 up : ∀ (j : Nat) a, L[j]? = some a -> ∃ k : Nat, ns[k]? = some a /\ es[k]? = some ((j : Int) + 1)
 dn : ∀ (k : Nat) e, es[k]? = some e -> ∃ (j : Nat) (a b : Int), e = (j : Int) + 1 /\ L[j]? = some a /\ ns[k]? = some b /\ a <= b
end L2
namespace L2
open PySem PySem.Spec PyProof.Rows
structure CompScopeZ (X : Cx) (scope : Scope) (N' : List Str) (n : Nat) (ix : List Nat) (z : Str) : Prop where
 kind : scope.kind = .function
 onecell : ∀ y ∈ scope.names, y.2 = .cell -> y.1 = z
 nz : ∀ y : Str, (y, NameKind.free) ∈ scope.names -> y ≠ z
 cf : ∀ (a : Addr) (cl : List (Str × Addr)), cellsFrom a scope.names cl = (z, a) :: cl
 pc : ∀ h : Heap, pushCells h scope.names = h.push { cls := .type "cell", data := .cell none }
 names : ∀ y ∈ scope.names, y.2 = .local -> scope.names.lookup y.1 = some .local
 free : ∀ y ∈ scope.names, y.2 = .free -> X.env.scope.names.lookup y.1 = some .cell ∨ X.env.scope.names.lookup y.1 = some .free
 nodup : ∀ y : Str, (y, NameKind.free) ∈ scope.names -> scope.names.lookup y = some .local -> False
 len : N'.length = n + ix.length
 at_ : ∀ (j i : Nat), ix[j]? = some i -> ∃ x, N'[n + j]? = some x /\ X.N[i]? = some x /\ (x, NameKind.free) ∈ scope.names
section
variable {X : Cx} {pins : List (Addr × Obj)} {σ : St} {H : Hp} {s : Shared}
end
section
variable {X : Cx} {elt tg iter : Expr} {ifs : List Expr} {scope : Scope} {pos : Pos} {wi : TI} {g : TG} {tt : TT} {te : TE} {N' : List Str} {n : Nat} {ix : List Nat}
end
end L2
namespace L2
open PySem PySem.Spec PyProof.Rows
mutual
inductive IsK (K : PySem.W.Frag) (H : Hp) : V -> PyData -> Prop
 | non : IsK K H .non .none
 | bl (b : Bool) : IsK K H (.bl b) (.bool b)
 | int (i : Int) : IsK K H (.int i) (.int i)
 | str (x : Str) : IsK K H (.str x) (.str x)
 | tup {a : Addr} {vs : List V} {ds : List PyData} : SqT K H a vs -> IsAllK K H vs ds -> IsK K H (.ref a) (.tuple ds)
 | lst {a : Addr} {vs : List V} {ds : List PyData} : H a = some (.lst vs) -> IsAllK K H vs ds -> IsK K H (.ref a) (.list ds)
inductive IsAllK (K : PySem.W.Frag) (H : Hp) : List V -> List PyData -> Prop
 | nil : IsAllK K H [] []
 | cons {v : V} {vs : List V} {d : PyData} {ds : List PyData} : IsK K H v d -> IsAllK K H vs ds -> IsAllK K H (v :: vs) (d :: ds)
end
section
variable {X : Cx} {pins : List (Addr × Obj)} {σ : St} {H : Hp} {s : Shared}
end
end L2
namespace L2
open PySem PySem.Spec PyProof.Rows
end L2
namespace L2
open PySem PySem.Spec PyProof.Rows
end L2
namespace L2
open PySem PySem.Spec PyProof.Rows
end L2
namespace L2
open PySem PySem.Spec PyProof.Rows
section
variable {X : Cx}
end
end L2
namespace L2
open PySem PySem.Spec PyProof.Rows
end L2
namespace L2
open PySem PySem.Spec PyProof.Rows
end L2
namespace L2
end L2
namespace L2
open PySem PySem.Spec PyProof.Rows
end L2
namespace L2
open PySem PySem.Spec PyProof.Rows
end L2
namespace L2
open PySem PySem.Spec PyProof.Rows
theorem GDict.of {K : PySem.W.Frag} {P : Params} {C : Addr} {kvs : List (Str × Addr)} {es : Array DictEntry} {n : Nat} (l : K.lookup C = some { cls := .type "dict", data := .dict es n }) (en : Ents P es.toList kvs) (nd : (kvs.map (·.1)).Nodup) : GDict K P C kvs := ⟨⟨es, n, l, en⟩, nd⟩
theorem CalF.of {P : Program} {w : World} {K : PySem.W.Frag} {mg : Str -> Option Value} {base : Heap} {k k' : Nat} {x : Str} {f : Addr} {ps : List Str} {sp : Sp} (C : Cal P w K mg base k x ps sp) (h : mg x = some (.ref f)) (hk : k <= k') : CalF P w K mg base k' f ps sp := by
 obtain ⟨f', fd, F, hm, kp, hb⟩ := C.ex
 rw [h] at hm
 cases hm
 exact ⟨fd, F.mono hk, kp, hb⟩
end L2
namespace L2
open PySem PySem.Spec PyProof.Rows
structure TopX (mg : Str -> Option Value) : Prop where
 n_str : mg "str" = none
 n_repr : mg "repr" = none
 n_divmod : mg "divmod" = none
structure TopXK (K : PySem.W.Frag) : Prop where
 k_str : PySem.W.nsIn K mainGlobals "str" = some none
 k_repr : PySem.W.nsIn K mainGlobals "repr" = some none
 k_divmod : PySem.W.nsIn K mainGlobals "divmod" = some none
end L2
namespace L2
open PySem PySem.Spec PyProof.Rows
end L2
namespace L2
open PySem PySem.Spec PyProof.Rows
end L2
namespace L2
open PySem PySem.Spec PyProof.Rows
theorem Paired.append {α β : Type} {F : α -> β -> Prop} : ∀ {l1 l2 : List α} {v1 v2 : List β}, Paired F l1 v1 -> Paired F l2 v2 -> Paired F (l1 ++ l2) (v1 ++ v2)
 | _, _, _, _, .nil, h => h
 | _, _, _, _, .cons r t, h => .cons r (Paired.append t h)
end L2
namespace L2
open PySem PySem.Spec PyProof.Rows
end L2
namespace L2
open PySem PySem.Spec PyProof.Rows
end L2
namespace L2
open PySem PySem.Spec PyProof.Rows
section
variable {κ : Type} [DecidableEq κ]
end
section
variable {P : Program} {w : World} {H : Hp} {h : Heap} {a : Addr}
end
section
variable {X : Cx} {pins : List (Addr × Obj)} {σ : St} {H : Hp} {s : Shared} {a : Addr} {y v : V} {u r : Value} {o : Option V} {A : Around} {E : Value -> Shared -> Prop}
end
section
variable {X : Cx} {pins : List (Addr × Obj)} {σ : St} {H : Hp} {s : Shared} {a : Addr} {kvs : List (Key × V)} {k : Key} {u : Value} {A : Around} {E : Value -> Shared -> Prop}
end
section
variable {X : Cx} {o i e value : Expr} {pos pos' tpos : Pos} {td ty tv : TE}
end
section
variable {X : Cx} {pos : Pos}
end
structure M1 (X : Cx) (o : Expr) (m : Str) (apos : Pos) (e : Expr) (cpos : Pos) : Prop where
 base : attributeBase o m X.env (eval o X.env) = eval o X.env
 few : ((backTo cpos (starEach [e] X.env)).all (fun x => !x.1) && (backToKw cpos (keywordEach [] X.env)).all (fun x => x.1.isSome)
  && decide (([e] : List Expr).length + ([] : List Keyword).length + (if ([] : List Keyword).isEmpty then 0 else 1) < 30)) = true
 line : (apos.endLine == cpos.line) = true
 trees : backTo cpos (starEach [e] X.env) = [(false, eval e X.env)]
structure M2 (X : Cx) (o : Expr) (m : Str) (apos : Pos) (e f : Expr) (cpos : Pos) : Prop where
 base : attributeBase o m X.env (eval o X.env) = eval o X.env
 few : ((backTo cpos (starEach [e, f] X.env)).all (fun x => !x.1) && (backToKw cpos (keywordEach [] X.env)).all (fun x => x.1.isSome)
  && decide (([e, f] : List Expr).length + ([] : List Keyword).length + (if ([] : List Keyword).isEmpty then 0 else 1) < 30)) = true
 line : (apos.endLine == cpos.line) = true
 trees : backTo cpos (starEach [e, f] X.env) = [(false, eval e X.env), (false, eval f X.env)]
section
variable {X : Cx} {pins : List (Addr × Obj)} {σ : St} {H : Hp} {s : Shared} {a : Addr} {y d : V} {u r : Value} {o : Option V} {A : Around} {E : Value -> Shared -> Prop}
end
section
variable {X : Cx} {o e f : Expr} {apos cpos : Pos} {td ty tx : TE}
end
section
variable {X : Cx} {pins : List (Addr × Obj)} {σ : St} {H : Hp} {s : Shared} {a : Addr} {kvs : List (Key × V)} {A : Around} {E : Value -> Shared -> Prop}
end
section
variable {X : Cx} {pins : List (Addr × Obj)} {σ : St} {H : Hp} {s : Shared} {a : Addr} {y : V} {u : Value} {A : Around} {E : Value -> Shared -> Prop}
end
end L2
namespace L2
open PySem PySem.Spec PyProof.Rows
noncomputable def kD : Key -> PyData
 | .inl i => .int i
 | .inr x => .str x
mutual
inductive IsY (S : Addr -> Prop) (H : Hp) : V -> PyData -> Prop
 | non : IsY S H .non .none
 | bl (b : Bool) : IsY S H (.bl b) (.bool b)
 | int (i : Int) : IsY S H (.int i) (.int i)
 | str (x : Str) : IsY S H (.str x) (.str x)
 | tup {a : Addr} {vs : List V} {ds : List PyData} : H a = some (.tup vs) -> IsAllY S H vs ds -> IsY S H (.ref a) (.tuple ds)
 | lst {a : Addr} {vs : List V} {ds : List PyData} : H a = some (.lst vs) -> S a -> IsAllY S H vs ds -> IsY S H (.ref a) (.list ds)
 | d0 {a : Addr} : H a = some (.dK []) -> IsY S H (.ref a) (.dict [])
 | d1 {a : Addr} {k : Key} {v : V} {d : PyData} : H a = some (.dK [(k, v)]) -> IsY S H v d -> IsY S H (.ref a) (.dict [(kD k, d)])
inductive IsAllY (S : Addr -> Prop) (H : Hp) : List V -> List PyData -> Prop
 | nil : IsAllY S H [] []
 | cons {v : V} {vs : List V} {d : PyData} {ds : List PyData} : IsY S H v d -> IsAllY S H vs ds -> IsAllY S H (v :: vs) (d :: ds)
end
section
variable {X : Cx} {pins : List (Addr × Obj)} {σ : St} {H : Hp} {s : Shared}
end
end L2
namespace L2
open PySem PySem.Spec PyProof.Rows
end L2
namespace L2
open PySem PySem.Spec PyProof.Rows
end L2
namespace L2
open PySem PySem.Spec PyProof.Rows
end L2
namespace L2
open PySem PySem.Spec PyProof.Rows
end L2
namespace L2
open PySem PySem.Spec PyProof.Rows
end L2
namespace L2
open PySem PySem.Spec PyProof.Rows
end L2
namespace L2
open PySem PySem.Spec PyProof.Rows
end L2
namespace L2
open PySem PySem.Spec PyProof.Rows
noncomputable def lit : Nat -> Expr -> Option PyData
 | 0, _ => none
 | _ + 1, .Constant .none _ _ => some .none
 | _ + 1, .Constant (.bool b) _ _ => some (.bool b)
 | _ + 1, .Constant (.int i) _ _ => some (.int i)
 | _ + 1, .Constant (.str x) _ _ => some (.str x)
 | _ + 1, .UnaryOp .USub (.Constant (.int i) _ _) _ => some (.int (-i))
 | n + 1, .Tuple es _ _ => if es.length <= 100 then (es.mapM (lit n)).map PyData.tuple else none
 | n + 1, .List es _ => if es.length <= 100 then (es.mapM (lit n)).map PyData.list else none
 | _ + 1, .Dict [] [] _ => some (.dict [])
 | _ + 1, _ => none
end L2
namespace Srt
open PySem PyProof.Rows
noncomputable def gallop' : Bool -> Keyed -> Array Keyed -> Nat -> Nat -> Nat -> StateT SortSt Sem (Option Nat) := sortPriv% PySem.Builtin.gallop
section
variable {M : Model} {A : Around} {E : Value -> Shared -> Prop} {s : Shared}
noncomputable def Looks (M : Model) (A : Around) (E : Value -> Shared -> Prop) (s : Shared) (st : SortSt) (left : Bool) (key : Keyed) (arr : Array Keyed) (base n : Nat) (B : Nat -> Bool) : Prop :=
 ∀ (i : Nat) (Q : Option Bool -> SortSt -> Prop), i < n -> Q (some (B i)) st -> wpS M A E s (elem' arr (base + i) >>= fun x => if left = true then lt' x key else lt' key x >>= fun o => pure (Option.map not o)) Q st
theorem wpS_gallop {st : SortSt} {left : Bool} {key : Keyed} {arr : Array Keyed} {base n hint : Nat} {B : Nat -> Bool} {Q : Option Nat -> SortSt -> Prop} (hB : Looks M A E s st left key arr base n B) (hm : ∀ i j, i <= j -> j < n -> B j = true -> B i = true) (hh : hint < n)
  (h : ∀ k, k <= n -> (∀ i, i < k -> B i = true) -> (∀ i, k <= i -> i < n -> B i = false) -> Q (some k) st) : wpS M A E s (gallop' left key arr base n hint) Q st := by
 unfold gallop'
 refine wpS_bind (hB hint _ hh ?_)
 dsimp only
 cases hb0 : B hint with
 | true =>
  rw [if_pos rfl]
  refine wpS_bind (wpS_mono (wpS_forRange (I := fun x c st' => st' = st /\ ∃ la ofs, c = (none, la, ofs) /\ la < ofs /\ la < n - hint /\ x + 1 <= ofs /\ B (hint + la) = true)
   (Q := fun c st' => st' = st /\ ∃ la ofs, c = (none, la, ofs) /\ la < ofs /\ la < n - hint /\ B (hint + la) = true /\ (n - hint <= ofs ∨ B (hint + ofs) = false)) ?step ?fin ⟨rfl, 0, 1, rfl, by (first | lia | omega), by (first | lia | omega), by (first | lia | omega), hb0⟩) ?post)
  case fin =>
   rintro c st' ⟨rfl, la, ofs, rfl, a, b, d, e⟩
   rw [Nat.max_eq_right (Nat.zero_le _)] at d
   exact ⟨rfl, la, ofs, rfl, a, b, e, .inl (by (first | lia | omega))⟩
  case step =>
   rintro x c st' _ hx ⟨rfl, la, ofs, rfl, a, b, d, e⟩
   dsimp only
   by_cases hge : ofs ≥ n - hint
   ·rw [if_pos hge]
    exact wpS_pure ⟨rfl, la, ofs, rfl, a, b, e, .inl hge⟩
   ·rw [if_neg hge]
    refine wpS_bind (hB (hint + ofs) _ (by (first | lia | omega)) ?_)
    dsimp only
    cases hb : B (hint + ofs) with
    | true =>
     rw [if_neg (by decide)]
     exact wpS_pure ⟨rfl, _, _, rfl, by (first | lia | omega), by (first | lia | omega), by (first | lia | omega), hb⟩
    | false =>
     rw [if_pos (show (!false) = true from rfl)]
     exact wpS_pure ⟨rfl, la, ofs, rfl, a, b, e, .inr hb⟩
  case post =>
   rintro c st' ⟨rfl, la, ofs, rfl, a, b, e, hor⟩
   dsimp only
   have h1 : hint + la + 1 <= hint + min ofs (n - hint) := by (first | lia | omega)
   have h2 : hint + min ofs (n - hint) <= n := by (first | lia | omega)
   have hl : ∀ i, i < hint + la + 1 -> B i = true := fun i hi => hm i (hint + la) (by (first | lia | omega)) (by (first | lia | omega)) e
   have hr : ∀ i, hint + min ofs (n - hint) <= i -> i < n -> B i = false := fun i h1 h2 => by
    rcases hor with ho | ho
    ·(first | lia | omega)
    ·cases hi2 : B i with
     | false => rfl
     | true =>
      by_cases hlt : ofs < n - hint
      ·rw [hm (hint + ofs) i (by (first | lia | omega)) h2 hi2] at ho; cases ho
      ·(first | lia | omega)
   generalize hint + la + 1 = lo0 at h1 hl ⊢
   generalize hint + min ofs (n - hint) = hi0 at h1 h2 hr ⊢
   refine wpS_bind (wpS_mono (wpS_forRange (I := fun x c st'' => st'' = st' /\ ∃ lo hi, c = (none, lo, hi) /\ lo <= hi /\ hi <= n /\ hi - lo <= n - x /\ (∀ i, i < lo -> B i = true) /\ ∀ i, hi <= i -> i < n -> B i = false)
    (Q := fun c st'' => st'' = st' /\ ∃ lo hi, c = (none, lo, hi) /\ lo = hi /\ hi <= n /\ (∀ i, i < lo -> B i = true) /\ ∀ i, hi <= i -> i < n -> B i = false) ?step ?fin ⟨rfl, lo0, hi0, rfl, h1, h2, by (first | lia | omega), hl, hr⟩) ?post)
   case fin =>
    rintro c st'' ⟨rfl, lo, hi, rfl, a, b, d, e, f⟩
    rw [Nat.max_eq_right (Nat.zero_le _)] at d
    exact ⟨rfl, lo, hi, rfl, by (first | lia | omega), b, e, f⟩
   case step =>
    rintro x c st'' _ hx ⟨rfl, lo, hi, rfl, a, b, d, e, f⟩
    dsimp only
    by_cases hge : lo ≥ hi
    ·rw [if_pos hge]
     exact wpS_pure ⟨rfl, lo, hi, rfl, by (first | lia | omega), b, e, f⟩
    ·rw [if_neg hge]
     refine wpS_bind (hB (lo + (hi - lo) / 2) _ (by (first | lia | omega)) ?_)
     dsimp only
     cases hb : B (lo + (hi - lo) / 2) with
     | true =>
      rw [if_pos rfl]
      exact wpS_pure ⟨rfl, _, _, rfl, by (first | lia | omega), b, by (first | lia | omega), fun i hi' => hm i _ (by (first | lia | omega)) (by (first | lia | omega)) hb, f⟩
     | false =>
      rw [if_neg (by decide)]
      refine wpS_pure ⟨rfl, _, _, rfl, by (first | lia | omega), by (first | lia | omega), by (first | lia | omega), e, fun i h1 h2 => ?_⟩
      cases hi2 : B i with
      | false => rfl
      | true => rw [hm _ i h1 h2 hi2] at hb; cases hb
   case post =>
    rintro c st'' ⟨rfl, lo, hi, rfl, rfl, b, e, f⟩
    dsimp only
    exact wpS_pure (h lo b e f)
 | false =>
  rw [if_neg (by decide)]
  refine wpS_bind (wpS_mono (wpS_forRange (I := fun x c st' => st' = st /\ ∃ la ofs, c = (none, la, ofs) /\ la < ofs /\ la <= hint /\ x + 1 <= ofs /\ B (hint - la) = false)
   (Q := fun c st' => st' = st /\ ∃ la ofs, c = (none, la, ofs) /\ la < ofs /\ la <= hint /\ B (hint - la) = false /\ (hint + 1 <= ofs ∨ B (hint - ofs) = true)) ?step ?fin ⟨rfl, 0, 1, rfl, by (first | lia | omega), by (first | lia | omega), by (first | lia | omega), hb0⟩) ?post)
  case fin =>
   rintro c st' ⟨rfl, la, ofs, rfl, a, b, d, e⟩
   rw [Nat.max_eq_right (Nat.zero_le _)] at d
   exact ⟨rfl, la, ofs, rfl, a, b, e, .inl (by (first | lia | omega))⟩
  case step =>
   rintro x c st' _ hx ⟨rfl, la, ofs, rfl, a, b, d, e⟩
   dsimp only
   by_cases hge : ofs ≥ hint + 1
   ·rw [if_pos hge]
    exact wpS_pure ⟨rfl, la, ofs, rfl, a, b, e, .inl hge⟩
   ·rw [if_neg hge]
    refine wpS_bind (hB (hint - ofs) _ (by (first | lia | omega)) ?_)
    dsimp only
    cases hb : B (hint - ofs) with
    | true =>
     rw [if_pos rfl]
     exact wpS_pure ⟨rfl, la, ofs, rfl, a, b, e, .inr hb⟩
    | false =>
     rw [if_neg (by decide)]
     exact wpS_pure ⟨rfl, _, _, rfl, by (first | lia | omega), by (first | lia | omega), by (first | lia | omega), hb⟩
  case post =>
   rintro c st' ⟨rfl, la, ofs, rfl, a, b, e, hor⟩
   dsimp only
   have h1 : hint + 1 - min ofs (hint + 1) <= hint - la := by (first | lia | omega)
   have h2 : hint - la <= n := by (first | lia | omega)
   have hl : ∀ i, i < hint + 1 - min ofs (hint + 1) -> B i = true := fun i hi => by
    rcases hor with ho | ho
    ·(first | lia | omega)
    ·by_cases hlt : ofs < hint + 1
     ·exact hm i (hint - ofs) (by (first | lia | omega)) (by (first | lia | omega)) ho
     ·(first | lia | omega)
   have hr : ∀ i, hint - la <= i -> i < n -> B i = false := fun i h1 h2 => by
    cases hi2 : B i with
    | false => rfl
    | true => rw [hm (hint - la) i (by (first | lia | omega)) h2 hi2] at e; cases e
   generalize hint + 1 - min ofs (hint + 1) = lo0 at h1 hl ⊢
   generalize hint - la = hi0 at h1 h2 hr ⊢
   refine wpS_bind (wpS_mono (wpS_forRange (I := fun x c st'' => st'' = st' /\ ∃ lo hi, c = (none, lo, hi) /\ lo <= hi /\ hi <= n /\ hi - lo <= n - x /\ (∀ i, i < lo -> B i = true) /\ ∀ i, hi <= i -> i < n -> B i = false)
    (Q := fun c st'' => st'' = st' /\ ∃ lo hi, c = (none, lo, hi) /\ lo = hi /\ hi <= n /\ (∀ i, i < lo -> B i = true) /\ ∀ i, hi <= i -> i < n -> B i = false) ?step ?fin ⟨rfl, lo0, hi0, rfl, h1, h2, by (first | lia | omega), hl, hr⟩) ?post)
   case fin =>
    rintro c st'' ⟨rfl, lo, hi, rfl, a, b, d, e, f⟩
    rw [Nat.max_eq_right (Nat.zero_le _)] at d
    exact ⟨rfl, lo, hi, rfl, by (first | lia | omega), b, e, f⟩
   case step =>
    rintro x c st'' _ hx ⟨rfl, lo, hi, rfl, a, b, d, e, f⟩
    dsimp only
    by_cases hge : lo ≥ hi
    ·rw [if_pos hge]
     exact wpS_pure ⟨rfl, lo, hi, rfl, by (first | lia | omega), b, e, f⟩
    ·rw [if_neg hge]
     refine wpS_bind (hB (lo + (hi - lo) / 2) _ (by (first | lia | omega)) ?_)
     dsimp only
     cases hb : B (lo + (hi - lo) / 2) with
     | true =>
      rw [if_pos rfl]
      exact wpS_pure ⟨rfl, _, _, rfl, by (first | lia | omega), b, by (first | lia | omega), fun i hi' => hm i _ (by (first | lia | omega)) (by (first | lia | omega)) hb, f⟩
     | false =>
      rw [if_neg (by decide)]
      refine wpS_pure ⟨rfl, _, _, rfl, by (first | lia | omega), by (first | lia | omega), by (first | lia | omega), e, fun i h1 h2 => ?_⟩
      cases hi2 : B i with
      | false => rfl
      | true => rw [hm _ i h1 h2 hi2] at hb; cases hb
   case post =>
    rintro c st'' ⟨rfl, lo, hi, rfl, rfl, b, e, f⟩
    dsimp only
    exact wpS_pure (h lo b e f)
end
end Srt
namespace Srt
open PySem PyProof.Rows
noncomputable def mergeLo' : Array Keyed -> Array Keyed -> StateT SortSt Sem (Array Keyed) := sortPriv% PySem.Builtin.mergeLo
noncomputable def mergeHi' : Array Keyed -> Array Keyed -> StateT SortSt Sem (Array Keyed) := sortPriv% PySem.Builtin.mergeHi
noncomputable abbrev withG (st : SortSt) (g : Nat) : SortSt := SortSt.mk' (kindOf st) (arrOf st) (pendingOf st) g (failedOf st)
end Srt
namespace Srt
open PySem PyProof.Rows
section
variable {O : KeyOrd} (kf : Keyed -> O.α)
noncomputable def Up (l : List Keyed) : Prop := l.Pairwise fun p q => O.kle (kf p) (kf q)
noncomputable def KeysUp (a : Array Keyed) : Prop := ∀ (i j : Nat) (p q : Keyed), i <= j -> a[i]? = some p -> a[j]? = some q -> O.kle (kf p) (kf q)
theorem KeysUp.up {a : Array Keyed} (h : KeysUp kf a) : Up kf a.toList := by
 refine List.pairwise_iff_getElem.mpr fun i j hi hj hij => ?_
 exact h i j _ _ (Nat.le_of_lt hij) (by rw [Array.getElem?_eq_getElem (by simpa using hi)]; simp) (by rw [Array.getElem?_eq_getElem (by simpa using hj)]; simp)
noncomputable def Res (a b r : Array Keyed) : Prop := r.toList.Perm (a.toList ++ b.toList) /\ Up kf r.toList
structure Way (a b out : Array Keyed) (ia ib : Nat) : Prop where
 perm : out.toList.Perm (a.toList.take ia ++ b.toList.take ib)
 up : Up kf out.toList
 la : ∀ p ∈ out.toList, ∀ q, a[ia]? = some q -> O.kle (kf p) (kf q)
 lb : ∀ p ∈ out.toList, ∀ q, b[ib]? = some q -> O.kle (kf p) (kf q)
theorem ext_list (a : Array Keyed) (i : Nat) : (a.extract i a.size).toList = a.toList.drop i := by
 rw [Array.toList_extract]
 simp only [List.extract]
 exact List.take_of_length_le (by simp)
theorem ext_mid (a : Array Keyed) (i k : Nat) : (a.extract i (i + k)).toList = (a.toList.drop i).take k := by
 rw [Array.toList_extract]
 simp [List.extract]
variable {kf}
theorem mem_drop_key {a : Array Keyed} (ha : KeysUp kf a) {i : Nat} {q : Keyed} (hq : q ∈ a.toList.drop i) {p : Keyed} (hp : a[i]? = some p) : O.kle (kf p) (kf q) := by
 obtain ⟨j, hj⟩ := List.getElem?_of_mem hq
 rw [List.getElem?_drop] at hj
 exact ha i (i + j) p q (by (first | lia | omega)) hp (by rw [<- hj]; simp)
theorem up_append {l m : List Keyed} (hl : Up kf l) (hm : Up kf m) (h : ∀ p ∈ l, ∀ q ∈ m, O.kle (kf p) (kf q)) : Up kf (l ++ m) := List.pairwise_append.mpr ⟨hl, hm, h⟩
theorem up_drop {a : Array Keyed} (ha : KeysUp kf a) (i : Nat) : Up kf (a.toList.drop i) := (ha.up).sublist (List.drop_sublist _ _)
theorem Way.done {a b out : Array Keyed} {ia : Nat} (ha : KeysUp kf a) (w : Way kf a b out ia b.size) : Res kf a b (out ++ a.extract ia a.size ++ b.extract b.size b.size) := by
 have e : (out ++ a.extract ia a.size ++ b.extract b.size b.size).toList = out.toList ++ a.toList.drop ia := by
  rw [Array.toList_append, Array.toList_append, ext_list, ext_list]
  simp
 refine ⟨?_, ?_⟩
 ·rw [e]
  have hp := w.perm
  rw [List.take_of_length_le (by simp : b.toList.length <= b.size)] at hp
  refine (hp.append_right _).trans ?_
  rw [List.append_assoc]
  refine (List.Perm.append_left _ List.perm_append_comm).trans ?_
  rw [<- List.append_assoc, List.take_append_drop]
 ·rw [e]
  refine up_append w.up (up_drop ha ia) fun p hp q hq => ?_
  obtain ⟨j, hj⟩ := List.getElem?_of_mem hq
  rw [List.getElem?_drop] at hj
  have hlt : ia < a.size := by
   have := (List.getElem?_eq_some_iff.mp hj).1
   simp at this
   (first | lia | omega)
  have h0 : a[ia]? = some a[ia] := Array.getElem?_eq_getElem hlt
  exact KeyOrd.kle_trans (w.la p hp _ h0) (mem_drop_key ha hq h0)
theorem Way.last {a b out : Array Keyed} {ia ib : Nat} (ha : KeysUp kf a) (hb : KeysUp kf b) (w : Way kf a b out ia ib) (h1 : ia + 1 = a.size) (hib : ib < b.size) (hl : ∀ p q, a[ia]? = some p -> q ∈ b.toList -> O.kle (kf q) (kf p)) :
  Res kf a b (out ++ b.extract ib b.size ++ a.extract ia a.size) := by
 have e : (out ++ b.extract ib b.size ++ a.extract ia a.size).toList = out.toList ++ (b.toList.drop ib ++ a.toList.drop ia) := by
  rw [Array.toList_append, Array.toList_append, ext_list, ext_list, List.append_assoc]
 have h0 : a[ia]? = some a[ia] := Array.getElem?_eq_getElem (by (first | lia | omega))
 have hb0 : b[ib]? = some b[ib] := Array.getElem?_eq_getElem hib
 refine ⟨?_, ?_⟩
 ·rw [e]
  refine (w.perm.append_right _).trans ?_
  rw [List.append_assoc]
  have p1 : (b.toList.take ib ++ (b.toList.drop ib ++ a.toList.drop ia)).Perm (a.toList.drop ia ++ b.toList) := by
   rw [<- List.append_assoc, List.take_append_drop]
   exact List.perm_append_comm
  refine (List.Perm.append_left _ p1).trans ?_
  rw [<- List.append_assoc, List.take_append_drop]
 ·rw [e]
  refine up_append w.up (up_append (up_drop hb ib) (up_drop ha ia) fun p hp q hq => ?_) fun p hp q hq => ?_
  ·have := mem_drop_key ha hq h0
   exact KeyOrd.kle_trans (hl _ p h0 (List.mem_of_mem_drop hp)) this
  ·rcases List.mem_append.mp hq with h | h
   ·exact KeyOrd.kle_trans (w.lb p hp _ hb0) (mem_drop_key hb h hb0)
   ·exact KeyOrd.kle_trans (w.la p hp _ h0) (mem_drop_key ha h h0)
theorem take_succ_at {a : Array Keyed} {i : Nat} {p : Keyed} (h : a[i]? = some p) : a.toList.take (i + 1) = a.toList.take i ++ [p] := by
 rw [List.take_succ]
 have : a.toList[i]? = some p := by rw [<- h]; simp
 rw [this]
 rfl
theorem Way.pushB {a b out : Array Keyed} {ia ib : Nat} {p : Keyed} (hb : KeysUp kf b) (w : Way kf a b out ia ib) (hp : b[ib]? = some p) (h : ∀ q, a[ia]? = some q -> O.kle (kf p) (kf q)) : Way kf a b (out.push p) ia (ib + 1) := by
 refine ⟨?_, ?_, fun x hx q hq => ?_, fun x hx q hq => ?_⟩
 ·rw [Array.toList_push, take_succ_at hp, <- List.append_assoc]
  exact w.perm.append_right _
 ·rw [Array.toList_push]
  refine up_append w.up (List.pairwise_singleton _ _) fun x hx y hy => ?_
  rw [List.mem_singleton.mp hy]
  exact w.lb x hx p hp
 ·rw [Array.toList_push] at hx
  rcases List.mem_append.mp hx with h' | h'
  ·exact w.la x h' q hq
  ·rw [List.mem_singleton.mp h']
   exact h q hq
 ·rw [Array.toList_push] at hx
  rcases List.mem_append.mp hx with h' | h'
  ·exact KeyOrd.kle_trans (w.lb x h' p hp) (hb ib (ib + 1) p q (by (first | lia | omega)) hp hq)
  ·rw [List.mem_singleton.mp h']
   exact hb ib (ib + 1) p q (by (first | lia | omega)) hp hq
theorem Way.pushA {a b out : Array Keyed} {ia ib : Nat} {p : Keyed} (ha : KeysUp kf a) (w : Way kf a b out ia ib) (hp : a[ia]? = some p) (h : ∀ q, b[ib]? = some q -> O.kle (kf p) (kf q)) : Way kf a b (out.push p) (ia + 1) ib := by
 refine ⟨?_, ?_, fun x hx q hq => ?_, fun x hx q hq => ?_⟩
 ·rw [Array.toList_push, take_succ_at hp, List.append_assoc]
  refine (w.perm.append_right _).trans ?_
  rw [List.append_assoc]
  exact List.Perm.append_left _ List.perm_append_comm
 ·rw [Array.toList_push]
  refine up_append w.up (List.pairwise_singleton _ _) fun x hx y hy => ?_
  rw [List.mem_singleton.mp hy]
  exact w.la x hx p hp
 ·rw [Array.toList_push] at hx
  rcases List.mem_append.mp hx with h' | h'
  ·exact KeyOrd.kle_trans (w.la x h' p hp) (ha ia (ia + 1) p q (by (first | lia | omega)) hp hq)
  ·rw [List.mem_singleton.mp h']
   exact ha ia (ia + 1) p q (by (first | lia | omega)) hp hq
 ·rw [Array.toList_push] at hx
  rcases List.mem_append.mp hx with h' | h'
  ·exact w.lb x h' q hq
  ·rw [List.mem_singleton.mp h']
   exact h q hq
theorem Way.manyA {a b : Array Keyed} {ia ib : Nat} (ha : KeysUp kf a) : ∀ {k : Nat} {out : Array Keyed}, Way kf a b out ia ib -> ia + k <= a.size -> (∀ i p q, i < k -> a[ia + i]? = some p -> b[ib]? = some q -> O.kle (kf p) (kf q)) -> Way kf a b (out ++ a.extract ia (ia + k)) (ia + k) ib
 | 0, out, w, _, _ => by
  have e : out ++ a.extract ia (ia + 0) = out := by simp; (first | lia | omega)
  rw [e]
  exact w
 | k + 1, out, w, hk, h => by
  have ih := Way.manyA ha (k := k) w (by (first | lia | omega)) fun i p q hi => h i p q (by (first | lia | omega))
  have h0 : a[ia + k]? = some a[ia + k] := Array.getElem?_eq_getElem (by (first | lia | omega))
  have := ih.pushA ha h0 fun q hq => h k _ q (by (first | lia | omega)) h0 hq
  have e : (out ++ a.extract ia (ia + k)).push a[ia + k] = out ++ a.extract ia (ia + (k + 1)) := by
   apply Array.ext'
   rw [Array.toList_push, Array.toList_append, Array.toList_append, ext_mid, ext_mid, List.take_succ, List.append_assoc]
   congr 1
   rw [List.getElem?_drop]
   have : a.toList[ia + k]? = some a[ia + k] := by rw [<- h0]; simp
   rw [this]
   rfl
  rw [e] at this
  exact this
theorem Way.manyB {a b : Array Keyed} {ia ib : Nat} (hb : KeysUp kf b) : ∀ {k : Nat} {out : Array Keyed}, Way kf a b out ia ib -> ib + k <= b.size -> (∀ i p q, i < k -> b[ib + i]? = some p -> a[ia]? = some q -> O.kle (kf p) (kf q)) -> Way kf a b (out ++ b.extract ib (ib + k)) ia (ib + k)
 | 0, out, w, _, _ => by
  have e : out ++ b.extract ib (ib + 0) = out := by simp; (first | lia | omega)
  rw [e]
  exact w
 | k + 1, out, w, hk, h => by
  have ih := Way.manyB hb (k := k) w (by (first | lia | omega)) fun i p q hi => h i p q (by (first | lia | omega))
  have h0 : b[ib + k]? = some b[ib + k] := Array.getElem?_eq_getElem (by (first | lia | omega))
  have := ih.pushB hb h0 fun q hq => h k _ q (by (first | lia | omega)) h0 hq
  have e : (out ++ b.extract ib (ib + k)).push b[ib + k] = out ++ b.extract ib (ib + (k + 1)) := by
   apply Array.ext'
   rw [Array.toList_push, Array.toList_append, Array.toList_append, ext_mid, ext_mid, List.take_succ, List.append_assoc]
   congr 1
   rw [List.getElem?_drop]
   have : b.toList[ib + k]? = some b[ib + k] := by rw [<- h0]; simp
   rw [this]
   rfl
  rw [e] at this
  exact this
end
end Srt
namespace Srt
open PySem PyProof.Rows
section
variable {M : Model} {A : Around} {E : Value -> Shared -> Prop} {s : Shared}
structure Cmp (M : Model) (A : Around) (E : Value -> Shared -> Prop) (s : Shared) (kd : SortKind) (O : KeyOrd) (kf : Keyed -> O.α) (okk : Keyed -> Prop) : Prop where
 lt : ∀ (x y : Keyed) (st : SortSt) (Q : Option Bool -> SortSt -> Prop), okk x -> okk y -> kindOf st = kd -> Q (some (O.blt (kf x) (kf y))) st -> wpS M A E s (lt' x y) Q st
theorem wpS_elem {arr : Array Keyed} {i : Nat} {p : Keyed} {st : SortSt} {Q : Keyed -> SortSt -> Prop} (h : arr[i]? = some p) (q : Q p st) : wpS M A E s (elem' arr i) Q st := by
 rw [elem'_eq, h]
 exact wpS_pure q
variable {O : KeyOrd} {kf : Keyed -> O.α} {okk : Keyed -> Prop} {kd : SortKind}
noncomputable def RunUp (kf : Keyed -> O.α) (a : Array Keyed) (lo hi : Nat) : Prop := ∀ (i j : Nat) (p q : Keyed), lo <= i -> i <= j -> j < hi -> a[i]? = some p -> a[j]? = some q -> O.kle (kf p) (kf q)
theorem KeysUp.run {a : Array Keyed} (h : KeysUp kf a) (lo hi : Nat) : RunUp kf a lo hi := fun i j p q _ h2 _ => h i j p q h2
theorem gallopR0 (C : Cmp M A E s kd O kf okk) {st : SortSt} (hk : kindOf st = kd) {key : Keyed} {arr : Array Keyed} {base n hint : Nat} {Q : Option Nat -> SortSt -> Prop} (ok : ∀ p ∈ arr.toList, okk p) (okq : okk key) (ha : RunUp kf arr base (base + n)) (hn : base + n <= arr.size) (hh : hint < n)
  (h : ∀ k, k <= n -> (∀ i p, i < k -> arr[base + i]? = some p -> O.kle (kf p) (kf key)) -> (∀ i p, k <= i -> i < n -> arr[base + i]? = some p -> O.klt (kf key) (kf p)) -> Q (some k) st) : wpS M A E s (gallop' false key arr base n hint) Q st := by
 have at_ : ∀ i, i < n -> ∃ p, arr[base + i]? = some p := fun i hi => ⟨arr[base + i], Array.getElem?_eq_getElem (by (first | lia | omega))⟩
 have mem : ∀ {i : Nat} {p : Keyed}, arr[i]? = some p -> p ∈ arr.toList := fun {i p} h => List.mem_of_getElem? (i := i) (by rw [<- h]; simp)
 refine wpS_gallop (B := fun i => match arr[base + i]? with | some p => !O.blt (kf key) (kf p) | none => false) (fun i Q' hi q => ?_) (fun i j hij hj hB => ?_) hh fun k hk1 h1 h2 => ?_
 ·obtain ⟨p, hp⟩ := at_ i hi
  try dsimp only at q
  rw [hp] at q
  refine wpS_bind (wpS_elem hp ?_)
  rw [if_neg (by decide)]
  refine wpS_bind (C.lt key p st _ okq (ok p (mem hp)) hk ?_)
  exact wpS_pure q
 ·obtain ⟨p, hp⟩ := at_ i (by (first | lia | omega))
  obtain ⟨p', hp'⟩ := at_ j hj
  try dsimp only at hB ⊢
  rw [hp'] at hB
  rw [hp]
  have hB : O.blt (kf key) (kf p') = false := by simpa using hB
  have := KeyOrd.kle_trans (ha (base + i) (base + j) p p' (by (first | lia | omega)) (by (first | lia | omega)) (by (first | lia | omega)) hp hp') hB
  show (!O.blt (kf key) (kf p)) = true
  rw [show O.blt (kf key) (kf p) = false from this]
  rfl
 ·refine h k hk1 (fun i p hi hp => ?_) fun i p h3 h4 hp => ?_
  ·have := h1 i hi
   try dsimp only at this
   rw [hp] at this
   show O.blt (kf key) (kf p) = false
   simpa using this
  ·have := h2 i h3 h4
   try dsimp only at this
   rw [hp] at this
   show O.blt (kf key) (kf p) = true
   simpa using this
theorem gallopL0 (C : Cmp M A E s kd O kf okk) {st : SortSt} (hk : kindOf st = kd) {key : Keyed} {arr : Array Keyed} {base n hint : Nat} {Q : Option Nat -> SortSt -> Prop} (ok : ∀ p ∈ arr.toList, okk p) (okq : okk key) (ha : RunUp kf arr base (base + n)) (hn : base + n <= arr.size) (hh : hint < n)
  (h : ∀ k, k <= n -> (∀ i p, i < k -> arr[base + i]? = some p -> O.klt (kf p) (kf key)) -> (∀ i p, k <= i -> i < n -> arr[base + i]? = some p -> O.kle (kf key) (kf p)) -> Q (some k) st) : wpS M A E s (gallop' true key arr base n hint) Q st := by
 have at_ : ∀ i, i < n -> ∃ p, arr[base + i]? = some p := fun i hi => ⟨arr[base + i], Array.getElem?_eq_getElem (by (first | lia | omega))⟩
 have mem : ∀ {i : Nat} {p : Keyed}, arr[i]? = some p -> p ∈ arr.toList := fun {i p} h => List.mem_of_getElem? (i := i) (by rw [<- h]; simp)
 refine wpS_gallop (B := fun i => match arr[base + i]? with | some p => O.blt (kf p) (kf key) | none => false) (fun i Q' hi q => ?_) (fun i j hij hj hB => ?_) hh fun k hk1 h1 h2 => ?_
 ·obtain ⟨p, hp⟩ := at_ i hi
  try dsimp only at q
  rw [hp] at q
  refine wpS_bind (wpS_elem hp ?_)
  rw [if_pos rfl]
  exact C.lt p key st _ (ok p (mem hp)) okq hk q
 ·obtain ⟨p, hp⟩ := at_ i (by (first | lia | omega))
  obtain ⟨p', hp'⟩ := at_ j hj
  try dsimp only at hB ⊢
  rw [hp'] at hB
  rw [hp]
  exact KeyOrd.klt_of_kle_of_klt (ha (base + i) (base + j) p p' (by (first | lia | omega)) (by (first | lia | omega)) (by (first | lia | omega)) hp hp') hB
 ·refine h k hk1 (fun i p hi hp => ?_) fun i p h3 h4 hp => ?_
  ·have := h1 i hi
   try dsimp only at this
   rw [hp] at this
   exact this
  ·have := h2 i h3 h4
   try dsimp only at this
   rw [hp] at this
   exact this
theorem gallopR (C : Cmp M A E s kd O kf okk) {st : SortSt} (hk : kindOf st = kd) {key : Keyed} {arr : Array Keyed} {base n hint : Nat} {Q : Option Nat -> SortSt -> Prop} (ok : ∀ p ∈ arr.toList, okk p) (okq : okk key) (ha : KeysUp kf arr) (hn : base + n <= arr.size) (hh : hint < n)
  (h : ∀ k, k <= n -> (∀ i p, i < k -> arr[base + i]? = some p -> O.kle (kf p) (kf key)) -> (∀ i p, k <= i -> i < n -> arr[base + i]? = some p -> O.klt (kf key) (kf p)) -> Q (some k) st) : wpS M A E s (gallop' false key arr base n hint) Q st := gallopR0 C hk ok okq (ha.run _ _) hn hh h
theorem gallopL (C : Cmp M A E s kd O kf okk) {st : SortSt} (hk : kindOf st = kd) {key : Keyed} {arr : Array Keyed} {base n hint : Nat} {Q : Option Nat -> SortSt -> Prop} (ok : ∀ p ∈ arr.toList, okk p) (okq : okk key) (ha : KeysUp kf arr) (hn : base + n <= arr.size) (hh : hint < n)
  (h : ∀ k, k <= n -> (∀ i p, i < k -> arr[base + i]? = some p -> O.klt (kf p) (kf key)) -> (∀ i p, k <= i -> i < n -> arr[base + i]? = some p -> O.kle (kf key) (kf p)) -> Q (some k) st) : wpS M A E s (gallop' true key arr base n hint) Q st := gallopL0 C hk ok okq (ha.run _ _) hn hh h
end
end Srt
namespace Srt
open PySem PyProof.Rows
section
variable {M : Model} {A : Around} {E : Value -> Shared -> Prop} {s : Shared}
variable {O : KeyOrd} {kf : Keyed -> O.α} {okk : Keyed -> Prop} {kd : SortKind}
theorem Way.done' {a b out : Array Keyed} {ia ib : Nat} (w : Way kf a b out ia ib) (ha : KeysUp kf a) (e : ib = b.size) : Res kf a b (out ++ a.extract ia a.size ++ b.extract ib b.size) := by
 subst e
 exact w.done ha
theorem wpS_ite_jp {τ α : Type} {c : Prop} [Decidable c] {y : Nat} {Q : α -> τ -> Prop} {st : τ} {G : Nat -> StateT τ Sem α} (k : ∀ g3, wpS M A E s (G g3) Q st) : ∀ u, wpS M A E s (if c then G u else G y) Q st := fun u => by
 split
 ·exact k _
 ·exact k _
theorem wpS_ite_jp2 {τ α : Type} {c : Prop} [Decidable c] {d e : Nat -> Prop} [∀ i, Decidable (d i)] [∀ i, Decidable (e i)] {X Y J : Array Keyed -> Nat -> StateT τ Sem α} {i0 : Nat} {o0 : Array Keyed} {P : Nat -> Array Keyed -> Prop} {C : Array Keyed -> Nat -> Prop} {Q : α -> τ -> Prop} {st : τ}
  (hX : ∀ i o, P i o -> c -> d i -> wpS M A E s (X o i) Q st) (hY : ∀ i o, P i o -> ¬ d i -> ¬ e i) (h1 : ∀ i o, P i o -> ¬ d i -> C o i) (h0 : ¬ c -> C o0 i0) (k : ∀ o i, C o i -> wpS M A E s (J o i) Q st) :
  ∀ i1 o1, P i1 o1 -> wpS M A E s (if c then if d i1 then X o1 i1 else if e i1 then Y o1 i1 else J o1 i1 else J o0 i0) Q st := fun i1 o1 hP => by
 by_cases hc : c
 ·rw [if_pos hc]
  by_cases hd : d i1
  ·rw [if_pos hd]
   exact hX i1 o1 hP hc hd
  ·rw [if_neg hd, if_neg (hY i1 o1 hP hd)]
   exact k _ _ (h1 i1 o1 hP hd)
 ·rw [if_neg hc]
  exact k _ _ (h0 hc)
theorem wpS_ite_jp3 {τ α : Type} {c : Prop} [Decidable c] {d : Nat -> Prop} [∀ i, Decidable (d i)] {X J : Array Keyed -> Nat -> StateT τ Sem α} {i0 : Nat} {o0 : Array Keyed} {P : Nat -> Array Keyed -> Prop} {C : Array Keyed -> Nat -> Prop} {Q : α -> τ -> Prop} {st : τ}
  (hX : ∀ i o, P i o -> c -> d i -> wpS M A E s (X o i) Q st) (h1 : ∀ i o, P i o -> ¬ d i -> C o i) (h0 : ¬ c -> C o0 i0) (k : ∀ o i, C o i -> wpS M A E s (J o i) Q st) :
  ∀ i1 o1, P i1 o1 -> wpS M A E s (if c then if d i1 then X o1 i1 else J o1 i1 else J o0 i0) Q st := fun i1 o1 hP => by
 by_cases hc : c
 ·rw [if_pos hc]
  by_cases hd : d i1
  ·rw [if_pos hd]
   exact hX i1 o1 hP hc hd
  ·rw [if_neg hd]
   exact k _ _ (h1 i1 o1 hP hd)
 ·rw [if_neg hc]
  exact k _ _ (h0 hc)
set_option maxHeartbeats 4000000 in
theorem wpS_mergeLo (C : Cmp M A E s kd O kf okk) {st : SortSt} (hk : kindOf st = kd) {a b : Array Keyed} {Q : Array Keyed -> SortSt -> Prop} (oka : ∀ p ∈ a.toList, okk p) (okb : ∀ p ∈ b.toList, okk p) (ha : KeysUp kf a) (hb : KeysUp kf b) (na : 0 < a.size) (nb : 0 < b.size)
  (h0 : ∀ p q, b[0]? = some p -> a[0]? = some q -> O.kle (kf p) (kf q)) (hl : ∀ p q, a[a.size - 1]? = some p -> q ∈ b.toList -> O.klt (kf q) (kf p))
  (h : ∀ r g, Res kf a b r -> Q r (withG st g)) : wpS M A E s (mergeLo' a b) Q st := by
 unfold mergeLo'
 have hb0 : b[0]? = some b[0] := Array.getElem?_eq_getElem nb
 refine wpS_bind (wpS_lift (wpAny_rule ⟨rfl, ?_⟩))
 try dsimp only
 refine wpS_bind (wpS_elem hb0 ?_)
 try dsimp only
 have hz : withG st (gallopOf st) = st := rfl
 have w0 : Way kf a b #[b[0]] 0 1 := by
  have e : Way kf a b #[] 0 0 := ⟨by simp, List.Pairwise.nil, fun p hp => by simp at hp, fun p hp => by simp at hp⟩
  exact e.pushB hb hb0 fun q hq => h0 _ q hb0 hq
 by_cases e1 : (1 == b.size) = true
 ·rw [if_pos e1]
  have e1' : 1 = b.size := by simpa using e1
  rw [e1'] at w0
  have := h _ (gallopOf st) (w0.done ha)
  rw [hz, <- e1'] at this
  rw [<- e1']
  exact wpS_pure this
 rw [if_neg e1]
 have e1' : 1 ≠ b.size := by simpa using e1
 by_cases e2 : (0 + 1 == a.size) = true
 ·rw [if_pos e2]
  have e2' : 0 + 1 = a.size := by simpa using e2
  have := h _ (gallopOf st) (w0.last ha hb e2' (by (first | lia | omega)) fun p q hp hq => KeyOrd.kle_of_klt (hl p q (by rw [<- e2']; exact hp) hq))
  rw [hz] at this
  exact wpS_pure this
 rw [if_neg e2]
 have e2' : 0 + 1 ≠ a.size := by simpa using e2
 refine wpS_bind (wpS_get ?_)
 try dsimp only
 have hlast : ∀ {out : Array Keyed} {ia ib : Nat}, Way kf a b out ia ib -> ia + 1 = a.size -> ib < b.size -> Res kf a b (out ++ b.extract ib b.size ++ a.extract ia a.size) := fun w e hi => w.last ha hb e hi fun p q hp hq => KeyOrd.kle_of_klt (hl p q (by rw [<- e]; exact hp) hq)
 have mema : ∀ {i : Nat} {p : Keyed}, a[i]? = some p -> okk p := fun {i p} h => oka p (List.mem_of_getElem? (i := i) (by rw [<- h]; simp))
 have memb : ∀ {i : Nat} {p : Keyed}, b[i]? = some p -> okk p := fun {i p} h => okb p (List.mem_of_getElem? (i := i) (by rw [<- h]; simp))
 refine wpS_bind (wpS_mono (wpS_forRange (I := fun x c st' => (∃ g0, st' = withG st g0) /\ ∃ out ia ib g, c = (none, out, ia, ib, g) /\ Way kf a b out ia ib /\ ia + 1 < a.size /\ ib < b.size /\ x + 1 <= ia + ib)
  (Q := fun c st' => (∃ g0, st' = withG st g0) /\ ∃ r, c.1 = some r /\ Res kf a b r) ?step ?fin ⟨⟨_, hz.symm⟩, _, _, _, _, rfl, w0, by (first | lia | omega), by (first | lia | omega), by (first | lia | omega)⟩) ?post)
 case fin =>
  rintro c st' ⟨_, out, ia, ib, g, rfl, w, h1, h2, h3⟩
  rw [Nat.max_eq_right (Nat.zero_le _)] at h3
  (first | lia | omega)
 case post =>
  rintro ⟨c1, c2⟩ st' ⟨⟨g0, rfl⟩, r, hc, hr⟩
  dsimp only at hc
  subst hc
  exact wpS_pure (h r g0 hr)
 case step =>
  rintro x c st' _ hx ⟨⟨g0, rfl⟩, out0, ia0, ib0, g, rfl, w00, h10, h20, h30⟩
  dsimp only
  refine wpS_bind (wpS_mono (wpS_forRange (I := fun y c st'' => st'' = withG st g0 /\ ∃ out ia ib ac bc, c = (none, out, ia, ib, ac, bc) /\ Way kf a b out ia ib /\ ia + 1 < a.size /\ ib < b.size /\ y + (ia0 + ib0) <= ia + ib)
   (Q := fun c st'' => st'' = withG st g0 /\ ((∃ r, c.1 = some r /\ Res kf a b r) ∨ ∃ out ia ib ac bc, c = (none, out, ia, ib, ac, bc) /\ Way kf a b out ia ib /\ ia + 1 < a.size /\ ib < b.size /\ ia0 + ib0 + 1 <= ia + ib)) ?step1 ?fin1 ⟨rfl, _, _, _, _, _, rfl, w00, h10, h20, by (first | lia | omega)⟩) ?post1)
  case fin1 =>
   rintro c st' ⟨rfl, out, ia, ib, ac, bc, rfl, w, h1, h2, h3⟩
   rw [Nat.max_eq_right (Nat.zero_le _)] at h3
   exact ⟨rfl, .inr ⟨_, _, _, _, _, rfl, w, h1, h2, by (first | lia | omega)⟩⟩
  case step1 =>
   rintro y c st' _ hy ⟨rfl, out, ia, ib, ac, bc, rfl, w, h1, h2, h3⟩
   dsimp only
   have hpb : b[ib]? = some b[ib] := Array.getElem?_eq_getElem h2
   have hpa : a[ia]? = some a[ia] := Array.getElem?_eq_getElem (by (first | lia | omega))
   refine wpS_bind (wpS_elem hpb ?_)
   refine wpS_bind (wpS_elem hpa ?_)
   refine wpS_bind (C.lt _ _ _ _ (memb hpb) (mema hpa) hk ?_)
   dsimp only
   cases hbl : O.blt (kf b[ib]) (kf a[ia]) with
   | true =>
    rw [if_pos rfl]
    refine wpS_bind (wpS_elem hpb ?_)
    have w' := w.pushB hb hpb fun q hq => by
     rw [hpa] at hq
     cases hq
     exact KeyOrd.kle_of_klt hbl
    by_cases e : (ib + 1 == b.size) = true
    ·rw [if_pos e]
     have e' : ib + 1 = b.size := by simpa using e
     have := (e' ▸ w' : Way kf a b _ ia b.size).done ha
     rw [<- e'] at this
     refine wpS_pure ⟨rfl, .inl ⟨_, rfl, ?_⟩⟩
     rw [<- e']
     exact this
    ·rw [if_neg e]
     have e' : ib + 1 ≠ b.size := by simpa using e
     by_cases e3 : bc + 1 ≥ g
     ·rw [if_pos e3]
      exact wpS_pure ⟨rfl, .inr ⟨_, _, _, _, _, rfl, w', h1, by (first | lia | omega), by (first | lia | omega)⟩⟩
     ·rw [if_neg e3]
      exact wpS_pure ⟨rfl, _, _, _, _, _, rfl, w', h1, by (first | lia | omega), by (first | lia | omega)⟩
   | false =>
    rw [if_neg (by decide)]
    refine wpS_bind (wpS_elem hpa ?_)
    have w' := w.pushA ha hpa fun q hq => by
     rw [hpb] at hq
     cases hq
     exact hbl
    by_cases e : (ia + 1 + 1 == a.size) = true
    ·rw [if_pos e]
     have e' : ia + 1 + 1 = a.size := by simpa using e
     exact wpS_pure ⟨rfl, .inl ⟨_, rfl, hlast w' e' h2⟩⟩
    ·rw [if_neg e]
     have e' : ia + 1 + 1 ≠ a.size := by simpa using e
     by_cases e3 : ac + 1 ≥ g
     ·rw [if_pos e3]
      exact wpS_pure ⟨rfl, .inr ⟨_, _, _, _, _, rfl, w', by (first | lia | omega), h2, by (first | lia | omega)⟩⟩
     ·rw [if_neg e3]
      exact wpS_pure ⟨rfl, _, _, _, _, _, rfl, w', by (first | lia | omega), h2, by (first | lia | omega)⟩
  case post1 =>
   rintro c st' ⟨rfl, ⟨r, hc, hr⟩ | ⟨out1, ia1, ib1, ac, bc, rfl, w1, h11, h21, h31⟩⟩
   ·obtain ⟨c1, c2⟩ := c
    dsimp only at hc
    subst hc
    exact wpS_pure ⟨⟨_, rfl⟩, _, rfl, hr⟩
   ·dsimp only
    refine wpS_bind (wpS_lift (wpAny_rule ⟨rfl, ?_⟩))
    refine wpS_bind (wpS_mono (wpS_forRange (I := fun y c st'' => (∃ g1, st'' = withG st g1) /\ ∃ out ia ib g ac bc, c = (none, out, ia, ib, g, ac, bc) /\ Way kf a b out ia ib /\ ia + 1 < a.size /\ ib < b.size /\ ia0 + ib0 + 1 <= ia + ib)
     (Q := fun c st'' => (∃ g1, st'' = withG st g1) /\ ((∃ r, c.1 = some r /\ Res kf a b r) ∨ ∃ out ia ib g ac bc, c = (none, out, ia, ib, g, ac, bc) /\ Way kf a b out ia ib /\ ia + 1 < a.size /\ ib < b.size /\ ia0 + ib0 + 1 <= ia + ib)) ?step2 ?fin2 ⟨⟨_, rfl⟩, _, _, _, _, _, _, rfl, w1, h11, h21, h31⟩) ?post2)
    case fin2 =>
     rintro c st' ⟨hg, hc⟩
     exact ⟨hg, .inr hc⟩
    case post2 =>
     rintro c st' ⟨⟨g1, rfl⟩, ⟨r, hc, hr⟩ | ⟨out2, ia2, ib2, g2, ac2, bc2, rfl, w2, h12, h22, h32⟩⟩
     ·obtain ⟨c1, c2⟩ := c
      dsimp only at hc
      subst hc
      exact wpS_pure ⟨⟨_, rfl⟩, _, rfl, hr⟩
     ·dsimp only
      refine wpS_bind (wpS_modify ?_)
      exact wpS_pure ⟨⟨_, rfl⟩, _, _, _, _, rfl, w2, h12, h22, by (first | lia | omega)⟩
    case step2 =>
     rintro y c st' _ hy ⟨⟨g1, rfl⟩, out, ia, ib, g', ac', bc', rfl, w, h1, h2, h3⟩
     dsimp only
     have hpb : b[ib]? = some b[ib] := Array.getElem?_eq_getElem h2
     generalize g' - 1 = u
     revert u
     refine wpS_ite_jp ?_
     intro g3
     refine wpS_bind (wpS_modify ?_)
     refine wpS_bind (wpS_elem hpb ?_)
     refine wpS_bind (gallopR C (st := withG st g3) hk oka (memb hpb) ha (by (first | lia | omega)) (by (first | lia | omega)) fun k hkn hle hgt => ?_)
     have kless : k < a.size - ia := by
      rcases Nat.lt_or_ge k (a.size - ia) with h' | h'
      ·exact h'
      ·exfalso
       have hz2 : a[a.size - 1]? = some a[a.size - 1] := Array.getElem?_eq_getElem (by (first | lia | omega))
       have := hle (a.size - ia - 1) a[a.size - 1] (by (first | lia | omega)) (by rw [show ia + (a.size - ia - 1) = a.size - 1 by (first | lia | omega)]; exact hz2)
       exact KeyOrd.not_klt_of_kle this (hl _ _ hz2 (List.mem_of_getElem? (i := ib) (by rw [<- hpb]; simp)))
     have wA := w.manyA ha (k := k) (by (first | lia | omega)) fun i p q hi hp hq => by
      rw [hpb] at hq
      cases hq
      exact hle i p hi hp
     have nx : ∀ q, a[ia + k]? = some q -> O.kle (kf b[ib]) (kf q) := fun q hq => KeyOrd.kle_of_klt (hgt k q (Nat.le_refl _) kless hq)
     dsimp only
     have hP : Way kf a b (out ++ a.extract ia (ia + k)) (ia + k) ib /\ (∀ q, a[ia + k]? = some q -> O.kle (kf b[ib]) (kf q)) /\ ia + k < a.size /\ ia <= ia + k := ⟨wA, nx, by (first | lia | omega), by (first | lia | omega)⟩
     have hC0 : Way kf a b out ia ib /\ (∀ q, a[ia]? = some q -> O.kle (kf b[ib]) (kf q)) ∨ k > 0 := by
      rcases Nat.eq_zero_or_pos k with z | z
      ·exact .inl ⟨w, fun q hq => KeyOrd.kle_of_klt (hgt 0 q (by (first | lia | omega)) (by (first | lia | omega)) hq)⟩
      ·exact .inr z
     clear wA nx
     revert hP
     generalize ia + k = i1
     generalize out ++ a.extract ia i1 = o1
     revert i1 o1
     refine wpS_ite_jp2 (C := fun o i => Way kf a b o i ib /\ (∀ q, a[i]? = some q -> O.kle (kf b[ib]) (kf q)) /\ i + 1 < a.size /\ ia <= i) (fun i1 o1 hP _ e4 => ?_) (fun i1 o1 hP _ => ?_) (fun i1 o1 hP e4 => ?_) (fun ek => ?_) ?_
     ·exact wpS_pure ⟨⟨_, rfl⟩, .inl ⟨_, rfl, hlast hP.1 (by simpa using e4) h2⟩⟩
     ·have := hP.2.2.1
      simp
      (first | lia | omega)
     ·have e4' : i1 + 1 ≠ a.size := by simpa using e4
      exact ⟨hP.1, hP.2.1, by have := hP.2.2.1; (first | lia | omega), hP.2.2.2⟩
     ·rcases hC0 with ⟨c1, c2⟩ | c
      ·exact ⟨c1, c2, h1, Nat.le_refl _⟩
      ·exact absurd c ek
     ·rintro o1 i1 ⟨wA, nx, hi1, hi2⟩
      refine wpS_bind (wpS_elem hpb ?_)
      have wB := wA.pushB hb hpb nx
      by_cases e5 : (ib + 1 == b.size) = true
      ·rw [if_pos e5]
       exact wpS_pure ⟨⟨_, rfl⟩, .inl ⟨_, rfl, wB.done' ha (by simpa using e5)⟩⟩
      rw [if_neg e5]
      have e5' : ib + 1 ≠ b.size := by simpa using e5
      have hpa : a[i1]? = some a[i1] := Array.getElem?_eq_getElem (by (first | lia | omega))
      obtain ⟨ax, hax⟩ : ∃ ax, ax = a[i1] := ⟨_, rfl⟩
      refine wpS_bind (wpS_elem hpa ?_)
      refine wpS_bind (gallopL C (st := withG st g3) hk okb (mema hpa) hb (by (first | lia | omega)) (by (first | lia | omega)) fun k1 hkn1 hlt1 hge1 => ?_)
      dsimp only
      have wC := wB.manyB hb (k := k1) (by (first | lia | omega)) fun i p q hi hp hq => by
       rw [hpa] at hq
       cases hq
       exact KeyOrd.kle_of_klt (hlt1 i p hi hp)
      have hC0 : (∀ q, b[ib + 1]? = some q -> O.kle (kf ax) (kf q)) ∨ k1 > 0 := by
       rcases Nat.eq_zero_or_pos k1 with z | z
       ·rw [hax]
        exact .inl fun q hq => hge1 0 q (by (first | lia | omega)) (by (first | lia | omega)) hq
       ·exact .inr z
      have hP : Way kf a b (o1.push b[ib] ++ b.extract (ib + 1) (ib + 1 + k1)) i1 (ib + 1 + k1) /\ (ib + 1 + k1 ≠ b.size -> ∀ q, b[ib + 1 + k1]? = some q -> O.kle (kf ax) (kf q)) /\ ib + 1 + k1 <= b.size /\ ib + 1 <= ib + 1 + k1 := ⟨wC, fun e6' q hq => by rw [hax]; exact hge1 k1 q (Nat.le_refl _) (by (first | lia | omega)) hq, by (first | lia | omega), by (first | lia | omega)⟩
      clear wC hlt1 hge1 hkn1
      revert hP
      generalize ib + 1 + k1 = j1
      generalize o1.push b[ib] ++ b.extract (ib + 1) j1 = o2
      revert j1 o2
      refine wpS_ite_jp3 (C := fun o j => Way kf a b o i1 j /\ (∀ q, b[j]? = some q -> O.kle (kf ax) (kf q)) /\ j < b.size /\ ib + 1 <= j) (fun j1 o2 hP _ e6 => ?_) (fun j1 o2 hP e6 => ?_) (fun ek1 => ?_) ?_
      ·exact wpS_pure ⟨⟨_, rfl⟩, .inl ⟨_, rfl, hP.1.done' ha (by simpa using e6)⟩⟩
      ·have e6' : j1 ≠ b.size := by simpa using e6
       exact ⟨hP.1, hP.2.1 e6', by have := hP.2.2.1; (first | lia | omega), hP.2.2.2⟩
      ·rcases hC0 with c1 | c
       ·exact ⟨wB, c1, by (first | lia | omega), Nat.le_refl _⟩
       ·exact absurd c ek1
      ·rintro o2 j1 ⟨wC, nx2, hj1, hj2⟩
       rw [hax] at nx2
       refine wpS_bind (wpS_elem hpa ?_)
       have wD := wC.pushA ha hpa nx2
       by_cases e7 : (i1 + 1 + 1 == a.size) = true
       ·rw [if_pos e7]
        exact wpS_pure ⟨⟨_, rfl⟩, .inl ⟨_, rfl, hlast wD (by simpa using e7) (by (first | lia | omega))⟩⟩
       rw [if_neg e7]
       have e7' : i1 + 1 + 1 ≠ a.size := by simpa using e7
       by_cases e8 : (decide (k < 7) && decide (k1 < 7)) = true
       ·rw [if_pos e8]
        exact wpS_pure ⟨⟨_, rfl⟩, .inr ⟨_, _, _, _, _, _, rfl, wD, by (first | lia | omega), by (first | lia | omega), by (first | lia | omega)⟩⟩
       ·rw [if_neg e8]
        exact wpS_pure ⟨⟨_, rfl⟩, _, _, _, _, _, _, rfl, wD, by (first | lia | omega), by (first | lia | omega), by (first | lia | omega)⟩
end
end Srt
namespace Srt
open PySem PyProof.Rows
section
variable {O : KeyOrd} (kf : Keyed -> O.α)
structure WayH (a b out : Array Keyed) (na nb : Nat) : Prop where
 perm : out.toList.reverse.Perm (a.toList.drop na ++ b.toList.drop nb)
 up : Up kf out.toList.reverse
 la : ∀ p ∈ out.toList, ∀ q ∈ a.toList.take na, O.kle (kf q) (kf p)
 lb : ∀ p ∈ out.toList, ∀ q ∈ b.toList.take nb, O.kle (kf q) (kf p)
variable {kf}
theorem ext_zero (a : Array Keyed) (i : Nat) : (a.extract 0 i).toList = a.toList.take i := by
 rw [Array.toList_extract]
 simp [List.extract]
theorem up_take {a : Array Keyed} (ha : KeysUp kf a) (i : Nat) : Up kf (a.toList.take i) := (ha.up).sublist (List.take_sublist _ _)
theorem take_le_drop {a : Array Keyed} (ha : KeysUp kf a) {i : Nat} {p q : Keyed} (hq : q ∈ a.toList.take i) (hp : p ∈ a.toList.drop i) : O.kle (kf q) (kf p) := by
 have h := ha.up
 rw [<- List.take_append_drop i a.toList] at h
 exact (List.pairwise_append.mp h).2.2 q hq p hp
theorem take_le_at {a : Array Keyed} (ha : KeysUp kf a) {i j : Nat} {p q : Keyed} (hq : q ∈ a.toList.take i) (hp : a[j]? = some p) (hij : i <= j + 1) : O.kle (kf q) (kf p) := by
 obtain ⟨m, hm⟩ := List.getElem?_of_mem hq
 have hlt : m < i := by
  have := (List.getElem?_eq_some_iff.mp hm).1
  rw [List.length_take] at this
  (first | lia | omega)
 rw [List.getElem?_take_of_lt hlt] at hm
 exact ha m j q p (by (first | lia | omega)) (by rw [<- hm]; simp) hp
theorem WayH.done {a b out : Array Keyed} {na nb : Nat} (w : WayH kf a b out na nb) (hb : KeysUp kf b) (e : na = 0) : Res kf a b (a.extract 0 na ++ b.extract 0 nb ++ out.reverse) := by
 subst e
 have e : (a.extract 0 0 ++ b.extract 0 nb ++ out.reverse).toList = b.toList.take nb ++ out.toList.reverse := by
  rw [Array.toList_append, Array.toList_append, ext_zero, ext_zero, Array.toList_reverse]
  simp
 refine ⟨?_, ?_⟩
 ·rw [e]
  refine (List.Perm.append_left _ w.perm).trans ?_
  rw [List.drop_zero, <- List.append_assoc]
  refine (List.Perm.append_right _ List.perm_append_comm).trans ?_
  rw [List.append_assoc, List.take_append_drop]
 ·rw [e]
  exact up_append (up_take hb nb) w.up fun p hp q hq => w.lb q (List.mem_reverse.mp hq) p hp
theorem WayH.first {a b out : Array Keyed} {na nb : Nat} (w : WayH kf a b out na nb) (ha : KeysUp kf a) (hb : KeysUp kf b) (h : ∀ p ∈ b.toList.take nb, ∀ q ∈ a.toList, O.kle (kf p) (kf q)) : Res kf a b (b.extract 0 nb ++ a.extract 0 na ++ out.reverse) := by
 have e : (b.extract 0 nb ++ a.extract 0 na ++ out.reverse).toList = b.toList.take nb ++ (a.toList.take na ++ out.toList.reverse) := by
  rw [Array.toList_append, Array.toList_append, ext_zero, ext_zero, Array.toList_reverse, List.append_assoc]
 refine ⟨?_, ?_⟩
 ·rw [e]
  refine (List.Perm.append_left _ (List.Perm.append_left _ w.perm)).trans ?_
  rw [<- List.append_assoc (a.toList.take na), List.take_append_drop, <- List.append_assoc]
  refine (List.Perm.append_right _ List.perm_append_comm).trans ?_
  rw [List.append_assoc, List.take_append_drop]
 ·rw [e]
  refine up_append (up_take hb nb) (up_append (up_take ha na) w.up fun p hp q hq => w.la q (List.mem_reverse.mp hq) p hp) fun p hp q hq => ?_
  rcases List.mem_append.mp hq with h' | h'
  ·exact h p hp q (List.mem_of_mem_take h')
  ·exact w.lb q (List.mem_reverse.mp h') p hp
theorem drop_mid (l : List Keyed) {i j : Nat} (h : i <= j) : (l.drop i).take (j - i) ++ l.drop j = l.drop i := by
 have := List.take_append_drop (j - i) (l.drop i)
 rw [List.drop_drop, show i + (j - i) = j by (first | lia | omega)] at this
 exact this
theorem WayH.addA {a b out out' : Array Keyed} {na na' nb : Nat} (w : WayH kf a b out na nb) (ha : KeysUp kf a) (hle : na' <= na) (e : out'.toList.reverse = (a.toList.drop na').take (na - na') ++ out.toList.reverse)
  (h : ∀ p ∈ (a.toList.drop na').take (na - na'), ∀ q ∈ b.toList.take nb, O.kle (kf q) (kf p)) : WayH kf a b out' na' nb := by
 have mid : ∀ p ∈ (a.toList.drop na').take (na - na'), p ∈ a.toList.take na := fun p hp => by
  rw [<- List.drop_take] at hp
  exact List.mem_of_mem_drop hp
 have spl : ∀ p ∈ out'.toList, p ∈ (a.toList.drop na').take (na - na') ∨ p ∈ out.toList := fun p hp => by
  have : p ∈ out'.toList.reverse := List.mem_reverse.mpr hp
  rw [e] at this
  exact (List.mem_append.mp this).imp id List.mem_reverse.mp
 refine ⟨?_, ?_, fun p hp q hq => ?_, fun p hp q hq => ?_⟩
 ·rw [e]
  refine (List.Perm.append_left _ w.perm).trans ?_
  rw [<- List.append_assoc, drop_mid _ hle]
 ·rw [e]
  refine up_append (ha.up.sublist ((List.take_sublist _ _).trans (List.drop_sublist _ _))) w.up fun p hp q hq => w.la q (List.mem_reverse.mp hq) p (mid p hp)
 ·rcases spl p hp with h' | h'
  ·exact take_le_drop ha hq (List.mem_of_mem_take h')
  ·refine w.la p h' q ?_
   rw [show na' = min na' na by (first | lia | omega), <- List.take_take] at hq
   exact List.mem_of_mem_take hq
 ·rcases spl p hp with h' | h'
  ·exact h p h' q hq
  ·exact w.lb p h' q hq
theorem WayH.flip {a b out : Array Keyed} {na nb : Nat} (w : WayH kf a b out na nb) : WayH kf b a out nb na := ⟨w.perm.trans List.perm_append_comm, w.up, w.lb, w.la⟩
theorem one_mid {a : Array Keyed} {n : Nat} {p : Keyed} (hp : a[n]? = some p) : (a.toList.drop n).take (n + 1 - n) = [p] := by
 have h1 : a.toList[n]? = some p := by rw [<- hp]; simp
 have h2 : n < a.toList.length := (List.getElem?_eq_some_iff.mp h1).1
 rw [show n + 1 - n = 1 by (first | lia | omega), List.drop_eq_getElem_cons h2, (List.getElem?_eq_some_iff.mp h1).2]
 rfl
theorem WayH.pushA {a b out : Array Keyed} {na nb : Nat} {p : Keyed} (w : WayH kf a b out na nb) (ha : KeysUp kf a) (h0 : 0 < na) (hp : a[na - 1]? = some p) (h : ∀ q ∈ b.toList.take nb, O.kle (kf q) (kf p)) : WayH kf a b (out.push p) (na - 1) nb := by
 have e := one_mid hp
 rw [show na - 1 + 1 = na by (first | lia | omega)] at e
 refine w.addA ha (by (first | lia | omega)) ?_ fun x hx q hq => ?_
 ·rw [e, Array.toList_push]
  simp
 ·rw [e] at hx
  rw [List.mem_singleton.mp hx]
  exact h q hq
theorem WayH.manyA {a b out : Array Keyed} {na n1 nb : Nat} (w : WayH kf a b out na nb) (ha : KeysUp kf a) (hle : n1 <= na) (h : ∀ i p, n1 <= i -> i < na -> a[i]? = some p -> ∀ q ∈ b.toList.take nb, O.kle (kf q) (kf p)) : WayH kf a b (out ++ (a.extract n1 na).reverse) n1 nb := by
 have e := ext_mid a n1 (na - n1)
 rw [show n1 + (na - n1) = na by (first | lia | omega)] at e
 refine w.addA ha hle ?_ fun x hx q hq => ?_
 ·rw [Array.toList_append, Array.toList_reverse, e]
  simp
 ·obtain ⟨m, hm⟩ := List.getElem?_of_mem hx
  have hlt : m < na - n1 := by
   have := (List.getElem?_eq_some_iff.mp hm).1
   rw [List.length_take] at this
   (first | lia | omega)
  rw [List.getElem?_take_of_lt hlt, List.getElem?_drop] at hm
  exact h (n1 + m) x (by (first | lia | omega)) (by (first | lia | omega)) (by rw [<- hm]; simp) q hq
end
end Srt
namespace Srt
open PySem PyProof.Rows
section
variable {M : Model} {A : Around} {E : Value -> Shared -> Prop} {s : Shared}
variable {O : KeyOrd} {kf : Keyed -> O.α} {okk : Keyed -> Prop} {kd : SortKind}
theorem at_take {a : Array Keyed} {i : Nat} {q : Keyed} (hq : q ∈ a.toList.take i) : ∃ m, m < i /\ a[m]? = some q := by
 obtain ⟨m, hm⟩ := List.getElem?_of_mem hq
 have hlt : m < i := by
  have := (List.getElem?_eq_some_iff.mp hm).1
  rw [List.length_take] at this
  (first | lia | omega)
 rw [List.getElem?_take_of_lt hlt] at hm
 exact ⟨m, hlt, by rw [<- hm]; simp⟩
set_option maxHeartbeats 4000000 in
theorem wpS_mergeHi (C : Cmp M A E s kd O kf okk) {st : SortSt} (hk : kindOf st = kd) {a b : Array Keyed} {Q : Array Keyed -> SortSt -> Prop} (oka : ∀ p ∈ a.toList, okk p) (okb : ∀ p ∈ b.toList, okk p) (ha : KeysUp kf a) (hb : KeysUp kf b) (na1 : 0 < a.size) (nb1 : 0 < b.size)
  (h0 : ∀ p q, b[0]? = some p -> a[0]? = some q -> O.klt (kf p) (kf q)) (hl : ∀ p q, a[a.size - 1]? = some p -> q ∈ b.toList -> O.klt (kf q) (kf p))
  (h : ∀ r g, Res kf a b r -> Q r (withG st g)) : wpS M A E s (mergeHi' a b) Q st := by
 unfold mergeHi'
 have hb0 : b[0]? = some b[0] := Array.getElem?_eq_getElem nb1
 have ha0 : a[0]? = some a[0] := Array.getElem?_eq_getElem na1
 have hal : a[a.size - 1]? = some a[a.size - 1] := Array.getElem?_eq_getElem (by (first | lia | omega))
 have hfirst : ∀ {out : Array Keyed} {na nb : Nat}, WayH kf a b out na nb -> nb = 1 -> Res kf a b (b.extract 0 nb ++ a.extract 0 na ++ out.reverse) := fun w e => w.first ha hb fun p hp q hq => by
  subst e
  have g1 := take_le_at hb hp hb0 (by (first | lia | omega))
  obtain ⟨m, hm⟩ := List.getElem?_of_mem hq
  exact KeyOrd.kle_trans g1 (KeyOrd.kle_trans (KeyOrd.kle_of_klt (h0 _ _ hb0 ha0)) (ha 0 m _ _ (by (first | lia | omega)) ha0 (by rw [<- hm]; simp)))
 have mema : ∀ {i : Nat} {p : Keyed}, a[i]? = some p -> okk p := fun {i p} h => oka p (List.mem_of_getElem? (i := i) (by rw [<- h]; simp))
 have memb : ∀ {i : Nat} {p : Keyed}, b[i]? = some p -> okk p := fun {i p} h => okb p (List.mem_of_getElem? (i := i) (by rw [<- h]; simp))
 have hz : withG st (gallopOf st) = st := rfl
 have w0 : WayH kf a b #[a[a.size - 1]] (a.size - 1) b.size := by
  have e : WayH kf a b #[] a.size b.size := ⟨by simp, List.Pairwise.nil, fun p hp => by simp at hp, fun p hp => by simp at hp⟩
  exact e.pushA ha na1 hal fun q hq => KeyOrd.kle_of_klt (hl _ q hal (List.mem_of_mem_take hq))
 refine wpS_bind (wpS_lift (wpAny_rule ⟨rfl, ?_⟩))
 try dsimp only
 refine wpS_bind (wpS_elem hal ?_)
 try dsimp only
 by_cases e1 : (a.size - 1 == 0) = true
 ·rw [if_pos e1]
  have := h _ (gallopOf st) (w0.done hb (by simpa using e1))
  rw [hz] at this
  exact wpS_pure this
 rw [if_neg e1]
 have e1' : a.size - 1 ≠ 0 := by simpa using e1
 by_cases e2 : (b.size == 1) = true
 ·rw [if_pos e2]
  have := h _ (gallopOf st) (hfirst w0 (by simpa using e2))
  rw [hz] at this
  exact wpS_pure this
 rw [if_neg e2]
 have e2' : b.size ≠ 1 := by simpa using e2
 refine wpS_bind (wpS_get ?_)
 try dsimp only
 refine wpS_bind (wpS_mono (wpS_forRange (I := fun x c st' => (∃ g0, st' = withG st g0) /\ ∃ out na nb g, c = (none, na, nb, out, g) /\ WayH kf a b out na nb /\ 1 <= na /\ 2 <= nb /\ na <= a.size /\ nb <= b.size /\ x + 1 + (na + nb) <= a.size + b.size)
  (Q := fun c st' => (∃ g0, st' = withG st g0) /\ ∃ r, c.1 = some r /\ Res kf a b r) ?step ?fin ⟨⟨_, hz.symm⟩, _, _, _, _, rfl, w0, by (first | lia | omega), by (first | lia | omega), by (first | lia | omega), by (first | lia | omega), by (first | lia | omega)⟩) ?post)
 case fin =>
  rintro c st' ⟨_, out, na, nb, g, rfl, w, h1, h2, h1', h2', h3⟩
  rw [Nat.max_eq_right (Nat.zero_le _)] at h3
  (first | lia | omega)
 case post =>
  rintro ⟨c1, c2⟩ st' ⟨⟨g0, rfl⟩, r, hc, hr⟩
  dsimp only at hc
  subst hc
  exact wpS_pure (h r g0 hr)
 case step =>
  rintro x c st' _ hx ⟨⟨g0, rfl⟩, out0, na0, nb0, g, rfl, w00, h10, h20, h10', h20', h30⟩
  dsimp only
  refine wpS_bind (wpS_mono (wpS_forRange (I := fun y c st'' => st'' = withG st g0 /\ ∃ out na nb ac bc, c = (none, na, nb, out, ac, bc) /\ WayH kf a b out na nb /\ 1 <= na /\ 2 <= nb /\ na <= a.size /\ nb <= b.size /\ y + (na + nb) <= na0 + nb0)
   (Q := fun c st'' => st'' = withG st g0 /\ ((∃ r, c.1 = some r /\ Res kf a b r) ∨ ∃ out na nb ac bc, c = (none, na, nb, out, ac, bc) /\ WayH kf a b out na nb /\ 1 <= na /\ 2 <= nb /\ na <= a.size /\ nb <= b.size /\ na + nb + 1 <= na0 + nb0)) ?step1 ?fin1 ⟨rfl, _, _, _, _, _, rfl, w00, h10, h20, h10', h20', by (first | lia | omega)⟩) ?post1)
  case fin1 =>
   rintro c st' ⟨rfl, out, na, nb, ac, bc, rfl, w, h1, h2, h1', h2', h3⟩
   rw [Nat.max_eq_right (Nat.zero_le _)] at h3
   exact ⟨rfl, .inr ⟨_, _, _, _, _, rfl, w, h1, h2, h1', h2', by (first | lia | omega)⟩⟩
  case step1 =>
   rintro y c st' _ hy ⟨rfl, out, na, nb, ac, bc, rfl, w, h1, h2, h1', h2', h3⟩
   dsimp only
   have hpb : b[nb - 1]? = some b[nb - 1] := Array.getElem?_eq_getElem (by (first | lia | omega))
   have hpa : a[na - 1]? = some a[na - 1] := Array.getElem?_eq_getElem (by (first | lia | omega))
   refine wpS_bind (wpS_elem hpb ?_)
   refine wpS_bind (wpS_elem hpa ?_)
   refine wpS_bind (C.lt _ _ _ _ (memb hpb) (mema hpa) hk ?_)
   dsimp only
   cases hbl : O.blt (kf b[nb - 1]) (kf a[na - 1]) with
   | true =>
    rw [if_pos rfl]
    refine wpS_bind (wpS_elem hpa ?_)
    have w' := w.pushA ha (by (first | lia | omega)) hpa fun q hq => KeyOrd.kle_trans (take_le_at hb hq hpb (by (first | lia | omega))) (KeyOrd.kle_of_klt hbl)
    by_cases e : (na - 1 == 0) = true
    ·rw [if_pos e]
     exact wpS_pure ⟨rfl, .inl ⟨_, rfl, w'.done hb (by simpa using e)⟩⟩
    ·rw [if_neg e]
     have e' : na - 1 ≠ 0 := by simpa using e
     by_cases e3 : ac + 1 ≥ g
     ·rw [if_pos e3]
      exact wpS_pure ⟨rfl, .inr ⟨_, _, _, _, _, rfl, w', by (first | lia | omega), by (first | lia | omega), by (first | lia | omega), by (first | lia | omega), by (first | lia | omega)⟩⟩
     ·rw [if_neg e3]
      exact wpS_pure ⟨rfl, _, _, _, _, _, rfl, w', by (first | lia | omega), by (first | lia | omega), by (first | lia | omega), by (first | lia | omega), by (first | lia | omega)⟩
   | false =>
    rw [if_neg (by decide)]
    refine wpS_bind (wpS_elem hpb ?_)
    have w' := (w.flip.pushA hb (by (first | lia | omega)) hpb fun q hq => KeyOrd.kle_trans (take_le_at ha hq hpa (by (first | lia | omega))) hbl).flip
    by_cases e : (nb - 1 == 1) = true
    ·rw [if_pos e]
     exact wpS_pure ⟨rfl, .inl ⟨_, rfl, hfirst w' (by simpa using e)⟩⟩
    ·rw [if_neg e]
     have e' : nb - 1 ≠ 1 := by simpa using e
     by_cases e3 : bc + 1 ≥ g
     ·rw [if_pos e3]
      exact wpS_pure ⟨rfl, .inr ⟨_, _, _, _, _, rfl, w', by (first | lia | omega), by (first | lia | omega), by (first | lia | omega), by (first | lia | omega), by (first | lia | omega)⟩⟩
     ·rw [if_neg e3]
      exact wpS_pure ⟨rfl, _, _, _, _, _, rfl, w', by (first | lia | omega), by (first | lia | omega), by (first | lia | omega), by (first | lia | omega), by (first | lia | omega)⟩
  case post1 =>
   rintro c st' ⟨rfl, ⟨r, hc, hr⟩ | ⟨out1, na1, nb1, ac, bc, rfl, w1, h11, h21, h11', h21', h31⟩⟩
   ·obtain ⟨c1, c2⟩ := c
    dsimp only at hc
    subst hc
    exact wpS_pure ⟨⟨_, rfl⟩, _, rfl, hr⟩
   ·dsimp only
    refine wpS_bind (wpS_lift (wpAny_rule ⟨rfl, ?_⟩))
    refine wpS_bind (wpS_mono (wpS_forRange (I := fun y c st'' => (∃ g1, st'' = withG st g1) /\ ∃ out na nb g ac bc, c = (none, na, nb, out, g, ac, bc) /\ WayH kf a b out na nb /\ 1 <= na /\ 2 <= nb /\ na <= a.size /\ nb <= b.size /\ na + nb + 1 <= na0 + nb0)
     (Q := fun c st'' => (∃ g1, st'' = withG st g1) /\ ((∃ r, c.1 = some r /\ Res kf a b r) ∨ ∃ out na nb g ac bc, c = (none, na, nb, out, g, ac, bc) /\ WayH kf a b out na nb /\ 1 <= na /\ 2 <= nb /\ na <= a.size /\ nb <= b.size /\ na + nb + 1 <= na0 + nb0)) ?step2 ?fin2 ⟨⟨_, rfl⟩, _, _, _, _, _, _, rfl, w1, h11, h21, h11', h21', h31⟩) ?post2)
    case fin2 =>
     rintro c st' ⟨hg, hc⟩
     exact ⟨hg, .inr hc⟩
    case post2 =>
     rintro c st' ⟨⟨g1, rfl⟩, ⟨r, hc, hr⟩ | ⟨out2, na2, nb2, g2, ac2, bc2, rfl, w2, h12, h22, h12', h22', h32⟩⟩
     ·obtain ⟨c1, c2⟩ := c
      dsimp only at hc
      subst hc
      exact wpS_pure ⟨⟨_, rfl⟩, _, rfl, hr⟩
     ·dsimp only
      refine wpS_bind (wpS_modify ?_)
      exact wpS_pure ⟨⟨_, rfl⟩, _, _, _, _, rfl, w2, h12, h22, h12', h22', by (first | lia | omega)⟩
    case step2 =>
     rintro y c st' _ hy ⟨⟨g1, rfl⟩, out, na, nb, g', ac', bc', rfl, w, h1, h2, h1', h2', h3⟩
     dsimp only
     have hpb : b[nb - 1]? = some b[nb - 1] := Array.getElem?_eq_getElem (by (first | lia | omega))
     obtain ⟨bx, hbx⟩ : ∃ bx, bx = b[nb - 1] := ⟨_, rfl⟩
     generalize g' - 1 = u
     revert u
     refine wpS_ite_jp ?_
     intro g3
     refine wpS_bind (wpS_modify ?_)
     refine wpS_bind (wpS_elem hpb ?_)
     refine wpS_bind (gallopR C (st := withG st g3) hk oka (memb hpb) ha (by (first | lia | omega)) (by (first | lia | omega)) fun at_ hkn hle hgt => ?_)
     have fA : ∀ q ∈ a.toList.take at_, O.kle (kf q) (kf b[nb - 1]) := fun q hq => by
      obtain ⟨m, hm1, hm2⟩ := at_take hq
      exact hle m q hm1 (by rw [Nat.zero_add]; exact hm2)
     dsimp only
     have wA := w.manyA ha (n1 := at_) (by (first | lia | omega)) fun i p hi1 hi2 hp q hq => by
      have g1 := hgt i p hi1 hi2 (by rw [Nat.zero_add]; exact hp)
      exact KeyOrd.kle_trans (take_le_at hb hq hpb (by (first | lia | omega))) (KeyOrd.kle_of_klt g1)
     have hP : WayH kf a b (out ++ (a.extract at_ na).reverse) at_ nb /\ (∀ q ∈ a.toList.take at_, O.kle (kf q) (kf bx)) /\ at_ <= na := ⟨wA, by rw [hbx]; exact fA, by (first | lia | omega)⟩
     have hC0 : (∀ q ∈ a.toList.take na, O.kle (kf q) (kf bx)) ∨ na - at_ > 0 := by
      rcases Nat.eq_zero_or_pos (na - at_) with z | z
      ·rw [show na = at_ by (first | lia | omega), hbx]
       exact .inl fA
      ·exact .inr z
     revert hP
     clear wA fA hle hgt hkn
     generalize hac : na - at_ = ac at hC0 ⊢
     clear hac
     generalize out ++ (a.extract at_ na).reverse = o1
     revert at_ o1
     refine wpS_ite_jp3 (C := fun o n1 => WayH kf a b o n1 nb /\ (∀ q ∈ a.toList.take n1, O.kle (kf q) (kf bx)) /\ n1 ≠ 0 /\ n1 <= na) (fun n1 o1 hP _ e4 => ?_) (fun n1 o1 hP e4 => ?_) (fun ek => ?_) ?_
     ·exact wpS_pure ⟨⟨_, rfl⟩, .inl ⟨_, rfl, hP.1.done hb (by simpa using e4)⟩⟩
     ·exact ⟨hP.1, hP.2.1, by simpa using e4, hP.2.2⟩
     ·rcases hC0 with c1 | c
      ·exact ⟨w, c1, by (first | lia | omega), Nat.le_refl _⟩
      ·exact absurd c ek
     ·rintro o1 n1 ⟨wA, fA, e4', hn1⟩
      rw [hbx] at fA
      refine wpS_bind (wpS_elem hpb ?_)
      have wB := (wA.flip.pushA hb (by (first | lia | omega)) hpb fA).flip
      by_cases e5 : (nb - 1 == 1) = true
      ·rw [if_pos e5]
       exact wpS_pure ⟨⟨_, rfl⟩, .inl ⟨_, rfl, hfirst wB (by simpa using e5)⟩⟩
      rw [if_neg e5]
      have e5' : nb - 1 ≠ 1 := by simpa using e5
      have hpa : a[n1 - 1]? = some a[n1 - 1] := Array.getElem?_eq_getElem (by (first | lia | omega))
      refine wpS_bind (wpS_elem hpa ?_)
      refine wpS_bind (gallopL C (st := withG st g3) hk okb (mema hpa) hb (by (first | lia | omega)) (by (first | lia | omega)) fun bt hbn hlt1 hge1 => ?_)
      dsimp only
      have fB : ∀ q ∈ b.toList.take bt, O.kle (kf q) (kf a[n1 - 1]) := fun q hq => by
       obtain ⟨m, hm1, hm2⟩ := at_take hq
       exact KeyOrd.kle_of_klt (hlt1 m q hm1 (by rw [Nat.zero_add]; exact hm2))
      by_cases ek1 : nb - 1 - bt > 0
      ·rw [if_pos ek1]
       have wC := (wB.flip.manyA hb (n1 := bt) (by (first | lia | omega)) fun i p hi1 hi2 hp q hq => by
        have g1 := hge1 i p hi1 hi2 (by rw [Nat.zero_add]; exact hp)
        exact KeyOrd.kle_trans (take_le_at ha hq hpa (by (first | lia | omega))) g1).flip
       by_cases e6 : (bt == 1) = true
       ·rw [if_pos e6]
        exact wpS_pure ⟨⟨_, rfl⟩, .inl ⟨_, rfl, hfirst wC (by simpa using e6)⟩⟩
       rw [if_neg e6]
       have e6' : bt ≠ 1 := by simpa using e6
       have e9 : bt ≠ 0 := fun hz9 => by
        have g1 := hge1 0 b[0] (by (first | lia | omega)) (by (first | lia | omega)) (by rw [Nat.zero_add]; exact hb0)
        exact KeyOrd.not_klt_of_kle (KeyOrd.kle_trans (ha 0 (n1 - 1) _ _ (by (first | lia | omega)) ha0 hpa) g1) (h0 _ _ hb0 ha0)
       rw [if_neg (show ¬ ((bt == 0) = true) by simpa using e9)]
       refine wpS_bind (wpS_elem hpa ?_)
       have wD := wC.pushA ha (by (first | lia | omega)) hpa fB
       by_cases e7 : (n1 - 1 == 0) = true
       ·rw [if_pos e7]
        exact wpS_pure ⟨⟨_, rfl⟩, .inl ⟨_, rfl, wD.done hb (by simpa using e7)⟩⟩
       rw [if_neg e7]
       have e7' : n1 - 1 ≠ 0 := by simpa using e7
       by_cases e8 : (decide (ac < 7) && decide (nb - 1 - bt < 7)) = true
       ·rw [if_pos e8]
        exact wpS_pure ⟨⟨_, rfl⟩, .inr ⟨_, _, _, _, _, _, rfl, wD, by (first | lia | omega), by (first | lia | omega), by (first | lia | omega), by (first | lia | omega), by (first | lia | omega)⟩⟩
       ·rw [if_neg e8]
        exact wpS_pure ⟨⟨_, rfl⟩, _, _, _, _, _, _, rfl, wD, by (first | lia | omega), by (first | lia | omega), by (first | lia | omega), by (first | lia | omega), by (first | lia | omega)⟩
      ·rw [if_neg ek1]
       have fB' : ∀ q ∈ b.toList.take (nb - 1), O.kle (kf q) (kf a[n1 - 1]) := by
        rw [show nb - 1 = bt by (first | lia | omega)]
        exact fB
       refine wpS_bind (wpS_elem hpa ?_)
       have wD := wB.pushA ha (by (first | lia | omega)) hpa fB'
       by_cases e7 : (n1 - 1 == 0) = true
       ·rw [if_pos e7]
        exact wpS_pure ⟨⟨_, rfl⟩, .inl ⟨_, rfl, wD.done hb (by simpa using e7)⟩⟩
       rw [if_neg e7]
       have e7' : n1 - 1 ≠ 0 := by simpa using e7
       by_cases e8 : (decide (ac < 7) && decide (nb - 1 - bt < 7)) = true
       ·rw [if_pos e8]
        exact wpS_pure ⟨⟨_, rfl⟩, .inr ⟨_, _, _, _, _, _, rfl, wD, by (first | lia | omega), by (first | lia | omega), by (first | lia | omega), by (first | lia | omega), by (first | lia | omega)⟩⟩
       ·rw [if_neg e8]
        exact wpS_pure ⟨⟨_, rfl⟩, _, _, _, _, _, _, rfl, wD, by (first | lia | omega), by (first | lia | omega), by (first | lia | omega), by (first | lia | omega), by (first | lia | omega)⟩
end
end Srt
namespace Srt
open PySem PyProof.Rows
noncomputable def put (m : List Keyed) (at_ : Nat) (a : Array Keyed) : Array Keyed := m.zipIdx.foldl (fun a pj => a.setIfInBounds (at_ + pj.2) pj.1) a
theorem put_go : ∀ (m : List Keyed) (k at_ : Nat) (a : Array Keyed), at_ + k + m.length <= a.size ->
  ((m.zipIdx k).foldl (fun a pj => a.setIfInBounds (at_ + pj.2) pj.1) a).toList = a.toList.take (at_ + k) ++ (m ++ a.toList.drop (at_ + k + m.length))
 | [], k, at_, a, _ => by simp
 | p :: m, k, at_, a, h => by
  rw [List.zipIdx_cons, List.foldl_cons]
  have h' : at_ + (k + 1) + m.length <= (a.setIfInBounds (at_ + k) p).size := by
   rw [Array.size_setIfInBounds]
   simp only [List.length_cons] at h
   (first | lia | omega)
  rw [put_go m (k + 1) at_ _ h', Array.toList_setIfInBounds]
  simp only [List.length_cons] at h ⊢
  have hl : at_ + k < a.toList.length := by simp; (first | lia | omega)
  have e1 : (a.toList.set (at_ + k) p).take (at_ + (k + 1)) = a.toList.take (at_ + k) ++ [p] := by
   rw [show at_ + (k + 1) = at_ + k + 1 by (first | lia | omega), List.take_succ, List.take_set_of_le (Nat.le_refl _), List.getElem?_set_self hl]
   rfl
  have e2 : (a.toList.set (at_ + k) p).drop (at_ + (k + 1) + m.length) = a.toList.drop (at_ + k + (m.length + 1)) := by
   rw [List.drop_set_of_lt (by (first | lia | omega))]
   congr 1
   (first | lia | omega)
  rw [e1, e2, List.append_assoc]
  rfl
theorem put_list {m : List Keyed} {at_ : Nat} {a : Array Keyed} (h : at_ + m.length <= a.size) : (put m at_ a).toList = a.toList.take at_ ++ (m ++ a.toList.drop (at_ + m.length)) := by
 have := put_go m 0 at_ a (by (first | lia | omega))
 rw [Nat.add_zero] at this
 exact this
end Srt
namespace Srt
open PySem PyProof.Rows
section
variable {O : KeyOrd} {kf : Keyed -> O.α}
theorem put_at {r arr : Array Keyed} {lo : Nat} (h : lo + r.size <= arr.size) (j : Nat) : (put r.toList lo arr)[j]? = if lo <= j /\ j < lo + r.size then r[j - lo]? else arr[j]? := by
 have e := put_list (m := r.toList) (at_ := lo) (a := arr) (by simpa using h)
 have g : (put r.toList lo arr)[j]? = (put r.toList lo arr).toList[j]? := by simp
 have lt : (arr.toList.take lo).length = lo := by simp; (first | lia | omega)
 have lr : r.toList.length = r.size := by simp
 rw [g, e]
 by_cases h1 : j < lo
 ·rw [if_neg (by (first | lia | omega)), List.getElem?_append_left (by rw [lt]; exact h1), List.getElem?_take_of_lt h1]
  simp
 ·rw [List.getElem?_append_right (by rw [lt]; (first | lia | omega)), lt]
  by_cases h2 : j < lo + r.size
  ·rw [if_pos ⟨by (first | lia | omega), h2⟩, List.getElem?_append_left (by rw [lr]; (first | lia | omega))]
   simp
  ·rw [if_neg (by (first | lia | omega)), List.getElem?_append_right (by rw [lr]; (first | lia | omega)), List.getElem?_drop, lr, show lo + r.size + (j - lo - r.size) = j by (first | lia | omega)]
   simp
theorem put_run {r arr : Array Keyed} {sa lo hi sb : Nat} (hsz : r.size = hi - lo) (hlo : lo <= hi) (hsa : sa <= lo) (hhi : hi <= sb) (hin : sb <= arr.size) (ur : Up kf r.toList)
  (r1 : RunUp kf arr sa lo) (r2 : RunUp kf arr hi sb)
  (pre : ∀ i p, sa <= i -> i < lo -> arr[i]? = some p -> ∀ q ∈ r.toList, O.kle (kf p) (kf q))
  (post : ∀ j q, hi <= j -> j < sb -> arr[j]? = some q -> ∀ p ∈ r.toList, O.kle (kf p) (kf q))
  (far : ∀ i j p q, sa <= i -> i < lo -> hi <= j -> j < sb -> arr[i]? = some p -> arr[j]? = some q -> O.kle (kf p) (kf q)) : RunUp kf (put r.toList lo arr) sa sb := by
 intro i j p q h1 h2 h3 hp hq
 rw [put_at (by (first | lia | omega))] at hp hq
 have mem : ∀ {m : Nat} {p : Keyed}, r[m]? = some p -> p ∈ r.toList := fun {m p} h => List.mem_of_getElem? (i := m) (by rw [<- h]; simp)
 by_cases a1 : lo <= i /\ i < lo + r.size
 ·rw [if_pos a1] at hp
  by_cases a2 : lo <= j /\ j < lo + r.size
  ·rw [if_pos a2] at hq
   by_cases hij : i = j
   ·subst hij
    rw [hp] at hq
    cases hq
    exact KeyOrd.kle_refl _
   ·have l1 : r.toList[i - lo]? = some p := by rw [<- hp]; simp
    have l2 : r.toList[j - lo]? = some q := by rw [<- hq]; simp
    obtain ⟨b1, c1⟩ := List.getElem?_eq_some_iff.mp l1
    obtain ⟨b2, c2⟩ := List.getElem?_eq_some_iff.mp l2
    have := List.pairwise_iff_getElem.mp ur (i - lo) (j - lo) b1 b2 (by (first | lia | omega))
    rw [c1, c2] at this
    exact this
  ·rw [if_neg a2] at hq
   exact post j q (by (first | lia | omega)) h3 hq p (mem hp)
 ·rw [if_neg a1] at hp
  by_cases a2 : lo <= j /\ j < lo + r.size
  ·rw [if_pos a2] at hq
   exact pre i p h1 (by (first | lia | omega)) hp q (mem hq)
  ·rw [if_neg a2] at hq
   by_cases b1 : i < lo
   ·by_cases b2 : j < lo
    ·exact r1 i j p q h1 h2 b2 hp hq
    ·exact far i j p q h1 b1 (by (first | lia | omega)) h3 hp hq
   ·exact r2 i j p q (by (first | lia | omega)) h2 h3 hp hq
end
end Srt
namespace Srt
open PySem PyProof.Rows
section
variable {O : KeyOrd} {kf : Keyed -> O.α}
theorem ext_at {a : Array Keyed} {i j m : Nat} (hj : j <= a.size) (hm : m < j - i) : (a.extract i j)[m]? = a[i + m]? := by
 rw [Array.getElem?_extract_of_lt (by (first | lia | omega))]
 exact (Array.getElem?_eq_getElem _).symm
theorem ext_mem {a : Array Keyed} {i j : Nat} (hj : j <= a.size) {q : Keyed} (h : q ∈ (a.extract i j).toList) : ∃ m, i <= m /\ m < j /\ a[m]? = some q := by
 obtain ⟨m, hm⟩ := List.getElem?_of_mem h
 have hl : m < j - i := by
  have := (List.getElem?_eq_some_iff.mp hm).1
  simp at this
  (first | lia | omega)
 have : (a.extract i j)[m]? = some q := by rw [<- hm]; exact (Array.getElem?_toList).symm
 rw [ext_at hj hl] at this
 exact ⟨i + m, by (first | lia | omega), by (first | lia | omega), this⟩
theorem ext_up {a : Array Keyed} {i j : Nat} (hj : j <= a.size) (h : RunUp kf a i j) : KeysUp kf (a.extract i j) := by
 intro m n p q hmn hp hq
 have hl : n < j - i := by
  have := (Array.getElem?_eq_some_iff.mp hq).1
  simp at this
  (first | lia | omega)
 rw [ext_at hj (by (first | lia | omega))] at hp
 rw [ext_at hj hl] at hq
 exact h _ _ p q (by (first | lia | omega)) (by (first | lia | omega)) (by (first | lia | omega)) hp hq
theorem put_perm {r arr : Array Keyed} {lo mid hi : Nat} (h1 : lo <= mid) (h2 : mid <= hi) (h3 : hi <= arr.size) (hr : r.toList.Perm ((arr.extract lo mid).toList ++ (arr.extract mid hi).toList)) : (put r.toList lo arr).Perm arr := by
 have hsz : r.toList.length = hi - lo := by
  rw [hr.length_eq]
  simp
  (first | lia | omega)
 rw [Array.perm_iff_toList_perm, put_list (by (first | lia | omega)), hsz, show lo + (hi - lo) = hi by (first | lia | omega)]
 refine (List.Perm.append_left _ (List.Perm.append_right _ hr)).trans ?_
 have e1 := ext_mid arr lo (mid - lo)
 have e2 := ext_mid arr mid (hi - mid)
 rw [show lo + (mid - lo) = mid by (first | lia | omega)] at e1
 rw [show mid + (hi - mid) = hi by (first | lia | omega)] at e2
 rw [e1, e2, List.append_assoc, drop_mid _ h2, drop_mid _ h1, List.take_append_drop]
end
end Srt
namespace Srt
open PySem PyProof.Rows
section
variable {M : Model} {A : Around} {E : Value -> Shared -> Prop} {s : Shared} {O : KeyOrd} {kf : Keyed -> O.α} {okk : Keyed -> Prop} {kd : SortKind}
noncomputable def ka (kf : Keyed -> O.α) (a : Array Keyed) (i : Nat) : O.α := kf (a[i]?.getD (.none, .none))
theorem ka_congr {a b : Array Keyed} {i j : Nat} (h : a[i]? = b[j]?) : ka kf a i = ka kf b j := by
 unfold ka
 rw [h]
theorem ka_at {a : Array Keyed} {i : Nat} {p : Keyed} (h : a[i]? = some p) : ka kf a i = kf p := by
 unfold ka
 rw [h]
 rfl
theorem ka_mir {a : Array Keyed} {i j : Nat} (hj : j <= a.size) (k : Nat) : ka kf (mirror a i j ((j - i) / 2)) k = if i <= k /\ k < j then ka kf a (i + j - 1 - k) else ka kf a k := by
 have e := getElem?_mirror_all (i := i) hj k
 by_cases c : i <= k /\ k < j
 ·rw [if_pos c] at e ⊢
  exact ka_congr e
 ·rw [if_neg c] at e ⊢
  exact ka_congr e
theorem ka_mirE {a : Array Keyed} {i j : Nat} (hj : j <= a.size) (he : ∀ k, i <= k -> k < j -> ka kf a k = ka kf a (j - 1)) (k : Nat) : ka kf (mirror a i j ((j - i) / 2)) k = ka kf a k := by
 rw [ka_mir hj]
 by_cases c : i <= k /\ k < j
 ·rw [if_pos c, he _ (by (first | lia | omega)) (by (first | lia | omega)), he k c.1 c.2]
 ·rw [if_neg c]
theorem ka_bub {a : Array Keyed} {src d : Nat} (hs : src < a.size) (hd : d <= src) (k : Nat) : ka kf (bubble a src d) k = if k = src - d then ka kf a src else if src - d < k /\ k <= src then ka kf a (k - 1) else ka kf a k := by
 have e := getElem?_bubble hs d hd k
 by_cases c : k = src - d
 ·rw [if_pos c] at e ⊢
  exact ka_congr e
 ·rw [if_neg c] at e ⊢
  by_cases c2 : src - d < k /\ k <= src
  ·rw [if_pos c2] at e ⊢
   exact ka_congr e
  ·rw [if_neg c2] at e ⊢
   exact ka_congr e
noncomputable def Sd (kf : Keyed -> O.α) (a : Array Keyed) (lo n : Nat) : Prop := ∀ i j, i <= j -> j < n -> O.kle (ka kf a (lo + i)) (ka kf a (lo + j))
noncomputable def Fd (kf : Keyed -> O.α) (a : Array Keyed) (lo n : Nat) : Prop := ∀ i j, i <= j -> j < n -> O.kle (ka kf a (lo + j)) (ka kf a (lo + i))
theorem Sd.one {a : Array Keyed} {lo : Nat} : Sd kf a lo 1 := fun i j h1 h2 => by
 have : i = j := by (first | lia | omega)
 subst this
 exact KeyOrd.kle_refl _
theorem Sd.more {a : Array Keyed} {lo n : Nat} (h : Sd kf a lo n) (h1 : 1 <= n) (e : O.kle (ka kf a (lo + n - 1)) (ka kf a (lo + n))) : Sd kf a lo (n + 1) := fun i j hij hj => by
 by_cases c : j < n
 ·exact h i j hij c
 ·have hj' : j = n := by (first | lia | omega)
  subst hj'
  by_cases ci : i = j
  ·subst ci
   exact KeyOrd.kle_refl _
  ·have := h i (j - 1) (by (first | lia | omega)) (by (first | lia | omega))
   rw [show lo + (j - 1) = lo + j - 1 by (first | lia | omega)] at this
   exact KeyOrd.kle_trans this e
theorem Fd.more {a : Array Keyed} {lo n : Nat} (h : Fd kf a lo n) (h1 : 1 <= n) (e : O.kle (ka kf a (lo + n)) (ka kf a (lo + n - 1))) : Fd kf a lo (n + 1) := fun i j hij hj => by
 by_cases c : j < n
 ·exact h i j hij c
 ·have hj' : j = n := by (first | lia | omega)
  subst hj'
  by_cases ci : i = j
  ·subst ci
   exact KeyOrd.kle_refl _
  ·have := h i (j - 1) (by (first | lia | omega)) (by (first | lia | omega))
   rw [show lo + (j - 1) = lo + j - 1 by (first | lia | omega)] at this
   exact KeyOrd.kle_trans e this
structure Wk (kd : SortKind) (a0 : Array Keyed) (lo : Nat) (pd : Array (Nat × Nat × Nat)) (st : SortSt) : Prop where
 perm : (arrOf st).Perm a0
 kind : kindOf st = kd
 failed : failedOf st = none
 pend : pendingOf st = pd
 pre : ∀ i, i < lo -> (arrOf st)[i]? = a0[i]?
variable {a0 : Array Keyed} {lo : Nat} {pd : Array (Nat × Nat × Nat)} {st : SortSt}
theorem Wk.size (B : Wk kd a0 lo pd st) : (arrOf st).size = a0.size := B.perm.size_eq
theorem Wk.mir (B : Wk kd a0 lo pd st) {i j : Nat} (h1 : lo <= i) (h2 : j <= a0.size) : Wk kd a0 lo pd (setArr st (mirror (arrOf st) i j ((j - i) / 2))) := by
 refine ⟨(mirror_perm _ _ _ _).trans B.perm, B.kind, B.failed, B.pend, fun k hk => ?_⟩
 show (mirror (arrOf st) i j ((j - i) / 2))[k]? = _
 rw [getElem?_mirror_all (by rw [B.size]; exact h2), if_neg (by (first | lia | omega))]
 exact B.pre k hk
theorem Wk.bub (B : Wk kd a0 lo pd st) {src d : Nat} (h1 : lo + d <= src) (h2 : src < a0.size) : Wk kd a0 lo pd (setArr st (bubble (arrOf st) src d)) := by
 refine ⟨(bubble_perm _ _ _).trans B.perm, B.kind, B.failed, B.pend, fun k hk => ?_⟩
 show (bubble (arrOf st) src d)[k]? = _
 rw [getElem?_bubble (by rw [B.size]; exact h2) d (by (first | lia | omega)), if_neg (by (first | lia | omega)), if_neg (by (first | lia | omega))]
 exact B.pre k hk
theorem Wk.ok (B : Wk kd a0 lo pd st) (ok : ∀ p ∈ a0.toList, okk p) {i : Nat} {p : Keyed} (h : (arrOf st)[i]? = some p) : okk p := by
 refine ok p ((Array.perm_iff_toList_perm.mp B.perm).mem_iff.mp (List.mem_of_getElem? (i := i) ?_))
 rw [<- h]
 simp
theorem ltA (C : Cmp M A E s kd O kf okk) (ok : ∀ p ∈ a0.toList, okk p) (B : Wk kd a0 lo pd st) {i j : Nat} (hi : i < a0.size) (hj : j < a0.size) {Q : Option Bool -> SortSt -> Prop} (h : Q (some (O.blt (ka kf (arrOf st) i) (ka kf (arrOf st) j))) st) : wpS M A E s (ltAt' i j) Q st := by
 obtain ⟨p1, e1⟩ : ∃ p, (arrOf st)[i]? = some p := ⟨_, Array.getElem?_eq_getElem (by rw [B.size]; exact hi)⟩
 obtain ⟨p2, e2⟩ : ∃ p, (arrOf st)[j]? = some p := ⟨_, Array.getElem?_eq_getElem (by rw [B.size]; exact hj)⟩
 rw [ka_at e1, ka_at e2] at h
 rw [ltAt'_eq]
 refine wpS_bind (wpS_get ?_)
 refine wpS_bind (wpS_elem e1 ?_)
 refine wpS_bind (wpS_elem e2 ?_)
 exact C.lt _ _ st _ (B.ok ok e1) (B.ok ok e2) B.kind h
theorem revA {i j : Nat} {Q : Unit -> SortSt -> Prop} (h : Q () (setArr st (mirror (arrOf st) i j ((j - i) / 2)))) : wpS M A E s (reverseSlice' i j) Q st := by
 rw [reverseSlice'_eq]
 exact wpS_modify h
end
end Srt
namespace Srt
open PySem PyProof.Rows
section
variable {M : Model} {A : Around} {E : Value -> Shared -> Prop} {s : Shared} {O : KeyOrd} {kf : Keyed -> O.α} {okk : Keyed -> Prop} {kd : SortKind} {a0 : Array Keyed} {lo : Nat} {pd : Array (Nat × Nat × Nat)} {st : SortSt}
theorem countA (C : Cmp M A E s kd O kf okk) (ok : ∀ p ∈ a0.toList, okk p) (B : Wk kd a0 lo pd st) {nrem : Nat} (hn : lo + nrem <= a0.size) (h1 : 1 <= nrem) {Q : Option Nat -> SortSt -> Prop}
  (h : ∀ m st', Wk kd a0 lo pd st' -> 1 <= m -> m <= nrem -> Sd kf (arrOf st') lo m -> Q (some m) st') : wpS M A E s (countRun' lo nrem) Q st := by
 unfold countRun'
 refine wpS_bind (wpS_mono (wpS_forRange (I := fun x c st' => st' = st /\ c = (none, x) /\ Sd kf (arrOf st) lo x) (Q := fun c st' => st' = st /\ ∃ n, c = (none, n) /\ 1 <= n /\ n <= nrem /\ Sd kf (arrOf st) lo n /\ (n = nrem ∨ O.klt (ka kf (arrOf st) (lo + n)) (ka kf (arrOf st) (lo + n - 1)))) ?step ?fin ⟨rfl, rfl, Sd.one⟩) ?post)
 case fin =>
  rintro c st' ⟨rfl, rfl, hs⟩
  rw [show max 1 nrem = nrem by (first | lia | omega)] at hs ⊢
  exact ⟨rfl, nrem, rfl, h1, Nat.le_refl _, hs, .inl rfl⟩
 case step =>
  rintro x c st' hx1 hx2 ⟨rfl, rfl, hs⟩
  dsimp only
  refine wpS_bind (ltA C ok B (by (first | lia | omega)) (by (first | lia | omega)) ?_)
  cases hb : O.blt (ka kf (arrOf st') (lo + x)) (ka kf (arrOf st') (lo + x - 1)) with
  | true =>
   dsimp only
   rw [if_pos rfl]
   exact wpS_pure ⟨rfl, x, rfl, hx1, by (first | lia | omega), hs, .inr hb⟩
  | false =>
   dsimp only
   rw [if_neg (by decide)]
   exact wpS_pure ⟨rfl, rfl, hs.more hx1 hb⟩
 case post =>
  rintro c st' ⟨rfl, n, rfl, hn1, hn2, hs, hor⟩
  dsimp only
  by_cases hnn : n = nrem
  ·rw [if_pos (by simpa using hnn)]
   exact wpS_pure (h n st' B hn1 hn2 hs)
  rw [if_neg (by simpa using hnn)]
  have hlt := hor.resolve_left hnn
  by_cases hgt : n > 1
  ·rw [if_pos hgt]
   refine wpS_bind (ltA C ok B (by (first | lia | omega)) (by (first | lia | omega)) ?_)
   cases hr : O.blt (ka kf (arrOf st') lo) (ka kf (arrOf st') (lo + n - 1)) with
   | true =>
    dsimp only
    rw [if_pos rfl]
    exact wpS_pure (h n st' B hn1 hn2 hs)
   | false =>
    dsimp only
    rw [if_neg (by decide)]
    refine wpS_bind (revA ?_)
    have hall : ∀ k, lo <= k -> k < lo + n -> ka kf (arrOf st') k = ka kf (arrOf st') (lo + n - 1) := fun k k1 k2 => by
     have a1 := hs 0 (k - lo) (by (first | lia | omega)) (by (first | lia | omega))
     have a2 := hs (k - lo) (n - 1) (by (first | lia | omega)) (by (first | lia | omega))
     rw [show lo + (k - lo) = k by (first | lia | omega)] at a1 a2
     rw [show lo + (n - 1) = lo + n - 1 by (first | lia | omega)] at a2
     rw [Nat.add_zero] at a1
     exact KeyOrd.kle_antisymm a2 (KeyOrd.kle_trans hr a1)
    have BB := B.mir (i := lo) (j := lo + n) (Nat.le_refl _) (by (first | lia | omega))
    have hF : Fd kf (arrOf (setArr st' (mirror (arrOf st') lo (lo + n) ((lo + n - lo) / 2)))) lo (n + 1) := by
     intro i j hij hj
     show O.kle (ka kf (mirror (arrOf st') lo (lo + n) ((lo + n - lo) / 2)) _) (ka kf (mirror (arrOf st') lo (lo + n) ((lo + n - lo) / 2)) _)
     rw [ka_mirE (by rw [B.size]; (first | lia | omega)) hall, ka_mirE (by rw [B.size]; (first | lia | omega)) hall]
     by_cases c : j < n
     ·rw [hall (lo + i) (by (first | lia | omega)) (by (first | lia | omega)), hall (lo + j) (by (first | lia | omega)) (by (first | lia | omega))]
      exact KeyOrd.kle_refl _
     ·have ej : j = n := by (first | lia | omega)
      subst ej
      by_cases ci : i = j
      ·subst ci
       exact KeyOrd.kle_refl _
      ·rw [hall (lo + i) (by (first | lia | omega)) (by (first | lia | omega))]
       exact KeyOrd.kle_of_klt hlt
    generalize setArr st' (mirror (arrOf st') lo (lo + n) ((lo + n - lo) / 2)) = st2 at BB hF ⊢
    clear hall hr
    refine wpS_bind (wpS_lift (wpAny_rule ⟨rfl, ?_⟩))
    refine wpS_bind (wpS_mono (wpS_forRange (I := fun x c st3 => ∃ neq, c = (none, x, neq) /\ Wk kd a0 lo pd st3 /\ Fd kf (arrOf st3) lo x /\ neq + 1 <= x /\ (∀ i, lo + x - (neq + 1) <= i -> i < lo + x -> ka kf (arrOf st3) i = ka kf (arrOf st3) (lo + x - 1))) (Q := fun c st3 => ∃ m neq, c = (none, m, neq) /\ Wk kd a0 lo pd st3 /\ n + 1 <= m /\ m <= nrem /\ Fd kf (arrOf st3) lo m /\ neq + 1 <= m /\ (∀ i, lo + m - (neq + 1) <= i -> i < lo + m -> ka kf (arrOf st3) i = ka kf (arrOf st3) (lo + m - 1))) ?step2 ?fin2 ⟨0, rfl, BB, hF, by (first | lia | omega), fun i _ _ => by congr 1; (first | lia | omega)⟩) ?post2)
    case fin2 =>
     rintro c st3 ⟨neq, rfl, B3, F3, hq, he⟩
     rw [show max (n + 1) nrem = nrem by (first | lia | omega)] at F3 hq he ⊢
     exact ⟨nrem, neq, rfl, B3, by (first | lia | omega), Nat.le_refl _, F3, hq, he⟩
    case step2 =>
     rintro x c st3 hx1 hx2 ⟨neq, rfl, B3, F3, hq, he⟩
     dsimp only
     have hsz : lo + x <= (arrOf st3).size := by rw [B3.size]; (first | lia | omega)
     refine wpS_bind (ltA C ok B3 (by (first | lia | omega)) (by (first | lia | omega)) ?_)
     cases hb : O.blt (ka kf (arrOf st3) (lo + x)) (ka kf (arrOf st3) (lo + x - 1)) with
     | true =>
      dsimp only
      rw [if_pos rfl]
      have F4 := F3.more (by (first | lia | omega)) (KeyOrd.kle_of_klt hb)
      by_cases hneq : neq > 0
      ·rw [if_pos hneq]
       refine wpS_bind (revA (wpS_pure ⟨0, rfl, B3.mir (by (first | lia | omega)) (by (first | lia | omega)), fun i j hij hj => ?_, by (first | lia | omega), fun i _ _ => by congr 1; (first | lia | omega)⟩))
       show O.kle (ka kf (mirror (arrOf st3) _ _ _) _) (ka kf (mirror (arrOf st3) _ _ _) _)
       rw [ka_mirE hsz he, ka_mirE hsz he]
       exact F4 i j hij hj
      ·rw [if_neg hneq]
       exact wpS_pure ⟨0, rfl, B3, F4, by (first | lia | omega), fun i _ _ => by congr 1; (first | lia | omega)⟩
     | false =>
      dsimp only
      rw [if_neg (by decide)]
      refine wpS_bind (ltA C ok B3 (by (first | lia | omega)) (by (first | lia | omega)) ?_)
      cases hb2 : O.blt (ka kf (arrOf st3) (lo + x - 1)) (ka kf (arrOf st3) (lo + x)) with
      | true =>
       dsimp only
       rw [if_pos rfl]
       exact wpS_pure ⟨x, neq, rfl, B3, by (first | lia | omega), by (first | lia | omega), F3, hq, he⟩
      | false =>
       dsimp only
       rw [if_neg (by decide)]
       have ex : ka kf (arrOf st3) (lo + x) = ka kf (arrOf st3) (lo + x - 1) := O.total _ _ hb hb2
       refine wpS_pure ⟨neq + 1, rfl, B3, F3.more (by (first | lia | omega)) hb2, by (first | lia | omega), fun i i1 i2 => ?_⟩
       rw [show lo + (x + 1) - 1 = lo + x by (first | lia | omega)]
       by_cases ci : i = lo + x
       ·rw [ci]
       ·rw [ex]
        exact he i (by (first | lia | omega)) (by (first | lia | omega))
    case post2 =>
     rintro c st3 ⟨m, neq, rfl, B3, hm1, hm2, F3, hq, he⟩
     dsimp only
     have hsz : lo + m <= (arrOf st3).size := by rw [B3.size]; (first | lia | omega)
     by_cases hneq : neq > 0
     ·rw [if_pos hneq]
      refine wpS_bind (revA ?_)
      have B4 := B3.mir (i := lo + m - (neq + 1)) (j := lo + m) (by (first | lia | omega)) (by (first | lia | omega))
      have F4 : Fd kf (arrOf (setArr st3 (mirror (arrOf st3) (lo + m - (neq + 1)) (lo + m) ((lo + m - (lo + m - (neq + 1))) / 2)))) lo m := fun i j hij hj => by
       show O.kle (ka kf (mirror (arrOf st3) _ _ _) _) (ka kf (mirror (arrOf st3) _ _ _) _)
       rw [ka_mirE hsz he, ka_mirE hsz he]
       exact F3 i j hij hj
      generalize setArr st3 (mirror (arrOf st3) (lo + m - (neq + 1)) (lo + m) ((lo + m - (lo + m - (neq + 1))) / 2)) = st4 at B4 F4 ⊢
      refine wpS_bind (revA ?_)
      have B5 := B4.mir (i := lo) (j := lo + m) (Nat.le_refl _) (by (first | lia | omega))
      have S5 : Sd kf (arrOf (setArr st4 (mirror (arrOf st4) lo (lo + m) ((lo + m - lo) / 2)))) lo m := fun i j hij hj => by
       show O.kle (ka kf (mirror (arrOf st4) _ _ _) _) (ka kf (mirror (arrOf st4) _ _ _) _)
       rw [ka_mir (by rw [B4.size]; (first | lia | omega)), ka_mir (by rw [B4.size]; (first | lia | omega)), if_pos (by (first | lia | omega)), if_pos (by (first | lia | omega)), show lo + (lo + m) - 1 - (lo + i) = lo + (m - 1 - i) by (first | lia | omega), show lo + (lo + m) - 1 - (lo + j) = lo + (m - 1 - j) by (first | lia | omega)]
       exact F4 _ _ (by (first | lia | omega)) (by (first | lia | omega))
      generalize setArr st4 (mirror (arrOf st4) lo (lo + m) ((lo + m - lo) / 2)) = st5 at B5 S5 ⊢
      refine wpS_bind (wpS_mono (wpS_forRange (I := fun x c st6 => st6 = st5 /\ c = (none, x) /\ Sd kf (arrOf st5) lo x) (Q := fun c st6 => st6 = st5 /\ ∃ k, c = (none, k) /\ 1 <= k /\ k <= nrem /\ Sd kf (arrOf st5) lo k) ?step3 ?fin3 ⟨rfl, rfl, S5⟩) ?post3)
      case fin3 =>
       rintro c st6 ⟨rfl, rfl, hs6⟩
       rw [show max m nrem = nrem by (first | lia | omega)] at hs6 ⊢
       exact ⟨rfl, nrem, rfl, by (first | lia | omega), Nat.le_refl _, hs6⟩
      case step3 =>
       rintro x c st6 hx1 hx2 ⟨rfl, rfl, hs6⟩
       dsimp only
       refine wpS_bind (ltA C ok B5 (by (first | lia | omega)) (by (first | lia | omega)) ?_)
       cases hb : O.blt (ka kf (arrOf st6) (lo + x)) (ka kf (arrOf st6) (lo + x - 1)) with
       | true =>
        dsimp only
        rw [if_pos rfl]
        exact wpS_pure ⟨rfl, x, rfl, by (first | lia | omega), by (first | lia | omega), hs6⟩
       | false =>
        dsimp only
        rw [if_neg (by decide)]
        exact wpS_pure ⟨rfl, rfl, hs6.more (by (first | lia | omega)) hb⟩
      case post3 =>
       rintro c st6 ⟨rfl, k, rfl, hk1, hk2, hs6⟩
       exact wpS_pure (h k _ B5 hk1 hk2 hs6)
     ·rw [if_neg hneq]
      have B4 := B3
      have F4 := F3
      generalize st3 = st4 at B4 F4 ⊢
      refine wpS_bind (revA ?_)
      have B5 := B4.mir (i := lo) (j := lo + m) (Nat.le_refl _) (by (first | lia | omega))
      have S5 : Sd kf (arrOf (setArr st4 (mirror (arrOf st4) lo (lo + m) ((lo + m - lo) / 2)))) lo m := fun i j hij hj => by
       show O.kle (ka kf (mirror (arrOf st4) _ _ _) _) (ka kf (mirror (arrOf st4) _ _ _) _)
       rw [ka_mir (by rw [B4.size]; (first | lia | omega)), ka_mir (by rw [B4.size]; (first | lia | omega)), if_pos (by (first | lia | omega)), if_pos (by (first | lia | omega)), show lo + (lo + m) - 1 - (lo + i) = lo + (m - 1 - i) by (first | lia | omega), show lo + (lo + m) - 1 - (lo + j) = lo + (m - 1 - j) by (first | lia | omega)]
       exact F4 _ _ (by (first | lia | omega)) (by (first | lia | omega))
      generalize setArr st4 (mirror (arrOf st4) lo (lo + m) ((lo + m - lo) / 2)) = st5 at B5 S5 ⊢
      refine wpS_bind (wpS_mono (wpS_forRange (I := fun x c st6 => st6 = st5 /\ c = (none, x) /\ Sd kf (arrOf st5) lo x) (Q := fun c st6 => st6 = st5 /\ ∃ k, c = (none, k) /\ 1 <= k /\ k <= nrem /\ Sd kf (arrOf st5) lo k) ?step3 ?fin3 ⟨rfl, rfl, S5⟩) ?post3)
      case fin3 =>
       rintro c st6 ⟨rfl, rfl, hs6⟩
       rw [show max m nrem = nrem by (first | lia | omega)] at hs6 ⊢
       exact ⟨rfl, nrem, rfl, by (first | lia | omega), Nat.le_refl _, hs6⟩
      case step3 =>
       rintro x c st6 hx1 hx2 ⟨rfl, rfl, hs6⟩
       dsimp only
       refine wpS_bind (ltA C ok B5 (by (first | lia | omega)) (by (first | lia | omega)) ?_)
       cases hb : O.blt (ka kf (arrOf st6) (lo + x)) (ka kf (arrOf st6) (lo + x - 1)) with
       | true =>
        dsimp only
        rw [if_pos rfl]
        exact wpS_pure ⟨rfl, x, rfl, by (first | lia | omega), by (first | lia | omega), hs6⟩
       | false =>
        dsimp only
        rw [if_neg (by decide)]
        exact wpS_pure ⟨rfl, rfl, hs6.more (by (first | lia | omega)) hb⟩
      case post3 =>
       rintro c st6 ⟨rfl, k, rfl, hk1, hk2, hs6⟩
       exact wpS_pure (h k _ B5 hk1 hk2 hs6)
  ·rw [if_neg hgt]
   have BB := B
   have hF : Fd kf (arrOf st') lo (n + 1) := by
    have e1 : n = 1 := by (first | lia | omega)
    subst e1
    intro i j hij hj
    by_cases ci : i = j
    ·subst ci
     exact KeyOrd.kle_refl _
    ·have ei : i = 0 := by (first | lia | omega)
     have ej : j = 1 := by (first | lia | omega)
     subst ei ej
     exact KeyOrd.kle_of_klt hlt
   generalize st' = st2 at BB hF ⊢
   refine wpS_bind (wpS_lift (wpAny_rule ⟨rfl, ?_⟩))
   refine wpS_bind (wpS_mono (wpS_forRange (I := fun x c st3 => ∃ neq, c = (none, x, neq) /\ Wk kd a0 lo pd st3 /\ Fd kf (arrOf st3) lo x /\ neq + 1 <= x /\ (∀ i, lo + x - (neq + 1) <= i -> i < lo + x -> ka kf (arrOf st3) i = ka kf (arrOf st3) (lo + x - 1))) (Q := fun c st3 => ∃ m neq, c = (none, m, neq) /\ Wk kd a0 lo pd st3 /\ n + 1 <= m /\ m <= nrem /\ Fd kf (arrOf st3) lo m /\ neq + 1 <= m /\ (∀ i, lo + m - (neq + 1) <= i -> i < lo + m -> ka kf (arrOf st3) i = ka kf (arrOf st3) (lo + m - 1))) ?step2 ?fin2 ⟨0, rfl, BB, hF, by (first | lia | omega), fun i _ _ => by congr 1; (first | lia | omega)⟩) ?post2)
   case fin2 =>
    rintro c st3 ⟨neq, rfl, B3, F3, hq, he⟩
    rw [show max (n + 1) nrem = nrem by (first | lia | omega)] at F3 hq he ⊢
    exact ⟨nrem, neq, rfl, B3, by (first | lia | omega), Nat.le_refl _, F3, hq, he⟩
   case step2 =>
    rintro x c st3 hx1 hx2 ⟨neq, rfl, B3, F3, hq, he⟩
    dsimp only
    have hsz : lo + x <= (arrOf st3).size := by rw [B3.size]; (first | lia | omega)
    refine wpS_bind (ltA C ok B3 (by (first | lia | omega)) (by (first | lia | omega)) ?_)
    cases hb : O.blt (ka kf (arrOf st3) (lo + x)) (ka kf (arrOf st3) (lo + x - 1)) with
    | true =>
     dsimp only
     rw [if_pos rfl]
     have F4 := F3.more (by (first | lia | omega)) (KeyOrd.kle_of_klt hb)
     by_cases hneq : neq > 0
     ·rw [if_pos hneq]
      refine wpS_bind (revA (wpS_pure ⟨0, rfl, B3.mir (by (first | lia | omega)) (by (first | lia | omega)), fun i j hij hj => ?_, by (first | lia | omega), fun i _ _ => by congr 1; (first | lia | omega)⟩))
      show O.kle (ka kf (mirror (arrOf st3) _ _ _) _) (ka kf (mirror (arrOf st3) _ _ _) _)
      rw [ka_mirE hsz he, ka_mirE hsz he]
      exact F4 i j hij hj
     ·rw [if_neg hneq]
      exact wpS_pure ⟨0, rfl, B3, F4, by (first | lia | omega), fun i _ _ => by congr 1; (first | lia | omega)⟩
    | false =>
     dsimp only
     rw [if_neg (by decide)]
     refine wpS_bind (ltA C ok B3 (by (first | lia | omega)) (by (first | lia | omega)) ?_)
     cases hb2 : O.blt (ka kf (arrOf st3) (lo + x - 1)) (ka kf (arrOf st3) (lo + x)) with
     | true =>
      dsimp only
      rw [if_pos rfl]
      exact wpS_pure ⟨x, neq, rfl, B3, by (first | lia | omega), by (first | lia | omega), F3, hq, he⟩
     | false =>
      dsimp only
      rw [if_neg (by decide)]
      have ex : ka kf (arrOf st3) (lo + x) = ka kf (arrOf st3) (lo + x - 1) := O.total _ _ hb hb2
      refine wpS_pure ⟨neq + 1, rfl, B3, F3.more (by (first | lia | omega)) hb2, by (first | lia | omega), fun i i1 i2 => ?_⟩
      rw [show lo + (x + 1) - 1 = lo + x by (first | lia | omega)]
      by_cases ci : i = lo + x
      ·rw [ci]
      ·rw [ex]
       exact he i (by (first | lia | omega)) (by (first | lia | omega))
   case post2 =>
    rintro c st3 ⟨m, neq, rfl, B3, hm1, hm2, F3, hq, he⟩
    dsimp only
    have hsz : lo + m <= (arrOf st3).size := by rw [B3.size]; (first | lia | omega)
    by_cases hneq : neq > 0
    ·rw [if_pos hneq]
     refine wpS_bind (revA ?_)
     have B4 := B3.mir (i := lo + m - (neq + 1)) (j := lo + m) (by (first | lia | omega)) (by (first | lia | omega))
     have F4 : Fd kf (arrOf (setArr st3 (mirror (arrOf st3) (lo + m - (neq + 1)) (lo + m) ((lo + m - (lo + m - (neq + 1))) / 2)))) lo m := fun i j hij hj => by
      show O.kle (ka kf (mirror (arrOf st3) _ _ _) _) (ka kf (mirror (arrOf st3) _ _ _) _)
      rw [ka_mirE hsz he, ka_mirE hsz he]
      exact F3 i j hij hj
     generalize setArr st3 (mirror (arrOf st3) (lo + m - (neq + 1)) (lo + m) ((lo + m - (lo + m - (neq + 1))) / 2)) = st4 at B4 F4 ⊢
     refine wpS_bind (revA ?_)
     have B5 := B4.mir (i := lo) (j := lo + m) (Nat.le_refl _) (by (first | lia | omega))
     have S5 : Sd kf (arrOf (setArr st4 (mirror (arrOf st4) lo (lo + m) ((lo + m - lo) / 2)))) lo m := fun i j hij hj => by
      show O.kle (ka kf (mirror (arrOf st4) _ _ _) _) (ka kf (mirror (arrOf st4) _ _ _) _)
      rw [ka_mir (by rw [B4.size]; (first | lia | omega)), ka_mir (by rw [B4.size]; (first | lia | omega)), if_pos (by (first | lia | omega)), if_pos (by (first | lia | omega)), show lo + (lo + m) - 1 - (lo + i) = lo + (m - 1 - i) by (first | lia | omega), show lo + (lo + m) - 1 - (lo + j) = lo + (m - 1 - j) by (first | lia | omega)]
      exact F4 _ _ (by (first | lia | omega)) (by (first | lia | omega))
     generalize setArr st4 (mirror (arrOf st4) lo (lo + m) ((lo + m - lo) / 2)) = st5 at B5 S5 ⊢
     refine wpS_bind (wpS_mono (wpS_forRange (I := fun x c st6 => st6 = st5 /\ c = (none, x) /\ Sd kf (arrOf st5) lo x) (Q := fun c st6 => st6 = st5 /\ ∃ k, c = (none, k) /\ 1 <= k /\ k <= nrem /\ Sd kf (arrOf st5) lo k) ?step3 ?fin3 ⟨rfl, rfl, S5⟩) ?post3)
     case fin3 =>
      rintro c st6 ⟨rfl, rfl, hs6⟩
      rw [show max m nrem = nrem by (first | lia | omega)] at hs6 ⊢
      exact ⟨rfl, nrem, rfl, by (first | lia | omega), Nat.le_refl _, hs6⟩
     case step3 =>
      rintro x c st6 hx1 hx2 ⟨rfl, rfl, hs6⟩
      dsimp only
      refine wpS_bind (ltA C ok B5 (by (first | lia | omega)) (by (first | lia | omega)) ?_)
      cases hb : O.blt (ka kf (arrOf st6) (lo + x)) (ka kf (arrOf st6) (lo + x - 1)) with
      | true =>
       dsimp only
       rw [if_pos rfl]
       exact wpS_pure ⟨rfl, x, rfl, by (first | lia | omega), by (first | lia | omega), hs6⟩
      | false =>
       dsimp only
       rw [if_neg (by decide)]
       exact wpS_pure ⟨rfl, rfl, hs6.more (by (first | lia | omega)) hb⟩
     case post3 =>
      rintro c st6 ⟨rfl, k, rfl, hk1, hk2, hs6⟩
      exact wpS_pure (h k _ B5 hk1 hk2 hs6)
    ·rw [if_neg hneq]
     have B4 := B3
     have F4 := F3
     generalize st3 = st4 at B4 F4 ⊢
     refine wpS_bind (revA ?_)
     have B5 := B4.mir (i := lo) (j := lo + m) (Nat.le_refl _) (by (first | lia | omega))
     have S5 : Sd kf (arrOf (setArr st4 (mirror (arrOf st4) lo (lo + m) ((lo + m - lo) / 2)))) lo m := fun i j hij hj => by
      show O.kle (ka kf (mirror (arrOf st4) _ _ _) _) (ka kf (mirror (arrOf st4) _ _ _) _)
      rw [ka_mir (by rw [B4.size]; (first | lia | omega)), ka_mir (by rw [B4.size]; (first | lia | omega)), if_pos (by (first | lia | omega)), if_pos (by (first | lia | omega)), show lo + (lo + m) - 1 - (lo + i) = lo + (m - 1 - i) by (first | lia | omega), show lo + (lo + m) - 1 - (lo + j) = lo + (m - 1 - j) by (first | lia | omega)]
      exact F4 _ _ (by (first | lia | omega)) (by (first | lia | omega))
     generalize setArr st4 (mirror (arrOf st4) lo (lo + m) ((lo + m - lo) / 2)) = st5 at B5 S5 ⊢
     refine wpS_bind (wpS_mono (wpS_forRange (I := fun x c st6 => st6 = st5 /\ c = (none, x) /\ Sd kf (arrOf st5) lo x) (Q := fun c st6 => st6 = st5 /\ ∃ k, c = (none, k) /\ 1 <= k /\ k <= nrem /\ Sd kf (arrOf st5) lo k) ?step3 ?fin3 ⟨rfl, rfl, S5⟩) ?post3)
     case fin3 =>
      rintro c st6 ⟨rfl, rfl, hs6⟩
      rw [show max m nrem = nrem by (first | lia | omega)] at hs6 ⊢
      exact ⟨rfl, nrem, rfl, by (first | lia | omega), Nat.le_refl _, hs6⟩
     case step3 =>
      rintro x c st6 hx1 hx2 ⟨rfl, rfl, hs6⟩
      dsimp only
      refine wpS_bind (ltA C ok B5 (by (first | lia | omega)) (by (first | lia | omega)) ?_)
      cases hb : O.blt (ka kf (arrOf st6) (lo + x)) (ka kf (arrOf st6) (lo + x - 1)) with
      | true =>
       dsimp only
       rw [if_pos rfl]
       exact wpS_pure ⟨rfl, x, rfl, by (first | lia | omega), by (first | lia | omega), hs6⟩
      | false =>
       dsimp only
       rw [if_neg (by decide)]
       exact wpS_pure ⟨rfl, rfl, hs6.more (by (first | lia | omega)) hb⟩
     case post3 =>
      rintro c st6 ⟨rfl, k, rfl, hk1, hk2, hs6⟩
      exact wpS_pure (h k _ B5 hk1 hk2 hs6)
end
end Srt
namespace Srt
open PySem PyProof.Rows
section
variable {M : Model} {A : Around} {E : Value -> Shared -> Prop} {s : Shared} {O : KeyOrd} {kf : Keyed -> O.α} {okk : Keyed -> Prop} {kd : SortKind} {a0 : Array Keyed} {lo : Nat} {pd : Array (Nat × Nat × Nat)} {st : SortSt}
theorem binA (C : Cmp M A E s kd O kf okk) (ok : ∀ p ∈ a0.toList, okk p) (B : Wk kd a0 lo pd st) {n m : Nat} (hn : lo + n <= a0.size) (hm : m <= n) (hs : Sd kf (arrOf st) lo m) {Q : Bool -> SortSt -> Prop}
  (h : ∀ st', Wk kd a0 lo pd st' -> Sd kf (arrOf st') lo n -> Q true st') : wpS M A E s (binarySort' lo n m) Q st := by
 unfold binarySort'
 refine wpS_bind (wpS_mono (wpS_forRange (I := fun k c st' => c = (none, ()) /\ Wk kd a0 lo pd st' /\ Sd kf (arrOf st') lo (min k n)) (Q := fun c st' => c = (none, ()) /\ Wk kd a0 lo pd st' /\ Sd kf (arrOf st') lo n) ?step ?fin ⟨rfl, B, ?init⟩) ?post)
 case post =>
  rintro c st' ⟨rfl, B', hs'⟩
  exact wpS_pure (h st' B' hs')
 case init =>
  intro i j hij hj
  by_cases c : m = 0
  ·have e : i = j := by (first | lia | omega)
   subst e
   exact KeyOrd.kle_refl _
  ·exact hs i j hij (by (first | lia | omega))
 case fin =>
  rintro c st' ⟨hc, B', hs'⟩
  rw [show min (max (max m 1) n) n = n by (first | lia | omega)] at hs'
  exact ⟨hc, B', hs'⟩
 case step =>
  rintro k c st' hk1 hk2 ⟨rfl, B', hs'⟩
  rw [show min k n = k by (first | lia | omega)] at hs'
  refine wpS_bind (wpS_mono (wpS_forRange (I := fun x c st2 => st2 = st' /\ ∃ l r, c = (none, l, r) /\ l <= r /\ r <= k /\ r - l <= k - x /\ (∀ i, i < l -> O.kle (ka kf (arrOf st') (lo + i)) (ka kf (arrOf st') (lo + k))) /\ (∀ i, r <= i -> i < k -> O.klt (ka kf (arrOf st') (lo + k)) (ka kf (arrOf st') (lo + i))))
   (Q := fun c st2 => st2 = st' /\ ∃ l r, c = (none, l, r) /\ l <= k /\ (∀ i, i < l -> O.kle (ka kf (arrOf st') (lo + i)) (ka kf (arrOf st') (lo + k))) /\ (∀ i, l <= i -> i < k -> O.klt (ka kf (arrOf st') (lo + k)) (ka kf (arrOf st') (lo + i)))) ?st2 ?fi2 ⟨rfl, 0, k, rfl, by (first | lia | omega), by (first | lia | omega), by (first | lia | omega), fun i hi => by (first | lia | omega), fun i i1 i2 => by (first | lia | omega)⟩) ?po2)
  case fi2 =>
   rintro c st2 ⟨rfl, l, r, rfl, h1, h2, h3, h4, h5⟩
   have e : l = r := by (first | lia | omega)
   subst e
   exact ⟨rfl, l, l, rfl, h2, h4, h5⟩
  case st2 =>
   rintro x c st2 _ hx ⟨rfl, l, r, rfl, h1, h2, h3, h4, h5⟩
   dsimp only
   by_cases hge : l ≥ r
   ·rw [if_pos hge]
    have e : l = r := by (first | lia | omega)
    subst e
    exact wpS_pure ⟨rfl, l, l, rfl, h2, h4, h5⟩
   ·rw [if_neg hge]
    refine wpS_bind (ltA C ok B' (by (first | lia | omega)) (by (first | lia | omega)) ?_)
    cases hb : O.blt (ka kf (arrOf st2) (lo + k)) (ka kf (arrOf st2) (lo + (l + r) / 2)) with
    | true =>
     dsimp only
     rw [if_pos rfl]
     exact wpS_pure ⟨rfl, l, (l + r) / 2, rfl, by (first | lia | omega), by (first | lia | omega), by (first | lia | omega), h4, fun i i1 i2 => KeyOrd.klt_of_klt_of_kle hb (hs' _ _ i1 i2)⟩
    | false =>
     dsimp only
     rw [if_neg (by decide)]
     exact wpS_pure ⟨rfl, (l + r) / 2 + 1, r, rfl, by (first | lia | omega), by (first | lia | omega), by (first | lia | omega), fun i i1 => KeyOrd.kle_trans (hs' i ((l + r) / 2) (by (first | lia | omega)) (by (first | lia | omega))) hb, h5⟩
  case po2 =>
   rintro c st2 ⟨rfl, l, r, rfl, h1, h2, h3⟩
   dsimp only
   have hz : lo + k < (arrOf st2).size := by rw [B'.size]; (first | lia | omega)
   refine wpS_bind (show wpS M A E s (moveDown' (lo + k) (lo + l)) _ st2 from ?_)
   rw [moveDown'_eq]
   refine wpS_modify (wpS_pure ⟨rfl, B'.bub (by (first | lia | omega)) (by (first | lia | omega)), ?_⟩)
   rw [show min (k + 1) n = k + 1 by (first | lia | omega)]
   intro i j hij hj
   show O.kle (ka kf (bubble (arrOf st2) (lo + k) (lo + k - (lo + l))) (lo + i)) (ka kf (bubble (arrOf st2) (lo + k) (lo + k - (lo + l))) (lo + j))
   rw [ka_bub hz (by (first | lia | omega)), ka_bub hz (by (first | lia | omega)), show lo + k - (lo + k - (lo + l)) = lo + l by (first | lia | omega)]
   by_cases ci : i < l
   ·rw [if_neg (by (first | lia | omega)), if_neg (by (first | lia | omega))]
    by_cases cj : j < l
    ·rw [if_neg (by (first | lia | omega)), if_neg (by (first | lia | omega))]
     exact hs' i j hij (by (first | lia | omega))
    ·by_cases ej : j = l
     ·rw [if_pos (by (first | lia | omega))]
      exact h2 i ci
     ·rw [if_neg (by (first | lia | omega)), if_pos (by (first | lia | omega)), show lo + j - 1 = lo + (j - 1) by (first | lia | omega)]
      exact hs' i (j - 1) (by (first | lia | omega)) (by (first | lia | omega))
   ·by_cases ei : i = l
    ·rw [if_pos (by (first | lia | omega))]
     by_cases ej : j = l
     ·rw [if_pos (by (first | lia | omega))]
      exact KeyOrd.kle_refl _
     ·rw [if_neg (by (first | lia | omega)), if_pos (by (first | lia | omega)), show lo + j - 1 = lo + (j - 1) by (first | lia | omega)]
      exact KeyOrd.kle_of_klt (h3 (j - 1) (by (first | lia | omega)) (by (first | lia | omega)))
    ·rw [if_neg (by (first | lia | omega)), if_pos (by (first | lia | omega)), if_neg (by (first | lia | omega)), if_pos (by (first | lia | omega)), show lo + j - 1 = lo + (j - 1) by (first | lia | omega), show lo + i - 1 = lo + (i - 1) by (first | lia | omega)]
     exact hs' (i - 1) (j - 1) (by (first | lia | omega)) (by (first | lia | omega))
end
end Srt
namespace Srt
open PySem PyProof.Rows
noncomputable def mergeAt' : Nat -> StateT SortSt Sem Bool := sortPriv% PySem.Builtin.mergeAt
section
variable {M : Model} {A : Around} {E : Value -> Shared -> Prop} {s : Shared} {O : KeyOrd} {kf : Keyed -> O.α} {okk : Keyed -> Prop} {kd : SortKind} {st : SortSt}
theorem RunUp.join {a : Array Keyed} {x y z : Nat} (r1 : RunUp kf a x y) (r2 : RunUp kf a y z) (h : ∀ i j p q, x <= i -> i < y -> y <= j -> j < z -> a[i]? = some p -> a[j]? = some q -> O.kle (kf p) (kf q)) : RunUp kf a x z := fun i j p q h1 h2 h3 hp hq => by
 by_cases c1 : j < y
 ·exact r1 i j p q h1 h2 c1 hp hq
 ·by_cases c2 : i < y
  ·exact h i j p q h1 c2 (by (first | lia | omega)) h3 hp hq
  ·exact r2 i j p q (by (first | lia | omega)) h2 h3 hp hq
theorem RunUp.sub {a : Array Keyed} {x y x' y' : Nat} (r : RunUp kf a x y) (h1 : x <= x') (h2 : y' <= y) : RunUp kf a x' y' := fun i j p q a1 a2 a3 hp hq => r i j p q (by (first | lia | omega)) a2 (by (first | lia | omega)) hp hq
theorem mergeA (C : Cmp M A E s kd O kf okk) (ok : ∀ p ∈ (arrOf st).toList, okk p) (hk : kindOf st = kd) (hf : failedOf st = none) {i sa na pw sb nb z : Nat} (h1 : (pendingOf st)[i]? = some (sa, na, pw)) (h2 : (pendingOf st)[i + 1]? = some (sb, nb, z)) (e : sb = sa + na) (hna : 0 < na) (hnb : 0 < nb) (hz : sb + nb <= (arrOf st).size)
  (r1 : RunUp kf (arrOf st) sa sb) (r2 : RunUp kf (arrOf st) sb (sb + nb)) {Q : Bool -> SortSt -> Prop}
  (h : ∀ st', (arrOf st').Perm (arrOf st) -> kindOf st' = kd -> failedOf st' = none -> pendingOf st' = ((pendingOf st).setIfInBounds i (sa, na + nb, pw)).eraseIdxIfInBounds (i + 1) -> RunUp kf (arrOf st') sa (sb + nb) -> (∀ j, j < sa ∨ sb + nb <= j -> (arrOf st')[j]? = (arrOf st)[j]?) -> Q true st') : wpS M A E s (mergeAt' i) Q st := by
 unfold mergeAt'
 refine wpS_bind (wpS_get ?_)
 simp only [h1, h2]
 refine wpS_bind (wpS_modify (f := fun _ => _) ?_)
 have mem : ∀ {j : Nat} {p : Keyed}, (arrOf st)[j]? = some p -> okk p := fun {j p} g => ok p (List.mem_of_getElem? (i := j) (by rw [<- g]; simp))
 have at_ : ∀ j, j < (arrOf st).size -> ∃ p, (arrOf st)[j]? = some p := fun j hj => ⟨_, Array.getElem?_eq_getElem hj⟩
 obtain ⟨pb, hpb⟩ := at_ sb (by (first | lia | omega))
 have hq : ∀ st', arrOf st' = arrOf st -> kindOf st' = kd -> failedOf st' = none -> pendingOf st' = ((pendingOf st).setIfInBounds i (sa, na + nb, pw)).eraseIdxIfInBounds (i + 1) -> RunUp kf (arrOf st) sa (sb + nb) -> Q true st' := fun st' e1 e2 e3 e4 e5 => h st' (by rw [e1]) e2 e3 e4 (by rw [e1]; exact e5) (fun j _ => by rw [e1])
 refine wpS_bind (wpS_elem (arr := arrOf st) hpb ?_)
 have hk' : kindOf (setPending st (((pendingOf st).setIfInBounds i (sa, na + nb, pw)).eraseIdxIfInBounds (i + 1))) = kd := hk
 refine wpS_bind (gallopR0 (st := setPending st (((pendingOf st).setIfInBounds i (sa, na + nb, pw)).eraseIdxIfInBounds (i + 1))) C hk' ok (mem hpb) (r1.sub (Nat.le_refl _) (by (first | lia | omega))) (show sa + na <= (arrOf st).size by (first | lia | omega)) hna fun k hk1 g1 g2 => ?_)
 dsimp only
 by_cases c0 : na - k = 0
 ·rw [if_pos (by simpa using c0)]
  refine wpS_pure (hq _ rfl hk hf rfl (r1.join r2 fun x y p q x1 x2 y1 y2 hp hq => ?_))
  have a1 := g1 (x - sa) p (by (first | lia | omega)) (by rw [show sa + (x - sa) = x by (first | lia | omega)]; exact hp)
  exact KeyOrd.kle_trans a1 (r2 sb y pb q (Nat.le_refl _) y1 y2 hpb hq)
 rw [if_neg (by simpa using c0)]
 obtain ⟨pl, hpl⟩ := at_ (sa + k + (na - k) - 1) (by (first | lia | omega))
 refine wpS_bind (wpS_elem (arr := arrOf st) hpl ?_)
 refine wpS_bind (gallopL0 (st := setPending st (((pendingOf st).setIfInBounds i (sa, na + nb, pw)).eraseIdxIfInBounds (i + 1))) C hk' ok (mem hpl) r2 hz (by (first | lia | omega)) fun k2 hk2 g3 g4 => ?_)
 dsimp only
 by_cases c1 : k2 = 0
 ·rw [if_pos (by simpa using c1)]
  refine wpS_pure (hq _ rfl hk hf rfl (r1.join r2 fun x y p q x1 x2 y1 y2 hp hq => ?_))
  have a1 := g4 (y - sb) q (by (first | lia | omega)) (by (first | lia | omega)) (by rw [show sb + (y - sb) = y by (first | lia | omega)]; exact hq)
  exact KeyOrd.kle_trans (r1 x _ p pl x1 (by (first | lia | omega)) (by (first | lia | omega)) hp hpl) a1
 rw [if_neg (by simpa using c1)]
 have X1 : KeysUp kf ((arrOf st).extract (sa + k) sb) := ext_up (by (first | lia | omega)) (r1.sub (by (first | lia | omega)) (Nat.le_refl _))
 have X2 : KeysUp kf ((arrOf st).extract sb (sb + k2)) := ext_up (by (first | lia | omega)) (r2.sub (Nat.le_refl _) (by (first | lia | omega)))
 have z1 : ((arrOf st).extract (sa + k) sb).size = na - k := by rw [Array.size_extract]; (first | lia | omega)
 have z2 : ((arrOf st).extract sb (sb + k2)).size = k2 := by rw [Array.size_extract]; (first | lia | omega)
 have o1 : ∀ p ∈ ((arrOf st).extract (sa + k) sb).toList, okk p := fun p hp => by
  obtain ⟨m, _, _, g⟩ := ext_mem (by (first | lia | omega)) hp
  exact mem g
 have o2 : ∀ p ∈ ((arrOf st).extract sb (sb + k2)).toList, okk p := fun p hp => by
  obtain ⟨m, _, _, g⟩ := ext_mem (by (first | lia | omega)) hp
  exact mem g
 have f0 : ∀ p q, ((arrOf st).extract sb (sb + k2))[0]? = some p -> ((arrOf st).extract (sa + k) sb)[0]? = some q -> O.klt (kf p) (kf q) := fun p q hp hq => by
  rw [ext_at (by (first | lia | omega)) (by (first | lia | omega)), Nat.add_zero] at hp hq
  rw [hpb] at hp
  cases hp
  exact g2 k q (Nat.le_refl _) (by (first | lia | omega)) hq
 have fl : ∀ p q, ((arrOf st).extract (sa + k) sb)[((arrOf st).extract (sa + k) sb).size - 1]? = some p -> q ∈ ((arrOf st).extract sb (sb + k2)).toList -> O.klt (kf q) (kf p) := fun p q hp hq => by
  rw [z1, ext_at (by (first | lia | omega)) (by (first | lia | omega)), show sa + k + (na - k - 1) = sa + k + (na - k) - 1 by (first | lia | omega), hpl] at hp
  cases hp
  obtain ⟨m, m1, m2, g⟩ := ext_mem (by (first | lia | omega)) hq
  exact g3 (m - sb) q (by (first | lia | omega)) (by rw [show sb + (m - sb) = m by (first | lia | omega)]; exact g)
 have fin : ∀ (r : Array Keyed) (g : Nat), Res kf ((arrOf st).extract (sa + k) sb) ((arrOf st).extract sb (sb + k2)) r -> ∀ st', arrOf st' = put r.toList (sa + k) (arrOf st) -> kindOf st' = kd -> failedOf st' = none -> pendingOf st' = ((pendingOf st).setIfInBounds i (sa, na + nb, pw)).eraseIdxIfInBounds (i + 1) -> Q true st' := fun r g R st' e1 e2 e3 e4 => by
  have rsz : r.size = (sb + k2) - (sa + k) := by
   have := R.1.length_eq
   rw [List.length_append, Array.length_toList, Array.length_toList, Array.length_toList, z1, z2] at this
   (first | lia | omega)
  have rmem : ∀ q ∈ r.toList, ∃ m, sa + k <= m /\ m < sb + k2 /\ (arrOf st)[m]? = some q := fun q hq => by
   rcases List.mem_append.mp (R.1.mem_iff.mp hq) with g | g
   ·obtain ⟨m, m1, m2, m3⟩ := ext_mem (by (first | lia | omega)) g
    exact ⟨m, m1, by (first | lia | omega), m3⟩
   ·obtain ⟨m, m1, m2, m3⟩ := ext_mem (by (first | lia | omega)) g
    exact ⟨m, by (first | lia | omega), m2, m3⟩
  refine h st' ?_ e2 e3 e4 ?_ fun j hj => ?_
  ·rw [e1]
   exact put_perm (by (first | lia | omega)) (by (first | lia | omega)) (by (first | lia | omega)) R.1
  ·rw [e1]
   refine put_run rsz (by (first | lia | omega)) (by (first | lia | omega)) (by (first | lia | omega)) (by (first | lia | omega)) R.2 (r1.sub (Nat.le_refl _) (by (first | lia | omega))) (r2.sub (by (first | lia | omega)) (Nat.le_refl _)) ?_ ?_ ?_
   ·intro x p x1 x2 hp q hq
    obtain ⟨m, m1, m2, m3⟩ := rmem q hq
    by_cases cm : m < sb
    ·exact r1 x m p q x1 (by (first | lia | omega)) cm hp m3
    ·have a1 := g1 (x - sa) p (by (first | lia | omega)) (by rw [show sa + (x - sa) = x by (first | lia | omega)]; exact hp)
     exact KeyOrd.kle_trans a1 (r2 sb m pb q (Nat.le_refl _) (by (first | lia | omega)) (by (first | lia | omega)) hpb m3)
   ·intro y q y1 y2 hq p hp
    obtain ⟨m, m1, m2, m3⟩ := rmem p hp
    by_cases cm : m < sb
    ·have a1 := g4 (y - sb) q (by (first | lia | omega)) (by (first | lia | omega)) (by rw [show sb + (y - sb) = y by (first | lia | omega)]; exact hq)
     exact KeyOrd.kle_trans (r1 m _ p pl (by (first | lia | omega)) (by (first | lia | omega)) (by (first | lia | omega)) m3 hpl) a1
    ·exact r2 m y p q (by (first | lia | omega)) (by (first | lia | omega)) y2 m3 hq
   ·intro x y p q x1 x2 y1 y2 hp hq
    have a1 := g1 (x - sa) p (by (first | lia | omega)) (by rw [show sa + (x - sa) = x by (first | lia | omega)]; exact hp)
    exact KeyOrd.kle_trans a1 (r2 sb y pb q (Nat.le_refl _) (by (first | lia | omega)) y2 hpb hq)
  ·rw [e1, put_at (by (first | lia | omega)), if_neg (by (first | lia | omega))]
 by_cases c2 : na - k <= k2
 ·rw [if_pos c2]
  refine wpS_bind (wpS_mergeLo (st := setPending st (((pendingOf st).setIfInBounds i (sa, na + nb, pw)).eraseIdxIfInBounds (i + 1))) C hk' o1 o2 X1 X2 (show 0 < ((arrOf st).extract (sa + k) sb).size by (first | lia | omega)) (show 0 < ((arrOf st).extract sb (sb + k2)).size by (first | lia | omega)) (fun p q hp hq => KeyOrd.kle_of_klt (f0 p q hp hq)) fl fun r g R => ?_)
  refine wpS_bind (wpS_modify (wpS_bind (wpS_get ?_)))
  have e : Option.isNone (failedOf st) = true := by rw [hf]; rfl
  refine wpS_pure ?_
  dsimp only
  rw [e]
  exact fin r g R _ rfl hk hf rfl
 ·rw [if_neg c2]
  refine wpS_bind (wpS_mergeHi (st := setPending st (((pendingOf st).setIfInBounds i (sa, na + nb, pw)).eraseIdxIfInBounds (i + 1))) C hk' o1 o2 X1 X2 (show 0 < ((arrOf st).extract (sa + k) sb).size by (first | lia | omega)) (show 0 < ((arrOf st).extract sb (sb + k2)).size by (first | lia | omega)) f0 fl fun r g R => ?_)
  refine wpS_bind (wpS_modify (wpS_bind (wpS_get ?_)))
  have e : Option.isNone (failedOf st) = true := by rw [hf]; rfl
  refine wpS_pure ?_
  dsimp only
  rw [e]
  exact fin r g R _ rfl hk hf rfl
end
end Srt
namespace Srt
open PySem PyProof.Rows
noncomputable def Ch : Nat -> List (Nat × Nat × Nat) -> Nat -> Prop
 | s, [], e => s = e
 | s, x :: r, e => x.1 = s /\ 1 <= x.2.1 /\ Ch (s + x.2.1) r e
theorem Ch.append {l m : List (Nat × Nat × Nat)} : ∀ {s e : Nat}, Ch s (l ++ m) e -> ∃ k, Ch s l k /\ Ch k m e := by
 induction l with
 | nil => exact fun {s e} h => ⟨s, rfl, h⟩
 | cons x l ih =>
  intro s e h
  obtain ⟨h1, h2, h3⟩ := h
  obtain ⟨k, a, b⟩ := ih h3
  exact ⟨k, ⟨h1, h2, a⟩, b⟩
theorem Ch.app {l m : List (Nat × Nat × Nat)} : ∀ {s k e : Nat}, Ch s l k -> Ch k m e -> Ch s (l ++ m) e := by
 induction l with
 | nil =>
  intro s k e h g
  cases (show s = k from h)
  exact g
 | cons x l ih => exact fun {s k e} h g => ⟨h.1, h.2.1, ih h.2.2 g⟩
theorem Ch.len {l : List (Nat × Nat × Nat)} : ∀ {s e : Nat}, Ch s l e -> s + l.length <= e := by
 induction l with
 | nil => exact fun {s e} h => by cases (show s = e from h); exact Nat.le_refl _
 | cons x l ih =>
  intro s e h
  have := ih h.2.2
  have := h.2.1
  rw [List.length_cons]
  (first | lia | omega)
theorem Ch.mem {l : List (Nat × Nat × Nat)} : ∀ {s e : Nat}, Ch s l e -> ∀ x ∈ l, s <= x.1 /\ 1 <= x.2.1 /\ x.1 + x.2.1 <= e := by
 induction l with
 | nil => exact fun _ x hx => by cases hx
 | cons y l ih =>
  intro s e h x hx
  have hl := h.2.2.len
  have h1 := h.1
  have h2 := h.2.1
  rcases List.mem_cons.mp hx with rfl | hx
  ·exact ⟨by (first | lia | omega), h2, by (first | lia | omega)⟩
  ·have := ih h.2.2 x hx
   exact ⟨by (first | lia | omega), this.2.1, this.2.2⟩
section
variable {M : Model} {A : Around} {E : Value -> Shared -> Prop} {s : Shared} {O : KeyOrd} {kf : Keyed -> O.α} {okk : Keyed -> Prop} {kd : SortKind} {a0 : Array Keyed} {lo : Nat} {st : SortSt}
structure Stk (kf : Keyed -> O.α) (kd : SortKind) (a0 : Array Keyed) (lo : Nat) (st : SortSt) : Prop where
 perm : (arrOf st).Perm a0
 kind : kindOf st = kd
 failed : failedOf st = none
 ch : Ch 0 (pendingOf st).toList lo
 runs : ∀ x ∈ (pendingOf st).toList, RunUp kf (arrOf st) x.1 (x.1 + x.2.1)
theorem RunUp.of_eq {a b : Array Keyed} {x y : Nat} (r : RunUp kf a x y) (h : ∀ j, x <= j -> j < y -> b[j]? = a[j]?) : RunUp kf b x y := fun i j p q h1 h2 h3 hp hq => r i j p q h1 h2 h3 (by rw [<- h i h1 (by (first | lia | omega))]; exact hp) (by rw [<- h j (by (first | lia | omega)) h3]; exact hq)
theorem mergeS (C : Cmp M A E s kd O kf okk) (ok : ∀ p ∈ a0.toList, okk p) (S : Stk kf kd a0 lo st) (hlo : lo <= a0.size) {i : Nat} (hi : i + 1 < (pendingOf st).size) {Q : Bool -> SortSt -> Prop} (h : ∀ st', Stk kf kd a0 lo st' -> (pendingOf st').size + 1 = (pendingOf st).size -> (∀ j, lo <= j -> (arrOf st')[j]? = (arrOf st)[j]?) -> Q true st') : wpS M A E s (mergeAt' i) Q st := by
 have hl : i + 1 < (pendingOf st).toList.length := by simpa using hi
 obtain ⟨⟨sa, na, pw⟩, h1⟩ : ∃ x, (pendingOf st).toList[i]? = some x := ⟨_, List.getElem?_eq_getElem (by (first | lia | omega))⟩
 obtain ⟨⟨sb, nb, z⟩, h2⟩ : ∃ x, (pendingOf st).toList[i + 1]? = some x := ⟨_, List.getElem?_eq_getElem hl⟩
 have split : (pendingOf st).toList = (pendingOf st).toList.take i ++ ((sa, na, pw) :: (sb, nb, z) :: (pendingOf st).toList.drop (i + 2)) := by
  obtain ⟨g1, e1⟩ := List.getElem?_eq_some_iff.mp h1
  obtain ⟨g2, e2⟩ := List.getElem?_eq_some_iff.mp h2
  rw [<- e1, <- e2, List.getElem_cons_drop, List.getElem_cons_drop, List.take_append_drop]
 have hlen : ((pendingOf st).toList.take i).length = i := by rw [List.length_take]; (first | lia | omega)
 have C0 := S.ch
 rw [split] at C0
 obtain ⟨k, c1, c2⟩ := C0.append
 obtain ⟨e1, n1, c3⟩ := c2
 obtain ⟨e2, n2, c4⟩ := c3
 dsimp only at e1 n1 e2 n2 c4
 have l4 := c4.len
 have m1 : (sa, na, pw) ∈ (pendingOf st).toList := List.mem_of_getElem? h1
 have m2 : (sb, nb, z) ∈ (pendingOf st).toList := List.mem_of_getElem? h2
 have sz := S.perm.size_eq
 refine mergeA C (fun p hp => ok p ((Array.perm_iff_toList_perm.mp S.perm).mem_iff.mp hp)) S.kind S.failed (i := i) (sa := sa) (na := na) (pw := pw) (sb := sb) (nb := nb) (z := z) (by rw [<- h1]; simp) (by rw [<- h2]; simp) (by (first | lia | omega)) n1 n2 (by (first | lia | omega)) ?_ (S.runs _ m2) fun st' p1 p2 p3 p4 p5 p6 => ?_
 ·have := S.runs _ m1
  dsimp only at this
  rw [show sb = sa + na by (first | lia | omega)]
  exact this
 ·have newl : (pendingOf st').toList = (pendingOf st).toList.take i ++ ((sa, na + nb, pw) :: (pendingOf st).toList.drop (i + 2)) := by
   rw [p4, Array.toList_eraseIdxIfInBounds, Array.toList_setIfInBounds]
   conv => lhs; rw [split]
   rw [List.set_append_right _ _ (by (first | lia | omega)), hlen, Nat.sub_self, List.set_cons_zero, List.eraseIdx_append_of_length_le (by (first | lia | omega)), hlen, show i + 1 - i = 1 by (first | lia | omega)]
   rfl
  have d1 := c1.mem
  have d4 := c4.mem
  refine h st' ⟨p1.trans S.perm, p2, p3, ?_, fun x hx => ?_⟩ ?_ fun j hj => p6 j (.inr (by (first | lia | omega)))
  ·rw [newl]
   exact c1.app ⟨e1, by show 1 <= na + nb; (first | lia | omega), by show Ch (k + (na + nb)) _ lo; rw [show k + (na + nb) = k + na + nb by (first | lia | omega)]; exact c4⟩
  ·rw [newl] at hx
   rcases List.mem_append.mp hx with hx | hx
   ·have := d1 x hx
    exact (S.runs x (by rw [split]; exact List.mem_append_left _ hx)).of_eq fun j j1 j2 => p6 j (.inl (by (first | lia | omega)))
   ·rcases List.mem_cons.mp hx with rfl | hx
    ·show RunUp kf (arrOf st') sa (sa + (na + nb))
     rw [show sa + (na + nb) = sb + nb by (first | lia | omega)]
     exact p5
    ·have := d4 x hx
     exact (S.runs x (by rw [split]; exact List.mem_append_right _ (List.mem_cons_of_mem _ (List.mem_cons_of_mem _ hx)))).of_eq fun j j1 j2 => p6 j (.inr (by (first | lia | omega)))
  ·have a1 : (pendingOf st').size = (pendingOf st').toList.length := by simp
   have a2 : (pendingOf st).size = (pendingOf st).toList.length := by simp
   rw [a1, a2, newl, List.length_append, List.length_cons, hlen, List.length_drop]
   (first | lia | omega)
end
end Srt
namespace Srt
open PySem PyProof.Rows
section
variable {M : Model} {A : Around} {E : Value -> Shared -> Prop} {s : Shared} {O : KeyOrd} {kf : Keyed -> O.α} {okk : Keyed -> Prop} {kd : SortKind} {a0 : Array Keyed} {lo : Nat} {st : SortSt}
theorem Sd.run {a : Array Keyed} {lo n : Nat} (h : Sd kf a lo n) : RunUp kf a lo (lo + n) := fun i j p q h1 h2 h3 hp hq => by
 have := h (i - lo) (j - lo) (by (first | lia | omega)) (by (first | lia | omega))
 rw [show lo + (i - lo) = i by (first | lia | omega), show lo + (j - lo) = j by (first | lia | omega), ka_at hp, ka_at hq] at this
 exact this
theorem ite_lt {c : Prop} [Decidable c] {a b n : Nat} (h1 : a + 1 < n) (h2 : b + 1 < n) : (if c then a else b) + 1 < n := by
 by_cases g : c
 ·rw [if_pos g]; exact h1
 ·rw [if_neg g]; exact h2
theorem Stk.wk (S : Stk kf kd a0 lo st) : Wk kd (arrOf st) lo (pendingOf st) st := ⟨Array.Perm.refl _, S.kind, S.failed, rfl, fun _ _ => rfl⟩
theorem Stk.more (S : Stk kf kd a0 lo st) {st1 : SortSt} (B : Wk kd (arrOf st) lo (pendingOf st) st1) : Stk kf kd a0 lo st1 := by
 refine ⟨B.perm.trans S.perm, B.kind, B.failed, by rw [B.pend]; exact S.ch, fun x hx => ?_⟩
 rw [B.pend] at hx
 have := S.ch.mem x hx
 exact (S.runs x hx).of_eq fun j _ j2 => B.pre j (by (first | lia | omega))
theorem Stk.push (S : Stk kf kd a0 lo st) {n : Nat} (h1 : 1 <= n) (r : RunUp kf (arrOf st) lo (lo + n)) : Stk kf kd a0 (lo + n) (setPending st ((pendingOf st).push (lo, n, 0))) := by
 have e : (pendingOf (setPending st ((pendingOf st).push (lo, n, 0)))).toList = (pendingOf st).toList ++ [(lo, n, 0)] := Array.toList_push
 refine ⟨S.perm, S.kind, S.failed, ?_, fun x hx => ?_⟩
 ·rw [e]
  exact S.ch.app ⟨rfl, h1, rfl⟩
 ·rw [e] at hx
  rcases List.mem_append.mp hx with hx | hx
  ·exact S.runs x hx
  ·rw [List.mem_singleton.mp hx]
   exact r
theorem Ch.modify {f : Nat × Nat × Nat -> Nat × Nat × Nat} (hf : ∀ x, (f x).1 = x.1 /\ (f x).2.1 = x.2.1) : ∀ {l : List (Nat × Nat × Nat)} {k s e : Nat}, Ch s l e -> Ch s (l.modify k f) e
 | [], k, s, e, h => by
  rw [List.modify_nil]
  exact h
 | x :: l, 0, s, e, h => by
  rw [List.modify_zero_cons]
  exact ⟨by rw [(hf x).1]; exact h.1, by rw [(hf x).2]; exact h.2.1, by rw [(hf x).2]; exact h.2.2⟩
 | x :: l, k + 1, s, e, h => by
  rw [List.modify_succ_cons]
  exact ⟨h.1, h.2.1, Ch.modify hf h.2.2⟩
theorem mem_modify {f : Nat × Nat × Nat -> Nat × Nat × Nat} {l : List (Nat × Nat × Nat)} {k : Nat} {x : Nat × Nat × Nat} (h : x ∈ l.modify k f) : x ∈ l ∨ ∃ y ∈ l, x = f y := by
 obtain ⟨j, hj⟩ := List.getElem?_of_mem h
 rw [List.getElem?_modify] at hj
 cases e : l[j]? with
 | none => rw [e] at hj; cases hj
 | some y =>
  rw [e] at hj
  have hj : some (if k = j then f y else y) = some x := hj
  have hy : y ∈ l := List.mem_of_getElem? e
  by_cases c : k = j
  ·rw [if_pos c] at hj
   cases hj
   exact .inr ⟨y, hy, rfl⟩
  ·rw [if_neg c] at hj
   cases hj
   exact .inl hy
theorem Stk.power (S : Stk kf kd a0 lo st) {k pw : Nat} {f : Nat × Nat × Nat -> Nat × Nat × Nat} (hf : ∀ x, (f x).1 = x.1 /\ (f x).2.1 = x.2.1) : Stk kf kd a0 lo (setPending st ((pendingOf st).modify k f)) := by
 have e : (pendingOf (setPending st ((pendingOf st).modify k f))).toList = (pendingOf st).toList.modify k f := Array.toList_modify
 refine ⟨S.perm, S.kind, S.failed, ?_, fun x hx => ?_⟩
 ·rw [e]
  exact S.ch.modify hf
 ·rw [e] at hx
  rcases mem_modify hx with hx | ⟨y, hy, rfl⟩
  ·exact S.runs x hx
  ·rw [(hf y).1, (hf y).2]
   exact S.runs y hy
theorem sortAll (C : Cmp M A E s kd O kf okk) (ok : ∀ p ∈ a0.toList, okk p) (ha : arrOf st = a0) (hk : kindOf st = kd) (hf : failedOf st = none) (hp : pendingOf st = #[]) {Q : Unit -> SortSt -> Prop} (h : ∀ st', (arrOf st').Perm a0 -> failedOf st' = none -> RunUp kf (arrOf st') 0 a0.size -> Q () st') : wpS M A E s sortRuns' Q st := by
 unfold sortRuns'
 refine wpS_bind (wpS_get ?_)
 have S0 : Stk kf kd a0 0 st := ⟨by rw [ha], hk, hf, by rw [hp]; rfl, fun x hx => by rw [hp] at hx; cases hx⟩
 have esz : (sortPriv% PySem.Builtin.SortState.a) st = a0 := ha
 try dsimp only
 rw [esz]
 generalize (sortPriv% PySem.Builtin.minRun) a0.size a0.size 0 = mr
 refine wpS_bind (wpS_mono (wpS_forRange (I := fun x c st1 => ∃ lo, c = (none, lo) /\ Stk kf kd a0 lo st1 /\ x <= lo /\ lo <= a0.size) (Q := fun c st1 => c = (none, a0.size) /\ Stk kf kd a0 a0.size st1) ?step ?fin ⟨0, rfl, S0, Nat.le_refl _, Nat.zero_le _⟩) ?post)
 case fin =>
  rintro c st1 ⟨lo, rfl, S1, h1, h2⟩
  rw [Nat.max_eq_right (Nat.zero_le _)] at h1
  have e : lo = a0.size := by (first | lia | omega)
  subst e
  exact ⟨rfl, S1⟩
 case step =>
  rintro x c st1 _ hx ⟨lo, rfl, S1, h1, h2⟩
  try dsimp only
  by_cases hge : lo ≥ a0.size
  ·rw [if_pos hge]
   have e : lo = a0.size := by (first | lia | omega)
   subst e
   exact wpS_pure ⟨rfl, S1⟩
  rw [if_neg hge]
  have z1 := S1.perm.size_eq
  have ok1 : ∀ p ∈ (arrOf st1).toList, okk p := fun p hp => ok p ((Array.perm_iff_toList_perm.mp S1.perm).mem_iff.mp hp)
  refine wpS_bind (countA C ok1 S1.wk (by (first | lia | omega)) (by (first | lia | omega)) fun m st2 B2 m1 m2 hs2 => ?_)
  try dsimp only
  by_cases hmr : m < mr
  ·rw [if_pos hmr]
   refine wpS_bind (wpS_lift (wpAny_rule ⟨rfl, ?_⟩))
   refine wpS_bind (binA C ok1 B2 (n := min (a0.size - lo) mr) (by (first | lia | omega)) (by (first | lia | omega)) hs2 fun st3 B3 hs3 => ?_)
   try dsimp only
   rw [if_neg (by decide)]
   have n1 : 1 <= min (a0.size - lo) mr := by (first | lia | omega)
   have n2 : lo + min (a0.size - lo) mr <= a0.size := by (first | lia | omega)
   generalize min (a0.size - lo) mr = n at n1 n2 hs3 ⊢
   have S3 := S1.more B3
   have r3 := hs3.run
   clear hs3 B3
   refine wpS_bind (wpS_get ?_)
   try dsimp only
   cases hb : ((sortPriv% PySem.Builtin.SortState.pending) st3).back? with
   | none =>
    try dsimp only
    exact wpS_bind (wpS_modify (wpS_pure ⟨lo + n, rfl, S3.push n1 r3, by (first | lia | omega), n2⟩))
   | some y =>
    obtain ⟨s1, k1, w1⟩ := y
    try dsimp only
    generalize (sortPriv% PySem.Builtin.power) a0.size (2 * s1 + k1) (2 * s1 + k1 + k1 + n) a0.size = pw
    refine wpS_bind (wpS_mono (wpS_forRange (I := fun _ c st4 => c = (none, ()) /\ Stk kf kd a0 lo st4 /\ RunUp kf (arrOf st4) lo (lo + n)) (Q := fun c st4 => c = (none, ()) /\ Stk kf kd a0 lo st4 /\ RunUp kf (arrOf st4) lo (lo + n)) ?st4 (fun _ _ g => g) ⟨rfl, S3, r3⟩) ?po4)
    case st4 =>
     rintro x4 c st4 _ _ ⟨rfl, S4, r4⟩
     try dsimp only
     refine wpS_bind (wpS_get ?_)
     try dsimp only
     cases hz : (if ((sortPriv% PySem.Builtin.SortState.pending) st4).size > 1 then ((sortPriv% PySem.Builtin.SortState.pending) st4)[((sortPriv% PySem.Builtin.SortState.pending) st4).size - 2]? else none) with
     | none =>
      try dsimp only
      exact wpS_pure ⟨rfl, S4, r4⟩
     | some y4 =>
      obtain ⟨s5, k5, w5⟩ := y4
      try dsimp only
      have h4 : (pendingOf st4).size > 1 := by
       by_cases c4 : (pendingOf st4).size > 1
       ·exact c4
       ·rw [if_neg c4] at hz
        cases hz
      by_cases c5 : w5 <= pw
      ·rw [if_pos c5]
       exact wpS_pure ⟨rfl, S4, r4⟩
      ·rw [if_neg c5]
       refine wpS_bind (mergeS C ok S4 h2 (i := (pendingOf st4).size - 2) (by (first | lia | omega)) fun st5 S5 _ e5 => ?_)
       try dsimp only
       rw [if_neg (by decide)]
       exact wpS_pure ⟨rfl, S5, r4.of_eq fun j j1 _ => e5 j j1⟩
    case po4 =>
     rintro c st4 ⟨rfl, S4, r4⟩
     try dsimp only
     refine wpS_bind (wpS_modify ?_)
     have S5 := S4.power (k := (pendingOf st4).size - 1) (pw := pw) (f := fun x => (x.1, x.2.1, pw)) (fun _ => ⟨rfl, rfl⟩)
     exact wpS_bind (wpS_modify (wpS_pure ⟨lo + n, rfl, S5.push n1 r4, by (first | lia | omega), n2⟩))
  ·rw [if_neg hmr]
   have n1 : 1 <= m := m1
   have n2 : lo + m <= a0.size := by (first | lia | omega)
   have B3 := B2
   have hs3 := hs2
   generalize m = n at n1 n2 hs3 ⊢
   generalize st2 = st3 at B3 hs3 ⊢
   have S3 := S1.more B3
   have r3 := hs3.run
   clear hs3 B3
   refine wpS_bind (wpS_get ?_)
   try dsimp only
   cases hb : ((sortPriv% PySem.Builtin.SortState.pending) st3).back? with
   | none =>
    try dsimp only
    exact wpS_bind (wpS_modify (wpS_pure ⟨lo + n, rfl, S3.push n1 r3, by (first | lia | omega), n2⟩))
   | some y =>
    obtain ⟨s1, k1, w1⟩ := y
    try dsimp only
    generalize (sortPriv% PySem.Builtin.power) a0.size (2 * s1 + k1) (2 * s1 + k1 + k1 + n) a0.size = pw
    refine wpS_bind (wpS_mono (wpS_forRange (I := fun _ c st4 => c = (none, ()) /\ Stk kf kd a0 lo st4 /\ RunUp kf (arrOf st4) lo (lo + n)) (Q := fun c st4 => c = (none, ()) /\ Stk kf kd a0 lo st4 /\ RunUp kf (arrOf st4) lo (lo + n)) ?st4 (fun _ _ g => g) ⟨rfl, S3, r3⟩) ?po4)
    case st4 =>
     rintro x4 c st4 _ _ ⟨rfl, S4, r4⟩
     try dsimp only
     refine wpS_bind (wpS_get ?_)
     try dsimp only
     cases hz : (if ((sortPriv% PySem.Builtin.SortState.pending) st4).size > 1 then ((sortPriv% PySem.Builtin.SortState.pending) st4)[((sortPriv% PySem.Builtin.SortState.pending) st4).size - 2]? else none) with
     | none =>
      try dsimp only
      exact wpS_pure ⟨rfl, S4, r4⟩
     | some y4 =>
      obtain ⟨s5, k5, w5⟩ := y4
      try dsimp only
      have h4 : (pendingOf st4).size > 1 := by
       by_cases c4 : (pendingOf st4).size > 1
       ·exact c4
       ·rw [if_neg c4] at hz
        cases hz
      by_cases c5 : w5 <= pw
      ·rw [if_pos c5]
       exact wpS_pure ⟨rfl, S4, r4⟩
      ·rw [if_neg c5]
       refine wpS_bind (mergeS C ok S4 h2 (i := (pendingOf st4).size - 2) (by (first | lia | omega)) fun st5 S5 _ e5 => ?_)
       try dsimp only
       rw [if_neg (by decide)]
       exact wpS_pure ⟨rfl, S5, r4.of_eq fun j j1 _ => e5 j j1⟩
    case po4 =>
     rintro c st4 ⟨rfl, S4, r4⟩
     try dsimp only
     refine wpS_bind (wpS_modify ?_)
     have S5 := S4.power (k := (pendingOf st4).size - 1) (pw := pw) (f := fun x => (x.1, x.2.1, pw)) (fun _ => ⟨rfl, rfl⟩)
     exact wpS_bind (wpS_modify (wpS_pure ⟨lo + n, rfl, S5.push n1 r4, by (first | lia | omega), n2⟩))
 case post =>
  rintro c st1 ⟨rfl, S1⟩
  try dsimp only
  have l1 := S1.ch.len
  rw [Nat.zero_add, Array.length_toList] at l1
  refine wpS_bind (wpS_mono (wpS_forRange (I := fun x c st2 => c = (none, ()) /\ Stk kf kd a0 a0.size st2 /\ ((pendingOf st2).size + x <= a0.size ∨ (pendingOf st2).size <= 1)) (Q := fun c st2 => c = (none, ()) /\ Stk kf kd a0 a0.size st2 /\ (pendingOf st2).size <= 1) ?st2 ?fi2 ⟨rfl, S1, .inl (by (first | lia | omega))⟩) ?po2)
  case fi2 =>
   rintro c st2 ⟨rfl, S2, hor⟩
   rw [Nat.max_eq_right (Nat.zero_le _)] at hor
   exact ⟨rfl, S2, by (first | lia | omega)⟩
  case st2 =>
   rintro x c st2 _ hx ⟨rfl, S2, hor⟩
   try dsimp only
   refine wpS_bind (wpS_get ?_)
   try dsimp only
   by_cases h1 : (pendingOf st2).size <= 1
   ·rw [if_pos h1]
    exact wpS_pure ⟨rfl, S2, h1⟩
   rw [if_neg h1]
   have h2 : 2 <= (pendingOf st2).size := by (first | lia | omega)
   refine wpS_bind (show wpS M A E s (mergeAt' _) _ st2 from mergeS C ok S2 (Nat.le_refl _) ?_ fun st3 S3 e3 _ => ?_)
   ·exact ite_lt (show (pendingOf st2).size - 2 - 1 + 1 < (pendingOf st2).size by (first | lia | omega)) (show (pendingOf st2).size - 2 + 1 < (pendingOf st2).size by (first | lia | omega))
   try dsimp only
   rw [if_neg (by decide)]
   exact wpS_pure ⟨rfl, S3, by (first | lia | omega)⟩
  case po2 =>
   rintro c st2 ⟨rfl, S2, hor⟩
   try dsimp only
   refine wpS_pure (h st2 S2.perm S2.failed ?_)
   have c2 := S2.ch
   have r2 := S2.runs
   have l2 : (pendingOf st2).toList.length <= 1 := by rw [Array.length_toList]; exact hor
   match e : (pendingOf st2).toList with
   | [] =>
    rw [e] at c2
    have : 0 = a0.size := c2
    intro i j p q _ _ hj
    (first | lia | omega)
   | [y] =>
    rw [e] at c2 r2
    obtain ⟨e1, _, e2⟩ := c2
    have := r2 y (List.mem_singleton.mpr rfl)
    have e3 : 0 + y.2.1 = a0.size := e2
    rw [e1, e3] at this
    exact this
   | _ :: _ :: _ =>
    rw [e] at l2
    simp at l2
end
end Srt
namespace Srt
open PySem PyProof.Rows
noncomputable def hS (h : Heap) (a : Addr) (vs : List Value) : Heap := ((h.update a (Obj.mapSeq fun _ => (#[] : Array Value))).push (seqObj "tuple" vs.toArray 0)).push (seqObj "list" #[] 0)
section
variable {prog : Program} {w : World} {A : Around} {E : Value -> Shared -> Prop} {s : Shared} {O : KeyOrd} {kf : Keyed -> O.α} {okk : Keyed -> Prop} {kd : SortKind}
theorem listSortA {a : Addr} {vs : List Value} {n : Nat} {P : PySem.Fin -> Shared -> Prop} (ho : s.heap.get? a = some (seqObj "list" vs.toArray n)) (hln : vs.length <= sizeLine)
  (hkk : 2 <= vs.length -> ∀ Q : SortKind -> Shared -> Prop, Q kd { s with heap := hS s.heap a vs } -> wpAny (model prog w) A (keyKind' vs.toArray) Q E { s with heap := hS s.heap a vs })
  (C : Cmp (model prog w) A E { s with heap := hS s.heap a vs } kd O kf okk) (ok : ∀ p ∈ (pairsOf vs).toList, okk p)
  (h : ∀ st' : SortSt, (arrOf st').Perm (pairsOf vs) -> RunUp kf (arrOf st') 0 vs.length -> P (.done (.ret .none)) { s with heap := sortedHeap s.heap a vs ((arrOf st').map (·.2)) }) :
  wpAny (model prog w) A (Builtin.«list.sort» ⟨[.ref a], []⟩) P E s := by
 rw [list_sort_plain]
 have ha : a < s.heap.objs.size := Heap.lt_size ho
 have zz : vs.toArray.size = vs.length := by simp
 refine wpAny_bind (listItems_at ho rfl (wpAny_bind (listUpdate_at ho rfl ?_ (by rw [zz]; exact hln) (Nat.zero_le _))))
 obtain ⟨e1, ho1⟩ : ∃ e, (s.heap.update a (Obj.mapSeq fun _ => (#[] : Array Value))).get? a = some (seqObj "list" #[] e) := ⟨_, get?_update_seq ho fun _ => #[]⟩
 refine wpAny_bind (seqEpoch_at ho1 rfl (wpAny_bind (wpAny_newTuple ?_ (by simpa using hln))))
 refine wpAny_bind (wpAny_newList ?_ (Nat.zero_le _))
 refine wpAny_holding ?_
 have ho6 : (hS s.heap a vs).get? a = some (seqObj "list" #[] e1) := by
  unfold hS
  rw [Heap.get?_push_ne _ _ _ (by rw [size_push', Heap.size_update]; exact Nat.ne_of_lt (Nat.lt_succ_of_lt ha)), Heap.get?_push_ne _ _ _ (by rw [Heap.size_update]; exact Nat.ne_of_lt ha)]
  exact ho1
 show wpAny (model prog w) A _ P E { s with heap := hS s.heap a vs }
 dsimp only
 by_cases c : vs.toArray.size < 2
 ·rw [if_pos c, if_pos c]
  refine wpAny_bind (wpAny_pure ?_)
  rw [StateT.run_pure]
  refine wpAny_bind (wpAny_pure ?_)
  dsimp only
  refine wpAny_bind (seqEpoch_at ho6 rfl (wpAny_bind (listUpdate_at ho6 rfl ?_ (Nat.zero_le _) ?_)))
  ·simp only [bne_self_eq_false, Bool.false_eq_true, if_false]
   refine wpAny_pure (h (SortSt.mk' general' (vs.toArray.zip vs.toArray) #[] 7 none) (Array.Perm.refl _) fun i j p q h1 h2 h3 hp hq => ?_)
   have e : i = j := by (first | lia | omega)
   subst e
   rw [hp] at hq
   cases hq
   exact KeyOrd.kle_refl _
  ·rw [Array.size_map]
   show (pairsOf vs).size <= _
   rw [pairsOf_size]
   (first | lia | omega)
 ·rw [if_neg c, if_neg c]
  refine wpAny_bind (hkk (by (first | lia | omega)) _ ?_)
  refine wpAny_bind (wpAny_mono (sortAll (a0 := pairsOf vs) (st := SortSt.mk' kd (vs.toArray.zip vs.toArray) #[] 7 none) (Q := fun _ st' => (arrOf st').Perm (pairsOf vs) /\ failedOf st' = none /\ RunUp kf (arrOf st') 0 (pairsOf vs).size) C ok rfl rfl rfl rfl fun st' a1 a2 a3 => ⟨a1, a2, a3⟩) ?_ fun _ _ e => e)
  rintro ⟨⟨⟩, st'⟩ s' ⟨rfl, hp, hf, hs⟩
  dsimp only
  have zp : ((arrOf st').map (·.2)).size = vs.length := (Array.size_map ..).trans (hp.size_eq.trans (pairsOf_size _))
  refine wpAny_bind (seqEpoch_at ho6 rfl (wpAny_bind (listUpdate_at ho6 rfl ?_ (Nat.zero_le _) (by show ((arrOf st').map (·.2)).size <= _; (first | lia | omega)))))
  rw [hf]
  simp only [bne_self_eq_false, Bool.false_eq_true, if_false]
  rw [pairsOf_size] at hs
  exact wpAny_pure (h st' hp hs)
noncomputable def hC (h : Heap) (vs : List Value) : Heap := ((h.push (seqObj "list" #[] 0)).update h.objs.size (Obj.mapSeq (· ++ vs.toArray))).push (seqObj "list" vs.toArray 0)
theorem hC_at (h : Heap) (vs : List Value) : (hC h vs).get? (h.objs.size + 1) = some (seqObj "list" vs.toArray 0) := by
 have e : ((h.push (seqObj "list" #[] 0)).update h.objs.size (Obj.mapSeq (· ++ vs.toArray))).objs.size = h.objs.size + 1 := by rw [Heap.size_update, size_push']
 unfold hC
 rw [<- e]
 exact Heap.get?_push_size _ rfl
theorem hC_old {h : Heap} {vs : List Value} {b : Addr} {o : Obj} (e : h.get? b = some o) : (hC h vs).get? b = some o := by
 have hlt : b < h.objs.size := Heap.lt_size e
 unfold hC
 rw [Heap.get?_push_ne _ _ _ (by rw [Heap.size_update, size_push']; exact Nat.ne_of_lt (Nat.lt_succ_of_lt hlt)), Heap.get?_update_ne _ _ _ _ (Nat.ne_of_lt hlt), Heap.get?_push_ne _ _ _ (Nat.ne_of_lt hlt)]
 exact e
theorem hS_old {h : Heap} {a : Addr} {vs : List Value} {b : Addr} {o : Obj} (hb : b ≠ a) (e : h.get? b = some o) : (hS h a vs).get? b = some o := by
 have hlt : b < h.objs.size := Heap.lt_size e
 unfold hS
 rw [Heap.get?_push_ne _ _ _ (by rw [size_push', Heap.size_update]; exact Nat.ne_of_lt (Nat.lt_succ_of_lt hlt)), Heap.get?_push_ne _ _ _ (by rw [Heap.size_update]; exact Nat.ne_of_lt hlt), Heap.get?_update_ne _ _ _ _ hb]
 exact e
theorem sortedA {l : Addr} {vs : List Value} {Q : Value -> Shared -> Prop} (hl : s.heap.IsList l vs.toArray) (hln : vs.length <= sizeLine)
  (hkk : 2 <= vs.length -> ∀ (A' : Around) (E' : Value -> Shared -> Prop) (h' : Heap) (Q : SortKind -> Shared -> Prop), (∀ b o, s.heap.get? b = some o -> h'.get? b = some o) -> Q kd { s with heap := h' } -> wpAny (model prog w) A' (keyKind' vs.toArray) Q E' { s with heap := h' })
  (C : ∀ (A' : Around) (E' : Value -> Shared -> Prop) (h' : Heap), (∀ b o, s.heap.get? b = some o -> h'.get? b = some o) -> Cmp (model prog w) A' E' { s with heap := h' } kd O kf okk) (ok : ∀ p ∈ (pairsOf vs).toList, okk p)
  (h : ∀ st' : SortSt, (arrOf st').Perm (pairsOf vs) -> RunUp kf (arrOf st') 0 vs.length -> Q (.ref (s.heap.objs.size + 1)) { s with heap := sortedAll s.heap vs ((arrOf st').map (·.2)) }) :
  wpAny (model prog w) A (call (.builtin "sorted") [.ref l]) Q E s := by
 refine Calls.call_function_entry kind_sorted plain_sorted entry_sorted (args_sorted1 _) ?_
 unfold Builtin.«sorted»
 refine wpAny_bind (m := checkCount "sorted" 1 1 _) (wpAny_pure ?_)
 refine wpAny_bind (collect_list hl ?_ hln)
 refine wpAny_bind (wpAny_newList ?_ hln)
 have e : ((s.heap.push (seqObj "list" #[] 0)).update s.heap.objs.size (Obj.mapSeq (· ++ vs.toArray))).objs.size = s.heap.objs.size + 1 := by rw [Heap.size_update, size_push']
 show wpAny _ _ _ _ _ { s with heap := hC s.heap vs }
 rw [e]
 have hk : ∀ b o, s.heap.get? b = some o -> (hS (hC s.heap vs) (s.heap.objs.size + 1) vs).get? b = some o := fun b o g => hS_old (Nat.ne_of_lt (Nat.lt_succ_of_lt (Heap.lt_size g))) (hC_old g)
 refine wpAny_bind (wpAny_holding (wpAny_call_entry slot_list_sort ⟨_, hC_at s.heap vs, rfl⟩ entry_list_sort (listSortA (s := { s with heap := hC s.heap vs }) (hC_at s.heap vs) hln (fun h2 Q' q => hkk h2 _ _ _ Q' hk q) (C _ _ _ hk) ok fun st' a1 a2 => ⟨_, rfl, ?_⟩) (args_list_sort _)))
 exact wpAny_pure ⟨_, rfl, h st' a1 a2⟩
end
end Srt
namespace L2
open PySem PySem.Spec PyProof.Rows
section
variable {X : Cx}
end
end L2
namespace Srt
open PySem PyProof.Rows
theorem lex_irr : ∀ a : List Int, HT.lexLt a a = false
 | [] => rfl
 | x :: a => by rw [HT.lexLt_cons, if_pos rfl]; exact lex_irr a
theorem lex_tot : ∀ a b : List Int, HT.lexLt a b = false -> HT.lexLt b a = false -> a = b
 | [], [], _, _ => rfl
 | [], _ :: _, h, _ => by rw [HT.lexLt_nil_cons] at h; cases h
 | _ :: _, [], _, h => by rw [HT.lexLt_nil_cons] at h; cases h
 | x :: a, y :: b, h1, h2 => by
  rw [HT.lexLt_cons] at h1 h2
  by_cases c : x = y
  ·subst c
   rw [if_pos rfl] at h1 h2
   rw [lex_tot a b h1 h2]
  ·rw [if_neg c] at h1
   rw [if_neg (Ne.symm c)] at h2
   have := of_decide_eq_false h1
   have := of_decide_eq_false h2
   (first | lia | omega)
theorem lex_trans : ∀ a b c : List Int, HT.lexLt a b = true -> HT.lexLt b c = true -> HT.lexLt a c = true
 | [], [], _, h, _ => by cases h
 | [], _ :: _, [], _, h => by rw [HT.lexLt_cons_nil] at h; cases h
 | [], _ :: _, _ :: _, _, _ => rfl
 | _ :: _, [], _, h, _ => by rw [HT.lexLt_cons_nil] at h; cases h
 | _ :: _, _ :: _, [], _, h => by rw [HT.lexLt_cons_nil] at h; cases h
 | x :: a, y :: b, z :: c, h1, h2 => by
  rw [HT.lexLt_cons] at h1 h2 ⊢
  by_cases c1 : x = y
  ·subst c1
   rw [if_pos rfl] at h1
   by_cases c2 : x = z
   ·rw [if_pos c2] at h2 ⊢
    exact lex_trans a b c h1 h2
   ·rw [if_neg c2] at h2 ⊢
    exact h2
  ·rw [if_neg c1] at h1
   have g1 := of_decide_eq_true h1
   by_cases c2 : y = z
   ·subst c2
    rw [if_neg c1]
    exact h1
   ·rw [if_neg c2] at h2
    have g2 := of_decide_eq_true h2
    rw [if_neg (by (first | lia | omega))]
    exact decide_eq_true (by (first | lia | omega))
theorem lex_neg (a b c : List Int) (h : HT.lexLt a c = true) : HT.lexLt a b = true ∨ HT.lexLt b c = true := by
 cases h1 : HT.lexLt a b with
 | true => exact .inl rfl
 | false =>
  cases h2 : HT.lexLt b a with
  | true => exact .inr (lex_trans b a c h2 h)
  | false =>
   rw [<- lex_tot a b h1 h2]
   exact .inr h
noncomputable def lexO : KeyOrd where
 α := List Int
 blt := HT.lexLt
 irrefl := lex_irr
 trans := lex_trans
 negTrans := lex_neg
 total := lex_tot
noncomputable def tupI (h : Heap) : Value -> List Int
 | .ref a => match h.get? a with
  | some o => match o.data with
   | .seq xs _ => xs.toList.map numOf
   | _ => []
  | none => []
 | _ => []
noncomputable def isTI (h : Heap) (v : Value) (ns : List Int) : Prop := ∃ a o xs n, v = .ref a /\ h.get? a = some o /\ o.cls = .type "tuple" /\ o.data = .seq xs n /\ IntsAre xs.toList ns
theorem ints_num : ∀ {vs : List Value} {ns : List Int}, IntsAre vs ns -> vs.map numOf = ns := by
 intro vs ns h
 induction h with
 | nil => rfl
 | cons _ _ _ ih => rw [List.map_cons, ih]; rfl
theorem isTI.tup {h : Heap} {v : Value} {ns : List Int} (p : isTI h v ns) : tupI h v = ns := by
 obtain ⟨a, o, xs, n, rfl, ho, _, hd, hi⟩ := p
 show (match h.get? a with | some o => _ | none => _) = _
 rw [ho]
 show (match o.data with | .seq xs _ => _ | _ => _) = _
 rw [hd]
 exact ints_num hi
section
variable {prog : Program} {w : World} {A : Around} {E : Value -> Shared -> Prop} {s : Shared}
theorem kat_ints {Q : Bool -> Shared -> Prop} {b : Bool} : ∀ {xs ys : List Value} {ns ms : List Int} (i : Nat), IntsAre xs ns -> IntsAre ys ms -> Q (HT.lexLt ns ms) s -> PySem.W.KatLex prog w A b (decide (xs.length < ys.length)) Q (xs.zip ys) i s
 | [], [], _, _, i, .nil, .nil, q => PySem.W.kat_nil q
 | [], _ :: _, _, _, i, .nil, .cons _ _ _, q => PySem.W.kat_nil q
 | _ :: _, [], _, _, i, .cons _ _ _, .nil, q => PySem.W.kat_nil q
 | _ :: xs, _ :: ys, _, _, i, .cons x t h1, .cons y u h2, q => by
  rw [List.zip_cons_cons]
  refine PySem.W.kat_cons (wpAny_eqBool_int ?_)
  have e : decide ((Value.int x t :: xs).length < (Value.int y u :: ys).length) = decide (xs.length < ys.length) := by
   simp
  rw [e]
  rw [HT.lexLt_cons] at q
  by_cases c : x = y
  ·rw [if_pos c] at q
   rw [beq_iff_eq.mpr c]
   exact PySem.W.kat_yes (kat_ints (i + 1) h1 h2 q)
  ·rw [if_neg c] at q
   rw [beq_eq_false_iff_ne.mpr c]
   refine PySem.W.kat_no ?_
   cases b && i == 0 with
   | true => exact oneLt_int q
   | false => exact PySem.W.kat_one _ _ (PyProof.Rows.lt_int q)
theorem cmpT (b : Bool) : Cmp (model prog w) A E s (tuples' b) lexO (fun p => tupI s.heap p.1) (fun p => ∃ ns, isTI s.heap p.1 ns) := by
 refine ⟨fun x y st Q hx hy hk q => ?_⟩
 obtain ⟨ns, hx⟩ := hx
 obtain ⟨ms, hy⟩ := hy
 have e1 := hx.tup
 have e2 := hy.tup
 rw [e1, e2] at q
 obtain ⟨x1, x2⟩ := x
 obtain ⟨y1, y2⟩ := y
 obtain ⟨a, o, xs, n, ex, ho, _, hd, hi⟩ := hx
 obtain ⟨a', o', ys, n', ey, ho', _, hd', hi'⟩ := hy
 dsimp only at ex ey
 subst ex ey
 rw [lt'_eq]
 refine wpS_bind (wpS_get ?_)
 rw [hk]
 refine wpS_bind (wpS_lift (wpAny_attempt (PySem.W.kat_lt ho hd ho' hd' ?_)))
 have := kat_ints (prog := prog) (w := w) (A := A) (s := s) (b := b) (Q := fun c s' => s' = s /\ wpS (model prog w) A E s (pure (some c)) Q st) 0 hi hi' ⟨rfl, wpS_pure q⟩
 rw [Array.length_toList, Array.length_toList] at this
 exact this
end
end Srt
namespace L2
open PySem PySem.Spec PyProof.Rows
section
variable {prog : Program} {w : World} {A : Around} {E : Value -> Shared -> Prop} {s : Shared} {d it v : Addr} {es : Array DictEntry} {ep : Nat}
end
end L2
namespace L2
open PySem PySem.Spec PyProof.Rows
theorem paired_at {α β : Type} {F : α -> β -> Prop} : ∀ {l₁ : List α} {l₂ : List β}, Paired F l₁ l₂ -> ∀ {i : Nat} {a : α}, l₁[i]? = some a -> ∃ b, l₂[i]? = some b /\ F a b
 | _, _, .nil, _, _, h => by cases h
 | _, _, .cons p q, 0, _, h => by cases h; exact ⟨_, rfl, p⟩
 | _, _, .cons p q, i + 1, _, h => paired_at q (i := i) h
section
variable {X : Cx} {pins : List (Addr × Obj)} {σ : St} {H : Hp} {s : Shared} {a : Addr} {kvs : List (List Key × V)} {ob : Obj}
end
section
variable {X : Cx}
end
end L2
namespace L2
open PySem PySem.Spec PyProof.Rows
section
variable {prog : Program} {w : World} {A : Around} {E : Value -> Shared -> Prop} {s : Shared} {d it v : Addr} {es : Array DictEntry} {ep : Nat}
end
end L2
namespace Srt
open PySem PyProof.Rows
theorem tups_out {h : Heap} {vs : List Value} {nss : List (List Int)} {xs : Array Keyed} (hv : Paired (fun v ns => isTI h v ns) vs nss) (hp : xs.Perm (pairsOf vs)) (hs : RunUp (O := lexO) (fun p => tupI h p.1) xs 0 vs.length) :
  ((xs.map (·.2)).toList.map (tupI h)).Perm nss /\ ((xs.map (·.2)).toList.map (tupI h)).Pairwise (fun a b => HT.lexLt b a = false) /\ ∀ v ∈ (xs.map (·.2)).toList, v ∈ vs := by
 have hl : xs.toList.Perm (vs.zip vs) := by rw [<- pairsOf_toList]; exact Array.perm_iff_toList_perm.mp hp
 have hmem : ∀ p, p ∈ xs.toList -> p.1 = p.2 /\ p.1 ∈ vs := fun p hp' => mem_zip_self (hl.mem_iff.mp hp')
 have hvs : vs.map (tupI h) = nss := by
  clear hp hs hl hmem
  induction hv with
  | nil => rfl
  | cons p _ ih => rw [List.map_cons, ih, isTI.tup p]
 have hz : (vs.zip vs).map (·.2) = vs := by
  rw [List.map_snd_zip (Nat.le_refl _)]
 have hlen : xs.toList.length = vs.length := by rw [hl.length_eq, List.length_zip, Nat.min_self]
 refine ⟨?_, ?_, fun v hv => ?_⟩
 ·rw [Array.toList_map, <- hvs]
  refine List.Perm.map _ ?_
  have := hl.map (·.2)
  rwa [hz] at this
 ·rw [Array.toList_map, List.map_map]
  rw [List.pairwise_iff_getElem]
  intro i j hi hj hij
  rw [List.length_map] at hi hj
  rw [List.getElem_map, List.getElem_map]
  have g := hs i j _ _ (Nat.zero_le _) (Nat.le_of_lt hij) (by (first | lia | omega)) (show xs[i]? = some (xs.toList[i]) by rw [<- Array.getElem?_toList]; exact List.getElem?_eq_getElem hi) (show xs[j]? = some (xs.toList[j]) by rw [<- Array.getElem?_toList]; exact List.getElem?_eq_getElem hj)
  have e1 := (hmem _ (List.getElem_mem hi)).1
  have e2 := (hmem _ (List.getElem_mem hj)).1
  have g' : HT.lexLt (tupI h xs.toList[j].1) (tupI h xs.toList[i].1) = false := g
  rw [e1, e2] at g'
  exact g'
 ·rw [Array.toList_map] at hv
  obtain ⟨p, hp1, rfl⟩ := List.mem_map.mp hv
  obtain ⟨e, m⟩ := hmem p hp1
  rw [<- e]
  exact m
theorem tups_kind {prog : Program} {w : World} {A : Around} {E : Value -> Shared -> Prop} {s : Shared} {vs : List Value} {nss : List (List Int)} {Q : SortKind -> Shared -> Prop} (hv : Paired (fun v ns => isTI s.heap v ns) vs nss) (h2 : 2 <= vs.length) (hne : ∀ ns ∈ nss, ns ≠ [])
  (q : Q (tuples' true) s) : wpAny (model prog w) A (keyKind' vs.toArray) Q E s := by
 have key : ∃ fs : List Value, PySem.W.KatTups s.heap vs fs /\ fs.length = vs.length /\ ∀ v ∈ fs, ∃ n t, v = Value.int n t := by
  clear h2 q
  induction hv with
  | nil => exact ⟨[], PySem.W.KatTups.nil, rfl, fun _ h => by cases h⟩
  | @cons v ns vs' nss' p _ ih =>
   obtain ⟨fs, f1, f2, f3⟩ := ih fun ns h => hne ns (List.mem_cons_of_mem _ h)
   obtain ⟨a, o, xs, n, rfl, ho, hc, hd, hi⟩ := p
   have := hne ns List.mem_cons_self
   have hx : ∃ i t, xs[0]? = some (Value.int i t) := by
    rw [<- Array.getElem?_toList]
    generalize xs.toList = l at hi
    cases hi with
    | nil => exact absurd rfl this
    | cons x t _ => exact ⟨_, _, rfl⟩
   obtain ⟨i, t, hx⟩ := hx
   refine ⟨.int i t :: fs, PySem.W.KatTups.cons ho hc hd hx f1, by simp [f2], fun v hv => ?_⟩
   rcases List.mem_cons.mp hv with rfl | hv
   ·exact ⟨i, t, rfl⟩
   ·exact f3 v hv
 obtain ⟨fs, f1, f2, f3⟩ := key
 refine PySem.W.kat_kind (T := .type "int") f1 (by (first | lia | omega)) (fun v hv => ?_) (by decide) q
 obtain ⟨n, t, rfl⟩ := f3 v hv
 exact .now
end Srt
namespace L2
open PySem PySem.Spec PyProof.Rows
section
variable {X : Cx}
end
end L2
namespace Srt
open PySem PyProof.Rows
theorem isTI.keep {h h' : Heap} {v : Value} {ns : List Int} (p : isTI h v ns) (hk : ∀ b o, h.get? b = some o -> h'.get? b = some o) : isTI h' v ns := by
 obtain ⟨a, o, xs, n, e, ho, r⟩ := p
 exact ⟨a, o, xs, n, e, hk _ _ ho, r⟩
theorem cmpTK {prog : Program} {w : World} {A : Around} {E : Value -> Shared -> Prop} {s : Shared} {h : Heap} (b : Bool) (hk : ∀ b o, h.get? b = some o -> s.heap.get? b = some o) : Cmp (model prog w) A E s (tuples' b) lexO (fun p => tupI h p.1) (fun p => ∃ ns, isTI h p.1 ns) := by
 refine ⟨fun x y st Q hx hy hkd q => ?_⟩
 obtain ⟨ns, hx⟩ := hx
 obtain ⟨ms, hy⟩ := hy
 refine (cmpT b).1 x y st Q ⟨ns, hx.keep hk⟩ ⟨ms, hy.keep hk⟩ hkd ?_
 rw [hx.tup, hy.tup] at q
 rw [(hx.keep hk).tup, (hy.keep hk).tup]
 exact q
end Srt
namespace L2
open PySem PySem.Spec PyProof.Rows
section
variable {X : Cx}
noncomputable def rSortedLT : List V -> Hp -> VK -> Prop := fun xs H Q => ∃ (l : Addr) (zs : List Addr) (rows : List (List Int)), xs = [.ref l] /\ H l = some (.lst (zs.map V.ref)) /\ RowsAt H zs rows /\ (2 <= rows.length -> ∀ r ∈ rows, r ≠ []) /\
 ∀ p (zs' : List Addr) (rows' : List (List Int)), rows'.Perm rows -> rows'.Pairwise (fun a b => HT.lexLt b a = false) -> RowsAt H zs' rows' -> H p = none -> Q (.ref p) (upd H p (.lst (zs'.map V.ref)))
theorem call_sortedLT : CallR X (.builtin "sorted") rSortedLT := by
 intro pins s σ H xs us Q I rs h
 obtain ⟨l, zs, rows, rfl, hH, hR, hne, q⟩ := h
 obtain ⟨u, rfl, ru⟩ := vals1 rs
 cases (show u = Value.ref l from ru)
 obtain ⟨z, its, n, r, hl, e⟩ := I.lstM hH
 have hln : its.length = rows.length := by rw [<- r.length, List.length_map, Paired.length hR]
 have hz : its.length <= sizeLine := by
  rw [<- r.length]
  exact z
 have hv : ∀ {zs : List Addr} {rows : List (List Int)} {its : List Value}, RowsAt H zs rows -> Vals (zs.map V.ref) its -> Paired (fun v ns => Srt.isTI s.heap v ns) its rows /\ ∀ v ∈ its, ∃ b ns, v = .ref b /\ H b = some (.tup (List.map V.int ns)) /\ Srt.isTI s.heap v ns := by
  intro zs
  induction zs with
  | nil =>
   intro rows its hR hv
   cases hR
   cases hv
   exact ⟨.nil, fun _ h => by cases h⟩
  | cons a t ih =>
   intro rows its hR hv
   cases hR with
   | @cons _ ns _ _ h1 h2 =>
   cases hv with
   | @cons _ v _ _ w1 w2 =>
   obtain ⟨i1, i2⟩ := ih h2 w2
   cases (show v = Value.ref a from w1)
   obtain ⟨_, its', r', o', t1, t2, ⟨n', t3⟩, _⟩ := (show ObjOk X.prog X.w H s.heap a (.tup (ns.map V.int)) from I.hok a _ h1)
   have hT : Srt.isTI s.heap (.ref a) ns := ⟨a, o', its'.toArray, n', rfl, t1, t2, t3, by simpa using intsAre_of r'⟩
   refine ⟨.cons hT i1, fun v hv => ?_⟩
   rcases List.mem_cons.mp hv with rfl | hv
   ·exact ⟨a, ns, rfl, h1, hT⟩
   ·exact i2 v hv
 obtain ⟨hv1, hv2⟩ := hv hR r
 refine Srt.sortedA (l := l) (vs := its) (kd := tuples' true) (O := Srt.lexO) (kf := fun p => Srt.tupI s.heap p.1) (okk := fun p => ∃ ns, Srt.isTI s.heap p.1 ns) ⟨_, e, rfl, n, rfl⟩ hz (fun h2 A' E' h' Q' hk q' => ?_) (fun A' E' h' hk => Srt.cmpTK (s := { s with heap := h' }) true hk) (fun p hp => ?_) fun st' a1 a2 => ?_
 ·refine Srt.tups_kind (s := { s with heap := h' }) (nss := rows) (Paired.mapP hv1 fun _ _ p => p.keep hk) h2 (hne (by (first | lia | omega))) q'
 ·rw [pairsOf_toList] at hp
  obtain ⟨b, ns, _, _, h⟩ := hv2 _ (mem_zip_self hp).2
  exact ⟨ns, h⟩
 ·obtain ⟨b1, b2, b3⟩ := Srt.tups_out hv1 a1 a2
  have hsz : (arrOf st').size = its.length := a1.size_eq.trans (pairsOf_size _)
  generalize hout : (arrOf st').map (·.2) = out at b1 b2 b3
  have lout : out.toList.length = its.length := by
   rw [<- hout, Array.toList_map, List.length_map, Array.length_toList, hsz]
  have hzz : ∀ l : List Value, (∀ v ∈ l, v ∈ its) -> Paired (fun z ns => H z = some (.tup (ns.map V.int))) (l.map fun v => match v with | .ref b => b | _ => 0) (l.map (Srt.tupI s.heap)) /\ Vals ((l.map fun v => match v with | .ref b => b | _ => 0).map V.ref) l := by
   intro l
   induction l with
   | nil => exact fun _ => ⟨.nil, .nil⟩
   | cons v l ih =>
    intro hh
    obtain ⟨i1, i2⟩ := ih fun v hv => hh v (List.mem_cons_of_mem _ hv)
    obtain ⟨b, ns, rfl, m3, n2⟩ := hv2 v (hh v List.mem_cons_self)
    refine ⟨.cons ?_ i1, .cons rfl i2⟩
    rw [n2.tup]
    exact m3
  obtain ⟨p1, p2⟩ := hzz _ b3
  obtain ⟨c, hc⟩ := sortedAll_at s.heap its out
  have hk : ∀ b o, s.heap.get? b = some o -> (sortedAll s.heap its out).get? b = some o := fun b o hb => sortedAll_old hb
  have hf : H (s.heap.objs.size + 1) = none := I.hok.fresh (Nat.le_succ _)
  refine ⟨.ref (s.heap.objs.size + 1), _, I.laid (t' := s.toks) (o := .lst ((out.toList.map fun v => match v with | .ref b => b | _ => 0).map V.ref)) hk (Nat.le_succ _) ?_, rfl, q _ _ _ b1 b2 p1 hf⟩
  refine ⟨?_, out.toList, c, p2, by simpa using hc⟩
  rw [List.length_map, List.length_map, lout]
  exact hz
end
end L2
namespace L2
open PySem PySem.Spec PyProof.Rows
end L2
namespace L2
open PySem PySem.Spec PyProof.Rows
section
variable {X : Cx} {tg : Expr}
theorem size_down (a b : Int) : Builtin.Range.rangeSize a b (-1) = (((a - b).toNat : Nat) : Int) := by
 unfold Builtin.Range.rangeSize
 rw [if_neg (by decide)]
 split
 ·rw [show (-(-1 : Int)) = 1 from rfl, Int.ediv_one]; (first | lia | omega)
 ·(first | lia | omega)
end
section
variable {X : Cx}
end
end L2
namespace L2
open PySem PySem.Spec PyProof.Rows
section
variable {X : Cx}
noncomputable def rdφ (a : Addr) (i j : Int) : Heap -> Prop := fun h => ∃ t u v, h.get? a = some { cls := .type "range", data := .fields #[.int i t, .int j u, .int (-1) v] }
noncomputable def RngD (a : Addr) (i j : Int) : HO := .ext (rdφ a i j)
noncomputable def rRangeD : List V -> Hp -> VK -> Prop := fun xs H Q => ∃ i j : Int, xs = [.int i, .int j, .int (-1)] /\ ∀ p, H p = none -> Q (.ref p) (upd H p (RngD p i j))
theorem call_rangeD : CallR X (.type "range") rRangeD := by
 intro pins s σ H xs us Q I rs h
 obtain ⟨i, j, rfl, q⟩ := h
 cases rs with
 | cons r rr =>
  cases rr with
  | cons r' rr =>
   cases rr with
   | cons r'' rr =>
    cases rr
    obtain ⟨t, rfl⟩ := r
    obtain ⟨t', rfl⟩ := r'
    obtain ⟨t'', rfl⟩ := r''
    refine call_range_3 (by decide) ?_ (.inl (PyProof.noPylong_small (by decide)))
    refine ⟨.ref s.heap.objs.size, _, I.laid (o := RngD s.heap.objs.size i j) (fun b ob q => Heap.get?_push_of_some _ q) (Nat.le_refl _) ?_, rfl, q _ (I.hok.fresh (Nat.le_refl _))⟩
    refine ⟨⟨_, _, _, Heap.get?_push_size _ rfl⟩, ⟨_, Heap.get?_push_size _ rfl⟩, fun h1 h2 p k => ?_⟩
    obtain ⟨t, u, v, e⟩ := p
    exact ⟨t, u, v, k _ e⟩
noncomputable def downV (i : Int) (n : Nat) : List V := (List.range n).map fun k : Nat => V.int (i - k)
noncomputable def rListD : List V -> Hp -> VK -> Prop := fun xs H Q => ∃ (a : Addr) (i j : Int), xs = [.ref a] /\ H a = some (RngD a i j) /\ (-1000 <= j /\ j <= i + 1 /\ i - j <= 1000 /\ i <= 1000) /\ ∀ p, H p = none -> Q (.ref p) (upd H p (.lst (downV i (i - j).toNat)))
theorem call_listD (hc : X.calm = true) : CallR X (.type "list") rListD := by
 intro pins s σ H xs us Q I rs h
 obtain ⟨a, i, j, rfl, ha, ⟨h0, h1, h2, h3⟩, q⟩ := h
 obtain ⟨u, rfl, ru⟩ := vals1 rs
 cases (show u = Value.ref a from ru)
 obtain ⟨⟨t, u, v, ho⟩, _⟩ := (show ObjOk X.prog X.w H s.heap a (RngD a i j) from I.hok a _ ha)
 have hh : X.A.handled = none := I.ok.hd hc
 have hsz : Builtin.Range.rangeSize i j (-1) = (((i - j).toNat : Nat) : Int) := size_down i j
 refine call_list_range hh ho (PySem.W.small_down (by (first | lia | omega)) (by (first | lia | omega)) (by (first | lia | omega)) (by (first | lia | omega))) hsz (by (first | lia | omega)) fun h' tk acc c hk hS hi => ?_
 obtain ⟨i1, i2⟩ := hi
 refine ⟨.ref s.heap.objs.size, _, I.laid (t' := tk) (o := .lst (downV i (i - j).toNat)) hk (Nat.le_refl _) ?_, rfl, q _ (I.hok.fresh (Nat.le_refl _))⟩
 refine ⟨by unfold downV; rw [List.length_map, List.length_range]; exact Nat.le_trans (by (first | lia | omega) : (i - j).toNat <= 1000) (by decide), acc.toList, c, ?_, by simpa using hS⟩
 have key : ∀ (n : Nat) (l : List Value) (k : Int), l.length = n -> (∀ (i : Nat) v, l[i]? = some v -> ∃ t, v = Value.int (k - (i : Int)) t) -> Vals ((List.range n).map fun (i : Nat) => V.int (k - (i : Int))) l := by
  intro n
  induction n with
  | zero => intro l k hl _; cases l with
   | nil => exact .nil
   | cons _ _ => cases hl
  | succ n ih =>
   intro l k hl hv
   cases l with
   | nil => cases hl
   | cons x r =>
    rw [List.range_succ_eq_map, List.map_cons, List.map_map]
    refine .cons ?_ ?_
    ·obtain ⟨t, e⟩ := hv 0 x rfl
     exact ⟨t, e⟩
    ·have := ih r (k - 1) (by simpa using hl) (fun i v e => by
      obtain ⟨t, e'⟩ := hv (i + 1) v (by simpa using e)
      exact ⟨t, by rw [e']; congr 1; push_cast; (first | lia | omega)⟩)
     have e : ((fun (i : Nat) => V.int (k - (i : Int))) ∘ Nat.succ) = fun (i : Nat) => V.int (k - 1 - (i : Int)) := by
      funext i
      show V.int (k - ((i + 1 : Nat) : Int)) = _
      congr 1; push_cast; (first | lia | omega)
     rw [e]
     exact this
 refine key _ _ i (by simpa using i1) fun n v e => ?_
 obtain ⟨t, e'⟩ := i2 n v (by simpa using e)
 exact ⟨t, by rw [e']; congr 1; (first | lia | omega)⟩
end
end L2
namespace L2
open PySem PySem.Spec PyProof.Rows
noncomputable def hdI (r : List Int) : Int := r.headD 0
structure WrR (m : Nat) (ns : List Int) (R : List (List Int)) : Prop where
 all : R.flatten.Perm (num0 m)
 rnd : ∀ r ∈ R, IsRound ns (hdI r) r /\ ∀ y ∈ r, y <= hdI r
 up : R.Pairwise fun r s => hdI r < hdI s
theorem IsRound.hd {ns row : List Int} {x : Int} (h : IsRound ns x row) : hdI row = x /\ x ∈ row := by
 obtain ⟨⟨k, rfl, _⟩, _⟩ := h
 unfold orbO hdI
 rw [List.range_succ_eq_map, List.map_cons]
 exact ⟨rfl, List.mem_cons_self⟩
theorem wr_mem {m : Nat} {ns : List Int} {R : List (List Int)} (h : WrR m ns R) {y : Int} (h0 : 0 <= y) (h1 : y < m) : ∃ r ∈ R, y ∈ r := by
 have : y ∈ R.flatten := h.all.mem_iff.mpr (mem_num0.mpr ⟨h0, h1⟩)
 obtain ⟨r, hr, hy⟩ := List.mem_flatten.mp this
 exact ⟨r, hr, hy⟩
theorem flat_one : ∀ {R : List (List Int)}, R.flatten.Nodup -> ∀ {r s : List Int} {y : Int}, r ∈ R -> s ∈ R -> y ∈ r -> y ∈ s -> r = s
 | [], _, _, _, _, h, _, _, _ => by cases h
 | a :: t, nd, r, s, y, hr, hs, h1, h2 => by
  rw [List.flatten_cons, List.nodup_append] at nd
  obtain ⟨_, n2, n3⟩ := nd
  rcases List.mem_cons.mp hr with er | hr'
  ·rcases List.mem_cons.mp hs with es | hs'
   ·rw [er, es]
   ·rw [er] at h1
    exact absurd rfl (n3 y h1 y (List.mem_flatten.mpr ⟨s, hs', h2⟩))
  ·rcases List.mem_cons.mp hs with es | hs'
   ·rw [es] at h2
    exact absurd rfl (n3 y h2 y (List.mem_flatten.mpr ⟨r, hr', h1⟩))
   ·exact flat_one n2 hr' hs' h1 h2
theorem filt_step {k : Int} : ∀ {R : List (List Int)} {r : List Int}, R.Pairwise (fun r s => hdI r < hdI s) -> r ∈ R -> hdI r = k -> R.filter (fun s => decide (k <= hdI s)) = r :: R.filter (fun s => decide (k + 1 <= hdI s))
 | [], _, _, h, _ => by cases h
 | a :: t, r, up, hr, e => by
  obtain ⟨u1, u2⟩ := List.pairwise_cons.mp up
  rcases List.mem_cons.mp hr with rfl | hr
  ·rw [List.filter_cons, List.filter_cons, if_pos (decide_eq_true (by (first | lia | omega))), if_neg (by simp; (first | lia | omega))]
   congr 1
   refine List.filter_congr fun s hs => ?_
   have := u1 s hs
   rw [decide_eq_true (show k <= hdI s by (first | lia | omega)), decide_eq_true (show k + 1 <= hdI s by (first | lia | omega))]
  ·have := u1 r hr
   rw [List.filter_cons, List.filter_cons, if_neg (by simp; (first | lia | omega)), if_neg (by simp; (first | lia | omega))]
   exact filt_step u2 hr e
noncomputable def downN (m : Nat) (j : Nat) : List Int := (List.range j).map fun i : Nat => (m : Int) - 1 - (i : Int)
theorem downN_succ (m j : Nat) : downN m (j + 1) = downN m j ++ [(m : Int) - 1 - j] := by
 unfold downN
 rw [List.range_succ, List.map_append]
 rfl
theorem wr_walk {m : Nat} {ns : List Int} {R : List (List Int)} (ho : Ord m ns) (h : WrR m ns R) : ∀ j : Nat, j <= m -> walkO ns (downN m j) = (R.filter fun s => decide ((m : Int) - j <= hdI s)).reverse
 | 0, _ => by
  show [] = _
  rw [List.filter_eq_nil_iff.mpr fun r hr => ?_]
  ·rfl
  ·have hx := (h.rnd r hr).1.hd.2
   have : hdI r ∈ R.flatten := List.mem_flatten.mpr ⟨r, hr, hx⟩
   have := mem_num0.mp (h.all.mem_iff.mp this)
   simp
   (first | lia | omega)
 | j + 1, hj => by
  have ih := wr_walk ho h j (by (first | lia | omega))
  rw [downN_succ, walk_snoc, ih]
  unfold stepO
  have nd : R.flatten.Nodup := h.all.nodup_iff.mpr (num0_nodup' m)
  obtain ⟨r, hr, hy⟩ := wr_mem h (y := (m : Int) - 1 - j) (by (first | lia | omega)) (by (first | lia | omega))
  have hle := (h.rnd r hr).2 _ hy
  have e : ((m : Int) - 1 - j + 1) = (m : Int) - j := by (first | lia | omega)
  have e' : ((m : Int) - ((j + 1 : Nat) : Int)) = (m : Int) - 1 - j := by (first | lia | omega)
  rw [e']
  by_cases c : (m : Int) - j <= hdI r
  ·have hin : ((m : Int) - 1 - j) ∈ ((R.filter fun s => decide ((m : Int) - j <= hdI s)).reverse).flatten :=
    List.mem_flatten.mpr ⟨r, List.mem_reverse.mpr (List.mem_filter.mpr ⟨hr, decide_eq_true c⟩), hy⟩
   rw [if_pos hin]
   congr 1
   refine List.filter_congr fun s hs => ?_
   by_cases c2 : (m : Int) - j <= hdI s
   ·rw [decide_eq_true c2, decide_eq_true (by (first | lia | omega))]
   ·rw [decide_eq_false c2, decide_eq_false fun c3 => ?_]
    have es : hdI s = (m : Int) - 1 - j := by (first | lia | omega)
    have := (h.rnd s hs).1.hd.2
    rw [es] at this
    rw [flat_one nd hr hs hy this] at c
    exact c2 c
  ·have er : hdI r = (m : Int) - 1 - j := by (first | lia | omega)
   have hnin : ((m : Int) - 1 - j) ∉ ((R.filter fun s => decide ((m : Int) - j <= hdI s)).reverse).flatten := fun z => by
    obtain ⟨s, hs, hys⟩ := List.mem_flatten.mp z
    obtain ⟨hs1, hs2⟩ := List.mem_filter.mp (List.mem_reverse.mp hs)
    rw [flat_one nd hr hs1 hy hys] at c
    exact c (of_decide_eq_true hs2)
   rw [if_neg hnin, filt_step h.up hr er, e, List.reverse_cons]
   have hx := (h.rnd r hr).1
   rw [er] at hx
   rw [row_eq ho ⟨by (first | lia | omega), by (first | lia | omega)⟩ hx]
theorem wr_one {m : Nat} {ns : List Int} {R : List (List Int)} (ho : Ord m ns) (h : WrR m ns R) : walkO ns (downN m m) = R.reverse := by
 rw [wr_walk ho h m (Nat.le_refl _), List.filter_eq_self.mpr fun r hr => ?_]
 have hx := (h.rnd r hr).1.hd.2
 have : hdI r ∈ R.flatten := List.mem_flatten.mpr ⟨r, hr, hx⟩
 have := mem_num0.mp (h.all.mem_iff.mp this)
 exact decide_eq_true (by (first | lia | omega))
noncomputable def wroR (m : Nat) (ns : List Int) : List (List Int) := (walkO ns (downN m m)).reverse
theorem down_rng {m j : Nat} (hj : j <= m) : ∀ f ∈ downN m j, 0 <= f /\ f < m := fun f hf => by
 obtain ⟨i, hi, rfl⟩ := List.mem_map.mp hf
 have := List.mem_range.mp hi
 (first | lia | omega)
theorem walk_down {m : Nat} {ns : List Int} (ho : Ord m ns) : ∀ j : Nat, j <= m -> (∀ r ∈ walkO ns (downN m j), IsRound ns (hdI r) r /\ (∀ y ∈ r, y <= hdI r) /\ (m : Int) - j <= hdI r) /\ (walkO ns (downN m j)).Pairwise fun r s => hdI s < hdI r
 | 0, _ => ⟨(fun r h => by cases h), .nil⟩
 | j + 1, hj => by
  obtain ⟨h1, h2⟩ := walk_down ho j (by (first | lia | omega))
  have M := met_walk ho (downN m j) (down_rng (by (first | lia | omega))) (met_nil (ns := ns) (m := m))
  have M : MetO ns m (walkO ns (downN m j)) := M
  have hf : 0 <= (m : Int) - 1 - j /\ (m : Int) - 1 - j < m := by (first | lia | omega)
  rw [downN_succ, walk_snoc]
  unfold stepO
  split
  ·exact ⟨fun r hr => ⟨(h1 r hr).1, (h1 r hr).2.1, by have := (h1 r hr).2.2; (first | lia | omega)⟩, h2⟩
  ·rename_i hn
   have hr0 := row_is ho hf
   have hh := hr0.hd.1
   refine ⟨fun r hr => ?_, ?_⟩
   ·rcases List.mem_append.mp hr with hr | hr
    ·exact ⟨(h1 r hr).1, (h1 r hr).2.1, by have := (h1 r hr).2.2; (first | lia | omega)⟩
    ·rw [List.mem_singleton.mp hr, hh]
     refine ⟨hr0, fun y hy => ?_, by (first | lia | omega)⟩
     refine Int.not_lt.mp fun c => hn ?_
     have hyr := row_mem ho hf y hy
     have hin : y ∈ (walkO ns (downN m j)).flatten := by
      refine walk_has ho (downN m j) (down_rng (by (first | lia | omega))) [] y (.inr ?_)
      refine List.mem_map.mpr ⟨(m - 1 - y.toNat), List.mem_range.mpr (by (first | lia | omega)), by (first | lia | omega)⟩
     obtain ⟨⟨k, e, hk⟩, _⟩ := hr0
     rw [e] at hy
     obtain ⟨i, hi, rfl⟩ := mem_orb.mp hy
     have := M.it hin (k + 1 - i)
     rw [<- it_add, show i + (k + 1 - i) = k + 1 by (first | lia | omega), hk] at this
     exact this
   ·refine List.pairwise_append.mpr ⟨h2, List.pairwise_singleton _ _, fun r hr s hs => ?_⟩
    rw [List.mem_singleton.mp hs, hh]
    have := (h1 r hr).2.2
    (first | lia | omega)
theorem wro_ok {m : Nat} {ns : List Int} (ho : Ord m ns) : WrR m ns (wroR m ns) := by
 obtain ⟨h1, h2⟩ := walk_down ho m (Nat.le_refl _)
 have M : MetO ns m (walkO ns (downN m m)) := met_walk ho (downN m m) (down_rng (Nat.le_refl _)) met_nil
 unfold wroR
 refine ⟨?_, fun r hr => ⟨(h1 r (List.mem_reverse.mp hr)).1, (h1 r (List.mem_reverse.mp hr)).2.1⟩, List.pairwise_reverse.mpr h2⟩
 refine (perm_of_nd ?_ (num0_nodup' m) fun y => ⟨fun hy => ?_, fun hy => ?_⟩)
 ·exact ((List.reverse_perm (walkO ns (downN m m))).flatten).nodup_iff.mpr M.nd
 ·exact mem_num0.mpr (M.rng y (((List.reverse_perm (walkO ns (downN m m))).flatten).mem_iff.mp hy))
 ·refine ((List.reverse_perm (walkO ns (downN m m))).flatten).mem_iff.mpr (walk_has ho (downN m m) (down_rng (Nat.le_refl _)) [] y (.inr ?_))
  have := mem_num0.mp hy
  exact List.mem_map.mpr ⟨(m - 1 - y.toNat), List.mem_range.mpr (by (first | lia | omega)), by (first | lia | omega)⟩
theorem wro_eq {m : Nat} {ns : List Int} {R : List (List Int)} (ho : Ord m ns) (h : WrR m ns R) : R = wroR m ns := by
 unfold wroR
 rw [wr_one ho h, List.reverse_reverse]
end L2
namespace L2
open PySem PySem.Spec PyProof.Rows
structure CutR (R : List (List Int)) : Prop where
 row : ∀ r ∈ R, ∃ h t, r = h :: t /\ ∀ y ∈ t, y < h
 up : R.Pairwise fun r s => hdI r < hdI s
noncomputable def cutStep (rows : List (List Int)) (x : Int) : List (List Int) :=
 match rows.getLast? with
 | none => [[x]]
 | some r => if hdI r < x then rows ++ [[x]] else rows.dropLast ++ [r ++ [x]]
noncomputable def cutH (ns : List Int) : List (List Int) := ns.foldl cutStep []
theorem cutStep_snoc (rows : List (List Int)) (r : List Int) (x : Int) : cutStep (rows ++ [r]) x = if hdI r < x then rows ++ [r] ++ [[x]] else rows ++ [r ++ [x]] := by
 unfold cutStep
 rw [List.getLast?_concat]
 simp only [List.dropLast_concat]
theorem cut_tailH : ∀ (t : List Int) (rows : List (List Int)) (r : List Int), r ≠ [] -> (∀ y ∈ t, y <= hdI r) -> t.foldl cutStep (rows ++ [r]) = rows ++ [r ++ t]
 | [], _, _, _, _ => by simp
 | x :: t, rows, r, hr, h => by
  rw [List.foldl_cons, cutStep_snoc, if_neg (by have := h x List.mem_cons_self; (first | lia | omega))]
  have e : hdI (r ++ [x]) = hdI r := by
   cases r with
   | nil => exact absurd rfl hr
   | cons _ _ => rfl
  rw [cut_tailH t rows (r ++ [x]) (by simp) (fun y hy => by rw [e]; exact h y (List.mem_cons_of_mem _ hy))]
  simp
theorem cut_row {h : Int} {t : List Int} {rows : List (List Int)} (ht : ∀ y ∈ t, y < h) (hup : ∀ r ∈ rows, hdI r < h) : (h :: t).foldl cutStep rows = rows ++ [h :: t] := by
 have e : cutStep rows h = rows ++ [[h]] := by
  rcases List.eq_nil_or_concat rows with rfl | ⟨l, r, rfl⟩
  ·rfl
  ·rw [List.concat_eq_append, cutStep_snoc, if_pos (hup r (by simp))]
 rw [List.foldl_cons, e, cut_tailH t rows [h] (by simp) fun y hy => by have := ht y hy; show y <= h; (first | lia | omega)]
 rfl
theorem cut_all : ∀ (R acc : List (List Int)), (∀ r ∈ R, ∃ h t, r = h :: t /\ ∀ y ∈ t, y < h) -> (acc ++ R).Pairwise (fun r s => hdI r < hdI s) -> R.flatten.foldl cutStep acc = acc ++ R
 | [], acc, _, _ => by simp
 | r :: R, acc, hr, up => by
  obtain ⟨h, t, rfl, ht⟩ := hr r List.mem_cons_self
  have hup : ∀ r ∈ acc, hdI r < h := fun r hr' => (List.pairwise_append.mp up).2.2 r hr' (h :: t) List.mem_cons_self
  rw [List.flatten_cons, List.foldl_append, cut_row ht hup, cut_all R (acc ++ [h :: t]) (fun r hr' => hr r (List.mem_cons_of_mem _ hr')) (by simpa using up)]
  simp
theorem cutH_flat {R : List (List Int)} (h : CutR R) : cutH R.flatten = R := by
 have := cut_all R [] h.row (by simpa using h.up)
 unfold cutH
 simpa using this
theorem cutH_snoc (ns : List Int) (x : Int) : cutH (ns ++ [x]) = cutStep (cutH ns) x := by
 unfold cutH
 rw [List.foldl_append]
 rfl
theorem cutH_ok : ∀ (n : Nat) (ns : List Int), ns.length = n -> ns.Nodup -> CutR (cutH ns) /\ (cutH ns).flatten = ns
 | 0, ns, hl, _ => by
  have : ns = [] := List.eq_nil_of_length_eq_zero hl
  subst this
  exact ⟨⟨(fun _ h => by cases h), .nil⟩, rfl⟩
 | n + 1, ns, hl, nd => by
  rcases List.eq_nil_or_concat ns with rfl | ⟨l, x, rfl⟩
  ·cases hl
  ·rw [List.concat_eq_append] at hl nd ⊢
   rw [List.length_append] at hl
   have nd' := List.nodup_append.mp nd
   obtain ⟨⟨c1, c2⟩, c3⟩ := cutH_ok n l (by simpa using hl) nd'.1
   rw [cutH_snoc]
   rcases List.eq_nil_or_concat (cutH l) with e | ⟨rows, r, e⟩
   ·rw [e] at c3 ⊢
    rw [<- c3]
    refine ⟨⟨fun r hr => ?_, List.pairwise_singleton _ _⟩, rfl⟩
    exact ⟨x, [], List.mem_singleton.mp hr, fun _ h => by cases h⟩
   ·rw [List.concat_eq_append] at e
    rw [e] at c1 c2 c3 ⊢
    rw [cutStep_snoc]
    obtain ⟨h, t, er, ht⟩ := c1 r (by simp)
    have hh : hdI r = h := by rw [er]; rfl
    obtain ⟨p1, _, p3⟩ := List.pairwise_append.mp c2
    split
    ·rename_i hlt
     refine ⟨⟨fun s hs => ?_, List.pairwise_append.mpr ⟨c2, List.pairwise_singleton _ _, fun s hs s' hs' => ?_⟩⟩, by rw [List.flatten_append, c3]; rfl⟩
     ·rcases List.mem_append.mp hs with hs | hs
      ·exact c1 s hs
      ·exact ⟨x, [], List.mem_singleton.mp hs, fun _ h => by cases h⟩
     ·rw [List.mem_singleton.mp hs']
      show hdI s < x
      rcases List.mem_append.mp hs with hs | hs
      ·have := p3 s hs r (by simp)
       (first | lia | omega)
      ·rw [List.mem_singleton.mp hs]
       exact hlt
    ·rename_i hlt
     have hx : x ≠ h := fun ex => by
      have : h ∈ l := by
       rw [<- c3]
       exact List.mem_flatten.mpr ⟨r, by simp, by rw [er]; exact List.mem_cons_self⟩
      exact nd'.2.2 h this x (by simp) ex.symm
     have e2 : hdI (r ++ [x]) = hdI r := by rw [er]; rfl
     refine ⟨⟨fun s hs => ?_, List.pairwise_append.mpr ⟨p1, List.pairwise_singleton _ _, fun s hs s' hs' => ?_⟩⟩, ?_⟩
     ·rcases List.mem_append.mp hs with hs | hs
      ·exact c1 s (List.mem_append_left _ hs)
      ·refine ⟨h, t ++ [x], by rw [List.mem_singleton.mp hs, er]; rfl, fun y hy => ?_⟩
       rcases List.mem_append.mp hy with hy | hy
       ·exact ht y hy
       ·rw [List.mem_singleton.mp hy]
        (first | lia | omega)
     ·rw [List.mem_singleton.mp hs', e2]
      exact p3 s hs r (by simp)
     ·rw [<- c3]
      simp
noncomputable def setP (acc : List Int) (ps : List (Int × Int)) : List Int := ps.foldl (fun a p => a.set p.1.toNat p.2) acc
theorem setP_len : ∀ (ps : List (Int × Int)) (acc : List Int), (setP acc ps).length = acc.length
 | [], _ => rfl
 | p :: ps, acc => by
  show (setP (acc.set p.1.toNat p.2) ps).length = _
  rw [setP_len ps, List.length_set]
theorem setP_ne : ∀ (ps : List (Int × Int)) (acc : List Int) {x : Int}, 0 <= x -> (∀ p ∈ ps, 0 <= p.1) -> x ∉ ps.map (·.1) -> (setP acc ps)[x.toNat]? = acc[x.toNat]?
 | [], _, _, _, _, _ => rfl
 | p :: ps, acc, x, h0, hp, hx => by
  show (setP (acc.set p.1.toNat p.2) ps)[x.toNat]? = _
  rw [setP_ne ps _ h0 (fun q hq => hp q (List.mem_cons_of_mem _ hq)) (fun z => hx (List.mem_cons_of_mem _ z)), List.getElem?_set_ne]
  intro e
  have := hp p List.mem_cons_self
  have e2 : x = p.1 := by (first | lia | omega)
  exact hx (List.mem_cons.mpr (.inl e2))
theorem setP_get : ∀ (ps : List (Int × Int)) (acc : List Int), (ps.map (·.1)).Nodup -> (∀ p ∈ ps, 0 <= p.1 /\ p.1 < acc.length) -> ∀ p ∈ ps, (setP acc ps)[p.1.toNat]? = some p.2
 | [], _, _, _, _, h => by cases h
 | q :: ps, acc, nd, hr, p, hp => by
  rw [List.map_cons, List.nodup_cons] at nd
  have hq := hr q List.mem_cons_self
  show (setP (acc.set q.1.toNat q.2) ps)[p.1.toNat]? = _
  rcases List.mem_cons.mp hp with e | hp'
  ·rw [e, setP_ne ps _ hq.1 (fun p hp => (hr p (List.mem_cons_of_mem _ hp)).1) nd.1, List.getElem?_set_self (by (first | lia | omega))]
  ·exact setP_get ps _ nd.2 (fun p hp => by rw [List.length_set]; exact hr p (List.mem_cons_of_mem _ hp)) p hp'
noncomputable def rotr (r : List Int) : List Int := r.getLast?.toList ++ r.dropLast
theorem rotr_perm (r : List Int) : (rotr r).Perm r := by
 rcases List.eq_nil_or_concat r with rfl | ⟨l, x, rfl⟩
 ·exact .refl _
 ·unfold rotr
  rw [List.concat_eq_append, List.getLast?_concat, List.dropLast_concat]
  exact (List.perm_append_comm (l₁ := [x]) (l₂ := l))
theorem rotr_len (r : List Int) : (rotr r).length = r.length := (rotr_perm r).length_eq
theorem rotr_at {r : List Int} {i : Nat} (hi : i < r.length) : (rotr r)[i]? = some (if i = 0 then r.getD (r.length - 1) 0 else r.getD (i - 1) 0) := by
 rcases List.eq_nil_or_concat r with rfl | ⟨l, x, rfl⟩
 ·cases hi
 ·unfold rotr
  rw [List.concat_eq_append] at hi ⊢
  rw [List.getLast?_concat, List.dropLast_concat]
  rw [List.length_append] at hi
  have hi : i < l.length + 1 := hi
  cases i with
  | zero => simp
  | succ i =>
   show l[i]? = _
   rw [if_neg (by (first | lia | omega)), Nat.add_sub_cancel, List.getD_eq_getElem?_getD, List.getElem?_append_left (by (first | lia | omega)), List.getElem?_eq_getElem (by (first | lia | omega))]
   rfl
noncomputable def jnP (R : List (List Int)) : List (Int × Int) := (R.map fun r => (rotr r).zip r).flatten
noncomputable def joinO (m : Nat) (R : List (List Int)) : List Int := setP (List.replicate m 0) (jnP R)
theorem jn_snd : ∀ R : List (List Int), (jnP R).map (·.2) = R.flatten
 | [] => rfl
 | r :: R => by
  have := jn_snd R
  unfold jnP at this ⊢
  rw [List.map_cons, List.flatten_cons, List.flatten_cons, List.map_append, this, List.map_snd_zip (by rw [rotr_len]; exact Nat.le_refl _)]
theorem jn_fst : ∀ R : List (List Int), ((jnP R).map (·.1)).Perm R.flatten
 | [] => .refl _
 | r :: R => by
  have := jn_fst R
  unfold jnP at this ⊢
  rw [List.map_cons, List.flatten_cons, List.flatten_cons, List.map_append, List.map_fst_zip (by rw [rotr_len]; exact Nat.le_refl _)]
  exact (rotr_perm r).append this
theorem atO_getI {l : List Int} {x : Int} {y : Int} (h0 : 0 <= x) (h : l[x.toNat]? = some y) : atO l x = y := by
 obtain ⟨k, rfl⟩ : ∃ k : Nat, x = (k : Int) := ⟨x.toNat, by (first | lia | omega)⟩
 rw [Int.toNat_natCast] at h
 obtain ⟨hl, e⟩ := List.getElem?_eq_some_iff.mp h
 rw [atO_get hl, e]
theorem join_at {m : Nat} {R : List (List Int)} (h : R.flatten.Perm (num0 m)) : ∀ p ∈ jnP R, (0 <= p.1 /\ p.1 < m) /\ (joinO m R)[p.1.toNat]? = some p.2 := fun p hp => by
 have hf := (jn_fst R).trans h
 have hr : ∀ p ∈ jnP R, 0 <= p.1 /\ p.1 < m := fun p hp => mem_num0.mp (hf.mem_iff.mp (List.mem_map.mpr ⟨p, hp, rfl⟩))
 refine ⟨hr p hp, setP_get (jnP R) _ (hf.nodup_iff.mpr (num0_nodup' m)) (fun p hp => by rw [List.length_replicate]; exact hr p hp) p hp⟩
theorem join_len (m : Nat) (R : List (List Int)) : (joinO m R).length = m := by
 unfold joinO
 rw [setP_len, List.length_replicate]
theorem self_map {m : Nat} {l : List Int} (hl : l.length = m) : l = (num0 m).map (atO l) := by
 refine List.ext_getElem? fun i => ?_
 unfold num0
 rw [List.map_map, List.getElem?_map]
 by_cases c : i < m
 ·rw [List.getElem?_range c, List.getElem?_eq_getElem (by (first | lia | omega))]
  show _ = some (atO l (i : Int))
  rw [atO_get (by (first | lia | omega))]
 ·rw [List.getElem?_eq_none (by (first | lia | omega)), List.getElem?_eq_none (by simp; (first | lia | omega))]
  rfl
theorem join_ord {m : Nat} {R : List (List Int)} (h : R.flatten.Perm (num0 m)) : Ord m (joinO m R) := by
 have hs : (jnP R).map (·.2) = ((jnP R).map (·.1)).map (atO (joinO m R)) := by
  rw [List.map_map]
  refine List.map_congr_left fun p hp => ?_
  obtain ⟨h1, h2⟩ := join_at h p hp
  exact (atO_getI h1.1 h2).symm
 show (joinO m R).Perm (num0 m)
 rw [self_map (join_len m R)]
 refine (((jn_fst R).trans h).symm.map (atO (joinO m R))).trans ?_
 rw [<- hs, jn_snd]
 exact h
theorem pair_in {R : List (List Int)} {r : List Int} (hr : r ∈ R) {i : Nat} (hi : i < r.length) : ((if i = 0 then r.getD (r.length - 1) 0 else r.getD (i - 1) 0), r.getD i 0) ∈ jnP R := by
 refine List.mem_flatten.mpr ⟨(rotr r).zip r, List.mem_map.mpr ⟨r, hr, rfl⟩, ?_⟩
 refine List.mem_of_getElem? (i := i) ?_
 rw [List.getElem?_zip_eq_some]
 refine ⟨rotr_at hi, ?_⟩
 show r[i]? = some (r.getD i 0)
 rw [List.getD_eq_getElem?_getD, List.getElem?_eq_getElem hi]
 rfl
theorem join_wr {m : Nat} {R : List (List Int)} (h : R.flatten.Perm (num0 m)) (hc : CutR R) : WrR m (joinO m R) R := by
 refine ⟨h, fun r hr => ?_, hc.up⟩
 obtain ⟨x, t, e, ht⟩ := hc.row r hr
 have hx : hdI r = x := by rw [e]; rfl
 have hlen : 0 < r.length := by rw [e]; simp
 have nxt : ∀ i : Nat, i < r.length -> atO (joinO m R) (r.getD i 0) = r.getD (if i + 1 = r.length then 0 else i + 1) 0 := fun i hi => by
  by_cases c : i + 1 = r.length
  ·rw [if_pos c]
   obtain ⟨h1, h2⟩ := join_at h _ (pair_in hr (i := 0) hlen)
   have := atO_getI h1.1 h2
   rw [if_pos rfl, show r.length - 1 = i by (first | lia | omega)] at this
   exact this
  ·rw [if_neg c]
   obtain ⟨h1, h2⟩ := join_at h _ (pair_in hr (i := i + 1) (by (first | lia | omega)))
   have := atO_getI h1.1 h2
   rw [if_neg (by (first | lia | omega)), Nat.add_sub_cancel] at this
   exact this
 have it : ∀ i : Nat, i < r.length -> itO (joinO m R) x i = r.getD i 0 := fun i => by
  induction i with
  | zero =>
   intro _
   rw [e]
   rfl
  | succ i ih =>
   intro hi
   show atO _ (itO _ x i) = _
   rw [ih (by (first | lia | omega)), nxt i (by (first | lia | omega)), if_neg (by (first | lia | omega))]
 refine ⟨?_, fun y hy => ?_⟩
 ·rw [hx]
  refine ⟨⟨r.length - 1, ?_, ?_⟩, ?_⟩
  ·rw [show r.length - 1 + 1 = r.length by (first | lia | omega)]
   refine List.ext_getElem? fun i => ?_
   by_cases c : i < r.length
   ·rw [orb_get c, it i c, List.getD_eq_getElem?_getD, List.getElem?_eq_getElem c]
    rfl
   ·rw [List.getElem?_eq_none (by (first | lia | omega)), List.getElem?_eq_none (by rw [orb_len]; (first | lia | omega))]
  ·show atO _ (itO _ x (r.length - 1)) = _
   rw [it _ (by (first | lia | omega)), nxt _ (by (first | lia | omega)), if_pos (by (first | lia | omega)), e]
   rfl
  ·exact (List.sublist_flatten_of_mem hr).nodup (h.nodup_iff.mpr (num0_nodup' m))
 ·rw [hx]
  rw [e] at hy
  rcases List.mem_cons.mp hy with rfl | hy
  ·exact Int.le_refl _
  ·exact Int.le_of_lt (ht y hy)
theorem wr_cut {m : Nat} {ns : List Int} {R : List (List Int)} (h : WrR m ns R) : CutR R := by
 refine ⟨fun r hr => ?_, h.up⟩
 obtain ⟨h1, h2⟩ := h.rnd r hr
 cases e : r with
 | nil =>
  have := h1.hd.2
  rw [e] at this
  cases this
 | cons x t =>
  refine ⟨x, t, rfl, fun y hy => ?_⟩
  have := h2 y (by rw [e]; exact List.mem_cons_of_mem _ hy)
  rw [e] at this
  have nd := h1.nd
  rw [e, List.nodup_cons] at nd
  have : y ≠ x := fun z => nd.1 (z ▸ hy)
  have : y <= x := by assumption
  (first | lia | omega)
theorem join_wro {m : Nat} {ns : List Int} {R : List (List Int)} (ho : Ord m ns) (h : WrR m ns R) : joinO m R = ns := by
 have hp : ∀ p ∈ jnP R, p.2 = atO ns p.1 := fun p hp => by
  obtain ⟨l, hl, hpl⟩ := List.mem_flatten.mp hp
  obtain ⟨r, hr, rfl⟩ := List.mem_map.mp hl
  obtain ⟨i, hi⟩ := List.getElem?_of_mem hpl
  rw [List.getElem?_zip_eq_some] at hi
  obtain ⟨i1, i2⟩ := hi
  have hi' : i < r.length := (List.getElem?_eq_some_iff.mp i2).1
  rw [rotr_at hi'] at i1
  obtain ⟨⟨k, e, hk⟩, _⟩ := (h.rnd r hr).1
  have g : ∀ j, j < r.length -> r.getD j 0 = itO ns (hdI r) j := fun j hj => by
   have hj' : j < k + 1 := by rw [e, orb_len] at hj; exact hj
   have e3 : r.getD j 0 = (orbO ns (hdI r) (k + 1)).getD j 0 := congrArg (fun l : List Int => l.getD j 0) e
   rw [e3, List.getD_eq_getElem?_getD, orb_get hj']
   rfl
  have hl : r.length = k + 1 := by
   have := congrArg List.length e
   rwa [orb_len] at this
  have e1 := Option.some.inj i1
  have e2 : p.2 = r.getD i 0 := by
   rw [List.getD_eq_getElem?_getD, i2]
   rfl
  rw [<- e1, e2, g i hi']
  cases i with
  | zero => rw [if_pos rfl, g _ (by (first | lia | omega)), hl]; exact hk.symm
  | succ i => rw [if_neg (by (first | lia | omega)), Nat.add_sub_cancel, g _ (by (first | lia | omega))]; rfl
 refine List.ext_getElem? fun i => ?_
 by_cases c : i < m
 ·have : (i : Int) ∈ (jnP R).map (·.1) := ((jn_fst R).trans h.all).mem_iff.mpr (mem_num0.mpr ⟨by (first | lia | omega), by (first | lia | omega)⟩)
  obtain ⟨p, hpm, e⟩ := List.mem_map.mp this
  obtain ⟨h1, h2⟩ := join_at h.all p hpm
  rw [e, Int.toNat_natCast] at h2
  rw [h2, hp p hpm, e, List.getElem?_eq_getElem (by rw [ho.len]; exact c), atO_get (by rw [ho.len]; exact c)]
 ·rw [List.getElem?_eq_none (by rw [join_len]; (first | lia | omega)), List.getElem?_eq_none (by rw [ho.len]; (first | lia | omega))]
end L2
namespace L2
open PySem PySem.Spec PyProof.Rows
theorem rot_round {ns r : List Int} {x : Int} {j : Nat} (h : IsRound ns x r) (hj : j < r.length) : IsRound ns (itO ns x j) (r.drop j ++ r.take j) /\ r[j]? = some (itO ns x j) := by
 obtain ⟨⟨k, e, hk⟩, nd⟩ := h
 have hl : r.length = k + 1 := by rw [e, orb_len]
 have g : ∀ i, i < k + 1 -> r[i]? = some (itO ns x i) := fun i hi => by rw [e, orb_get hi]
 have wrap : ∀ i, itO ns x (k + 1 + i) = itO ns x i := fun i => by rw [it_add, hk]
 refine ⟨⟨⟨k, ?_, ?_⟩, ?_⟩, g j (by (first | lia | omega))⟩
 ·refine List.ext_getElem? fun i => ?_
  by_cases c : i < k + 1
  ·rw [orb_get c, <- it_add]
   by_cases c2 : i < k + 1 - j
   ·rw [List.getElem?_append_left (by rw [List.length_drop]; (first | lia | omega)), List.getElem?_drop, g _ (by (first | lia | omega))]
   ·rw [List.getElem?_append_right (by rw [List.length_drop]; (first | lia | omega)), List.length_drop, List.getElem?_take, if_pos (by (first | lia | omega)), g _ (by (first | lia | omega)), hl]
    rw [show j + i = k + 1 + (i - (k + 1 - j)) by (first | lia | omega), wrap]
  ·rw [List.getElem?_eq_none (by rw [List.length_append, List.length_drop, List.length_take]; (first | lia | omega)), List.getElem?_eq_none (by rw [orb_len]; (first | lia | omega))]
 ·rw [<- it_add, show j + (k + 1) = k + 1 + j by (first | lia | omega), wrap]
 ·have : (r.drop j ++ r.take j).Perm r := by
   have := (List.perm_append_comm (l₁ := r.drop j) (l₂ := r.take j))
   rwa [List.take_append_drop] at this
  exact this.nodup_iff.mpr nd
noncomputable def RotM (r s : List Int) : Prop := ∃ j, j < r.length /\ s = r.drop j ++ r.take j /\ ∀ y ∈ r, y <= r.getD j 0
theorem RotM.perm {r s : List Int} (h : RotM r s) : s.Perm r := by
 obtain ⟨j, _, rfl, _⟩ := h
 have := (List.perm_append_comm (l₁ := r.drop j) (l₂ := r.take j))
 rwa [List.take_append_drop] at this
theorem rotM_flat : ∀ {A B : List (List Int)}, Paired RotM A B -> B.flatten.Perm A.flatten
 | _, _, .nil => .refl _
 | _, _, .cons h t => by
  rw [List.flatten_cons, List.flatten_cons]
  exact h.perm.append (rotM_flat t)
theorem flat_apart : ∀ {R : List (List Int)}, R.flatten.Nodup -> R.Pairwise fun r s => ∀ y ∈ r, y ∉ s
 | [], _ => .nil
 | a :: t, nd => by
  rw [List.flatten_cons, List.nodup_append] at nd
  obtain ⟨_, n2, n3⟩ := nd
  refine List.pairwise_cons.mpr ⟨fun s hs y hy hys => n3 y hy y (List.mem_flatten.mpr ⟨s, hs, hys⟩) rfl, flat_apart n2⟩
theorem lex_hd {a b : List Int} (ha : a ≠ []) (hb : b ≠ []) (h : HT.lexLt b a = false) : hdI a <= hdI b := by
 match a, b, ha, hb with
 | x :: a, y :: b, _, _ =>
  rw [HT.lexLt_cons] at h
  show x <= y
  by_cases c : y = x
  ·(first | lia | omega)
  ·rw [if_neg c] at h
   have := of_decide_eq_false h
   (first | lia | omega)
theorem wr_sorted {m : Nat} {ns : List Int} {A B C : List (List Int)} (ho : Ord m ns) (hA : A = roundsO ns) (hB : Paired RotM A B) (hC : C.Perm B) (hs : C.Pairwise fun a b => HT.lexLt b a = false) : WrR m ns C := by
 subst hA
 have hall : C.flatten.Perm (num0 m) := (hC.flatten.trans (rotM_flat hB)).trans (rounds_perm ho)
 have M : MetO ns m (roundsO ns) := by
  unfold roundsO
  rw [ho.len]
  exact met_walk ho (num0 m) (fun f hf => num0_mem hf) met_nil
 have hrow : ∀ s ∈ C, IsRound ns (hdI s) s /\ ∀ y ∈ s, y <= hdI s := fun s hs => by
  have hsB := hC.mem_iff.mp hs
  obtain ⟨i, hi⟩ := List.getElem?_of_mem hsB
  have hlen := Paired.length hB
  have hiA : i < (roundsO ns).length := by
   have := (List.getElem?_eq_some_iff.mp hi).1
   (first | lia | omega)
  obtain ⟨s', hs', j, hj, e, hmx⟩ := paired_at hB (List.getElem?_eq_getElem hiA)
  rw [hi] at hs'
  cases hs'
  obtain ⟨f, f0, f1, er⟩ := M.row _ (List.getElem_mem hiA)
  have hR := row_is ho ⟨f0, f1⟩
  rw [<- er] at hR
  obtain ⟨r1, r2⟩ := rot_round hR hj
  rw [<- e] at r1
  have hh := r1.hd.1
  refine ⟨by rw [hh]; exact r1, fun y hy => ?_⟩
  have hp : s.Perm (roundsO ns)[i] := RotM.perm ⟨j, hj, e, hmx⟩
  have := hmx y (hp.mem_iff.mp hy)
  rw [List.getD_eq_getElem?_getD, r2] at this
  rw [hh]
  exact this
 refine ⟨hall, hrow, ?_⟩
 have ap := flat_apart (hall.nodup_iff.mpr (num0_nodup' m))
 have ne : ∀ s ∈ C, s ≠ [] := fun s hs z => by
  have := (hrow s hs).1.hd.2
  rw [z] at this
  cases this
 have both : C.Pairwise fun a b => HT.lexLt b a = false /\ ∀ y ∈ a, y ∉ b := List.Pairwise.and hs ap
 refine both.imp_of_mem fun {a b} ha hb hab => ?_
 have h1 := lex_hd (ne a ha) (ne b hb) hab.1
 have h2 : hdI a ≠ hdI b := fun z => by
  have m1 := (hrow a ha).1.hd.2
  have m2 := (hrow b hb).1.hd.2
  rw [<- z] at m2
  exact hab.2 _ m1 m2
 (first | lia | omega)
noncomputable def hiP (ns : List Int) (k : Nat) : Bool := (ns.take (k + 1)).all fun a => decide (a <= atO ns k)
noncomputable def hiL (ns : List Int) : List Int := ((List.range ns.length).filter (hiP ns)).map fun k : Nat => atO ns k
theorem hi_app {a b : List Int} {k : Nat} (h : k < a.length) : hiP (a ++ b) k = hiP a k /\ atO (a ++ b) k = atO a k := by
 have e : atO (a ++ b) k = atO a k := by
  rw [atO_get (by rw [List.length_append]; (first | lia | omega)), atO_get h, List.getElem_append_left h]
 refine ⟨?_, e⟩
 unfold hiP
 rw [e, List.take_append_of_le_length (by (first | lia | omega))]
theorem hi_row {pre t : List Int} {h : Int} (hp : ∀ y ∈ pre, y < h) (ht : ∀ y ∈ t, y < h) : ((List.range (t.length + 1)).filter fun j => hiP (pre ++ h :: t) (pre.length + j)) = [0] := by
 have hat : ∀ j, j < t.length + 1 -> atO (pre ++ h :: t) ((pre.length + j : Nat) : Int) = (h :: t).getD j 0 := fun j hj => by
  rw [atO_get (by rw [List.length_append, List.length_cons]; (first | lia | omega)), List.getElem_append_right (by (first | lia | omega)), List.getD_eq_getElem?_getD, List.getElem?_eq_getElem (by rw [List.length_cons]; (first | lia | omega))]
  simp
 rw [List.range_succ_eq_map, List.filter_cons]
 have h0 : hiP (pre ++ h :: t) (pre.length + 0) = true := by
  unfold hiP
  rw [hat 0 (by (first | lia | omega)), List.all_eq_true]
  intro a ha
  show decide (a <= h) = true
  have ha' : a ∈ pre ++ [h] := by
   have e : pre ++ h :: t = (pre ++ [h]) ++ t := by simp
   rw [e, List.take_append_of_le_length (by simp), List.take_of_length_le (by simp)] at ha
   exact ha
  rcases List.mem_append.mp ha' with z | z
  ·exact decide_eq_true (Int.le_of_lt (hp a z))
  ·rw [List.mem_singleton.mp z]
   exact decide_eq_true (Int.le_refl _)
 rw [if_pos h0]
 congr 1
 rw [List.filter_eq_nil_iff]
 intro j hj
 obtain ⟨i, hi, rfl⟩ := List.mem_map.mp hj
 have hi := List.mem_range.mp hi
 intro z
 unfold hiP at z
 rw [hat (i + 1) (by (first | lia | omega)), List.all_eq_true] at z
 have hm : h ∈ (pre ++ h :: t).take (pre.length + (i + 1) + 1) := by
  refine List.mem_of_getElem? (i := pre.length) ?_
  rw [List.getElem?_take, if_pos (by (first | lia | omega)), List.getElem?_append_right (Nat.le_refl _), Nat.sub_self]
  rfl
 have := of_decide_eq_true (z h hm)
 have e : (h :: t).getD (i + 1) 0 = t[i]'hi := by
  rw [List.getD_eq_getElem?_getD]
  show (t[i]?).getD 0 = _
  rw [List.getElem?_eq_getElem hi]
  rfl
 rw [e] at this
 have := ht _ (List.getElem_mem hi)
 (first | lia | omega)
theorem hiL_app (a : List Int) {h : Int} {t : List Int} (hp : ∀ y ∈ a, y < h) (ht : ∀ y ∈ t, y < h) : hiL (a ++ h :: t) = hiL a ++ [h] := by
 unfold hiL
 rw [List.length_append, List.length_cons, List.range_add, List.filter_append, List.map_append]
 congr 1
 ·have e1 : (List.range a.length).filter (hiP (a ++ h :: t)) = (List.range a.length).filter (hiP a) := List.filter_congr fun k hk => (hi_app (List.mem_range.mp hk)).1
  rw [e1]
  refine List.map_congr_left fun k hk => ?_
  exact (hi_app (List.mem_range.mp (List.mem_filter.mp hk).1)).2
 ·rw [List.filter_map]
  have := hi_row hp ht
  show List.map _ (List.map _ ((List.range (t.length + 1)).filter (hiP (a ++ h :: t) ∘ fun x => a.length + x))) = _
  rw [show (hiP (a ++ h :: t) ∘ fun x => a.length + x) = (fun j => hiP (a ++ h :: t) (a.length + j)) from rfl, this]
  show [atO (a ++ h :: t) ((a.length + 0 : Nat) : Int)] = [h]
  rw [Nat.add_zero, atO_get (by rw [List.length_append, List.length_cons]; (first | lia | omega)), List.getElem_append_right (Nat.le_refl _)]
  simp
theorem hiL_cut : ∀ (n : Nat) (R : List (List Int)), R.length = n -> CutR R -> hiL R.flatten = R.map hdI
 | 0, R, hl, _ => by
  have : R = [] := List.eq_nil_of_length_eq_zero hl
  subst this
  rfl
 | n + 1, R, hl, hc => by
  rcases List.eq_nil_or_concat R with rfl | ⟨l, r, rfl⟩
  ·cases hl
  ·rw [List.concat_eq_append] at hl hc ⊢
   rw [List.length_append] at hl
   obtain ⟨p1, _, p3⟩ := List.pairwise_append.mp hc.up
   have ih := hiL_cut n l (by simpa using hl) ⟨fun s hs => hc.row s (List.mem_append_left _ hs), p1⟩
   obtain ⟨h, t, rfl, ht⟩ := hc.row r (by simp)
   rw [List.flatten_append, List.map_append, <- ih]
   show hiL (l.flatten ++ (h :: t ++ [])) = _
   rw [List.append_nil, hiL_app l.flatten (fun y hy => ?_) ht]
   ·rfl
   ·obtain ⟨s, hs, hys⟩ := List.mem_flatten.mp hy
    obtain ⟨h', t', rfl, ht'⟩ := hc.row s (List.mem_append_left _ hs)
    have hlt : h' < h := p3 _ hs (h :: t) (by simp)
    rcases List.mem_cons.mp hys with rfl | hys
    ·exact hlt
    ·have := ht' y hys
     (first | lia | omega)
theorem highs_len (ns : List Int) : highsO ns = ((hiL ns).length : Int) := by
 unfold highsO hiL
 rw [List.length_map]
 have key : ∀ n : Nat, (sumR n fun k => if hiP ns k then 1 else 0) = (((List.range n).filter (hiP ns)).length : Int) := fun n => by
  induction n with
  | zero => rfl
  | succ n ih =>
   rw [List.range_succ, List.filter_append, List.length_append, sumR_succ, ih]
   by_cases c : hiP ns n = true
   ·rw [if_pos c, List.filter_cons, if_pos c]
    simp
   ·rw [if_neg c, List.filter_cons, if_neg c]
    simp
 exact key ns.length
end L2
namespace K08
open PySem PySem.Spec PyProof.Rows L2
noncomputable def top (i : Nat) : Stmt := PySem.Challenge.pw_shuffletold_k08_written_and_unwritten.main.body.getD i (.Pass ⟨0, 0, 0, 0⟩)
end K08
namespace K08
open PySem PySem.Spec PyProof.Rows L2
noncomputable abbrev s_rounds_of : Stmt := top 1
noncomputable abbrev s_rounds_met : Stmt := top 5
noncomputable abbrev s_round_from : Stmt := top 6
section
variable {P : Program} {w : World} {K : PySem.W.Frag} {mg : Str -> Option Value} {base : Heap}
theorem sc_round_from : FnScope ["order", "first", "numbers", "number"] ["order", "first"] (defScope s_round_from) := ⟨rfl, rfl, rfl, by decide +kernel, rfl, by decide +kernel, by decide +kernel⟩
theorem ok_round_from {f : Addr} {fd : FuncData} (F : Fun K "round_from" "round_from" s_round_from f fd) (T : Top mg) : FnOk P w K mg base CX0 1 f fd ["order", "first"] spRoundFrom := by
 refine F.ok sc_round_from (fun vs H Q E h => ?_) (fun cdv A outer s H vs Q E hr h => ?_)
 ·obtain ⟨a, ns, m, x, rfl, _⟩ := h
  rfl
 ·obtain ⟨a, ns, m, x, rfl, ha, ho, hm, h0, h1, k⟩ := h
  have ln := ho.len
  refine ⟨_, (pss_cons (ps_set (i := 2) sc_round_from.nd rfl (Or.inl rfl) (pe_lst (pa_cons (pv 1) pa_nil)))
   (pss_cons (ps_set (i := 3) sc_round_from.nd rfl (Or.inl rfl) (pe_ix ix_tup (pv 0) (pv 1) (fun _ _ => rfl)))
   (pss_cons (ps_while PassesOwn.never (pt_cmpR op_ne (pv 3) (pv 1) (nomark _))
    (pss_cons (ps_expr (pe_bm PySem.F.plainAttrs_list PySem.F.slot_list_append PySem.F.type_list_append mt_append (pv 2) (pa_cons (pv 3) pa_nil)))
    (pss_one (ps_set (i := 3) sc_round_from.nd rfl (Or.inl rfl) (pe_ix ix_tup (pv 0) (pv 3) (fun _ _ => rfl))))))
   (pss_one (ps_ret (pe_callTy call_tuple_of (by rfl) T.n_tuple boot_tuple (pa_cons (pv 2) pa_nil))))))), ?_⟩
  refine ⟨_, rfl, by show 1 <= sizeLine; decide, fun p hp => ?_⟩
  have s1 := same_upd (o := .lst [.int x]) hp
  refine ⟨_, rfl, _, rfl, a, _, x, _, rfl, rfl, SqT.of (s1 _ _ ha), at_getD h0 (by (first | lia | omega)), ?_⟩
  refine ⟨fun n σ H1 => ∃ j, n = m - j /\ σ = [some (.ref a), some (.int x), some (.ref p), some (.int (itO ns x (j + 1)))] /\ Same H H1 /\ H1 p = some (.lst ((orbO ns x (j + 1)).map V.int)) /\ (orbO ns x (j + 1)).Nodup, ⟨m, 0, rfl, rfl, s1, upd_same, by simp [orbO]⟩, ?_⟩
  rintro n σ H1 ⟨j, rfl, rfl, sm, hp1, nd⟩
  have bd := orb_bound ho ⟨h0, h1⟩ nd
  refine ⟨_, rfl, _, rfl, rfl, _, rfl, ite2 (fun hc => ?_) (fun hc => ?_)⟩
  ·have hne : itO ns x (j + 1) ≠ x := by simpa using hc
   have nd2 := orb_more ho ⟨h0, h1⟩ nd hne
   have bd2 := orb_bound ho ⟨h0, h1⟩ nd2
   have hrg := it_rng ho ⟨h0, h1⟩ (j + 1)
   refine ⟨_, fun σ' H' h => h, ?_⟩
   refine ⟨_, rfl, .inl ⟨rfl, _, SqL.of hp1⟩, _, rfl, p, _, _, rfl, rfl, hp1, small1 (by rw [mapI_len, orb_len]; (first | lia | omega)), ?_⟩
   have sm2 : Same H (upd H1 p (.lst ((orbO ns x (j + 1)).map V.int ++ [.int (itO ns x (j + 1))]))) := same_updR sm hp
   refine ⟨_, rfl, _, rfl, a, _, _, _, rfl, rfl, SqT.of (sm2 _ _ ha), at_getD hrg.1 (by (first | lia | omega)), ?_⟩
   refine ⟨m - (j + 1), by (first | lia | omega), j + 1, rfl, rfl, sm2, ?_, nd2⟩
   rw [upd_same, orb_succ ns x (j + 1), List.map_append]
   rfl
  ·have he : itO ns x (j + 1) = x := by simpa using hc
   refine ⟨_, rfl, p, _, rfl, .inl ⟨SqL.of hp1, fun l hl => ?_⟩⟩
   have e := row_eq ho ⟨h0, h1⟩ ⟨⟨j, rfl, he⟩, nd⟩
   refine k l _ (sm.trans (same_upd hl)) ?_
   rw [upd_same, e]
theorem sc_rounds_met : FnScope ["order", "firsts", "rounds", "met", "first", "found", "number"] ["order", "firsts"] (defScope s_rounds_met) := ⟨rfl, rfl, rfl, by decide +kernel, rfl, by decide +kernel, by decide +kernel⟩
theorem ok_rounds_met {f : Addr} {fd : FuncData} (F : Fun K "rounds_met" "rounds_met" s_rounds_met f fd) (T : Top mg) (Cround_from : Cal P w K mg base 1 "round_from" ["order", "first"] spRoundFrom) : FnOk P w K mg base CX0 2 f fd ["order", "firsts"] spRoundsMet := by
 refine F.ok sc_rounds_met (fun vs H Q E h => ?_) (fun cdv A outer s H vs Q E hr h => ?_)
 ·obtain ⟨a, l, ns, fs, m, rfl, _⟩ := h
  rfl
 ·obtain ⟨a, l, ns, fs, m, rfl, ha, hl, ho, hm, hf, k⟩ := h
  have ln := ho.len
  refine ⟨_, (pss_cons (ps_set (i := 2) sc_rounds_met.nd rfl (Or.inl rfl) (pe_lst pa_nil))
   (pss_cons (ps_set (i := 3) sc_rounds_met.nd rfl (Or.inl rfl) (pe_op op_rep (pe_lst (pa_cons pe_bl pa_nil)) (pe_callB call_len_seq (by rfl) T.n_len PySem.boot_len (pa_cons (pv 0) pa_nil))))
   (pss_cons (ps_for PassesOwn.never rfl (pi_list (pv 1)) (pg_name (i := 4) sc_rounds_met.nd rfl (Or.inl rfl))
    (pss_one (ps_if (pt_not (pt_val (pe_ix ix_list (pv 3) (pv 4) (fun _ _ => rfl))))
     (pss_cons (ps_set (i := 5) sc_rounds_met.nd rfl (Or.inl rfl) (pe_cal Cround_from (hr.mono (by decide)) rfl (pa_cons (pv 0) (pa_cons (pv 4) pa_nil))))
     (pss_cons (ps_for PassesOwn.never rfl (pi_tup (pv 5)) (pg_name (i := 6) sc_rounds_met.nd rfl (Or.inl rfl))
      (pss_one (ps_asg pe_bl (pg_sub (pv 3) (pv 6) set_list))))
     (pss_one (ps_expr (pe_bm PySem.F.plainAttrs_list PySem.F.slot_list_append PySem.F.type_list_append mt_append (pv 2) (pa_cons (pv 5) pa_nil))))))
     pss_nil)))
   (pss_one (ps_ret (pv 2)))))), ?_⟩
  refine ⟨Nat.zero_le _, fun p hp => ?_⟩
  have s1 := same_upd (o := .lst []) hp
  refine ⟨by show 1 <= sizeLine; decide, fun o1 ho1 => ?_⟩
  have s2 := same_upd (o := .lst [.bl false]) ho1
  refine ⟨_, rfl, a, _, rfl, .inr (SqT.of (s2 _ _ (s1 _ _ ha))), o1, _, _, rfl, rfl, upd_same, by (first | lia | omega), by rw [mapI_len]; (first | lia | omega), ?_, fun q hq => ?_⟩
  ·simp only [mapI_len, Int.toNat_natCast, List.length_cons, List.length_nil]
   exact Nat.le_trans (by (first | lia | omega) : (0 + 1) * ns.length <= 1000) (by decide)
  have s3 := same_upd (o := .lst (List.replicate ((ns.map V.int).length : Int).toNat [V.bl false]).flatten) hq
  have hq0 : H q = none := s1.free (s2.free hq)
  have hpq : p ≠ q := fun z => by
   subst z
   have := s2 _ _ (upd_same (H := H) (a := p) (o := .lst []))
   rw [hq] at this
   cases this
  have hrep : (List.replicate ((ns.map V.int).length : Int).toNat [V.bl false]).flatten = (List.replicate m false).map V.bl := by
   rw [mapI_len, Int.toNat_natCast, rep_one, ln, List.map_replicate]
  refine ⟨_, rfl, l, rfl, ⟨_, SqL.of (s3 _ _ (s2 _ _ (s1 _ _ hl)))⟩, for_list (K := K) (xs := fs.map V.int) (fun i σ H2 => ∃ (zs : List Addr) (bs : List Bool) (c4 c5 c6 : Option V), σ = [some (.ref a), some (.ref l), some (.ref p), some (.ref q), c4, c5, c6] /\ Same H H2 /\
   H2 p = some (.lst (zs.map V.ref)) /\ H2 q = some (.lst (bs.map V.bl)) /\ RowsAt H2 zs (walkO ns (fs.take i)) /\ MetO ns m (walkO ns (fs.take i)) /\ Bits bs m (walkO ns (fs.take i)).flatten) ?_ ?_ ?_ ?_⟩
  ·refine ⟨[], List.replicate m false, none, none, none, rfl, (s1.trans s2).trans s3, ?_, by rw [upd_same, hrep], .nil, met_nil, bits0 m⟩
   rw [upd_ne hpq]
   exact s2 _ _ upd_same
  ·rintro i σ H2 _ ⟨zs, bs, c4, c5, c6, rfl, sm, _⟩
   exact SqL.of (sm _ _ hl)
  ·rintro i x σ H2 hx ⟨zs, bs, c4, c5, c6, rfl, sm, hp2, hq2, R, M, B⟩
   rw [List.getElem?_map] at hx
   obtain ⟨n, hn, rfl⟩ : ∃ n, fs[i]? = some n /\ V.int n = x := by
    cases e : fs[i]? with
    | none => rw [e] at hx; cases hx
    | some n => rw [e] at hx; exact ⟨n, rfl, Option.some.inj hx⟩
   have hnr := hf n (List.mem_of_getElem? hn)
   have htk : walkO ns (fs.take (i + 1)) = stepO ns (walkO ns (fs.take i)) n := by
    rw [List.take_succ, hn]
    exact walk_snoc ns (fs.take i) n
   have M' := M.step ho hnr
   have lens := M.lens ho
   have hbit := B.bit n.toNat (by (first | lia | omega))
   rw [show ((n.toNat : Nat) : Int) = n by (first | lia | omega)] at hbit
   have hat : atI (bs.map V.bl) n = some (.bl (decide (n ∈ (walkO ns (fs.take i)).flatten))) := by
    have := atI_nat (xs := bs.map V.bl) (j := n.toNat) (v := .bl (decide (n ∈ (walkO ns (fs.take i)).flatten))) (by rw [List.getElem?_map, hbit]; rfl)
    rwa [show ((n.toNat : Nat) : Int) = n by (first | lia | omega)] at this
   refine ⟨_, rfl, _, rfl, q, _, n, _, rfl, rfl, SqL.of hq2, hat, _, rfl, ite2 (fun hc => ?_) (fun hc => ?_)⟩
   ·have hnm : n ∉ (walkO ns (fs.take i)).flatten := by simpa using hc
    have hst : stepO ns (walkO ns (fs.take i)) n = walkO ns (fs.take i) ++ [rowO ns n] := by unfold stepO; rw [if_neg hnm]
    refine ⟨_, rfl, _, rfl, a, ns, m, n, rfl, sm _ _ ha, ho, hm, hnr.1, hnr.2, fun r H3 s3' hr3 => ?_⟩
    have rl := row_len ho hnr
    refine ⟨_, rfl, r, rfl, ⟨_, SqT.of hr3⟩, for_tup (K := K) (xs := (rowO ns n).map V.int) (fun j σ H4 => ∃ (bs : List Bool) (c6 : Option V), σ = [some (.ref a), some (.ref l), some (.ref p), some (.ref q), some (.int n), some (.ref r), c6] /\ Same H H4 /\
     H4 p = some (.lst (zs.map V.ref)) /\ H4 q = some (.lst (bs.map V.bl)) /\ RowsAt H4 zs (walkO ns (fs.take i)) /\ H4 r = some (.tup ((rowO ns n).map V.int)) /\ Bits bs m ((walkO ns (fs.take i)).flatten ++ (rowO ns n).take j)) ?_ ?_ ?_ ?_⟩
    ·exact ⟨bs, c6, rfl, sm.trans s3', s3' _ _ hp2, s3' _ _ hq2, R.same s3', hr3, by rw [List.take_zero, List.append_nil]; exact B⟩
    ·rintro j σ H4 _ ⟨bs, c6, rfl, _, _, _, _, hr4, _⟩
     exact SqT.of hr4
    ·rintro j y σ H4 hy ⟨bs, c6, rfl, sm4, hp4, hq4, R4, hr4, B4⟩
     rw [List.getElem?_map] at hy
     obtain ⟨z, hz, rfl⟩ : ∃ z, (rowO ns n)[j]? = some z /\ V.int z = y := by
      cases e : (rowO ns n)[j]? with
      | none => rw [e] at hy; cases hy
      | some n => rw [e] at hy; exact ⟨n, rfl, Option.some.inj hy⟩
     have hzr := row_mem ho hnr z (List.mem_of_getElem? hz)
     have hix : ixN (bs.map V.bl).length z = some z.toNat := by
      unfold ixN
      rw [List.length_map, B4.len, if_pos hzr.1, if_pos (by (first | lia | omega))]
     refine ⟨_, rfl, _, rfl, q, _, z, _, rfl, rfl, hq4, hix, ?_⟩
     have st : SameT H4 (upd H4 q (.lst ((bs.map V.bl).set z.toNat (.bl true)))) := sameT_lst hq4
     refine ⟨bs.set z.toNat true, _, rfl, same_updR sm4 hq0, ?_, ?_, R4.sameT st, st _ _ hr4, ?_⟩
     ·rw [upd_ne hpq]; exact hp4
     ·rw [upd_same, List.map_set]
     ·rw [List.take_succ, hz]
      have := B4.set hzr.1 hzr.2
      rwa [List.append_assoc] at this
    ·rintro σ H4 ⟨bs, c6, rfl, sm4, hp4, hq4, R4, hr4, B4⟩
     refine ⟨_, rfl, .inl ⟨rfl, _, SqL.of hp4⟩, _, rfl, p, _, _, rfl, rfl, hp4, small1 (by rw [mapR_len, Paired.length R4]; (first | lia | omega)), ?_⟩
     have st : SameT H4 (upd H4 p (.lst (zs.map V.ref ++ [.ref r]))) := sameT_lst hp4
     refine ⟨zs ++ [r], bs, _, _, _, rfl, same_updR sm4 hp, by rw [upd_same, List.map_append]; rfl, by rw [upd_ne (Ne.symm hpq)]; exact hq4, ?_, ?_, ?_⟩
     ·rw [htk, hst]
      exact Paired.snoc (R4.sameT st) (st _ _ hr4)
     ·rw [htk]; exact M'
     ·rw [htk, hst]
      rw [mapI_len, List.take_length] at B4
      simpa using B4
   ·have hnm : n ∈ (walkO ns (fs.take i)).flatten := by simpa using hc
    have hst : stepO ns (walkO ns (fs.take i)) n = walkO ns (fs.take i) := by unfold stepO; rw [if_pos hnm]
    exact ⟨zs, bs, _, _, _, rfl, sm, hp2, hq2, by rw [htk, hst]; exact R, by rw [htk, hst]; exact M, by rw [htk, hst]; exact B⟩
  ·rintro σ H2 ⟨zs, bs, c4, c5, c6, rfl, sm, hp2, hq2, R, M, B⟩
   rw [mapI_len, List.take_length] at R
   exact ⟨_, rfl, k p zs H2 sm hp2 R⟩
theorem sc_rounds_of : FnScope ["order"] ["order"] (defScope s_rounds_of) := ⟨rfl, rfl, rfl, by decide +kernel, rfl, by decide +kernel, by decide +kernel⟩
theorem ok_rounds_of {f : Addr} {fd : FuncData} (F : Fun K "rounds_of" "rounds_of" s_rounds_of f fd) (T : Top mg) (Crounds_met : Cal P w K mg base 2 "rounds_met" ["order", "firsts"] spRoundsMet) : FnOk P w K mg base CX0 3 f fd ["order"] spRounds := by
 refine F.ok sc_rounds_of (fun vs H Q E h => ?_) (fun cdv A outer s H vs Q E hr h => ?_)
 ·obtain ⟨a, ns, m, rfl, _⟩ := h
  rfl
 ·obtain ⟨a, ns, m, rfl, ha, ho, hm, k⟩ := h
  have ln := ho.len
  refine ⟨_, (pss_one (ps_ret (pe_callTy call_tuple_of (by rfl) T.n_tuple boot_tuple (pa_cons (pe_cal Crounds_met (hr.mono (by decide)) rfl (pa_cons (pv 0) (pa_cons (pe_callTy (call_list_rng rfl) (by rfl) T.n_list boot_list (pa_cons (pe_callTy call_range1 (by rfl) T.n_range boot_range (pa_cons (pe_callB call_len_seq (by rfl) T.n_len PySem.boot_len (pa_cons (pv 0) pa_nil)) pa_nil)) pa_nil)) pa_nil))) pa_nil)))), ?_⟩
  refine ⟨_, rfl, _, rfl, a, _, rfl, .inr (SqT.of ha), _, rfl, fun r hr' => ⟨r, _, rfl, upd_same, by (first | lia | omega), by rw [mapI_len]; (first | lia | omega), fun l hl => ?_⟩⟩
  have s2 := (same_upd (o := .rng 0 ((ns.map V.int).length : Int)) hr').trans (same_upd (o := .lst (rangeV 0 ((ns.map V.int).length : Int).toNat)) hl)
  refine ⟨a, l, ns, num0 ns.length, m, rfl, s2 _ _ ha, by rw [upd_same, mapI_len, Int.toNat_natCast, rangeV_num0], ho, hm, by rw [ln]; exact fun f hf => num0_mem hf, fun p zs H' s' hp R => ?_⟩
  refine ⟨p, _, rfl, .inl ⟨SqL.of hp, fun t ht => ?_⟩⟩
  exact k t zs _ ((s2.trans s').trans (same_upd ht)) upd_same (R.same (same_upd ht))
end
end K08
namespace L2
open PySem PySem.Spec PyProof.Rows
noncomputable def spCnt (f : List Int -> Int) : Sp := fun vs H Q _ => ∃ (a : Addr) (ns : List Int) (m : Nat), vs = [.ref a] /\ H a = some (.tup (ns.map V.int)) /\ Ord m ns /\ m <= 60 /\ ∀ H', Same H H' -> Q (.int (f ns)) H'
theorem piK_tup {X : Cx} {tg l : Expr} {tl : TE} (K : PySem.W.Frag) (hK : X.K = K) (hl : PE X l tl) : PI X tg l (iTup K tl) := hK ▸ pi_tup hl
end L2
namespace K08
open PySem PySem.Spec PyProof.Rows L2
noncomputable abbrev s_rounds_in : Stmt := top 9
noncomputable abbrev s_highs_in : Stmt := top 12
section
variable {P : Program} {w : World} {K : PySem.W.Frag} {mg : Str -> Option Value} {base : Heap}
theorem sc_rounds_in : FnScope ["order"] ["order"] (defScope s_rounds_in) := ⟨rfl, rfl, rfl, by decide +kernel, rfl, by decide +kernel, by decide +kernel⟩
theorem ok_rounds_in {f : Addr} {fd : FuncData} (F : Fun K "rounds_in" "rounds_in" s_rounds_in f fd) (T : Top mg) (Crounds_of : Cal P w K mg base 3 "rounds_of" ["order"] spRounds) : FnOk P w K mg base CX0 4 f fd ["order"] (spCnt fun ns => ((roundsO ns).length : Int)) := by
 refine F.ok sc_rounds_in (fun vs H Q E h => ?_) (fun cdv A outer s H vs Q E hr h => ?_)
 ·obtain ⟨a, ns, m, rfl, _⟩ := h
  rfl
 ·obtain ⟨a, ns, m, rfl, ha, ho, hm, k⟩ := h
  refine ⟨_, (pss_one (ps_ret (pe_callB call_len_seq (by rfl) T.n_len PySem.boot_len (pa_cons (pe_cal Crounds_of (hr.mono (by decide)) rfl (pa_cons (pv 0) pa_nil)) pa_nil)))), ?_⟩
  refine ⟨_, rfl, a, ns, m, rfl, ha, ho, by (first | lia | omega), fun p zs H' s' hp R => ⟨p, _, rfl, .inr (SqT.of hp), ?_⟩⟩
  rw [mapR_len, Paired.length R]
  exact k H' s'
theorem sc_highs_in : FnScope ["order", "highs", "highest", "number"] ["order"] (defScope s_highs_in) := ⟨rfl, rfl, rfl, by decide +kernel, rfl, by decide +kernel, by decide +kernel⟩
theorem ok_highs_in {f : Addr} {fd : FuncData} (F : Fun K "highs_in" "highs_in" s_highs_in f fd) : FnOk P w K mg base CX0 1 f fd ["order"] (spCnt highsO) := by
 refine F.ok sc_highs_in (fun vs H Q E h => ?_) (fun cdv A outer s H vs Q E hr h => ?_)
 ·obtain ⟨a, ns, m, rfl, _⟩ := h
  rfl
 ·obtain ⟨a, ns, m, rfl, ha, ho, hm, k⟩ := h
  have ln := ho.len
  refine ⟨_, (pss_cons (ps_set (i := 1) sc_highs_in.nd rfl (Or.inl rfl) pe_int)
   (pss_cons (ps_set (i := 2) sc_highs_in.nd rfl (Or.inl rfl) (pe_un un_neg pe_int))
   (pss_cons (ps_for PassesOwn.never rfl (pi_tup (pv 0)) (pg_name (i := 3) sc_highs_in.nd rfl (Or.inl rfl))
    (pss_one (ps_if (pt_cmpR op_gt (pv 3) (pv 2) (nomark _))
     (pss_cons (ps_aug (i := 1) sc_highs_in.nd rfl (Or.inl rfl) pe_int ip_add)
     (pss_one (ps_set (i := 2) sc_highs_in.nd rfl (Or.inl rfl) (pv 3))))
     pss_nil)))
   (pss_one (ps_ret (pv 1)))))), ?_⟩
  refine ⟨1, rfl, ?_⟩
  refine ⟨_, rfl, a, rfl, ⟨_, SqT.of ha⟩, for_tup (K := K) (xs := ns.map V.int) (fun i σ H2 => ∃ (h : Int) (c3 : Option V), σ = [some (.ref a), some (.int (sumR i fun k => if (ns.take (k + 1)).all (fun a => decide (a <= atO ns k)) then 1 else 0)), some (.int h), c3] /\ H2 = H /\ (∀ a ∈ ns.take i, a <= h) /\ (h = -1 ∨ h ∈ ns.take i)) ?_ ?_ ?_ ?_⟩
  ·exact ⟨-1, none, rfl, rfl, by simp, .inl rfl⟩
  ·rintro i σ H2 _ ⟨h, c3, rfl, rfl, _⟩
   exact SqT.of ha
  ·rintro i x σ H2 hx ⟨h, c3, rfl, rfl, hle, hin⟩
   rw [List.getElem?_map] at hx
   obtain ⟨n, hn, rfl⟩ : ∃ n, ns[i]? = some n /\ V.int n = x := by
    cases e : ns[i]? with
    | none => rw [e] at hx; cases hx
    | some n => rw [e] at hx; exact ⟨n, rfl, Option.some.inj hx⟩
   have hnr := ho.rng n (List.mem_of_getElem? hn)
   have hat : atO ns (i : Int) = n := by rw [<- getD_atO, List.getD_eq_getElem?_getD, hn]; rfl
   have htk : ns.take (i + 1) = ns.take i ++ [n] := by rw [List.take_succ, hn]; rfl
   have hnew : n ∉ ns.take i := fun z => by
    obtain ⟨j, hj⟩ := List.getElem?_of_mem z
    rw [List.getElem?_take] at hj
    by_cases hji : j < i
    ·rw [if_pos hji] at hj
     obtain ⟨l1, e1⟩ := List.getElem?_eq_some_iff.mp hn
     obtain ⟨l2, e2⟩ := List.getElem?_eq_some_iff.mp hj
     have q1 := List.Nodup.idxOf_getElem ho.nodup i l1
     have q2 := List.Nodup.idxOf_getElem ho.nodup j l2
     rw [e1] at q1
     rw [e2] at q2
     (first | lia | omega)
    ·rw [if_neg hji] at hj
     cases hj
   refine ⟨_, rfl, _, rfl, _, _, rfl, rfl, _, rfl, ite2 (fun hc => ?_) (fun hc => ?_)⟩
   ·have hgt : h < n := by simpa using hc
    have e : (ns.take (i + 1)).all (fun a => decide (a <= atO ns i)) = true := by
     rw [hat, htk, List.all_eq_true]
     intro a ha'
     rcases List.mem_append.mp ha' with h1 | h1
     ·have := hle a h1
      simp
      (first | lia | omega)
     ·rw [List.mem_singleton.mp h1]; simp
    refine ⟨_, rfl, _, _, rfl, rfl, ?_⟩
    refine ⟨_, rfl, n, some (.int n), ?_, rfl, ?_, .inr (by rw [htk]; simp)⟩
    ·rw [sumR_succ, e]
     rfl
    ·intro a ha'
     rw [htk] at ha'
     rcases List.mem_append.mp ha' with h1 | h1
     ·have := hle a h1
      (first | lia | omega)
     ·rw [List.mem_singleton.mp h1]; exact Int.le_refl _
   ·have hngt : n <= h := by simpa using hc
    have hmem : h ∈ ns.take i := by
     rcases hin with h1 | h1
     ·(first | lia | omega)
     ·exact h1
    have hlt : n < h := by
     have : n ≠ h := fun z => hnew (z ▸ hmem)
     (first | lia | omega)
    have e : (ns.take (i + 1)).all (fun a => decide (a <= atO ns i)) = false := by
     rw [hat, htk, List.all_eq_false]
     exact ⟨h, List.mem_append_left _ hmem, by simp; (first | lia | omega)⟩
    refine ⟨h, some (.int n), ?_, rfl, ?_, .inr (by rw [htk]; exact List.mem_append_left _ hmem)⟩
    ·rw [sumR_succ, e]
     simp
    ·intro a ha'
     rw [htk] at ha'
     rcases List.mem_append.mp ha' with h1 | h1
     ·exact hle a h1
     ·rw [List.mem_singleton.mp h1]; exact hngt
  ·rintro σ H2 ⟨h, c3, rfl, rfl, _⟩
   rw [mapI_len]
   exact ⟨_, rfl, k _ (Same.refl _)⟩
end
end K08
namespace K08
open PySem PySem.Spec PyProof.Rows L2
noncomputable abbrev s__law_hand : Stmt := top 18
noncomputable abbrev s__law_pick : Stmt := top 19
noncomputable abbrev s__law_size : Stmt := top 20
noncomputable abbrev s__law_any : Stmt := top 21
noncomputable abbrev s__law_order : Stmt := top 22
section
variable {P : Program} {w : World} {K : PySem.W.Frag} {mg : Str -> Option Value} {base : Heap}
theorem sc__law_hand : FnScope ["_law_script", "_law_seed", "_law_cell"] ["_law_script"] (defScope s__law_hand) := ⟨rfl, rfl, rfl, by decide +kernel, rfl, by decide +kernel, by decide +kernel⟩
theorem ok__law_hand {f : Addr} {fd : FuncData} (F : Fun K "_law_hand" "_law_hand" s__law_hand f fd) : FnOk P w K mg base CX0 1 f fd ["_law_script"] (spHand K) := by
 refine F.ok sc__law_hand (fun vs H Q E h => ?_) (fun cdv A outer s H vs Q E hr h => ?_)
 ·obtain ⟨a, ns, rfl, _⟩ := h
  rfl
 ·obtain ⟨a, ns, rfl, hS, hl, k⟩ := h
  refine ⟨_, (pss_cons (ps_set (i := 1) sc__law_hand.nd rfl (Or.inl rfl) pe_int)
   (pss_cons (ps_for PassesOwn.never rfl (pi_list (pe_slice sl_list (pv 0) po_none (po_some pe_int))) (pg_name (i := 2) sc__law_hand.nd rfl (Or.inl rfl))
    (pss_one (ps_set (i := 1) sc__law_hand.nd rfl (Or.inl rfl) (pe_op op_mod (pe_op op_add (pe_op op_add (pe_op op_mul (pv 1) pe_int) (pe_op op_mod (pv 2) pe_int)) pe_int) pe_int))))
   (pss_one (ps_ret (pe_lst (pa_cons (pe_lc (N' := ["_law_cell"]) (n := 1) (ix := []) rfl (CompScope.of (sc := defScope s__law_hand) (N := ["_law_script", "_law_seed", "_law_cell"]) (by decide +kernel) rfl rfl) (pi_list (pe_slice sl_list (pv 0) po_none (po_some pe_int))) (fun _ _ _ _ _ => ⟨(pg_name (i := 0) (show (["_law_cell"] : List Str).Nodup by decide +kernel) rfl (Or.inl rfl)), (pts_one (pt_cmpR op_ge (pv 0) (pe_op op_pow pe_int pe_int) (nomark _))), (pv 0)⟩)) (pa_cons (pv 1) pa_nil))))))), ?_⟩
  have hcut : ∃ ms : List Int, cutV (ns.map V.int) none (some 63) = ms.map V.int /\ ms.length <= 63 := by
   refine ⟨(ns.drop (HT.sIx (ns.map V.int).length 0 none)).take (HT.sIx (ns.map V.int).length (ns.map V.int).length (some 63) - HT.sIx (ns.map V.int).length 0 none), ?_, ?_⟩
   ·unfold cutV
    rw [List.map_take, List.map_drop]
   ·rw [List.length_take, List.length_drop]; (first | lia | omega)
  obtain ⟨ms, ecut, hms⟩ := hcut
  refine ⟨_, rfl, 63, rfl, a, _, rfl, hS, fun p hp => ⟨p, rfl, ⟨_, SqL.of upd_same⟩, ?_⟩⟩
  have sS : ∀ {H' : Hp}, Same H H' -> SqL K H' a (ns.map V.int) := fun s' => s'.seq hS
  refine for_list (K := K) (a := p) (xs := ms.map V.int) (fun i σ H2 => ∃ (seed : Int) (c : Option V), σ = [some (.ref a), some (.int seed), c] /\ H2 = upd H p (.lst (ms.map V.int))) ⟨19, none, rfl, by rw [ecut]⟩ (fun i σ H2 _ h => by obtain ⟨_, _, _, rfl⟩ := h; exact SqL.of upd_same) ?_ ?_
  ·rintro i y σ H2 hi ⟨seed, c, rfl, rfl⟩
   obtain ⟨z, _, rfl⟩ := List.mem_map.mp (List.mem_of_getElem? hi)
   refine ⟨_, rfl, _, _, rfl, rfl, .inr ⟨by decide, by decide⟩, _, rfl, _, _, rfl, rfl, (by show (0 : Int) < 2305843009213693951; decide), _, _, rfl, rfl, _, _, rfl, rfl, _, _, rfl, rfl, (by show (0 : Int) < 2305843009213693951; decide), ?_⟩
   exact ⟨_, _, rfl, rfl⟩
  ·rintro σ H2 ⟨seed, c, rfl, rfl⟩
   refine ⟨_, rfl, 63, rfl, a, _, rfl, sS (same_upd hp), fun p' hp' => ⟨p', rfl, ⟨_, SqL.of upd_same⟩, ?_⟩⟩
   rw [ecut]
   refine lc_pure (yields_list (xs := ms.map V.int)) (small1 (by rw [mapI_len]; (first | lia | omega))) (fun v => match v with | .int n => decide (10 ^ (18 : Int).toNat <= n) | _ => false) id (fun H' s' => SqL.of (s' _ _ upd_same)) (fun x hx H' s' Q' q => ?_) (fun x hx _ H' s' Q' q => ?_) fun acc hacc => ?_
   ·obtain ⟨n, _, rfl⟩ := List.mem_map.mp hx
    exact ⟨_, rfl, _, _, rfl, rfl, ⟨by decide, by decide, by decide⟩, _, _, rfl, rfl, _, rfl, q⟩
   ·exact ⟨_, rfl, q⟩
   ·refine ⟨_, rfl, (by show 2 <= sizeLine; decide), fun r hr' => ?_⟩
    have nacc : r ≠ acc := fun z => by rw [z, upd_same] at hr'; cases hr'
    have hacc1 : H acc = none := by
     rw [upd_ne (fun z => by rw [z, upd_same] at hacc; cases hacc)] at hacc
     rw [upd_ne (fun z => by rw [z, upd_same] at hacc; cases hacc)] at hacc
     exact hacc
    have hr1 : H r = none := by
     rw [upd_ne nacc] at hr'
     rw [upd_ne (fun z => by rw [z, upd_same] at hr'; cases hr')] at hr'
     rw [upd_ne (fun z => by rw [z, upd_same] at hr'; cases hr')] at hr'
     exact hr'
    refine k r acc _ ?_ ?_ hr1 hacc1
    ·exact (((same_upd hp).trans (same_upd hp')).trans (same_upd hacc)).trans (same_upd hr')
    ·refine ⟨(ms.filter fun n => decide (10 ^ (18 : Int).toNat <= n)), seed, upd_same, ?_, fun n hn => ?_, ?_⟩
     ·rw [upd_ne (Ne.symm nacc), upd_same, List.map_id, List.filter_map]
      rfl
     ·have := (List.mem_filter.mp hn).2
      have := of_decide_eq_true this
      have e : (10 : Int) ^ (18 : Int).toNat = 1000000000000000000 := by decide
      (first | lia | omega)
     ·exact Nat.le_trans (List.length_filter_le _ _) hms
end
end K08
namespace K08
open PySem PySem.Spec PyProof.Rows L2
section
variable {P : Program} {w : World} {K : PySem.W.Frag} {mg : Str -> Option Value} {base : Heap}
theorem sc__law_pick : FnScope ["_law_hand_here", "_law_many", "_law_digit", "_law_mixed"] ["_law_hand_here", "_law_many"] (defScope s__law_pick) := ⟨rfl, rfl, rfl, by decide +kernel, rfl, by decide +kernel, by decide +kernel⟩
theorem ixN_nat {n j : Nat} (h : j < n) : ixN n (j : Int) = some j := by
 unfold ixN
 rw [if_pos (by (first | lia | omega)), if_pos (by (first | lia | omega))]
 rfl
theorem neNil {H : Hp} {q e : Addr} {ns : List Int} {Q : VK} (hq : H q = some (.lst (ns.map V.int))) (he : H e = none) (h : Q (.bl (!ns.isEmpty)) (upd H e (.lst []))) : rNeD (.ref q) (.ref e) (upd H e (.lst [])) Q := by
 refine ⟨_, _, .lst (by rw [upd_ne (ne_of_none hq he)]; exact hq) (IsAll.ints ns), .lst upd_same .nil, shaped_lints ns, shaped_lints [], ?_⟩
 have e1 : PyData.eqv (.list (ns.map PyData.int)) (.list []) = ns.isEmpty := by
  show PyData.eqvAll (ns.map PyData.int) [] = _
  cases ns with
  | nil => simp [PyData.eqvAll]
  | cons a r => simp [PyData.eqvAll]
 rw [e1]
 exact h
theorem ok__law_pick {f : Addr} {fd : FuncData} (F : Fun K "_law_pick" "_law_pick" s__law_pick f fd) : FnOk P w K mg base CX0 1 f fd ["_law_hand_here", "_law_many"] spPick := by
 refine F.ok sc__law_pick (fun vs H Q E h => ?_) (fun cdv A outer s H vs Q E hr h => ?_)
 ·obtain ⟨p, q, m, rfl, _⟩ := h
  rfl
 ·obtain ⟨p, q, m, rfl, hm0, hm1, hh, k⟩ := h
  have hu : _ := hr.units
  refine ⟨_, (pss_cons (ps_while PassesOwn.never (PW.pt (pw_and (pt_cmpR (op_neD hu) (pe_ix ix_list (pv 0) pe_int (fun _ _ => rfl)) (pe_lst pa_nil) (nomark _)) (pw_and1 (pt_cmpR op_eq (pe_ix ix_list (pe_ix ix_list (pv 0) pe_int (fun _ _ => rfl)) pe_int (fun _ _ => rfl)) pe_int (nomark _)))))
    (pss_one (ps_expr (pe_bm PySem.F.plainAttrs_list PySem.F.slot_list_pop PySem.F.type_list_pop mt_popAt (pe_ix ix_list (pv 0) pe_int (fun _ _ => rfl)) (pa_cons pe_int pa_nil)))))
   (pss_cons (ps_if (pt_cmpR (op_neD hu) (pe_ix ix_list (pv 0) pe_int (fun _ _ => rfl)) (pe_lst pa_nil) (nomark _))
    (pss_cons (ps_set (i := 2) sc__law_pick.nd rfl (Or.inl rfl) (pe_op op_mod (pe_ix ix_list (pe_ix ix_list (pv 0) pe_int (fun _ _ => rfl)) pe_int (fun _ _ => rfl)) (pv 1)))
    (pss_cons (ps_asg (pe_op op_fdiv (pe_ix ix_list (pe_ix ix_list (pv 0) pe_int (fun _ _ => rfl)) pe_int (fun _ _ => rfl)) (pv 1)) (pg_sub (pe_ix ix_list (pv 0) pe_int (fun _ _ => rfl)) pe_int set_list))
    (pss_one (ps_ret (pv 2)))))
    pss_nil)
   (pss_cons (ps_asg (pe_op op_mod (pe_op op_add (pe_op op_mul (pe_ix ix_list (pv 0) pe_int (fun _ _ => rfl)) pe_int) pe_int) pe_int) (pg_sub (pv 0) pe_int set_list))
   (pss_cons (ps_set (i := 3) sc__law_pick.nd rfl (Or.inl rfl) (pe_op op_fdiv (pe_ix ix_list (pv 0) pe_int (fun _ _ => rfl)) pe_int))
   (pss_one (ps_ret (pe_op op_mod (pe_op op_fdiv (pe_op op_mod (pe_op op_mul (pv 3) (pe_op op_add (pe_op op_mod (pv 3) pe_int) pe_int)) pe_int) pe_int) (pv 1)))))))), ?_⟩
  refine ⟨fun n σ H1 => ∃ (ns : List Int) (seed : Int), n = ns.length /\ σ = [some (.ref p), some (.int m), none, none] /\ H1 p = some (.lst [.ref q, .int seed]) /\ H1 q = some (.lst (ns.map V.int)) /\ (∀ n ∈ ns, 0 <= n) /\ ns.length <= 63 /\ Keep p q H H1, ?_, ?_⟩
  ·obtain ⟨ns, seed, h1, h2, h3, h4⟩ := hh
   exact ⟨_, ns, seed, rfl, rfl, h1, h2, h3, h4, Keep.refl _ _ _⟩
  rintro n σ H1 ⟨ns, seed, rfl, rfl, hp, hq, hn, hlen, kp⟩
  refine ⟨_, rfl, p, _, 0, _, rfl, rfl, SqL.of hp, atI_nat (j := 0) rfl, Nat.zero_le _, fun e he => neNil hq he ⟨_, rfl, ?_⟩⟩
  have hnpq : p ≠ q := Hand.ne ⟨ns, seed, hp, hq, hn, hlen⟩
  have hp1 : (upd H1 e (.lst [])) p = some (.lst [.ref q, .int seed]) := by rw [upd_ne (ne_of_none hp he)]; exact hp
  have hq1 : (upd H1 e (.lst [])) q = some (.lst (ns.map V.int)) := by rw [upd_ne (ne_of_none hq he)]; exact hq
  have kp1 : Keep p q H (upd H1 e (.lst [])) := kp.trans (same_upd he).keep
  cases ns with
  | nil =>
   refine iteF ?_
   refine iteF ?_
   refine ⟨_, rfl, p, _, 0, _, rfl, rfl, SqL.of hp1, atI_nat (j := 0) rfl, Nat.zero_le _, fun e' he' => neNil hq1 he' ⟨_, rfl, ?_⟩⟩
   have hp3 : (upd (upd H1 e (.lst [])) e' (.lst [])) p = some (.lst [.ref q, .int seed]) := by rw [upd_ne (ne_of_none hp1 he')]; exact hp1
   have hq3 : (upd (upd H1 e (.lst [])) e' (.lst [])) q = some (.lst (([] : List Int).map V.int)) := by rw [upd_ne (ne_of_none hq1 he')]; exact hq1
   have kp3 : Keep p q H (upd (upd H1 e (.lst [])) e' (.lst [])) := kp1.trans (same_upd he').keep
   refine iteF ?_
   refine ⟨_, rfl, p, _, 1, _, rfl, rfl, SqL.of hp3, atI_nat (j := 1) rfl, _, _, rfl, rfl, .inr ⟨by decide, by decide⟩, _, _, rfl, rfl, _, _, rfl, rfl, (by show (0 : Int) < 2305843009213693951; decide), _, rfl, p, _, 1, 1, rfl, rfl, hp3, rfl, ?_⟩
   refine ⟨_, rfl, p, _, 1, _, rfl, rfl, SqL.of upd_same, atI_nat (j := 1) rfl, _, _, rfl, rfl, ⟨by decide, by decide⟩, ?_⟩
   refine ⟨_, rfl, _, rfl, _, _, rfl, rfl, (by show (0 : Int) < 8191; decide), _, _, rfl, rfl, _, _, rfl, rfl, .inr ?_, _, _, rfl, rfl, (by show (0 : Int) < 2305843009213693921; decide), _, _, rfl, rfl, ⟨by decide, by decide⟩, _, rfl, _, _, rfl, rfl, hm0, ?_⟩
   ·have h1 := Int.emod_nonneg ((seed * 3935559000370003 + 2691343689449507) % 2305843009213693951 / 65537) (by decide : (8191 : Int) ≠ 0)
    have h2 := Int.emod_lt_of_pos ((seed * 3935559000370003 + 2691343689449507) % 2305843009213693951 / 65537) (by decide : (0 : Int) < 8191)
    exact ⟨by (first | lia | omega), by (first | lia | omega)⟩
   ·refine k _ _ (Int.emod_nonneg _ (by (first | lia | omega))) (Int.emod_lt_of_pos _ hm0) ⟨[], _, upd_same, by rw [upd_ne (Ne.symm hnpq)]; exact hq3, hn, by simp⟩ ?_
    exact kp3.trans fun b o hb h1 _ => by rw [upd_ne h1]; exact hb
  | cons x r =>
   refine iteT ?_
   refine ⟨_, rfl, p, _, 0, _, rfl, rfl, SqL.of hp1, atI_nat (j := 0) rfl, q, _, 0, _, rfl, rfl, SqL.of hq1, atI_nat (j := 0) rfl, rfl, _, rfl, ?_⟩
   refine ite2 (fun hz => ?_) (fun hz => ?_)
   ·refine ⟨fun σ' H' => ∃ (ns : List Int) (seed : Int), ns.length < (x :: r).length /\ σ' = [some (.ref p), some (.int m), none, none] /\ H' p = some (.lst [.ref q, .int seed]) /\ H' q = some (.lst (ns.map V.int)) /\ (∀ n ∈ ns, 0 <= n) /\ ns.length <= 63 /\ Keep p q H H', ?_, ?_⟩
    ·rintro σ' H' ⟨ns', seed', hlt, h1, h2, h3, h4, h5, h6⟩
     exact ⟨_, hlt, ns', seed', rfl, h1, h2, h3, h4, h5, h6⟩
    ·refine ⟨_, rfl, p, _, 0, _, rfl, rfl, SqL.of hp1, atI_nat (j := 0) rfl, .inl ⟨rfl, _, SqL.of hq1⟩, q, _, 0, 0, _, rfl, rfl, hq1, by decide, by decide, (by simp [seqIndex?]), rfl, ?_⟩
     refine ⟨r, seed, by simp, rfl, by rw [upd_ne hnpq]; exact hp1, by rw [upd_same]; rfl, fun y hy => hn y (List.mem_cons_of_mem _ hy), by have : (x :: r).length = r.length + 1 := rfl; (first | lia | omega), ?_⟩
     exact kp1.trans fun b o hb _ h2 => by rw [upd_ne h2]; exact hb
   ·refine ⟨_, rfl, p, _, 0, _, rfl, rfl, SqL.of hp1, atI_nat (j := 0) rfl, Nat.zero_le _, fun e' he' => neNil hq1 he' ⟨_, rfl, ?_⟩⟩
    have hp3 : (upd (upd H1 e (.lst [])) e' (.lst [])) p = some (.lst [.ref q, .int seed]) := by rw [upd_ne (ne_of_none hp1 he')]; exact hp1
    have hq3 : (upd (upd H1 e (.lst [])) e' (.lst [])) q = some (.lst ((x :: r).map V.int)) := by rw [upd_ne (ne_of_none hq1 he')]; exact hq1
    have kp3 : Keep p q H (upd (upd H1 e (.lst [])) e' (.lst [])) := kp1.trans (same_upd he').keep
    refine iteT ?_
    have hx0 : 0 <= x := hn x List.mem_cons_self
    refine ⟨_, rfl, p, _, 0, _, rfl, rfl, SqL.of hp3, atI_nat (j := 0) rfl, q, _, 0, _, rfl, rfl, SqL.of hq3, atI_nat (j := 0) rfl, _, rfl, _, _, rfl, rfl, hm0, ?_⟩
    refine ⟨_, rfl, p, _, 0, _, rfl, rfl, SqL.of hp3, atI_nat (j := 0) rfl, q, _, 0, _, rfl, rfl, SqL.of hq3, atI_nat (j := 0) rfl, _, rfl, _, _, rfl, rfl, ⟨hm0, hm1⟩, _, rfl, p, _, 0, _, rfl, rfl, SqL.of hp3, atI_nat (j := 0) rfl, q, _, 0, 0, rfl, rfl, hq3, ixN_nat (j := 0) (by simp), ?_⟩
    refine ⟨_, rfl, ?_⟩
    refine k _ _ (Int.emod_nonneg _ (by (first | lia | omega))) (Int.emod_lt_of_pos _ hm0) ⟨(x / m) :: r, seed, by rw [upd_ne hnpq]; exact hp3, by rw [upd_same]; rfl, fun y hy => ?_, by simpa using hlen⟩ ?_
    ·rcases List.mem_cons.mp hy with rfl | hy
     ·exact Int.ediv_nonneg hx0 (by (first | lia | omega))
     ·exact hn y (List.mem_cons_of_mem _ hy)
    ·exact kp3.trans fun b o hb _ h2 => by rw [upd_ne h2]; exact hb
end
end K08
namespace L2
open PySem PySem.Spec PyProof.Rows
noncomputable def ysAt (H : Hp) : V -> List V
 | .ref z => match H z with
  | some (.tup ys) => ys
  | _ => []
 | _ => []
theorem ysAt_tup {H : Hp} {z : Addr} {vs : List V} (h : H z = some (.tup vs)) : ysAt H (.ref z) = vs := by
 show (match H z with | some (.tup ys) => ys | _ => []) = vs
 rw [h]
theorem pairs_flat {H : Hp} : ∀ {zs : List Addr} {rows : List (List Int)}, RowsAt H zs rows -> (pairs2 (zs.map V.ref) (ysAt H) fun _ _ => true).map (·.2) = rows.flatten.map V.int
 | _, _, .nil => rfl
 | _, _, .cons h t => by
  have := pairs_flat t
  unfold pairs2 at this ⊢
  rw [List.map_cons, List.flatMap_cons, List.map_append, this, ysAt_tup h, List.flatten_cons, List.map_append, List.filter_eq_self.mpr (fun _ _ => rfl), List.map_map]
  congr 1
  exact List.map_id _
theorem snd_eq {l : List (V × V)} : ∀ {vs : List V}, Paired (fun (xy : V × V) v => v = xy.2) l vs -> vs = l.map (·.2)
 | _, .nil => rfl
 | _, .cons h t => by rw [List.map_cons, h, snd_eq t]
theorem rows_rev {H : Hp} : ∀ {zs : List Addr} {rows : List (List Int)}, RowsAt H zs rows -> RowsAt H zs.reverse rows.reverse
 | _, _, .nil => .nil
 | _, _, .cons h t => by
  rw [List.reverse_cons, List.reverse_cons]
  exact Paired.append (rows_rev t) (.cons h .nil)
theorem downV_eq (m : Nat) : downV ((m : Int) - 1) (((m : Int) - 1 - (-1)).toNat) = (downN m m).map V.int := by
 unfold downV downN
 rw [List.map_map, show ((m : Int) - 1 - (-1)).toNat = m by (first | lia | omega)]
 rfl
noncomputable def spWro : Sp := fun vs H Q _ => ∃ (a : Addr) (ns : List Int) (m : Nat), vs = [.ref a] /\ H a = some (.tup (ns.map V.int)) /\ Ord m ns /\ m <= 60 /\ ∀ p H', Same H H' -> H' p = some (.tup ((wroR m ns).flatten.map V.int)) -> Q (.ref p) H'
noncomputable abbrev LsAt (H : Hp) (zs : List Addr) (F : List (List Int)) : Prop := Paired (fun z (f : List Int) => H z = some (.lst (f.map V.int))) zs F
theorem LsAt.same {H H' : Hp} {zs : List Addr} {F : List (List Int)} (h : LsAt H zs F) (s : Same H H') : LsAt H' zs F := Paired.mapP h fun _ _ e => s _ _ e
theorem LsAt.off {H : Hp} {z : Addr} {o : HO} : ∀ {ys : List Addr} {G : List (List Int)}, LsAt H ys G -> z ∉ ys -> LsAt (upd H z o) ys G
 | _, _, .nil, _ => .nil
 | _, _, .cons h t, hz => .cons (by rw [upd_ne (fun e => hz (by rw [e]; exact List.mem_cons_self))]; exact h) (LsAt.off t fun hm => hz (List.mem_cons_of_mem _ hm))
noncomputable def spCut : Sp := fun vs H Q _ => ∃ (a : Addr) (ns : List Int) (m : Nat), vs = [.ref a] /\ H a = some (.tup (ns.map V.int)) /\ Ord m ns /\ m <= 60 /\ ∀ p zs H', Same H H' -> H' p = some (.lst (zs.map V.ref)) -> LsAt H' zs (cutH ns) -> Q (.ref p) H'
noncomputable def spJoined : Sp := fun vs H Q _ => ∃ (p : Addr) (zs : List Addr) (R : List (List Int)) (m : Nat), vs = [.ref p, .int m] /\ H p = some (.lst (zs.map V.ref)) /\ LsAt H zs R /\ R.flatten.Perm (num0 m) /\ m <= 60 /\ ∀ q H', Same H H' -> H' q = some (.tup ((joinO m R).map V.int)) -> Q (.ref q) H'
theorem atI_end {l : List V} {x : V} : atI (l ++ [x]) (-1) = some x := by
 unfold atI ixN
 simp
 rw [if_pos (by (first | lia | omega))]
 show (l ++ [x])[(-1 + ((l.length : Int) + 1)).toNat]? = some x
 rw [show (-1 + ((l.length : Int) + 1)).toNat = l.length by (first | lia | omega)]
 simp
noncomputable def spUnw : Sp := fun vs H Q _ => ∃ (a : Addr) (ns : List Int) (m : Nat), vs = [.ref a] /\ H a = some (.tup (ns.map V.int)) /\ Ord m ns /\ m <= 60 /\ ∀ p H', Same H H' -> H' p = some (.tup ((joinO m (cutH ns)).map V.int)) -> Q (.ref p) H'
noncomputable def spCount2 : Sp := fun vs H Q _ => ∃ (kind : Str) (a : Addr) (ns : List Int) (m : Nat), vs = [.str kind, .ref a] /\ H a = some (.tup (ns.map V.int)) /\ Ord m ns /\ m <= 60 /\ ((kind = "rounds" /\ ∀ H', Same H H' -> Q (.int ((roundsO ns).length : Int)) H') ∨ (kind = "highs" /\ ∀ H', Same H H' -> Q (.int (highsO ns)) H'))
theorem setP_snoc (acc : List Int) (ps : List (Int × Int)) (p : Int × Int) : setP acc (ps ++ [p]) = (setP acc ps).set p.1.toNat p.2 := by
 unfold setP
 rw [List.foldl_append]
 rfl
theorem setP_app (acc : List Int) (a b : List (Int × Int)) : setP acc (a ++ b) = setP (setP acc a) b := by
 unfold setP
 rw [List.foldl_append]
theorem jn_snoc (R : List (List Int)) (r : List Int) : jnP (R ++ [r]) = jnP R ++ (rotr r).zip r := by
 unfold jnP
 rw [List.map_append, List.flatten_append]
 simp
theorem LsAt.setLast {H : Hp} {zs : List Addr} {F : List (List Int)} {z : Addr} {f g : List Int} (h : LsAt H (zs ++ [z]) (F ++ [f])) (nd : (zs ++ [z]).Nodup) (hl : zs.length = F.length) : LsAt (upd H z (.lst (g.map V.int))) (zs ++ [z]) (F ++ [g]) := by
 have split : ∀ {zs : List Addr} {F : List (List Int)}, zs.length = F.length -> LsAt H (zs ++ [z]) (F ++ [f]) -> LsAt H zs F /\ H z = some (.lst (f.map V.int)) := by
  intro zs
  induction zs with
  | nil =>
   intro F hl h
   cases F with
   | nil =>
    cases h with
    | cons h _ => exact ⟨.nil, h⟩
   | cons _ _ => cases hl
  | cons a t ih =>
   intro F hl h
   cases F with
   | nil => cases hl
   | cons b F =>
    cases h with
    | cons h1 h2 =>
     obtain ⟨i1, i2⟩ := ih (by simpa using hl) h2
     exact ⟨.cons h1 i1, i2⟩
 obtain ⟨h1, _⟩ := split hl h
 have hz : z ∉ zs := fun hm => by
  have := (List.nodup_append.mp nd).2.2 z hm z (by simp)
  exact this rfl
 exact Paired.append (LsAt.off h1 hz) (.cons upd_same .nil)
end L2
namespace K08
open PySem PySem.Spec PyProof.Rows L2
noncomputable abbrev s_written : Stmt := top 2
noncomputable abbrev s_cut_at_highs : Stmt := top 7
noncomputable abbrev s_joined : Stmt := top 4
noncomputable abbrev s_unwritten : Stmt := top 3
noncomputable abbrev s_count : Stmt := top 16
section
variable {P : Program} {w : World} {K : PySem.W.Frag} {mg : Str -> Option Value} {base : Heap}
theorem sc_written : FnScope ["order", "falling"] ["order"] (defScope s_written) := ⟨rfl, rfl, rfl, by decide +kernel, rfl, by decide +kernel, by decide +kernel⟩
theorem ok_written {f : Addr} {fd : FuncData} (F : Fun K "written" "written" s_written f fd) (T : Top mg) (Crounds_met : Cal P w K mg base 2 "rounds_met" ["order", "firsts"] spRoundsMet) : FnOk P w K mg base CX0 3 f fd ["order"] spWro := by
 refine F.ok sc_written (fun vs H Q E h => ?_) (fun cdv A outer s H vs Q E hr h => ?_)
 ·obtain ⟨a, ns, m, rfl, _⟩ := h
  rfl
 ·obtain ⟨a, ns, m, rfl, ha, ho, hm, k⟩ := h
  have ln := ho.len
  refine ⟨_, (pss_cons (ps_set (i := 1) sc_written.nd rfl (Or.inl rfl) (pe_cal Crounds_met (hr.mono (by decide)) rfl (pa_cons (pv 0) (pa_cons (pe_callTy (call_listD rfl) (by rfl) T.n_list boot_list (pa_cons (pe_callTy call_rangeD (by rfl) T.n_range boot_range (pa_cons (pe_op op_sub (pe_callB call_len_seq (by rfl) T.n_len PySem.boot_len (pa_cons (pv 0) pa_nil)) pe_int) (pa_cons (pe_un un_neg pe_int) (pa_cons (pe_un un_neg pe_int) pa_nil)))) pa_nil)) pa_nil))))
   (pss_one (ps_ret (pe_callTy call_tuple_of (by rfl) T.n_tuple boot_tuple (pa_cons (pe_lc2 (N' := ["found", "number"]) (n := 2) (ix := []) rfl (CompScope.of (sc := defScope s_written) (N := ["order", "falling"]) (by decide +kernel) rfl rfl) (pi_list (pe_rev rv_list (pv 1)))
     (fun _ _ _ _ _ => ⟨(pg_name (i := 0) (show (["found", "number"] : List Str).Nodup by decide +kernel) rfl (Or.inl rfl)), pts_nil, (piK_tup K rfl (pv 0)), (pg_name (i := 1) (show (["found", "number"] : List Str).Nodup by decide +kernel) rfl (Or.inl rfl)), pts_nil, (pv 1)⟩)) pa_nil))))), ?_⟩
  refine ⟨_, rfl, _, rfl, a, _, rfl, .inr (SqT.of ha), _, _, rfl, rfl, _, rfl, _, rfl, _, _, rfl, fun r hr' => ?_⟩
  have s1 := same_upd (o := RngD r ((ns.map V.int).length - 1) (-1)) hr'
  refine ⟨r, _, _, rfl, upd_same, ⟨by decide, by rw [mapI_len]; (first | lia | omega), by rw [mapI_len]; (first | lia | omega), by rw [mapI_len]; (first | lia | omega)⟩, fun l hl => ?_⟩
  have s2 := same_upd (o := .lst (downV ((ns.map V.int).length - 1) (((ns.map V.int).length - 1 - (-1) : Int)).toNat)) hl
  have e : downV (((ns.map V.int).length : Int) - 1) ((((ns.map V.int).length : Int) - 1 - (-1))).toNat = (downN m m).map V.int := by
   rw [mapI_len, ln]
   exact downV_eq m
  have S := s1.trans s2
  refine ⟨a, l, ns, downN m m, m, rfl, S _ _ ha, by rw [<- e]; exact upd_same, ho, by (first | lia | omega), down_rng (Nat.le_refl _), fun p zs H2 t1 hp R => ?_⟩
  have S2 := S.trans t1
  refine ⟨_, rfl, p, _, rfl, SqL.of hp, fun p' hp' => ?_⟩
  have u1 := same_upd (o := .lst (zs.map V.ref).reverse) hp'
  have hp2 := @upd_same H2 p' (.lst (zs.map V.ref).reverse)
  rw [<- List.map_reverse] at hp2 u1 ⊢
  have R2 := (rows_rev R).same u1
  have S3 := S2.trans u1
  generalize upd H2 p' (.lst (zs.reverse.map V.ref)) = H3 at hp2 R2 S3 ⊢
  have efl : (walkO ns (downN m m)).reverse = wroR m ns := rfl
  rw [efl] at R2
  have hlen : (wroR m ns).flatten.length = m := by
   rw [(wro_ok ho).all.length_eq, num0_len']
  refine ⟨p', rfl, ⟨_, SqL.of hp2⟩, ?_⟩
  refine lc2_grow (yields_list (xs := zs.reverse.map V.ref)) (ysAt H3) (fun _ _ => true) (fun xy v _ => v = xy.2) (small1 ?_) (fun _ _ _ _ _ h => h) (fun G s' => SqL.of (s' _ _ hp2)) (fun x hx G s' Rr q' => ?_) (fun x hx y hy G s' Q' q' => q') (fun x hx y hy _ G s' Q' q' => ?_) fun acc vs G hacc s' hvs pr => ?_
  ·rw [<- List.length_map (f := fun xy : V × V => xy.2), pairs_flat R2, mapI_len]
   (first | lia | omega)
  ·obtain ⟨z, hz, rfl⟩ := List.mem_map.mp hx
   obtain ⟨j, hj⟩ := List.getElem?_of_mem hz
   obtain ⟨r, hr', ez⟩ := R2.get hj
   rw [ysAt_tup ez] at q'
   exact ⟨_, rfl, z, rfl, ⟨_, SqT.of (s' _ _ ez)⟩, q' _ _ _ (Same.refl G) (yields_tup (K := K) (a := z) (xs := r.map V.int)) fun G2 _ s2 => SqT.of (s2 _ _ ez)⟩
  ·exact ⟨_, rfl, q' _ _ (Same.refl G) rfl⟩
  ·have hv := (snd_eq pr).trans (pairs_flat R2)
   subst hv
   refine ⟨acc, _, rfl, .inl ⟨SqL.of hvs, fun l hl => ?_⟩⟩
   exact k l _ ((S3.trans s').trans (same_upd hl)) upd_same
theorem sc_cut_at_highs : FnScope ["order", "rows", "number"] ["order"] (defScope s_cut_at_highs) := ⟨rfl, rfl, rfl, by decide +kernel, rfl, by decide +kernel, by decide +kernel⟩
theorem ok_cut_at_highs {f : Addr} {fd : FuncData} (F : Fun K "cut_at_highs" "cut_at_highs" s_cut_at_highs f fd) : FnOk P w K mg base CX0 1 f fd ["order"] spCut := by
 refine F.ok sc_cut_at_highs (fun vs H Q E h => ?_) (fun cdv A outer s H vs Q E hr h => ?_)
 ·obtain ⟨a, ns, m, rfl, _⟩ := h
  rfl
 ·obtain ⟨a, ns, m, rfl, ha, ho, hm, k⟩ := h
  have ln := ho.len
  have nd := ho.nodup
  refine ⟨_, (pss_cons (ps_set (i := 1) sc_cut_at_highs.nd rfl (Or.inl rfl) (pe_lst pa_nil))
   (pss_cons (ps_for PassesOwn.never rfl (pi_tup (pv 0)) (pg_name (i := 2) sc_cut_at_highs.nd rfl (Or.inl rfl))
    (pss_one (ps_if (PW.pt (pw_or (pt_not (pt_truth (pv 1) (fun _ => rfl))) (pw_or1 (pt_cmpR op_gt (pv 2) (pe_ix ix_list (pe_ix ix_list (pv 1) (pe_un un_neg pe_int) (fun _ _ => rfl)) pe_int (fun _ _ => rfl)) (nomark _)))))
     (pss_one (ps_expr (pe_bm PySem.F.plainAttrs_list PySem.F.slot_list_append PySem.F.type_list_append mt_append (pv 1) (pa_cons (pe_lst (pa_cons (pv 2) pa_nil)) pa_nil))))
     (pss_one (ps_expr (pe_bm PySem.F.plainAttrs_list PySem.F.slot_list_append PySem.F.type_list_append mt_append (pe_ix ix_list (pv 1) (pe_un un_neg pe_int) (fun _ _ => rfl)) (pa_cons (pv 2) pa_nil)))))))
   (pss_one (ps_ret (pv 1))))), ?_⟩
  refine ⟨Nat.zero_le _, fun p hp => ?_⟩
  have s1 := same_upd (o := .lst []) hp
  refine ⟨_, rfl, a, rfl, ⟨_, SqT.of (s1 _ _ ha)⟩, ?_⟩
  refine for_tup (K := K) (xs := ns.map V.int) (fun i σ G => ∃ (zs : List Addr) (c2 : Option V), σ = [some (.ref a), some (.ref p), c2] /\ Same H G /\ G p = some (.lst (zs.map V.ref)) /\ LsAt G zs (cutH (ns.take i)) /\ zs.Nodup /\ p ∉ zs /\ ∀ z ∈ zs, H z = none) ⟨[], _, rfl, s1, upd_same, .nil, .nil, (fun h => by cases h), (fun _ h => by cases h)⟩ ?_ ?_ ?_
  ·rintro i σ G _ ⟨zs, c2, rfl, sm, _⟩
   exact SqT.of (sm _ _ ha)
  ·rintro i x σ G hi ⟨zs, c2, rfl, sm, hp1, LA, ndz, hpz, hz0⟩
   obtain ⟨n, hn, rfl⟩ := List.mem_map.mp (List.mem_of_getElem? hi)
   have hni : ns[i]? = some n := by
    rw [List.getElem?_map] at hi
    cases e : ns[i]? with
    | none => rw [e] at hi; cases hi
    | some z => rw [e] at hi; cases hi; rfl
   have hi' : i < ns.length := (List.getElem?_eq_some_iff.mp hni).1
   have htk : ns.take (i + 1) = ns.take i ++ [n] := by rw [List.take_succ, hni]; rfl
   have hcl := Paired.length LA
   have hcut := cutH_ok _ (ns.take i) rfl (nd.sublist (List.take_sublist _ _))
   have hzl : zs.length <= 60 := by
    have h1 : (cutH (ns.take i)).length <= (cutH (ns.take i)).flatten.length := by
     have : ∀ R : List (List Int), (∀ r ∈ R, ∃ h t, r = h :: t /\ ∀ y ∈ t, y < h) -> R.length <= R.flatten.length := by
      intro R
      induction R with
      | nil => intro _; exact Nat.le_refl _
      | cons r t ih =>
       intro h
       obtain ⟨x, l, rfl, _⟩ := h r List.mem_cons_self
       have := ih fun r hr => h r (List.mem_cons_of_mem _ hr)
       simp only [List.length_cons, List.flatten_cons, List.length_append]
       (first | lia | omega)
     exact this _ hcut.1.row
    rw [hcut.2, List.length_take] at h1
    (first | lia | omega)
   refine ⟨_, rfl, _, .inl ⟨_, SqL.of hp1, rfl⟩, ?_⟩
   rw [htk, cutH_snoc]
   rcases List.eq_nil_or_concat zs with rfl | ⟨zl, z, rfl⟩
   ·have e0 : cutH (ns.take i) = [] := List.eq_nil_of_length_eq_zero (by rw [<- hcl]; rfl)
    rw [e0]
    refine iteT (iteT ?_)
    refine ⟨_, rfl, .inl ⟨rfl, _, SqL.of hp1⟩, _, rfl, by show 1 <= sizeLine; decide, fun l hl => ?_⟩
    have u1 := same_upd (o := .lst [.int n]) hl
    have pl : p ≠ l := ne_of_none hp1 hl
    refine ⟨p, _, _, rfl, rfl, u1 _ _ hp1, by show 0 < sizeLine; decide, ?_⟩
    refine ⟨[l], _, rfl, same_updR (sm.trans u1) hp, by rw [upd_same]; rfl, .cons (by rw [upd_ne (Ne.symm pl), upd_same]; rfl) .nil, by simp, (fun h => pl (List.mem_singleton.mp h)), fun z hz => ?_⟩
    rw [List.mem_singleton.mp hz]
    exact sm.free hl
   ·rw [List.concat_eq_append] at *
    have hne : ((zl ++ [z]).map V.ref).isEmpty = false := by simp
    rw [hne]
    refine iteF ?_
    rcases List.eq_nil_or_concat (cutH (ns.take i)) with e0 | ⟨rl, r, e0⟩
    ·rw [e0] at hcl
     simp at hcl
    rw [List.concat_eq_append] at e0
    rw [e0] at LA hcl hcut ⊢
    have hrl : zl.length = rl.length := by simpa using hcl
    obtain ⟨h, t, er, ht⟩ := hcut.1.row r (by simp)
    have hz : G z = some (.lst (r.map V.int)) := by
     have hzz : (zl ++ [z])[zl.length]? = some z := by simp
     obtain ⟨r', e1, e2⟩ := paired_at LA hzz
     have : (rl ++ [r])[zl.length]? = some r := by rw [hrl]; simp
     rw [this] at e1
     cases e1
     exact e2
    have hh : hdI r = h := by rw [er]; rfl
    refine ⟨_, rfl, _, rfl, _, rfl, p, _, _, .ref z, rfl, rfl, SqL.of hp1, ?_, z, _, _, .int h, rfl, rfl, SqL.of hz, ?_, _, _, rfl, rfl, _, rfl, ?_⟩
    ·rw [List.map_append]
     exact atI_end
    ·rw [er]
     exact atI_nat (j := 0) rfl
    rw [cutStep_snoc, hh]
    by_cases c : h < n
    ·rw [if_pos c, decide_eq_true (show n > h from c)]
     refine iteT ?_
     refine ⟨_, rfl, .inl ⟨rfl, _, SqL.of hp1⟩, _, rfl, by show 1 <= sizeLine; decide, fun l hl => ?_⟩
     have u1 := same_upd (o := .lst [.int n]) hl
     have pl : p ≠ l := ne_of_none hp1 hl
     have lz : l ∉ zl ++ [z] := fun hm => by
      obtain ⟨j, hj⟩ := List.getElem?_of_mem hm
      obtain ⟨r', _, e2⟩ := paired_at LA hj
      rw [hl] at e2
      cases e2
     refine ⟨p, _, _, rfl, rfl, u1 _ _ hp1, small1 (by rw [List.length_map]; (first | lia | omega)), ?_⟩
     refine ⟨zl ++ [z] ++ [l], _, rfl, same_updR (sm.trans u1) hp, by rw [upd_same, List.map_append (l₂ := [l])]; rfl, Paired.append (LsAt.off (LA.same u1) hpz) (.cons (by rw [upd_ne (Ne.symm pl), upd_same]; rfl) .nil), List.nodup_append.mpr ⟨ndz, by simp, fun a h1 b h2 e => lz (by rw [<- List.mem_singleton.mp h2, <- e]; exact h1)⟩, (fun h => ?_), fun z' hz' => ?_⟩
     ·rcases List.mem_append.mp h with h | h
      ·exact hpz h
      ·exact pl (List.mem_singleton.mp h)
     ·rcases List.mem_append.mp hz' with h | h
      ·exact hz0 z' h
      ·rw [List.mem_singleton.mp h]
       exact sm.free hl
    ·rw [if_neg c, decide_eq_false (show ¬ n > h from c)]
     refine iteF ?_
     have hrlen : r.length <= 60 := by
      have h1 : r.length <= (rl ++ [r]).flatten.length := (List.sublist_flatten_of_mem (by simp)).length_le
      rw [hcut.2, List.length_take] at h1
      (first | lia | omega)
     refine ⟨_, rfl, _, rfl, p, _, _, .ref z, rfl, rfl, SqL.of hp1, ?_, .inl ⟨rfl, _, SqL.of hz⟩, _, rfl, z, _, _, rfl, rfl, hz, small1 (by rw [mapI_len]; (first | lia | omega)), ?_⟩
     ·rw [List.map_append]
      exact atI_end
     have pz : p ≠ z := fun e => hpz (by rw [e]; simp)
     have ez : r.map V.int ++ [V.int n] = (r ++ [n]).map V.int := by rw [List.map_append]; rfl
     rw [ez]
     refine ⟨zl ++ [z], _, rfl, same_updR sm (hz0 z (by simp)), by rw [upd_ne pz]; exact hp1, LsAt.setLast LA ndz hrl, ndz, hpz, hz0⟩
  ·rintro σ G ⟨zs, c2, rfl, sm, hp1, LA, _⟩
   rw [mapI_len, List.take_length] at LA
   exact ⟨_, rfl, k p zs G sm hp1 LA⟩
theorem sc_joined : FnScope ["rounds", "many", "numbers", "found", "at", "number"] ["rounds", "many"] (defScope s_joined) := ⟨rfl, rfl, rfl, by decide +kernel, rfl, by decide +kernel, by decide +kernel⟩
theorem ok_joined {f : Addr} {fd : FuncData} (F : Fun K "joined" "joined" s_joined f fd) (T : Top mg) : FnOk P w K mg base CX0 1 f fd ["rounds", "many"] spJoined := by
 refine F.ok sc_joined (fun vs H Q E h => ?_) (fun cdv A outer s H vs Q E hr h => ?_)
 ·obtain ⟨p, zs, R, m, rfl, _⟩ := h
  rfl
 ·obtain ⟨p, zs, R, m, rfl, hp, LA, hperm, hm, k⟩ := h
  refine ⟨_, (pss_cons (ps_set (i := 2) sc_joined.nd rfl (Or.inl rfl) (pe_op op_rep (pe_lst (pa_cons pe_int pa_nil)) (pv 1)))
   (pss_cons (ps_for PassesOwn.never rfl (pi_list (pv 0)) (pg_name (i := 3) sc_joined.nd rfl (Or.inl rfl))
    (pss_one (ps_for PassesOwn.never rfl (pi_enumL rfl T.n_enumerate (pa_cons (pv 3) pa_nil)) (pg_pair (i := 4) (j := 5) rfl sc_joined.nd rfl rfl (Or.inl rfl) (Or.inl rfl) (Or.inl rfl) (Or.inl rfl))
     (pss_one (ps_asg (pv 5) (pg_sub (pv 2) (pe_ix ix_list (pv 3) (pe_op op_sub (pv 4) pe_int) (fun _ _ => rfl)) set_list))))))
   (pss_one (ps_ret (pe_callTy call_tuple_of (by rfl) T.n_tuple boot_tuple (pa_cons (pv 2) pa_nil)))))), ?_⟩
  refine ⟨by show 1 <= sizeLine; decide, fun o1 ho1 => ?_⟩
  have s1 := same_upd (o := .lst [.int 0]) ho1
  refine ⟨_, rfl, o1, _, _, rfl, rfl, upd_same, by (first | lia | omega), by (first | lia | omega), ?_, fun q hq => ?_⟩
  ·show [V.int 0].length * (m : Int).toNat <= sizeLine
   rw [Int.toNat_natCast]
   exact Nat.le_trans (show 1 * m <= 1000 by (first | lia | omega)) (by decide)
  have s2 := same_upd (o := .lst (List.replicate (m : Int).toNat [V.int 0]).flatten) hq
  have hq0 : H q = none := s1.free hq
  have hrep : (List.replicate (m : Int).toNat [V.int 0]).flatten = (List.replicate m (0 : Int)).map V.int := by
   rw [Int.toNat_natCast, rep_one, List.map_replicate]
  have S := s1.trans s2
  have hqn : ∀ {G : Hp} {xs : List V} {z : Addr} {ys : List V}, Same H G -> H z = some (.lst ys) -> q ≠ z := fun sm hz e => by
   rw [<- e, hq0] at hz
   cases hz
  refine ⟨_, rfl, p, rfl, ⟨_, SqL.of (S _ _ hp)⟩, ?_⟩
  refine for_list (K := K) (xs := zs.map V.ref) (fun i σ G => ∃ (c3 c4 c5 : Option V), σ = [some (.ref p), some (.int m), some (.ref q), c3, c4, c5] /\ Same H G /\ G q = some (.lst ((setP (List.replicate m 0) (jnP (R.take i))).map V.int))) ⟨_, _, _, rfl, S, by rw [upd_same, hrep]; rfl⟩ ?_ ?_ ?_
  ·rintro i σ G _ ⟨c3, c4, c5, rfl, sm, _⟩
   exact SqL.of (sm _ _ hp)
  ·rintro i x σ G hi ⟨c3, c4, c5, rfl, sm, hG⟩
   obtain ⟨z, hz, rfl⟩ : ∃ z, zs[i]? = some z /\ V.ref z = x := by
    rw [List.getElem?_map] at hi
    cases e : zs[i]? with
    | none => rw [e] at hi; cases hi
    | some z => rw [e] at hi; exact ⟨z, rfl, Option.some.inj hi⟩
   obtain ⟨r, hr1, hr2⟩ := paired_at LA hz
   have hrR : r ∈ R := List.mem_of_getElem? hr1
   have htk : R.take (i + 1) = R.take i ++ [r] := by rw [List.take_succ, hr1]; rfl
   refine ⟨_, rfl, z, rfl, ⟨_, SqL.of (sm _ _ hr2)⟩, ?_⟩
   refine for_enumL (K := K) (xs := r.map V.int) (fun j σ G => ∃ (c4 c5 : Option V), σ = [some (.ref p), some (.int m), some (.ref q), some (.ref z), c4, c5] /\ Same H G /\ G q = some (.lst ((setP (setP (List.replicate m 0) (jnP (R.take i))) (((rotr r).zip r).take j)).map V.int))) ⟨_, _, rfl, sm, hG⟩ ?_ ?_ ?_
   ·rintro j σ G _ ⟨c4, c5, rfl, sm, _⟩
    exact SqL.of (sm _ _ hr2)
   ·rintro j x t σ G hj ⟨c4, c5, rfl, sm, hG⟩ ht
    obtain ⟨n, hn, rfl⟩ : ∃ n, r[j]? = some n /\ V.int n = x := by
     rw [List.getElem?_map] at hj
     cases e : r[j]? with
     | none => rw [e] at hj; cases hj
     | some z => rw [e] at hj; exact ⟨z, rfl, Option.some.inj hj⟩
    have hjl : j < r.length := (List.getElem?_eq_some_iff.mp hn).1
    have st := same_upd (o := .tup [.int (j : Int), .int n]) ht
    have hro := rotr_at hjl
    generalize hv : (if j = 0 then r.getD (r.length - 1) 0 else r.getD (j - 1) 0) = v at hro
    have hvm : v ∈ r := (rotr_perm r).mem_iff.mp (List.mem_of_getElem? hro)
    have hv01 := mem_num0.mp (hperm.mem_iff.mp (List.mem_flatten.mpr ⟨r, hrR, hvm⟩))
    have hat : atI (r.map V.int) ((j : Int) - 1) = some (.int v) := by
     cases j with
     | zero =>
      rw [if_pos rfl] at hv
      rcases List.eq_nil_or_concat r with e | ⟨l, y, e⟩
      ·rw [e] at hjl
       cases hjl
      ·rw [List.concat_eq_append] at e
       have : v = y := by
        rw [<- hv, e]
        simp
       rw [this, e, List.map_append]
       exact atI_end
     | succ j =>
      rw [if_neg (by (first | lia | omega)), Nat.add_sub_cancel] at hv
      rw [show (((j + 1 : Nat) : Int) - 1) = ((j : Nat) : Int) by (first | lia | omega)]
      refine atI_nat ?_
      rw [List.getElem?_map, List.getElem?_eq_getElem (by (first | lia | omega)), <- hv, List.getD_eq_getElem?_getD, List.getElem?_eq_getElem (by (first | lia | omega))]
      rfl
    have hzip : ((rotr r).zip r)[j]? = some (v, n) := by
     rw [List.getElem?_zip_eq_some]
     exact ⟨hro, hn⟩
    refine ⟨t, _, rfl, SqT.of upd_same, rfl, _, _, rfl, _, _, rfl, rfl, ?_⟩
    refine ⟨_, rfl, _, rfl, _, rfl, _, rfl, _, _, rfl, rfl, z, _, _, _, rfl, rfl, SqL.of (st _ _ (sm _ _ hr2)), hat, q, _, v, v.toNat, rfl, rfl, st _ _ hG, ?_, ?_⟩
    ·rw [mapI_len, setP_len, setP_len, List.length_replicate]
     have := ixN_nat (n := m) (j := v.toNat) (by (first | lia | omega))
     rwa [show ((v.toNat : Nat) : Int) = v by (first | lia | omega)] at this
    ·refine ⟨_, _, rfl, same_updR (sm.trans st) hq0, ?_⟩
     rw [upd_same, List.take_succ, hzip]
     show some (HO.lst _) = some (HO.lst (List.map V.int (setP _ (_ ++ [(v, n)]))))
     rw [setP_snoc, List.map_set]
   ·rintro σ G ⟨c4, c5, rfl, sm, hG⟩
    refine ⟨_, _, _, rfl, sm, ?_⟩
    rw [htk, jn_snoc, setP_app, hG, List.take_of_length_le (l := (rotr r).zip r) (by rw [mapI_len, List.length_zip, rotr_len]; (first | lia | omega))]
  ·rintro σ G ⟨c3, c4, c5, rfl, sm, hG⟩
   refine ⟨_, rfl, q, _, rfl, .inl ⟨SqL.of hG, fun l hl => ?_⟩⟩
   have e : R.take (zs.map V.ref).length = R := List.take_of_length_le (by rw [List.length_map, Paired.length LA]; exact Nat.le_refl _)
   rw [e] at hG
   refine k l _ (sm.trans (same_upd hl)) ?_
   rw [upd_same, e]
   rfl
theorem sc_unwritten : FnScope ["order"] ["order"] (defScope s_unwritten) := ⟨rfl, rfl, rfl, by decide +kernel, rfl, by decide +kernel, by decide +kernel⟩
theorem ok_unwritten {f : Addr} {fd : FuncData} (F : Fun K "unwritten" "unwritten" s_unwritten f fd) (T : Top mg) (Cjoined : Cal P w K mg base 1 "joined" ["rounds", "many"] spJoined) (Ccut_at_highs : Cal P w K mg base 1 "cut_at_highs" ["order"] spCut) : FnOk P w K mg base CX0 2 f fd ["order"] spUnw := by
 refine F.ok sc_unwritten (fun vs H Q E h => ?_) (fun cdv A outer s H vs Q E hr h => ?_)
 ·obtain ⟨a, ns, m, rfl, _⟩ := h
  rfl
 ·obtain ⟨a, ns, m, rfl, ha, ho, hm, k⟩ := h
  have ln := ho.len
  have nd := ho.nodup
  refine ⟨_, (pss_one (ps_ret (pe_cal Cjoined (hr.mono (by decide)) rfl (pa_cons (pe_cal Ccut_at_highs (hr.mono (by decide)) rfl (pa_cons (pv 0) pa_nil)) (pa_cons (pe_callB call_len_seq (by rfl) T.n_len PySem.boot_len (pa_cons (pv 0) pa_nil)) pa_nil))))), ?_⟩
  refine ⟨_, rfl, a, ns, m, rfl, ha, ho, hm, fun p zs H1 s1 hp LA => ?_⟩
  refine ⟨_, rfl, a, _, rfl, .inr (SqT.of (s1 _ _ ha)), p, zs, cutH ns, m, by rw [mapI_len, ln], hp, LA, ?_, hm, fun q H2 s2 hq => k q H2 (s1.trans s2) hq⟩
  rw [(cutH_ok _ ns rfl nd).2]
  exact ho
theorem sc_count : FnScope ["kind", "order", "counter"] ["kind", "order"] (defScope s_count) := ⟨rfl, rfl, rfl, by decide +kernel, rfl, by decide +kernel, by decide +kernel⟩
theorem ok_count {f C f1 f2 f3 f4 f5 f6 : Addr} {fd : FuncData} (F : Fun K "count" "count" s_count f fd) (hC : mg "COUNTERS" = some (.ref C)) (GD : GDict K w.params C [("rounds", f1), ("stays", f2), ("rises", f3), ("highs", f4), ("crossed", f5), ("longest", f6)])
  (c1 : CalF P w K mg base 4 f1 ["order"] (spCnt fun ns => ((roundsO ns).length : Int))) (c4 : CalF P w K mg base 4 f4 ["order"] (spCnt highsO)) : FnOk P w K mg base CX0 5 f fd ["kind", "order"] spCount2 := by
 refine F.ok sc_count (fun vs H Q E h => ?_) (fun cdv A outer s H vs Q E hr h => ?_)
 ·obtain ⟨kind, a, ns, m, rfl, _⟩ := h
  rfl
 ·obtain ⟨kind, a, ns, m, rfl, ha, ho, hm, k⟩ := h
  refine ⟨_, (pss_cons (ps_set (i := 2) sc_count.nd rfl (Or.inl rfl) (pe_ix ix_gd (pe_glob (v := .ref C) rfl hC rfl) (pv 0) (fun _ _ => rfl)))
   (pss_one (ps_ret (pe_callV (k := 4) (pv 2) hr (pa_cons (pv 1) pa_nil))))), ?_⟩
  rcases k with ⟨rfl, k⟩ | ⟨rfl, k⟩
  ·exact ⟨_, rfl, C, _, _, f1, rfl, rfl, GD, rfl, _, rfl, f1, _, _, rfl, c1, _, rfl, a, ns, m, rfl, ha, ho, hm, fun H' s' => k H' s'⟩
  ·exact ⟨_, rfl, C, _, _, f4, rfl, rfl, GD, rfl, _, rfl, f4, _, _, rfl, c4, _, rfl, a, ns, m, rfl, ha, ho, hm, fun H' s' => k H' s'⟩
end
end K08
namespace K08
open PySem PySem.Spec PyProof.Rows L2
noncomputable abbrev s__law_rounds : Stmt := top 24
section
variable {P : Program} {w : World} {K : PySem.W.Frag} {mg : Str -> Option Value} {base : Heap}
theorem sc__law_rounds : FnScope ["_law_order_here", "_law_found", "_law_seen", "_law_number", "_law_row"] ["_law_order_here"] (defScope s__law_rounds) := ⟨rfl, rfl, rfl, by decide +kernel, rfl, by decide +kernel, by decide +kernel⟩
theorem ok__law_rounds {f : Addr} {fd : FuncData} (F : Fun K "_law_rounds" "_law_rounds" s__law_rounds f fd) (T : Top mg) : FnOk P w K mg base CX0 1 f fd ["_law_order_here"] spRounds := by
 refine F.ok sc__law_rounds (fun vs H Q E h => ?_) (fun cdv A outer s H vs Q E hr h => ?_)
 ·obtain ⟨a, ns, m, rfl, _⟩ := h
  rfl
 ·obtain ⟨a, ns, m, rfl, ha, ho, hm, k⟩ := h
  have ln := ho.len
  refine ⟨_, (pss_cons (ps_par (i := 1) (j := 2) rfl sc__law_rounds.nd rfl rfl (by decide) rfl rfl (pa_cons (pe_lst pa_nil) (pa_cons (pe_lst pa_nil) pa_nil)) rfl)
   (pss_cons (ps_for PassesOwn.never rfl (pi_range1 rfl T.n_range (pa_cons (pe_callB call_len_seq (by rfl) T.n_len PySem.boot_len (pa_cons (pv 0) pa_nil)) pa_nil)) (pg_name (i := 3) sc__law_rounds.nd rfl (Or.inl rfl))
    (pss_one (ps_if (pt_cmpR op_notIn_seq (pv 3) (pv 2) (by rfl))
     (pss_cons (ps_set (i := 4) sc__law_rounds.nd rfl (Or.inl rfl) (pe_lst (pa_cons (pv 3) pa_nil)))
     (pss_cons (ps_while PassesOwn.never (pt_cmpR op_ne (pe_ix ix_tup (pv 0) (pe_ix ix_list (pv 4) (pe_un un_neg pe_int) (fun _ _ => rfl)) (fun _ _ => rfl)) (pv 3) (nomark _))
      (pss_one (ps_expr (pe_bm PySem.F.plainAttrs_list PySem.F.slot_list_append PySem.F.type_list_append mt_append (pv 4) (pa_cons (pe_ix ix_tup (pv 0) (pe_ix ix_list (pv 4) (pe_un un_neg pe_int) (fun _ _ => rfl)) (fun _ _ => rfl)) pa_nil)))))
     (pss_cons (ps_set (i := 2) sc__law_rounds.nd rfl (Or.inl rfl) (pe_op op_cat (pv 2) (pv 4)))
     (pss_one (ps_expr (pe_bm PySem.F.plainAttrs_list PySem.F.slot_list_append PySem.F.type_list_append mt_append (pv 1) (pa_cons (pe_callTy call_tuple_of (by rfl) T.n_tuple boot_tuple (pa_cons (pv 4) pa_nil)) pa_nil)))))))
     pss_nil)))
   (pss_one (ps_ret (pe_callTy call_tuple_of (by rfl) T.n_tuple boot_tuple (pa_cons (pv 1) pa_nil)))))), ?_⟩
  refine ⟨Nat.zero_le _, fun p hp => ⟨Nat.zero_le _, fun q hq => ⟨_, _, rfl, ?_⟩⟩⟩
  have s1 := same_upd (o := .lst []) hp
  have s2 := same_upd (o := .lst []) hq
  have hq0 : H q = none := s1.free hq
  have hpq : p ≠ q := ne_of_none upd_same hq
  refine ⟨_, rfl, a, _, rfl, .inr (SqT.of (s2 _ _ (s1 _ _ ha))), _, rfl, by (first | lia | omega), by rw [mapI_len]; (first | lia | omega), ?_⟩
  rw [mapI_len, Int.toNat_natCast]
  refine for_range (n := ns.length) (fun i σ H2 => ∃ (q : Addr) (zs : List Addr) (c3 c4 : Option V), σ = [some (.ref a), some (.ref p), some (.ref q), c3, c4] /\ Same H H2 /\ p ≠ q /\ H q = none /\
   H2 p = some (.lst (zs.map V.ref)) /\ H2 q = some (.lst ((walkO ns (num0 i)).flatten.map V.int)) /\ RowsAt H2 zs (walkO ns (num0 i)) /\ MetO ns m (walkO ns (num0 i))) ?_ ?_ ?_
  ·exact ⟨q, [], none, none, rfl, s1.trans s2, hpq, hq0, s2 _ _ upd_same, upd_same, .nil, met_nil⟩
  ·rintro i σ H2 hi ⟨q, zs, c3, c4, rfl, sm, hpq, hq0, hp2, hq2, R, M⟩
   have hir : 0 <= ((i : Nat) : Int) /\ ((i : Nat) : Int) < m := by (first | lia | omega)
   have htk : walkO ns (num0 (i + 1)) = stepO ns (walkO ns (num0 i)) i := by rw [num0_succ]; exact walk_snoc ns (num0 i) i
   have M' := M.step ho hir
   have lens := M.lens ho
   have e0 : (0 : Int) + ((i : Nat) : Int) = i := by (first | lia | omega)
   refine ⟨_, rfl, _, rfl, q, _, rfl, .inl (SqL.of hq2), rfl, flat_ints _, _, rfl, ?_⟩
   rw [e0, inV_ints]
   refine ite2 (fun hc => ?_) (fun hc => ?_)
   ·have hnm : ((i : Nat) : Int) ∉ (walkO ns (num0 i)).flatten := by simpa using hc
    have hst : stepO ns (walkO ns (num0 i)) i = walkO ns (num0 i) ++ [rowO ns i] := by unfold stepO; rw [if_neg hnm]
    refine ⟨_, rfl, by show 1 <= sizeLine; decide, fun r hr' => ?_⟩
    have s3 := same_upd (o := .lst [.int i]) hr'
    have hr0 : H r = none := sm.free hr'
    have hpr : p ≠ r := ne_of_none hp2 hr'
    have hqr : q ≠ r := ne_of_none hq2 hr'
    refine ⟨fun n σ H4 => ∃ j, n = m - j /\ σ = [some (.ref a), some (.ref p), some (.ref q), some (.int i), some (.ref r)] /\ Same H H4 /\ H4 p = some (.lst (zs.map V.ref)) /\ H4 q = some (.lst ((walkO ns (num0 i)).flatten.map V.int)) /\ RowsAt H4 zs (walkO ns (num0 i)) /\
     H4 r = some (.lst ((orbO ns i (j + 1)).map V.int)) /\ (orbO ns i (j + 1)).Nodup, ⟨m, 0, rfl, rfl, sm.trans s3, s3 _ _ hp2, s3 _ _ hq2, R.same s3, upd_same, by simp [orbO]⟩, ?_⟩
    rintro n σ H4 ⟨j, rfl, rfl, sm4, hp4, hq4, R4, hr4, nd⟩
    have bd := orb_bound ho hir nd
    have hrg := it_rng ho hir j
    refine ⟨_, rfl, _, rfl, 1, rfl, r, _, -1, _, rfl, rfl, SqL.of hr4, at_last, a, _, _, _, rfl, rfl, SqT.of (sm4 _ _ ha), at_getD hrg.1 (by (first | lia | omega)), _, rfl, rfl, _, rfl, ite2 (fun hc => ?_) (fun hc => ?_)⟩
    ·have hc' : (!decide (V.int (itO ns i (j + 1)) = V.int ((i : Nat) : Int))) = true := hc
     have hne : itO ns i (j + 1) ≠ i := by simpa using hc'
     have nd2 := orb_more ho hir nd hne
     have bd2 := orb_bound ho hir nd2
     refine ⟨_, fun σ' H' h => h, ?_⟩
     refine ⟨_, rfl, .inl ⟨rfl, _, SqL.of hr4⟩, _, rfl, _, rfl, 1, rfl, r, _, -1, _, rfl, rfl, SqL.of hr4, at_last, a, _, _, _, rfl, rfl, SqT.of (sm4 _ _ ha), at_getD hrg.1 (by (first | lia | omega)), r, _, _, rfl, rfl, hr4, small1 (by rw [mapI_len, orb_len]; (first | lia | omega)), ?_⟩
     have st : SameT H4 (upd H4 r (.lst ((orbO ns i (j + 1)).map V.int ++ [.int (ns.getD (itO ns i j).toNat 0)]))) := sameT_lst hr4
     refine ⟨m - (j + 1), by (first | lia | omega), j + 1, rfl, rfl, same_updR sm4 hr0, by rw [upd_ne hpr]; exact hp4, by rw [upd_ne hqr]; exact hq4, R4.sameT st, ?_, nd2⟩
     rw [upd_same, orb_succ ns i (j + 1), List.map_append]
     rfl
    ·have hc' : ¬ (!decide (V.int (itO ns i (j + 1)) = V.int ((i : Nat) : Int))) = true := hc
     have he : itO ns i (j + 1) = i := by simpa using hc'
     have e := row_eq ho hir ⟨⟨j, rfl, he⟩, nd⟩
     rw [e] at hr4
     have rl := row_len ho hir
     refine ⟨_, rfl, _, rfl, q, r, _, _, rfl, rfl, hq4, hr4, ?_, fun q' hq' => ?_⟩
     ·rw [mapI_len, mapI_len]
      exact Nat.le_trans (by (first | lia | omega) : (walkO ns (num0 i)).flatten.length + (rowO ns i).length <= 1000) (by decide)
     have s5 := same_upd (o := .lst ((walkO ns (num0 i)).flatten.map V.int ++ (rowO ns i).map V.int)) hq'
     refine ⟨_, rfl, .inl ⟨rfl, _, SqL.of (s5 _ _ hp4)⟩, _, rfl, r, _, rfl, .inl ⟨SqL.of (s5 _ _ hr4), fun t ht => ?_⟩⟩
     have s6 := same_upd (o := .tup ((rowO ns i).map V.int)) ht
     have hp6 := s6 _ _ (s5 _ _ hp4)
     refine ⟨p, _, _, rfl, rfl, hp6, small1 (by rw [mapR_len, Paired.length R4]; (first | lia | omega)), ?_⟩
     have st : SameT (upd (upd H4 q' (.lst ((walkO ns (num0 i)).flatten.map V.int ++ (rowO ns i).map V.int))) t (.tup ((rowO ns i).map V.int))) (upd _ p (.lst (zs.map V.ref ++ [.ref t]))) := sameT_lst hp6
     refine ⟨q', zs ++ [t], _, _, rfl, same_updR ((sm4.trans s5).trans s6) hp, ne_of_none hp4 hq', sm4.free hq', by rw [upd_same, List.map_append]; rfl, ?_, ?_, by rw [htk]; exact M'⟩
     ·rw [upd_ne (Ne.symm (ne_of_none hp4 hq')), htk, hst]
      have e2 : ((walkO ns (num0 i) ++ [rowO ns i]).flatten).map V.int = (walkO ns (num0 i)).flatten.map V.int ++ (rowO ns i).map V.int := by simp
      rw [e2]
      exact s6 _ _ upd_same
     ·rw [htk, hst]
      exact Paired.snoc (((R4.same s5).same s6).sameT st) (st _ _ upd_same)
   ·have hnm : ((i : Nat) : Int) ∈ (walkO ns (num0 i)).flatten := by simpa using hc
    have hst : stepO ns (walkO ns (num0 i)) i = walkO ns (num0 i) := by unfold stepO; rw [if_pos hnm]
    exact ⟨q, zs, _, _, rfl, sm, hpq, hq0, hp2, by rw [htk, hst]; exact hq2, by rw [htk, hst]; exact R, by rw [htk, hst]; exact M⟩
  ·rintro σ H2 ⟨q, zs, c3, c4, rfl, sm, hpq, hq0, hp2, hq2, R, M⟩
   refine ⟨_, rfl, p, _, rfl, .inl ⟨SqL.of hp2, fun t ht => ?_⟩⟩
   exact k t zs _ (sm.trans (same_upd ht)) upd_same (R.same (same_upd ht))
end
end K08
namespace L2
open PySem PySem.Spec PyProof.Rows
theorem cut_toV {xs : List V} {i : Nat} (h : i <= xs.length) : cutV xs none (some (i : Int)) = xs.take i := by
 unfold cutV
 have e1 : HT.sIx xs.length 0 none = 0 := rfl
 have e2 : HT.sIx xs.length xs.length (some (i : Int)) = i := by
  simp only [HT.sIx]
  split <;> (first | lia | omega)
 rw [e1, e2, List.drop_zero, Nat.sub_zero]
theorem cut_fromV {xs : List V} {i : Nat} (h : i <= xs.length) : cutV xs (some (i : Int)) none = xs.drop i := by
 unfold cutV
 have e2 : HT.sIx xs.length 0 (some (i : Int)) = i := by
  simp only [HT.sIx]
  split <;> (first | lia | omega)
 have e1 : HT.sIx xs.length xs.length none = xs.length := rfl
 rw [e1, e2, List.take_of_length_le]
 rw [List.length_drop]
 exact Nat.le_refl _
end L2
namespace K08
open PySem PySem.Spec PyProof.Rows L2
noncomputable abbrev s__law_written : Stmt := top 25
section
variable {P : Program} {w : World} {K : PySem.W.Frag} {mg : Str -> Option Value} {base : Heap}
theorem sc__law_written : FnScope ["_law_order_here", "_law_rows", "_law_row", "_law_at", "_law_found"] ["_law_order_here"] (defScope s__law_written) := ⟨rfl, rfl, rfl, by decide +kernel, rfl, by decide +kernel, by decide +kernel⟩
set_option maxHeartbeats 4000000 in
theorem ok__law_written {f : Addr} {fd : FuncData} (F : Fun K "_law_written" "_law_written" s__law_written f fd) (T : Top mg) (C_law_rounds : Cal P w K mg base 1 "_law_rounds" ["_law_order_here"] spRounds) : FnOk P w K mg base CX0 2 f fd ["_law_order_here"] spWro := by
 refine F.ok sc__law_written (fun vs H Q E h => ?_) (fun cdv A outer s H vs Q E hr h => ?_)
 ·obtain ⟨a, ns, m, rfl, _⟩ := h
  rfl
 ·obtain ⟨a, ns, m, rfl, ha, ho, hm, k⟩ := h
  have ln := ho.len
  have M : MetO ns m (roundsO ns) := by
   unfold roundsO
   rw [ho.len]
   exact met_walk ho (num0 m) (fun f hf => num0_mem hf) met_nil
  obtain ⟨ml1, ml2, ml3⟩ := M.lens ho
  refine ⟨_, (pss_cons (ps_set (i := 1) sc__law_written.nd rfl (Or.inl rfl) (pe_lst pa_nil))
   (pss_cons (ps_for PassesOwn.never rfl (pi_tup (pe_cal C_law_rounds (hr.mono (by decide)) rfl (pa_cons (pv 0) pa_nil))) (pg_name (i := 2) sc__law_written.nd rfl (Or.inl rfl))
    (pss_cons (ps_set (i := 3) sc__law_written.nd rfl (Or.inl rfl) (pe_bmT PySem.F.slot_tuple_index PySem.F.type_tuple_index mt_tindex (pv 2) (pa_cons (pe_callB (call_maxT rfl) (by rfl) T.n_max boot_max (pa_cons (pv 2) pa_nil)) pa_nil)))
    (pss_one (ps_expr (pe_bm PySem.F.plainAttrs_list PySem.F.slot_list_append PySem.F.type_list_append mt_append (pv 1) (pa_cons (pe_op op_cat2 (pe_slice sl_tupA (pv 2) (po_some (pv 3)) po_none) (pe_slice sl_tupA (pv 2) po_none (po_some (pv 3)))) pa_nil))))))
   (pss_cons (ps_set (i := 4) sc__law_written.nd rfl (Or.inl rfl) (pe_tup pa_nil))
   (pss_cons (ps_for PassesOwn.never rfl (pi_list (pe_callB call_sortedLT (by rfl) T.n_sorted boot_sorted (pa_cons (pv 1) pa_nil))) (pg_name (i := 2) sc__law_written.nd rfl (Or.inl rfl))
    (pss_one (ps_set (i := 4) sc__law_written.nd rfl (Or.inl rfl) (pe_op op_cat2 (pv 4) (pv 2)))))
   (pss_one (ps_ret (pv 4))))))), ?_⟩
  refine ⟨Nat.zero_le _, fun p hp => ?_⟩
  have s1 := same_upd (o := .lst []) hp
  refine ⟨_, rfl, a, ns, m, rfl, s1 _ _ ha, ho, by (first | lia | omega), fun rd zs H1 s2 hrd RA => ?_⟩
  have hp1 := s2 _ _ (@upd_same H p (.lst []))
  refine ⟨rd, rfl, ⟨_, SqT.of hrd⟩, ?_⟩
  refine for_tup (K := K) (xs := zs.map V.ref) (fun i σ G => ∃ (ys : List Addr) (B : List (List Int)) (c2 c3 c4 : Option V), σ = [some (.ref a), some (.ref p), c2, c3, c4] /\ Same H G /\ SameT H1 G /\ G p = some (.lst (ys.map V.ref)) /\ RowsAt G ys B /\ Paired RotM ((roundsO ns).take i) B) ⟨[], [], _, _, _, rfl, s1.trans s2, (Same.refl H1).t, hp1, .nil, .nil⟩ ?_ ?_ ?_
  ·rintro i σ G _ ⟨ys, B, c2, c3, c4, rfl, sm, st, _⟩
   exact SqT.of (st _ _ hrd)
  ·rintro i x σ G hi ⟨ys, B, c2, c3, c4, rfl, sm, st, hp2, RB, PB⟩
   obtain ⟨z, hz, rfl⟩ : ∃ z, zs[i]? = some z /\ V.ref z = x := by
    rw [List.getElem?_map] at hi
    cases e : zs[i]? with
    | none => rw [e] at hi; cases hi
    | some z => rw [e] at hi; exact ⟨z, rfl, Option.some.inj hi⟩
   obtain ⟨r, hr1, hr2⟩ := paired_at RA hz
   have hrm := ml3 r (List.mem_of_getElem? hr1)
   have hrne : r ≠ [] := fun e => by rw [e] at hrm; exact absurd hrm.1 (by decide)
   have htk : (roundsO ns).take (i + 1) = (roundsO ns).take i ++ [r] := by rw [List.take_succ, hr1]; rfl
   have hzG := st _ _ hr2
   refine ⟨_, rfl, ⟨z, _, rfl, hzG⟩, _, rfl, z, r, rfl, hzG, hrne, fun MX hM1 hM2 => ?_⟩
   refine ⟨z, r, MX, rfl, rfl, hzG, hM1, ?_⟩
   have hj : r.idxOf MX < r.length := List.idxOf_lt_length_of_mem hM1
   refine ⟨_, rfl, .inl ⟨rfl, _, SqL.of hp2⟩, ?_⟩
   refine ⟨_, rfl, _, rfl, _, rfl, z, _, rfl, hzG, fun z1 G1 u1 hz1 => ?_⟩
   refine ⟨_, rfl, _, rfl, _, rfl, z, _, rfl, u1 _ _ hzG, fun z2 G2 u2 hz2 => ?_⟩
   have hz1' := u2 _ _ hz1
   rw [cut_fromV (by rw [mapI_len]; (first | lia | omega)), <- List.map_drop] at hz1'
   rw [cut_toV (by rw [mapI_len]; (first | lia | omega)), <- List.map_take] at hz2
   refine ⟨z1, z2, _, _, rfl, rfl, hz1', hz2, Nat.le_trans (by rw [mapI_len, mapI_len, List.length_drop, List.length_take]; (first | lia | omega) : _ <= 1000) (by decide), fun z3 G3 u3 hz3 => ?_⟩
   have U := u1.trans (u2.trans u3)
   have hp3 := U _ _ hp2
   rw [<- List.map_append] at hz3
   have hys : ys.length <= 60 := by
    rw [Paired.length RB, <- Paired.length PB, List.length_take]
    (first | lia | omega)
   refine ⟨p, _, _, rfl, rfl, hp3, small1 (by rw [List.length_map]; (first | lia | omega)), ?_⟩
   have hT : SameT G3 (upd G3 p (.lst (ys.map V.ref ++ [.ref z3]))) := fun b xs hb => by
    rw [upd_ne (ne_of hb hp3 (by intro z; cases z))]
    exact hb
   refine ⟨ys ++ [z3], B ++ [r.drop (r.idxOf MX) ++ r.take (r.idxOf MX)], _, _, _, rfl, same_updR (sm.trans U) hp, fun b xs hb => hT _ _ (U _ _ (st b xs hb)), by rw [upd_same, List.map_append]; rfl, Paired.append ((RB.same U).sameT hT) (.cons (hT _ _ hz3) .nil), ?_⟩
   rw [htk]
   refine Paired.append PB (.cons ⟨r.idxOf MX, hj, rfl, fun y hy => ?_⟩ .nil)
   rw [List.getD_eq_getElem?_getD, List.getElem?_eq_getElem hj, List.getElem_idxOf hj]
   exact hM2 y hy
  ·rintro σ G ⟨ys, B, c2, c3, c4, rfl, sm, st, hp2, RB, PB⟩
   have e : (roundsO ns).take (zs.map V.ref).length = roundsO ns := List.take_of_length_le (by rw [List.length_map, Paired.length RA]; exact Nat.le_refl _)
   rw [e] at PB
   refine ⟨Nat.zero_le _, fun t0 ht0 => ?_⟩
   have u0 := same_upd (o := .tup []) ht0
   refine ⟨_, rfl, p, ys, B, rfl, u0 _ _ hp2, RB.same u0, fun _ r hr' => ?_, fun l zs' C hC sC RC hl => ?_⟩
   ·obtain ⟨j, hj⟩ := List.getElem?_of_mem hr'
    have hjA : j < (roundsO ns).length := by
     have := (List.getElem?_eq_some_iff.mp hj).1
     rw [Paired.length PB]
     exact this
    obtain ⟨s', hs', RM⟩ := paired_at PB (List.getElem?_eq_getElem hjA)
    rw [hj] at hs'
    cases hs'
    intro z
    rw [z] at RM
    have := (RM.perm).length_eq
    have := (ml3 _ (List.getElem_mem hjA)).1
    simp at *
    (first | lia | omega)
   have W := wr_sorted ho rfl PB hC sC
   have WC := wro_eq ho W
   subst WC
   have hlen : (wroR m ns).flatten.length = m := by
    rw [W.all.length_eq, num0_len']
   have u1 := same_upd (o := .lst (zs'.map V.ref)) hl
   have S0 := (sm.trans u0).trans u1
   have hl1 := @upd_same (upd G t0 (.tup [])) l (.lst (zs'.map V.ref))
   have RC1 := RC.same u1
   have ht1 := u1 _ _ (@upd_same G t0 (.tup []))
   generalize upd (upd G t0 (.tup [])) l (.lst (zs'.map V.ref)) = G1 at S0 hl1 RC1 ht1 ⊢
   refine ⟨l, rfl, ⟨_, SqL.of hl1⟩, ?_⟩
   refine for_list (K := K) (xs := zs'.map V.ref) (fun i σ G => ∃ (t : Addr) (c2 c3 : Option V), σ = [some (.ref a), some (.ref p), c2, c3, some (.ref t)] /\ Same G1 G /\ G t = some (.tup (((wroR m ns).take i).flatten.map V.int))) ⟨t0, _, _, rfl, Same.refl _, ht1⟩ ?_ ?_ ?_
   ·rintro i σ G _ ⟨t, c2, c3, rfl, sm, _⟩
    exact SqL.of (sm _ _ hl1)
   ·rintro i x σ G hi ⟨t, c2, c3, rfl, sm, ht⟩
    obtain ⟨z, hz, rfl⟩ : ∃ z, zs'[i]? = some z /\ V.ref z = x := by
     rw [List.getElem?_map] at hi
     cases e : zs'[i]? with
     | none => rw [e] at hi; cases hi
     | some z => rw [e] at hi; exact ⟨z, rfl, Option.some.inj hi⟩
    obtain ⟨r, hr1, hr2⟩ := paired_at RC1 hz
    have htk : (wroR m ns).take (i + 1) = (wroR m ns).take i ++ [r] := by rw [List.take_succ, hr1]; rfl
    have hle : ((wroR m ns).take (i + 1)).flatten.length <= m := by
     have h1 := congrArg (fun l : List (List Int) => l.flatten.length) (List.take_append_drop (i + 1) (wroR m ns))
     simp only [List.flatten_append, List.length_append] at h1
     (first | lia | omega)
    have e2 : ([r] : List (List Int)).flatten.length = r.length := by simp
    rw [htk, List.flatten_append, List.length_append, e2] at hle
    refine ⟨_, rfl, _, rfl, t, z, _, _, rfl, rfl, ht, sm _ _ hr2, Nat.le_trans (by rw [mapI_len, mapI_len]; (first | lia | omega) : _ <= 1000) (by decide), fun t' G2 u2 ht' => ?_⟩
    refine ⟨t', _, _, rfl, sm.trans u2, ?_⟩
    rw [ht', htk, List.flatten_append, List.map_append]
    simp
   ·rintro σ G ⟨t, c2, c3, rfl, sm, ht⟩
    have e : (wroR m ns).take (zs'.map V.ref).length = wroR m ns := List.take_of_length_le (by rw [List.length_map, Paired.length RC1]; exact Nat.le_refl _)
    rw [e] at ht
    exact ⟨_, rfl, k t G (S0.trans sm) ht⟩
end
end K08
namespace K08
open PySem PySem.Spec PyProof.Rows L2
noncomputable abbrev s__law_same : Stmt := top 23
section
variable {P : Program} {w : World} {K : PySem.W.Frag} {mg : Str -> Option Value} {base : Heap}
theorem sc__law_same : FnScope ["_law_found", "_law_due"] ["_law_found", "_law_due"] (defScope s__law_same) := ⟨rfl, rfl, rfl, by decide +kernel, rfl, by decide +kernel, by decide +kernel⟩
theorem ok__law_same {f : Addr} {fd : FuncData} (F : Fun K "_law_same" "_law_same" s__law_same f fd) (T : Top mg) (hm : mg "_law_same" = some (.ref f)) (hb : Binds K fd ["_law_found", "_law_due"] []) :
  ∀ n, FnOk P w K mg base CX0 (n + 1) f fd ["_law_found", "_law_due"] (spSame n)
 | 0 => by
  refine F.ok sc__law_same (fun vs H Q E h => ?_) (fun cdv A outer s H vs Q E hr h => ?_)
  ·obtain ⟨x, y, rfl, _⟩ := h
   rfl
  ·obtain ⟨x, y, rfl, ⟨a, rfl, rfl⟩, k⟩ := h
   have hu : _ := hr.units
   refine ⟨_, (pss_cons (ps_if (pt_val (pe_callB call_isi (by rfl) T.n_isinstance boot_isinstance (pa_cons (pv 1) (pa_cons (pe_bltn (v := .ty "tuple") rfl T.n_tuple boot_tuple rfl) pa_nil))))
    pss_never
    pss_nil)
   (pss_cons (ps_if (pt_val (pe_callB call_isi (by rfl) T.n_isinstance boot_isinstance (pa_cons (pv 1) (pa_cons (pe_bltn (v := .ty "bool") rfl T.n_bool boot_bool rfl) pa_nil))))
    pss_never
    pss_nil)
   (pss_one (ps_ret (pe_and (pe_callB call_isi (by rfl) T.n_isinstance boot_isinstance (pa_cons (pv 0) (pa_cons (pe_bltn (v := .ty "int") rfl T.n_int boot_int rfl) pa_nil))) (pe_and (pe_not (pe_callB call_isi (by rfl) T.n_isinstance boot_isinstance (pa_cons (pv 0) (pa_cons (pe_bltn (v := .ty "bool") rfl T.n_bool boot_bool rfl) pa_nil)))) (pe_one (pe_cmpR op_eq (pv 0) (pv 1) (nomark _))))))))), ?_⟩
   refine ⟨_, rfl, _, _, _, _, rfl, .int _, kit_int_tuple, _, rfl, iteF ?_⟩
   refine ⟨_, rfl, _, _, _, _, rfl, .int _, kit_int_bool, _, rfl, iteF ?_⟩
   refine ⟨_, rfl, _, _, _, _, rfl, .int _, kit_int_int, _, rfl, iteT ?_⟩
   refine ⟨_, rfl, _, _, _, _, rfl, .int _, kit_int_bool, _, rfl, _, rfl, iteT ?_⟩
   refine ⟨_, rfl, _, rfl, rfl, ?_⟩
   rw [decide_eq_true rfl]
   exact k H (Same.refl H)
 | n + 1 => by
  have ih : Cal P w K mg base (n + 1) "_law_same" ["_law_found", "_law_due"] (spSame n) := ⟨f, fd, ok__law_same F T hm hb n, hm, F.kp, hb⟩
  refine F.ok sc__law_same (fun vs H Q E h => ?_) (fun cdv A outer s H vs Q E hr h => ?_)
  ·obtain ⟨x, y, rfl, _⟩ := h
   rfl
  ·obtain ⟨x, y, rfl, al, k⟩ := h
   have hu : _ := hr.units
   refine ⟨_, (pss_cons (ps_if (pt_val (pe_callB call_isi (by rfl) T.n_isinstance boot_isinstance (pa_cons (pv 1) (pa_cons (pe_bltn (v := .ty "tuple") rfl T.n_tuple boot_tuple rfl) pa_nil))))
    (pss_cons (ps_if (PW.pt (pw_or (pt_not (pt_val (pe_callB call_isi (by rfl) T.n_isinstance boot_isinstance (pa_cons (pv 0) (pa_cons (pe_bltn (v := .ty "tuple") rfl T.n_tuple boot_tuple rfl) pa_nil))))) (pw_or1 (pt_cmpR op_ne (pe_callB call_len_seq (by rfl) T.n_len PySem.boot_len (pa_cons (pv 0) pa_nil)) (pe_callB call_len_seq (by rfl) T.n_len PySem.boot_len (pa_cons (pv 1) pa_nil)) (nomark _)))))
     (pss_one (ps_ret pe_bl))
     pss_nil)
    (pss_one (ps_ret (pe_callB (call_all rfl) (by rfl) T.n_all boot_all (pa_cons (pe_lc (N' := ["_law_one", "_law_other"]) (n := 2) (ix := []) rfl (CompScope.of (sc := defScope s__law_same) (N := ["_law_found", "_law_due"]) (by decide +kernel) rfl rfl) (pi_zipT rfl T.n_zip (pa_cons (pv 0) (pa_cons (pv 1) pa_nil))) (fun _ _ _ _ _ => ⟨(pg_pairK K (i := 0) (j := 1) rfl rfl (show (["_law_one", "_law_other"] : List Str).Nodup by decide +kernel) rfl rfl (Or.inl rfl) (Or.inl rfl) (Or.inr rfl) (Or.inr rfl)), pts_nil, (pe_cal ih hr rfl (pa_cons (pv 0) (pa_cons (pv 1) pa_nil)))⟩)) pa_nil)))))
    pss_nil)
   (pss_cons (ps_if (pt_val (pe_callB call_isi (by rfl) T.n_isinstance boot_isinstance (pa_cons (pv 1) (pa_cons (pe_bltn (v := .ty "bool") rfl T.n_bool boot_bool rfl) pa_nil))))
    pss_never
    pss_nil)
   (pss_one (ps_ret (pe_and (pe_callB call_isi (by rfl) T.n_isinstance boot_isinstance (pa_cons (pv 0) (pa_cons (pe_bltn (v := .ty "int") rfl T.n_int boot_int rfl) pa_nil))) (pe_and (pe_not (pe_callB call_isi (by rfl) T.n_isinstance boot_isinstance (pa_cons (pv 0) (pa_cons (pe_bltn (v := .ty "bool") rfl T.n_bool boot_bool rfl) pa_nil)))) (pe_one (pe_cmpR op_eq (pv 0) (pv 1) (nomark _))))))))), ?_⟩
   rcases al with ⟨a, rfl, rfl⟩ | ⟨a, b, xs, ys, rfl, rfl, ha, hbb, hl, pr⟩
   ·refine ⟨_, rfl, _, _, _, _, rfl, .int _, kit_int_tuple, _, rfl, iteF ?_⟩
    refine ⟨_, rfl, _, _, _, _, rfl, .int _, kit_int_bool, _, rfl, iteF ?_⟩
    refine ⟨_, rfl, _, _, _, _, rfl, .int _, kit_int_int, _, rfl, iteT ?_⟩
    refine ⟨_, rfl, _, _, _, _, rfl, .int _, kit_int_bool, _, rfl, _, rfl, iteT ?_⟩
    refine ⟨_, rfl, _, rfl, rfl, ?_⟩
    rw [decide_eq_true rfl]
    exact k H (Same.refl H)
   ·have hxy : xs.length = ys.length := Paired.length pr
    refine ⟨_, rfl, _, _, _, _, rfl, .tup hbb, kit_tuple_tuple, _, rfl, iteT ?_⟩
    refine ⟨_, rfl, _, _, _, _, rfl, .tup ha, kit_tuple_tuple, _, rfl, iteF ?_⟩
    refine ⟨_, rfl, a, _, rfl, .inr (SqT.of ha), _, rfl, b, _, rfl, .inr (SqT.of hbb), rfl, _, rfl, ?_⟩
    rw [hxy]
    refine iteNS rfl ?_
    refine ⟨_, rfl, _, rfl, a, b, rfl, ⟨_, SqT.of ha⟩, ⟨_, SqT.of hbb⟩, ?_⟩
    refine lc_zip_true (xs := xs) (ys := ys) (SqT.of ha) (SqT.of hbb) hxy hl (fun s' => SqT.of (s' _ _ ha)) (fun s' => SqT.of (s' _ _ hbb)) (fun i x y hx hy H' s' Q' q => ?_) fun acc H' hacc s' h' => ?_
    ·refine ⟨_, rfl, _, rfl, x, y, rfl, ?_, fun H2 s2 => q H2 s2⟩
     have al := paired_get pr hx hy
     exact al.sameT s'.t
    ·refine ⟨acc, _, rfl, h', ?_⟩
     have e : (List.replicate xs.length true).all id = true := by simp
     rw [e]
     exact k H' s'
end
end K08
namespace K08
open PySem PySem.Spec PyProof.Rows L2
section
variable {P : Program} {w : World} {K : PySem.W.Frag} {mg : Str -> Option Value} {base : Heap}
theorem sc__law_size : FnScope ["_law_hand_here", "_law_most"] ["_law_hand_here", "_law_most"] (defScope s__law_size) := ⟨rfl, rfl, rfl, by decide +kernel, rfl, by decide +kernel, by decide +kernel⟩
theorem ok__law_size {f : Addr} {fd : FuncData} (F : Fun K "_law_size" "_law_size" s__law_size f fd) (C_law_pick : Cal P w K mg base 1 "_law_pick" ["_law_hand_here", "_law_many"] spPick) : FnOk P w K mg base CX0 2 f fd ["_law_hand_here", "_law_most"] spSize := by
 refine F.ok sc__law_size (fun vs H Q E h => ?_) (fun cdv A outer s H vs Q E hr h => ?_)
 ·obtain ⟨p, q, m, rfl, _⟩ := h
  rfl
 ·obtain ⟨p, q, m, rfl, hm0, hm1, hh, k⟩ := h
  refine ⟨_, (pss_cons (ps_if (pt_cmpR op_eq (pe_cal C_law_pick (hr.mono (by decide)) rfl (pa_cons (pv 0) (pa_cons pe_int pa_nil))) pe_int (nomark _))
    (pss_one (ps_ret (pe_op op_sub (pv 1) (pe_cal C_law_pick (hr.mono (by decide)) rfl (pa_cons (pv 0) (pa_cons pe_int pa_nil))))))
    pss_nil)
   (pss_one (ps_ret (pe_cal C_law_pick (hr.mono (by decide)) rfl (pa_cons (pv 0) (pa_cons pe_int pa_nil)))))), ?_⟩
  refine ⟨_, rfl, p, q, 8, rfl, by decide, by decide, hh, fun d H1 h0 h1 hh1 k1 => ⟨rfl, _, rfl, ?_⟩⟩
  refine ite2 (fun _ => ?_) (fun _ => ?_)
  ·refine ⟨_, rfl, _, rfl, p, q, 6, rfl, by decide, by decide, hh1, fun d' H2 h0' h1' hh2 k2 => ⟨_, _, rfl, rfl, ?_⟩⟩
   exact k _ _ (by (first | lia | omega)) (by (first | lia | omega)) hh2 (k1.trans k2)
  ·refine ⟨_, rfl, p, q, 10, rfl, by decide, by decide, hh1, fun d' H2 h0' h1' hh2 k2 => ?_⟩
   exact k _ _ h0' (by (first | lia | omega)) hh2 (k1.trans k2)
theorem perm_insert {ys : List Int} {k : Nat} (h : ys.Perm (num0 k)) (i : Nat) : (ys.take i ++ (k : Int) :: ys.drop i).Perm (num0 (k + 1)) := by
 have e : num0 (k + 1) = num0 k ++ [(k : Int)] := by
  unfold num0
  rw [List.range_succ, List.map_append]
  rfl
 rw [e]
 refine List.perm_middle.trans ?_
 rw [List.take_append_drop]
 refine (List.Perm.cons _ h).trans ?_
 exact (List.perm_append_singleton _ _).symm
theorem num0_len (n : Nat) : (num0 n).length = n := by simp [num0]
theorem sc__law_any : FnScope ["_law_hand_here", "_law_many", "_law_order_here", "_law_k"] ["_law_hand_here", "_law_many"] (defScope s__law_any) := ⟨rfl, rfl, rfl, by decide +kernel, rfl, by decide +kernel, by decide +kernel⟩
theorem ok__law_any {f : Addr} {fd : FuncData} (F : Fun K "_law_any" "_law_any" s__law_any f fd) (T : Top mg) (C_law_pick : Cal P w K mg base 1 "_law_pick" ["_law_hand_here", "_law_many"] spPick) : FnOk P w K mg base CX0 2 f fd ["_law_hand_here", "_law_many"] spAny := by
 refine F.ok sc__law_any (fun vs H Q E h => ?_) (fun cdv A outer s H vs Q E hr h => ?_)
 ·obtain ⟨p, q, m, rfl, _⟩ := h
  rfl
 ·obtain ⟨p, q, m, rfl, hm, hh, k⟩ := h
  refine ⟨_, (pss_cons (ps_set (i := 2) sc__law_any.nd rfl (Or.inl rfl) (pe_lst pa_nil))
   (pss_cons (ps_for PassesOwn.never rfl (pi_range1 rfl T.n_range (pa_cons (pv 1) pa_nil)) (pg_name (i := 3) sc__law_any.nd rfl (Or.inl rfl))
    (pss_one (ps_expr (pe_bm PySem.F.plainAttrs_list PySem.F.slot_list_insert PySem.F.type_list_insert mt_insert (pv 2) (pa_cons (pe_cal C_law_pick (hr.mono (by decide)) rfl (pa_cons (pv 0) (pa_cons (pe_op op_add (pv 3) pe_int) pa_nil))) (pa_cons (pv 3) pa_nil))))))
   (pss_one (ps_ret (pv 2))))), ?_⟩
  refine ⟨Nat.zero_le _, fun l hl => ?_⟩
  refine ⟨_, rfl, (m : Int), rfl, by (first | lia | omega), by (first | lia | omega), ?_⟩
  have hlp : l ≠ p /\ l ≠ q := by
   obtain ⟨_, _, h1, h2, _⟩ := hh
   exact ⟨Ne.symm (ne_of_none h1 hl), Ne.symm (ne_of_none h2 hl)⟩
  refine for_range (n := (m : Int).toNat) (fun i σ H2 => ∃ (ys : List Int) (c : Option V), σ = [some (.ref p), some (.int m), some (.ref l), c] /\ ys.Perm (num0 i) /\ H2 l = some (.lst (ys.map V.int)) /\ Hand H2 p q /\ Keep p q H H2) ⟨[], none, rfl, List.Perm.refl _, upd_same, upd_hand hh hl, (same_upd hl).keep⟩ ?_ ?_
  ·rintro i σ H2 hi ⟨ys, c, rfl, hp, hl2, hh2, k2⟩
   have hi' : i < m := by (first | lia | omega)
   have hlen : ys.length = i := by rw [hp.length_eq, num0_len]
   refine ⟨_, rfl, .inl ⟨rfl, _, SqL.of hl2⟩, _, rfl, _, rfl, _, _, rfl, rfl, p, q, _, rfl, by (first | lia | omega), by (first | lia | omega), hh2, fun d H3 h0 h1 hh3 k3 => ?_⟩
   have hl3 : H3 l = some (.lst (ys.map V.int)) := k3 _ _ hl2 hlp.1 hlp.2
   refine ⟨_, rfl, l, _, d, _, rfl, rfl, hl3, h0, by rw [mapI_len]; (first | lia | omega), small1 (by rw [mapI_len]; (first | lia | omega)), ?_⟩
   refine ⟨ys.take d.toNat ++ (i : Int) :: ys.drop d.toNat, _, rfl, perm_insert hp _, ?_, lset_hand hh3 hl3 hlp.1 hlp.2, fun b o hb h1 h2 => by rw [upd_ne (ne_of_none hb hl)]; exact (k2.trans k3) b o hb h1 h2⟩
   rw [upd_same, List.map_append, List.map_cons, List.map_take, List.map_drop, Int.zero_add]
  ·rintro σ H2 ⟨ys, c, rfl, hp, hl2, hh2, k2⟩
   refine ⟨_, rfl, k l ys H2 ?_ hl hl2 hh2 k2⟩
   simpa using hp
end
end K08
namespace K08
open PySem PySem.Spec PyProof.Rows L2
noncomputable def OrdM (H0 : Hp) (p q : Addr) (m : Nat) (σ : L2.St) (H : Hp) : Prop := ∃ (way : Int) (l : Addr) (ys : List Int) (c4 c5 c6 c7 c8 c9 c10 : Option V), σ = [some (.ref p), some (.int m), some (.int way), some (.ref l), c4, c5, c6, c7, c8, c9, c10] /\ ys.Perm (num0 m) /\ H l = some (.lst (ys.map V.int)) /\ H0 l = none /\ Hand H p q /\ Keep p q H0 H
noncomputable def tM (H0 : Hp) (p q : Addr) (m : Nat) : TS := fun D σ H => OrdM H0 p q m σ H /\ ∀ σ' H', OrdM H0 p q m σ' H' -> D.nx σ' H'
theorem num0_nodup (n : Nat) : (num0 n).Nodup := by
 unfold num0
 refine List.Pairwise.map _ (fun a b (h : a ≠ b) => ?_) (List.nodup_range (n := n))
 show (a : Int) ≠ (b : Int)
 (first | lia | omega)
theorem getI {ys : List Int} {i : Int} {n : Nat} (hl : ys.length = n) (h0 : 0 <= i) (h1 : i < n) : ∃ a, ys[i.toNat]? = some a /\ atI (ys.map V.int) i = some (.int a) /\ ixN (ys.map V.int).length i = some i.toNat := by
 have hlt : i.toNat < ys.length := by (first | lia | omega)
 refine ⟨ys[i.toNat], List.getElem?_eq_getElem hlt, ?_, ?_⟩
 ·have e : ((i.toNat : Nat) : Int) = i := by (first | lia | omega)
  have := atI_nat (xs := ys.map V.int) (j := i.toNat) (v := .int ys[i.toNat]) (by rw [List.getElem?_map, List.getElem?_eq_getElem hlt]; rfl)
  rwa [e] at this
 ·unfold ixN
  rw [mapI_len, if_pos h0, if_pos (by (first | lia | omega))]
section
variable {P : Program} {w : World} {K : PySem.W.Frag} {mg : Str -> Option Value} {base : Heap}
theorem sc__law_order : FnScope ["_law_hand_here", "_law_many", "_law_way", "_law_order_here", "_law_turn", "_law_one", "_law_other", "_law_here", "_law_row", "_law_k", "_law_cut"] ["_law_hand_here", "_law_many"] (defScope s__law_order) := ⟨rfl, rfl, rfl, by decide +kernel, rfl, by decide +kernel, by decide +kernel⟩
set_option maxHeartbeats 4000000 in
theorem ok__law_order {f : Addr} {fd : FuncData} (F : Fun K "_law_order" "_law_order" s__law_order f fd) (T : Top mg) (C_law_pick : Cal P w K mg base 1 "_law_pick" ["_law_hand_here", "_law_many"] spPick) (C_law_any : Cal P w K mg base 2 "_law_any" ["_law_hand_here", "_law_many"] spAny) : FnOk P w K mg base CX0 3 f fd ["_law_hand_here", "_law_many"] spOrder := by
  refine F.ok sc__law_order (fun vs H Q E h => ?_) (fun cdv A outer s H vs Q E hr h => ?_)
  · obtain ⟨p, q, m, rfl, _⟩ := h
    rfl
  · obtain ⟨p, q, m, rfl, hm, hh, k⟩ := h
    have lne : ∀ {l : Addr}, H l = none -> l ≠ p /\ l ≠ q := fun {l} hl => by
      obtain ⟨_, _, h1, h2, _⟩ := hh
      exact ⟨Ne.symm (ne_of_none h1 hl), Ne.symm (ne_of_none h2 hl)⟩
    refine ⟨_, (pss_cons (ps_set (i := 2) sc__law_order.nd rfl (Or.inl rfl) (pe_cal C_law_pick (hr.mono (by decide)) rfl (pa_cons (pv 0) (pa_cons pe_int pa_nil))))
      (pss_cons (ps_set (i := 3) sc__law_order.nd rfl (Or.inl rfl) (pe_callTy (call_list_rng rfl) (by rfl) T.n_list boot_list (pa_cons (pe_callTy call_range1 (by rfl) T.n_range boot_range (pa_cons (pv 1) pa_nil)) pa_nil)))
      (pss_cons (PS.mono (t' := tM H p q m) (ps_if (pt_cmpR op_lt (pv 2) pe_int (nomark _))
        (pss_one (ps_set (i := 3) sc__law_order.nd rfl (Or.inl rfl) (pe_cal C_law_any (hr.mono (by decide)) rfl (pa_cons (pv 0) (pa_cons (pv 1) pa_nil)))))
        pss_nil) ?w1)
      (pss_cons (PS.mono (t' := tM H p q m) (ps_if (pt_cmpR op_eq (pv 2) pe_int (nomark _))
        (pss_one (ps_for PassesOwn.never rfl (pi_range1 rfl T.n_range (pa_cons (pe_op op_mul (pe_cal C_law_pick (hr.mono (by decide)) rfl (pa_cons (pv 0) (pa_cons pe_int pa_nil))) (pe_callTy call_int1 (by rfl) T.n_int boot_int (pa_cons (pe_cmpR op_gt (pv 1) pe_int (nomark _)) pa_nil))) pa_nil)) (pg_name (i := 4) sc__law_order.nd rfl (Or.inl rfl))
          (pss_cons (ps_par (i := 5) (j := 6) rfl sc__law_order.nd rfl rfl (by decide) rfl rfl (pa_cons (pe_cal C_law_pick (hr.mono (by decide)) rfl (pa_cons (pv 0) (pa_cons (pv 1) pa_nil))) (pa_cons (pe_cal C_law_pick (hr.mono (by decide)) rfl (pa_cons (pv 0) (pa_cons (pv 1) pa_nil))) pa_nil)) rfl)
          (pss_cons (ps_set (i := 7) sc__law_order.nd rfl (Or.inl rfl) (pe_ix ix_list (pv 3) (pv 5) (fun _ _ => rfl)))
          (pss_cons (ps_asg (pe_ix ix_list (pv 3) (pv 6) (fun _ _ => rfl)) (pg_sub (pv 3) (pv 5) set_list))
          (pss_one (ps_asg (pv 7) (pg_sub (pv 3) (pv 6) set_list))))))))
        pss_nil) ?w2)
      (pss_cons (PS.mono (t' := tM H p q m) (ps_if (pt_cmpR op_eq (pv 2) pe_int (nomark _))
        (pss_one (ps_set (i := 3) sc__law_order.nd rfl (Or.inl rfl) (pe_rev rv_list (pv 3))))
        pss_nil) ?w3)
      (pss_cons (PS.mono (t' := tM H p q m) (ps_if (pt_cmpR op_eq (pv 2) pe_int (nomark _))
        (pss_cons (ps_set (i := 8) sc__law_order.nd rfl (Or.inl rfl) (pe_cal C_law_any (hr.mono (by decide)) rfl (pa_cons (pv 0) (pa_cons (pv 1) pa_nil))))
        (pss_one (ps_for PassesOwn.never rfl (pi_range1 rfl T.n_range (pa_cons (pv 1) pa_nil)) (pg_name (i := 9) sc__law_order.nd rfl (Or.inl rfl))
          (pss_one (ps_asg (pe_ix ix_list (pv 8) (pe_op op_mod (pe_op op_add (pv 9) pe_int) (pv 1)) (fun _ _ => rfl)) (pg_sub (pv 3) (pe_ix ix_list (pv 8) (pv 9) (fun _ _ => rfl)) set_list))))))
        pss_nil) ?w4)
      (pss_cons (PS.mono (t' := tM H p q m) (ps_if (pt_cmpR op_eq (pv 2) pe_int (nomark _))
        (pss_cons (ps_set (i := 10) sc__law_order.nd rfl (Or.inr rfl) (pe_cal C_law_pick (hr.mono (by decide)) rfl (pa_cons (pv 0) (pa_cons (pe_op op_add (pv 1) pe_int) pa_nil))))
        (pss_one (ps_set (i := 3) sc__law_order.nd rfl (Or.inl rfl) (pe_op op_cat (pe_cal C_law_any (hr.mono (by decide)) rfl (pa_cons (pv 0) (pa_cons (pv 10) pa_nil))) (pe_lc (N' := ["_law_number", "_law_cut"]) (n := 1) (ix := [10]) rfl (CompScope.of (sc := defScope s__law_order) (N := ["_law_hand_here", "_law_many", "_law_way", "_law_order_here", "_law_turn", "_law_one", "_law_other", "_law_here", "_law_row", "_law_k", "_law_cut"]) (by decide +kernel) rfl rfl) (pi_list (pe_cal C_law_any (hr.mono (by decide)) rfl (pa_cons (pv 0) (pa_cons (pe_op op_sub (pv 1) (pv 10)) pa_nil)))) (fun _ _ _ _ _ => ⟨(pg_name (i := 0) (show (["_law_number", "_law_cut"] : List Str).Nodup by decide +kernel) rfl (Or.inl rfl)), pts_nil, (pe_op op_add (pv 1) (pv 0))⟩))))))
        pss_nil) ?w5)
      (pss_one (ps_ret (pe_callTy call_tuple_of (by rfl) T.n_tuple boot_tuple (pa_cons (pv 3) pa_nil))))))))))), ?fin⟩
    case w1 =>
      rintro D σ H1 ⟨⟨way, l, ys, c4, c5, c6, c7, c8, c9, c10, rfl, hp, hl, hl0, hh1, k1⟩, nx⟩
      refine ⟨_, rfl, _, _, rfl, rfl, _, rfl, ite2 (fun _ => ?_) (fun _ => nx _ _ ⟨way, l, ys, c4, c5, c6, c7, c8, c9, c10, rfl, hp, hl, hl0, hh1, k1⟩)⟩
      refine ⟨_, rfl, _, rfl, p, q, m, rfl, hm, hh1, fun l' ys' H2 hp' hn hl' hh2 k2 => nx _ _ ⟨way, l', ys', c4, c5, c6, c7, c8, c9, c10, rfl, hp', hl', k1.free hh hn hh1, hh2, k1.trans k2⟩⟩
    case w2 =>
      rintro D σ H1 ⟨⟨way, l, ys, c4, c5, c6, c7, c8, c9, c10, rfl, hp, hl, hl0, hh1, k1⟩, nx⟩
      refine ⟨_, rfl, rfl, _, rfl, ite2 (fun _ => ?_) (fun _ => nx _ _ ⟨way, l, ys, c4, c5, c6, c7, c8, c9, c10, rfl, hp, hl, hl0, hh1, k1⟩)⟩
      refine ⟨_, rfl, p, q, 4, rfl, by decide, by decide, hh1, fun d H2 h0 h1 hh2 k2 => ?_⟩
      refine ⟨_, rfl, _, _, rfl, rfl, .inr ⟨_, rfl, _, _, rfl, rfl, .inl ⟨by (first | lia | omega), by (first | lia | omega)⟩, ?_⟩⟩
      have hj : ∃ n : Nat, d * (if decide ((1 : Int) < m) = true then 1 else 0) = (n : Int) /\ n <= 4 /\ (n ≠ 0 -> 1 < m) := by
        by_cases h : (1 : Int) < m
        · rw [if_pos (by simpa using h)]
          exact ⟨d.toNat, by (first | lia | omega), by (first | lia | omega), fun _ => by (first | lia | omega)⟩
        · rw [if_neg (by simpa using h)]
          exact ⟨0, by (first | lia | omega), by (first | lia | omega), fun z => absurd rfl z⟩
      obtain ⟨n, en, hn4, hn0⟩ := hj
      refine ⟨_, rfl, by rw [en]; (first | lia | omega), by rw [en]; (first | lia | omega), ?_⟩
      rw [en]
      have hlp := lne hl0
      refine for_range (n := (n : Int).toNat) (fun i σ H3 => OrdM H p q m σ H3) ⟨way, l, ys, c4, c5, c6, c7, c8, c9, c10, rfl, hp, k2 _ _ hl hlp.1 hlp.2, hl0, hh2, k1.trans k2⟩ ?_ (fun σ H3 h3 => nx _ _ h3)
      rintro i σ H3 hi ⟨way, l, ys, c4, c5, c6, c7, c8, c9, c10, rfl, hp, hl, hl0, hh3, k3⟩
      have hm1 : 1 < m := hn0 (by (first | lia | omega))
      have hlp := lne hl0
      have hlen : ys.length = m := by rw [hp.length_eq, num0_len]
      refine ⟨_, rfl, _, rfl, p, q, m, rfl, by (first | lia | omega), by (first | lia | omega), hh3, fun d1 H4 a0 a1 hh4 k4 => ⟨_, rfl, _, rfl, p, q, m, rfl, by (first | lia | omega), by (first | lia | omega), hh4, fun d2 H5 b0 b1 hh5 k5 => ⟨_, _, rfl, ?_⟩⟩⟩
      have hl5 : H5 l = some (.lst (ys.map V.int)) := k5 _ _ (k4 _ _ hl hlp.1 hlp.2) hlp.1 hlp.2
      obtain ⟨x1, g1, g2, g3⟩ := getI hlen a0 a1
      obtain ⟨x2, f1, f2, f3⟩ := getI hlen b0 b1
      refine ⟨_, rfl, _, rfl, l, _, _, _, rfl, rfl, SqL.of hl5, g2, ?_⟩
      refine ⟨_, rfl, _, rfl, l, _, _, _, rfl, rfl, SqL.of hl5, f2, _, rfl, _, rfl, l, _, _, _, rfl, rfl, hl5, g3, ?_⟩
      refine ⟨_, rfl, _, rfl, _, rfl, l, _, _, d2.toNat, rfl, rfl, upd_same, ?_, ?_⟩
      · rw [List.length_set]; exact f3
      · refine ⟨way, l, (ys.set d1.toNat x2).set d2.toNat x1, _, _, _, _, c8, c9, c10, rfl, (set_swap_perm ys _ _ _ _ g1 f1).trans hp, ?_, hl0, ?_, ?_⟩
        · rw [upd_same, List.map_set, List.map_set]
        · exact lset_hand (lset_hand hh5 hl5 hlp.1 hlp.2) upd_same hlp.1 hlp.2
        · exact fun b o hb h1 h2 => by rw [upd_ne (ne_of_none hb hl0), upd_ne (ne_of_none hb hl0)]; exact ((k3.trans k4).trans k5) b o hb h1 h2
    case w3 =>
      rintro D σ H1 ⟨⟨way, l, ys, c4, c5, c6, c7, c8, c9, c10, rfl, hp, hl, hl0, hh1, k1⟩, nx⟩
      refine ⟨_, rfl, rfl, _, rfl, ite2 (fun _ => ?_) (fun _ => nx _ _ ⟨way, l, ys, c4, c5, c6, c7, c8, c9, c10, rfl, hp, hl, hl0, hh1, k1⟩)⟩
      refine ⟨_, rfl, l, _, rfl, SqL.of hl, fun l' hl' => nx _ _ ⟨way, l', ys.reverse, c4, c5, c6, c7, c8, c9, c10, rfl, (List.reverse_perm ys).trans hp, by rw [upd_same, List.map_reverse], k1.free hh hl' hh1, upd_hand hh1 hl', k1.trans (same_upd hl').keep⟩⟩
    case w4 =>
      rintro D σ H1 ⟨⟨way, l, ys, c4, c5, c6, c7, c8, c9, c10, rfl, hp, hl, hl0, hh1, k1⟩, nx⟩
      refine ⟨_, rfl, rfl, _, rfl, ite2 (fun _ => ?_) (fun _ => nx _ _ ⟨way, l, ys, c4, c5, c6, c7, c8, c9, c10, rfl, hp, hl, hl0, hh1, k1⟩)⟩
      refine ⟨_, rfl, _, rfl, p, q, m, rfl, hm, hh1, fun lr row H2 hpr hnr hlr hh2 k2 => ?_⟩
      have hlp := lne hl0
      have hlr0 : H lr = none := k1.free hh hnr hh1
      have hlrp := lne hlr0
      have hne : l ≠ lr := ne_of_none hl hnr
      have hrl : row.length = m := by rw [hpr.length_eq, num0_len]
      have hnd : row.Nodup := hpr.nodup_iff.mpr (num0_nodup m)
      refine ⟨_, rfl, (m : Int), rfl, by (first | lia | omega), by (first | lia | omega), ?_⟩
      refine for_range (n := (m : Int).toNat) (fun i σ H3 => ∃ (zs : List Int) (c9 : Option V), σ = [some (.ref p), some (.int m), some (.int way), some (.ref l), c4, c5, c6, c7, some (.ref lr), c9, c10] /\ zs.length = m /\ (∀ (k : Nat) (a : Int), k < i -> row[k]? = some a -> ∀ b, row[(k + 1) % m]? = some b -> zs[a.toNat]? = some b) /\ H3 l = some (.lst (zs.map V.int)) /\ H3 lr = some (.lst (row.map V.int)) /\ Hand H3 p q /\ Keep p q H H3)
        ⟨ys, c9, rfl, by rw [hp.length_eq, num0_len], fun k a hk => absurd hk (Nat.not_lt_zero _), k2 _ _ hl hlp.1 hlp.2, hlr, hh2, k1.trans k2⟩ ?_ ?_
      · rintro i σ H3 hi ⟨zs, c9, rfl, hzl, hz, hl3, hlr3, hh3, k3⟩
        have hi' : i < m := by (first | lia | omega)
        have hmod : ((0 : Int) + (i : Int) + 1) % (m : Int) = (((i + 1) % m : Nat) : Int) := by
          rw [Int.zero_add]; rfl
        obtain ⟨a, ga, ga2, _⟩ := getI (i := (0 : Int) + (i : Int)) hrl (by (first | lia | omega)) (by (first | lia | omega))
        obtain ⟨b, gb, gb2, _⟩ := getI (i := ((0 : Int) + (i : Int) + 1) % (m : Int)) hrl (Int.emod_nonneg _ (by (first | lia | omega))) (Int.emod_lt_of_pos _ (by (first | lia | omega)))
        have ga' : row[i]? = some a := by have e : ((0 : Int) + (i : Int)).toNat = i := by (first | lia | omega)
                                          rw [e] at ga; exact ga
        have gb' : row[(i + 1) % m]? = some b := by rw [hmod] at gb; exact gb
        have ham := num0_mem (hpr.mem_iff.mp (List.mem_of_getElem? ga'))
        obtain ⟨x, _, _, gx⟩ := getI (i := a) hzl ham.1 ham.2
        refine ⟨_, rfl, _, rfl, _, _, rfl, rfl, _, rfl, _, _, rfl, rfl, by (first | lia | omega), lr, _, _, _, rfl, rfl, SqL.of hlr3, gb2, _, rfl, _, rfl, _, rfl, lr, _, _, _, rfl, rfl, SqL.of hlr3, ga2, l, _, _, _, rfl, rfl, hl3, gx, ?_⟩
        refine ⟨zs.set a.toNat b, _, rfl, by rw [List.length_set]; exact hzl, fun k a' hk hka b' hb' => ?_, by rw [upd_same, List.map_set], by rw [upd_ne (Ne.symm hne)]; exact hlr3, lset_hand hh3 hl3 hlp.1 hlp.2, fun c o hc h1 h2 => by rw [upd_ne (ne_of_none hc hl0)]; exact k3 c o hc h1 h2⟩
        by_cases hki : k = i
        · subst hki
          rw [ga'] at hka; cases hka
          rw [gb'] at hb'; cases hb'
          rw [List.getElem?_set_self (by (first | lia | omega))]
        · have hna : a.toNat ≠ a'.toNat := fun z => by
            have ha' := num0_mem (hpr.mem_iff.mp (List.mem_of_getElem? hka))
            have : a = a' := by (first | lia | omega)
            subst this
            obtain ⟨u1, u2⟩ := List.getElem?_eq_some_iff.mp ga'
            obtain ⟨v1, v2⟩ := List.getElem?_eq_some_iff.mp hka
            exact hki ((List.getElem_inj hnd).mp (v2.trans u2.symm))
          rw [List.getElem?_set_ne hna]
          exact hz k a' (by (first | lia | omega)) hka b' hb'
      · rintro σ H3 ⟨zs, c9, rfl, hzl, hz, hl3, hlr3, hh3, k3⟩
        refine nx _ _ ⟨way, l, zs, c4, c5, c6, c7, _, c9, c10, rfl, round_perm hpr hzl fun k a hka b hb => hz k a ?_ hka b hb, hl3, hl0, hh3, k3⟩
        have := (List.getElem?_eq_some_iff.mp hka).1
        (first | lia | omega)
    case w5 =>
      rintro D σ H1 ⟨⟨way, l, ys, c4, c5, c6, c7, c8, c9, c10, rfl, hp, hl, hl0, hh1, k1⟩, nx⟩
      refine ⟨_, rfl, rfl, _, rfl, ite2 (fun _ => ?_) (fun _ => nx _ _ ⟨way, l, ys, c4, c5, c6, c7, c8, c9, c10, rfl, hp, hl, hl0, hh1, k1⟩)⟩
      refine ⟨_, rfl, _, rfl, _, _, rfl, rfl, p, q, _, rfl, by (first | lia | omega), by (first | lia | omega), hh1, fun cut H2 h0 h1 hh2 k2 => ?_⟩
      obtain ⟨c, rfl⟩ : ∃ c : Nat, cut = (c : Int) := ⟨cut.toNat, by (first | lia | omega)⟩
      have hc : c <= m := by (first | lia | omega)
      refine ⟨_, rfl, _, rfl, p, q, c, rfl, by (first | lia | omega), hh2, fun l1 ys1 H3 hp1 hn1 hl1 hh3 k3 => ?_⟩
      have hl10 : H l1 = none := (k1.trans k2).free hh hn1 hh2
      have hl1p := lne hl10
      refine ⟨_, rfl, _, rfl, _, rfl, _, _, rfl, rfl, p, q, m - c, by rw [Int.ofNat_sub hc], by (first | lia | omega), hh3, fun l2 ys2 H4 hp2 hn2 hl2 hh4 k4 => ⟨l2, rfl, ⟨_, SqL.of hl2⟩, ?_⟩⟩
      have hl2len : ys2.length <= 1000 := by rw [hp2.length_eq, num0_len]; (first | lia | omega)
      refine lc_pure (yields_list (xs := ys2.map V.int)) (small1 (by rw [mapI_len]; exact hl2len)) (fun _ => true) (fun v => match v with | .int i => .int ((c : Int) + i) | v => v) (fun H' s' => SqL.of (s' _ _ hl2)) (fun _ _ _ _ _ q => q) (fun x hx _ H' s' Q' q => ?_) fun acc hacc => ?_
      · obtain ⟨n, _, rfl⟩ := List.mem_map.mp hx
        exact ⟨_, rfl, _, rfl, _, _, rfl, rfl, q⟩
      · have hl14 : H4 l1 = some (.lst (ys1.map V.int)) := k4 _ _ hl1 hl1p.1 hl1p.2
        have hk4 : Keep p q H H4 := ((k1.trans k2).trans k3).trans k4
        rw [filter_true, map_of_ints (g := fun i => (c : Int) + i) fun n => rfl]
        refine ⟨l1, acc, _, _, rfl, rfl, by rw [upd_ne (ne_of_none hl14 hacc)]; exact hl14, upd_same, ?_, fun l' hl' => ?_⟩
        · simp only [List.length_map]
          rw [hp1.length_eq, hp2.length_eq, num0_len, num0_len]
          exact Nat.le_trans (by (first | lia | omega) : c + (m - c) <= 1000) (by decide)
        · refine nx _ _ ⟨way, l', ys1 ++ ys2.map fun i => (c : Int) + i, c4, c5, c6, c7, c8, c9, _, rfl, ?_, by rw [upd_same, List.map_append], ?_, upd_hand (upd_hand hh4 hacc) hl', (hk4.trans (same_upd hacc).keep).trans (same_upd hl').keep⟩
          · rw [num0_split c m hc]
            exact hp1.append (hp2.map _)
          · exact (hk4.trans (same_upd hacc).keep).free hh hl' (upd_hand hh4 hacc)
    case fin =>
      refine ⟨_, rfl, p, q, 7, rfl, by decide, by decide, hh, fun way H1 h0 h1 hh1 k1 => ?_⟩
      refine ⟨_, rfl, (m : Int), rfl, fun a ha => ⟨a, m, rfl, upd_same, by (first | lia | omega), by (first | lia | omega), fun l hl => ?_⟩⟩
      have ha0 : H a = none := k1.free hh ha hh1
      have hl1 : H1 l = none := by
        rw [upd_ne (fun z => by rw [z, upd_same] at hl; cases hl)] at hl
        exact hl
      refine ⟨⟨way, l, num0 m, none, none, none, none, none, none, none, rfl, List.Perm.refl _, ?_, k1.free hh hl1 hh1, upd_hand (upd_hand hh1 ha) hl, (k1.trans (same_upd ha).keep).trans (same_upd hl).keep⟩, ?_⟩
      · rw [upd_same, rangeV_num0]; rfl
      intro σ1 G1 M1
      refine ⟨M1, fun σ2 G2 M2 => ⟨M2, fun σ3 G3 M3 => ⟨M3, fun σ4 G4 M4 => ⟨M4, fun σ5 G5 M5 => ?_⟩⟩⟩⟩
      obtain ⟨way', l', ys', c4, c5, c6, c7, c8, c9, c10, rfl, hp, hl', hl0, hh5, k5⟩ := M5
      refine ⟨_, rfl, l', _, rfl, .inl ⟨SqL.of hl', fun t ht => k t ys' _ hp upd_same (upd_hand hh5 ht) (k5.trans (same_upd ht).keep)⟩⟩
end
end K08
namespace L2
open PySem PySem.Spec PyProof.Rows
theorem lc_enumF {K : PySem.W.Frag} {a : Addr} {xs : List V} {tt : TT} {te : TE} {ix : List Nat} {σ : L2.St} {H1 : Hp} {Q : VK} (Fx : ∀ {H}, Same H1 H -> SqT K H a xs) (small : xs.length <= 1000) (p : Nat -> V -> Bool) (f : Nat -> V -> V)
  (ht : ∀ (i : Nat) x, xs[i]? = some x -> ∀ H, Same H1 H -> ∀ Q' : Bool -> Hp -> Prop, (∀ H', Same H H' -> Q' (p i x) H') -> tt (some (.int i) :: some x :: ix.map fun i => σ.getD i none) H Q')
  (he : ∀ (i : Nat) x, xs[i]? = some x -> p i x = true -> ∀ H, Same H1 H -> ∀ Q' : VK, Q' (f i x) H -> te (some (.int i) :: some x :: ix.map fun i => σ.getD i none) H Q')
  (fin : ∀ acc H', H1 acc = none -> Same H1 H' -> H' acc = some (.lst (enF p f 0 xs)) -> Q (.ref acc) H') :
  LcW (Ite K a) H1 (gTup K 2 (gCons (gName 0) (gCons (gName 1) gNil))) tt te 2 ix σ Q := by
 intro acc ha
 refine ⟨fun i m H => m = xs.length - i /\ i <= xs.length /\ Same H1 H /\ H acc = some (.lst (enF p f 0 (xs.take i))), ⟨xs.length, by simp, Nat.zero_le _, same_upd ha, upd_same⟩, ?_⟩
 rintro i m H ⟨rfl, hi, sm, hacc⟩
 by_cases hlt : i < xs.length
 ·refine .inr ⟨⟨xs, xs[i], Fx sm, List.getElem?_eq_getElem hlt⟩, fun v H' y => ?_⟩
  obtain ⟨t, x, hn, rfl, rfl, hv⟩ := y
  have e1 := hv xs (Fx sm)
  have htk : enF p f 0 (xs.take (i + 1)) = enF p f 0 (xs.take i) ++ (if p i x then [f i x] else []) := by
   have hl : (xs.take i).length = i := by rw [List.length_take]; (first | lia | omega)
   rw [List.take_succ, e1, enF_append, hl]
   simp [enF]
  refine ⟨t, _, rfl, SqT.of upd_same, rfl, _, _, rfl, x, _, rfl, rfl, ⟨rfl, fun j v e => ?_⟩, ?_⟩
  ·match j, e with
   | 0, e => cases e
   | 1, e => cases e
   | j + 2, e => exact e
  ·have sm2 := sm.trans (same_upd (o := .tup [.int i, x]) hn)
   have hacc2 : (upd H t (.tup [.int i, x])) acc = some (.lst (enF p f 0 (xs.take i))) := same_upd hn _ _ hacc
   refine ht i x e1 _ sm2 _ fun H' s' => ?_
   have sm2 := sm2.trans s'
   have hacc2 := s' _ _ hacc2
   cases hp : p i x with
   | false =>
    rw [if_neg Bool.false_ne_true]
    refine ⟨xs.length - (i + 1), by (first | lia | omega), rfl, hlt, sm2, ?_⟩
    rw [htk, hp, if_neg Bool.false_ne_true, List.append_nil]
    exact hacc2
   | true =>
    rw [if_pos rfl]
    refine he i x e1 hp _ sm2 _ ⟨_, hacc2, small1 (Nat.le_trans (enF_len _ _ _ _) (by rw [List.length_take]; (first | lia | omega))), xs.length - (i + 1), by (first | lia | omega), rfl, hlt, same_updR sm2 ha, ?_⟩
    rw [upd_same, htk, hp, if_pos rfl]
 ·have e : i = xs.length := by (first | lia | omega)
  subst e
  rw [List.take_length] at hacc
  exact .inl ⟨⟨xs, Fx sm, rfl⟩, fin acc H ha sm hacc⟩
theorem enF_hi {ns : List Int} : ∀ (k : Nat), k <= ns.length -> enF (fun i _ => hiP ns i) (fun _ x => x) 0 ((ns.map V.int).take k) = (((List.range k).filter (hiP ns)).map fun i : Nat => atO ns i).map V.int
 | 0, _ => rfl
 | k + 1, h => by
  have e1 : (ns.map V.int)[k]? = some (.int (atO ns k)) := by
   rw [List.getElem?_map, List.getElem?_eq_getElem (by (first | lia | omega)), atO_get (by (first | lia | omega))]
   rfl
  have hl : ((ns.map V.int).take k).length = k := by rw [List.length_take, mapI_len]; (first | lia | omega)
  rw [List.take_succ, e1, enF_append, enF_hi k (by (first | lia | omega)), hl, List.range_succ, List.filter_append, List.map_append, List.map_append]
  congr 1
  rw [Nat.zero_add, List.filter_cons]
  show (if hiP ns k then [V.int (atO ns k)] else []) ++ [] = _
  by_cases c : hiP ns k = true
  ·rw [if_pos c, if_pos c]
   rfl
  ·rw [if_neg c, if_neg c]
   rfl
theorem enF_hiL (ns : List Int) : enF (fun i _ => hiP ns i) (fun _ x => x) 0 (ns.map V.int) = (hiL ns).map V.int := by
 have := enF_hi (ns := ns) ns.length (Nat.le_refl _)
 rwa [List.take_of_length_le (by rw [mapI_len]; exact Nat.le_refl _)] at this
theorem mapI_inj' : ∀ {ns ms : List Int}, ns.map V.int = ms.map V.int -> ns = ms
 | [], [], _ => rfl
 | [], _ :: _, h => by cases h
 | _ :: _, [], h => by cases h
 | a :: l, b :: r, h => by
  rw [List.map_cons, List.map_cons] at h
  injection h with h1 h2
  injection h1 with h1
  rw [h1, mapI_inj' h2]
theorem eq_sorted {a b : List Int} (p : a.Perm b) (ha : a.Pairwise (· <= ·)) (hb : b.Pairwise (· <= ·)) : a = b :=
 p.eq_of_pairwise (fun x y _ _ h1 h2 => Int.le_antisymm h1 h2) ha hb
noncomputable def spLaw (K : PySem.W.Frag) : Sp := fun vs H Q _ => ∃ (a : Addr) (ns : List Int), vs = [.ref a] /\ SqL K H a (ns.map V.int) /\ ns.length <= 63 /\ ∀ H', Q (.bl true) H'
theorem wro_heads {m : Nat} {ns : List Int} (ho : Ord m ns) {Ms : List Int} (hM : Paired (fun (r : List Int) M => M ∈ r /\ ∀ y ∈ r, y <= M) (roundsO ns) Ms) : Ms.Perm ((wroR m ns).map hdI) /\ (roundsO ns).length = (wroR m ns).length := by
 have M : MetO ns m (roundsO ns) := by
  unfold roundsO
  rw [ho.len]
  exact met_walk ho (num0 m) (fun f hf => num0_mem hf) met_nil
 have rot : ∀ {A : List (List Int)} {Ms : List Int}, (∀ r ∈ A, ∃ x, IsRound ns x r) -> Paired (fun (r : List Int) M => M ∈ r /\ ∀ y ∈ r, y <= M) A Ms -> ∃ B, Paired RotM A B /\ B.map hdI = Ms := by
  intro A
  induction A with
  | nil =>
   intro Ms _ h
   cases h
   exact ⟨[], .nil, rfl⟩
  | cons r A ih =>
   intro Ms hA h
   cases h with
   | @cons _ MX _ _ h1 h2 =>
    obtain ⟨B, b1, b2⟩ := ih (fun r hr => hA r (List.mem_cons_of_mem _ hr)) h2
    have hj : r.idxOf MX < r.length := List.idxOf_lt_length_of_mem h1.1
    have hg : r.getD (r.idxOf MX) 0 = MX := by
     rw [List.getD_eq_getElem?_getD, List.getElem?_eq_getElem hj, List.getElem_idxOf hj]
     rfl
    refine ⟨(r.drop (r.idxOf MX) ++ r.take (r.idxOf MX)) :: B, .cons ⟨_, hj, rfl, fun y hy => by rw [hg]; exact h1.2 y hy⟩ b1, ?_⟩
    rw [List.map_cons, b2]
    congr 1
    obtain ⟨x, hx⟩ := hA r List.mem_cons_self
    obtain ⟨r1, r2⟩ := rot_round hx hj
    rw [r1.hd.1]
    rw [List.getD_eq_getElem?_getD, r2] at hg
    exact hg
 obtain ⟨B, hB, e⟩ := rot (fun r hr => by
  obtain ⟨f, f0, f1, rfl⟩ := M.row r hr
  exact ⟨f, row_is ho ⟨f0, f1⟩⟩) hM
 obtain ⟨C, hC, sC⟩ : ∃ C : List (List Int), C.Perm B /\ C.Pairwise fun a b => HT.lexLt b a = false := by
  refine ⟨B.mergeSort (fun a b => !HT.lexLt b a), List.mergeSort_perm _ _, ?_⟩
  have := List.pairwise_mergeSort (le := fun a b => !HT.lexLt b a) (fun a b c h1 h2 => ?_) (fun a b => ?_) B
  ·exact this.imp fun h => by simpa using h
  ·cases h3 : HT.lexLt c a with
   | false => rfl
   | true =>
    rcases Srt.lex_neg c b a h3 with h | h
    ·rw [h] at h2; cases h2
    ·rw [h] at h1; cases h1
  ·cases h1 : HT.lexLt b a with
   | false => rfl
   | true =>
    cases h2 : HT.lexLt a b with
    | false => rfl
    | true =>
     have := Srt.lex_trans a b a h2 h1
     rw [Srt.lex_irr] at this
     cases this
 have hW := wro_eq ho (wr_sorted ho rfl hB hC sC)
 subst hW
 refine ⟨?_, ?_⟩
 ·rw [<- e]
  exact (hC.map hdI).symm
 ·rw [hC.length_eq, <- Paired.length hB]
end L2
namespace K08
open PySem PySem.Spec PyProof.Rows L2
noncomputable abbrev s_law : Stmt := top 26
section
variable {P : Program} {w : World} {K : PySem.W.Frag} {mg : Str -> Option Value} {base : Heap}
theorem sc_law : FnScope ["_law_script", "_law_hand_here", "_law_turn", "_law_order_here", "_law_heard", "_law_heads"] ["_law_script"] (defScope s_law) := ⟨rfl, rfl, rfl, by decide +kernel, rfl, by decide +kernel, by decide +kernel⟩
set_option maxHeartbeats 8000000 in
theorem ok_law {f : Addr} {fd : FuncData} (F : Fun K "law" "law" s_law f fd) (T : Top mg) (C_law_hand : Cal P w K mg base 1 "_law_hand" ["_law_script"] (spHand K)) (C_law_size : Cal P w K mg base 2 "_law_size" ["_law_hand_here", "_law_most"] spSize)
  (C_law_order : Cal P w K mg base 3 "_law_order" ["_law_hand_here", "_law_many"] spOrder) (C_law_same : Cal P w K mg base 2 "_law_same" ["_law_found", "_law_due"] (spSame 1)) (C_law_rounds : Cal P w K mg base 1 "_law_rounds" ["_law_order_here"] spRounds) (C_law_written : Cal P w K mg base 2 "_law_written" ["_law_order_here"] spWro) (Cwritten : Cal P w K mg base 3 "written" ["order"] spWro) (Cunwritten : Cal P w K mg base 2 "unwritten" ["order"] spUnw) (Ccount : Cal P w K mg base 5 "count" ["kind", "order"] spCount2) : FnOk P w K mg base CX0 6 f fd ["_law_script"] (spLaw K) := by
 refine F.ok sc_law (fun vs H Q E h => ?_) (fun cdv A outer s H vs Q E hr h => ?_)
 ·obtain ⟨a, ns, rfl, _⟩ := h
  rfl
 ·obtain ⟨a, ns, rfl, hS, hl, k⟩ := h
  have hu : _ := hr.units
  refine ⟨_, (pss_cons (ps_set (i := 1) sc_law.nd rfl (Or.inl rfl) (pe_cal C_law_hand (hr.mono (by decide)) rfl (pa_cons (pv 0) pa_nil)))
   (pss_cons (ps_for PassesOwn.never rfl (pi_range1 rfl T.n_range (pa_cons pe_int pa_nil)) (pg_name (i := 2) sc_law.nd rfl (Or.inl rfl))
    (pss_cons (ps_set (i := 3) sc_law.nd rfl (Or.inl rfl) (pe_cal C_law_order (hr.mono (by decide)) rfl (pa_cons (pv 1) (pa_cons (pe_cal C_law_size (hr.mono (by decide)) rfl (pa_cons (pv 1) (pa_cons pe_int pa_nil))) pa_nil))))
    (pss_cons (ps_set (i := 4) sc_law.nd rfl (Or.inr rfl) (pe_cal Cwritten (hr.mono (by decide)) rfl (pa_cons (pv 3) pa_nil)))
    (pss_cons (ps_if (PW.pt (pw_or (pt_not (pt_val (pe_cal C_law_same (hr.mono (by decide)) rfl (pa_cons (pv 4) (pa_cons (pe_cal C_law_written (hr.mono (by decide)) rfl (pa_cons (pv 3) pa_nil)) pa_nil))))) (pw_or1 (pt_cmpR (op_neD hu) (pe_cal Cwritten (hr.mono (by decide)) rfl (pa_cons (pv 3) pa_nil)) (pv 4) (nomark _)))))
     (pss_one (ps_ret pe_bl))
     pss_nil)
    (pss_cons (ps_if (PW.pt (pw_or (pt_not (pt_val (pe_cal C_law_same (hr.mono (by decide)) rfl (pa_cons (pe_cal Cunwritten (hr.mono (by decide)) rfl (pa_cons (pv 4) pa_nil)) (pa_cons (pv 3) pa_nil))))) (pw_or1 (pt_cmpR (op_neD hu) (pe_cal Cwritten (hr.mono (by decide)) rfl (pa_cons (pe_cal Cunwritten (hr.mono (by decide)) rfl (pa_cons (pv 3) pa_nil)) pa_nil)) (pv 3) (nomark _)))))
     (pss_one (ps_ret pe_bl))
     pss_nil)
    (pss_cons (ps_lcset (i := 5) rfl sc_law.nd rfl rfl (N' := ["_law_k", "_law_number", "_law_heard"]) (n := 2) (ix := [4]) rfl (CompScope.of (sc := defScope s_law) (N := ["_law_script", "_law_hand_here", "_law_turn", "_law_order_here", "_law_heard", "_law_heads"]) (by decide +kernel) rfl rfl) (pi_enumT rfl T.n_enumerate (pa_cons (pv 4) pa_nil)) (fun _ _ _ _ _ => ⟨(pg_pairK K (i := 0) (j := 1) rfl rfl (show (["_law_k", "_law_number", "_law_heard"] : List Str).Nodup by decide +kernel) rfl rfl (Or.inl rfl) (Or.inl rfl) (Or.inr rfl) (Or.inr rfl)), (pts_one (pt_cmpR op_eq (pv 1) (pe_callB (call_maxT rfl) (by rfl) T.n_max boot_max (pa_cons (pe_slice sl_tupA (pv 2) po_none (po_some (pe_op op_add (pv 0) pe_int))) pa_nil)) (nomark _))), (pv 1)⟩))
    (pss_one (ps_if (PW.pt (pw_or (pt_cmpR (op_neD hu) (pv 5) (pe_callB call_sorted (by rfl) T.n_sorted boot_sorted (pa_cons (pe_lc (N' := ["_law_row"]) (n := 1) (ix := []) rfl (CompScope.of (sc := defScope s_law) (N := ["_law_script", "_law_hand_here", "_law_turn", "_law_order_here", "_law_heard", "_law_heads"]) (by decide +kernel) rfl rfl) (pi_tup (pe_cal C_law_rounds (hr.mono (by decide)) rfl (pa_cons (pv 3) pa_nil))) (fun _ _ _ _ _ => ⟨(pg_name (i := 0) (show (["_law_row"] : List Str).Nodup by decide +kernel) rfl (Or.inl rfl)), pts_nil, (pe_callB (call_maxT rfl) (by rfl) T.n_max boot_max (pa_cons (pv 0) pa_nil))⟩)) pa_nil)) (nomark _)) (pw_or1 (pt_cmpR op_ne (pe_cal Ccount (hr.mono (by decide)) rfl (pa_cons pe_str (pa_cons (pv 4) pa_nil))) (pe_cal Ccount (hr.mono (by decide)) rfl (pa_cons pe_str (pa_cons (pv 3) pa_nil))) (nomark _)))))
     (pss_one (ps_ret pe_bl))
     pss_nil))))))))
   (pss_one (ps_ret (pe_and (pe_cmpR (op_eqD hu) (pe_cal Cwritten (hr.mono (by decide)) rfl (pa_cons (pe_tup pa_nil) pa_nil)) (pe_tup pa_nil) (nomark _)) (pe_one (pe_cmpR (op_eqD hu) (pe_cal Cunwritten (hr.mono (by decide)) rfl (pa_cons (pe_tup pa_nil) pa_nil)) (pe_tup pa_nil) (nomark _)))))))), ?_⟩
  refine ⟨_, rfl, a, ns, rfl, hS, hl, fun p q H1 s1 hh1 hp0 hq0 => ?_⟩
  refine ⟨6, rfl, by decide, by decide, ?_⟩
  refine for_range (n := 6) (fun i σ H2 => ∃ (c2 c3 c4 c5 : Option V), σ = [some (.ref a), some (.ref p), c2, c3, c4, c5] /\ Hand H2 p q) ⟨none, none, none, none, rfl, hh1⟩ ?_ ?_
  ·rintro i σ H2 hi ⟨c2, c3, c4, c5, rfl, hh2⟩
   refine ⟨_, rfl, _, rfl, p, q, 60, rfl, by decide, by decide, hh2, fun m1 G4 m0 m1' hh4 k4 => ?_⟩
   obtain ⟨m, rfl⟩ : ∃ n : Nat, m1 = (n : Int) := ⟨m1.toNat, by (first | lia | omega)⟩
   refine ⟨p, q, m, rfl, by (first | lia | omega), hh4, fun o ys G5 ho hx hh5 k5 => ?_⟩
   have hm : m <= 60 := by (first | lia | omega)
   have ho : Ord m ys := ho
   have ln := ho.len
   have W := wro_ok ho
   have hWo : Ord m (wroR m ys).flatten := W.all
   have hWl := hWo.len
   have hcut : cutH (wroR m ys).flatten = wroR m ys := cutH_flat (wr_cut W)
   have hjoin : joinO m (cutH (wroR m ys).flatten) = ys := by rw [hcut]; exact join_wro ho W
   have hc2 := cutH_ok _ ys rfl ho.nodup
   have hp2 : (cutH ys).flatten.Perm (num0 m) := by rw [hc2.2]; exact ho
   have hJo := join_ord hp2
   have hJ : (wroR m (joinO m (cutH ys))).flatten = ys := by rw [<- wro_eq hJo (join_wr hp2 hc2.1)]; exact hc2.2
   refine ⟨_, rfl, o, ys, m, rfl, hx, ho, hm, fun h G6 s6 hh6 => ?_⟩
   have hx6 := s6 _ _ hx
   refine ⟨_, rfl, _, rfl, o, ys, m, rfl, hx6, ho, hm, fun w2 G7 s7 hw2 => ?_⟩
   refine ⟨_, _, rfl, alike_ints (s7 _ _ hh6) hw2 (by (first | lia | omega)), fun G8 s8 => ⟨_, rfl, iteF ?_⟩⟩
   have t8 := s7.trans s8
   refine ⟨_, rfl, o, ys, m, rfl, t8 _ _ hx6, ho, hm, fun w3 G9 s9 hw3 => ?_⟩
   have t9 := t8.trans s9
   refine ⟨_, rfl, neTT hw3 (t9 _ _ hh6) rfl ⟨_, rfl, iteF ?_⟩⟩
   refine ⟨_, rfl, h, _, m, rfl, t9 _ _ hh6, hWo, hm, fun u1 GA sA hu1 => ?_⟩
   rw [hjoin] at hu1
   have tA := t9.trans sA
   refine ⟨_, rfl, _, _, rfl, alike_ints hu1 (tA _ _ hx6) (by (first | lia | omega)), fun GB sB => ⟨_, rfl, iteF ?_⟩⟩
   have tB := tA.trans sB
   refine ⟨_, rfl, o, ys, m, rfl, tB _ _ hx6, ho, hm, fun u2 GC sC hu2 => ?_⟩
   refine ⟨u2, _, m, rfl, hu2, hJo, hm, fun u3 GD sD hu3 => ?_⟩
   rw [hJ] at hu3
   have tD := (tB.trans sC).trans sD
   refine ⟨_, rfl, neTT hu3 (tD _ _ hx6) rfl ⟨_, rfl, iteF ?_⟩⟩
   have hhD := tD _ _ hh6
   refine ⟨_, rfl, h, rfl, ⟨_, SqT.of hhD⟩, ?_⟩
   refine lc_enumF (xs := (wroR m ys).flatten.map V.int) (fun s' => SqT.of (s' _ _ hhD)) (by rw [mapI_len]; (first | lia | omega)) (fun i _ => hiP (wroR m ys).flatten i) (fun _ x => x) (fun i x hxi G s' Q' q' => ?_) (fun i x hxi _ G s' Q' q' => ⟨_, rfl, q'⟩) fun acc GE hacc sE hE => ?_
   ·obtain ⟨n, hn, rfl⟩ : ∃ n, (wroR m ys).flatten[i]? = some n /\ V.int n = x := by
     rw [List.getElem?_map] at hxi
     cases e : (wroR m ys).flatten[i]? with
     | none => rw [e] at hxi; cases hxi
     | some z => rw [e] at hxi; exact ⟨z, rfl, Option.some.inj hxi⟩
    have hil : i < (wroR m ys).flatten.length := (List.getElem?_eq_some_iff.mp hn).1
    have hat : atO (wroR m ys).flatten i = n := by
     rw [atO_get hil]
     exact (List.getElem?_eq_some_iff.mp hn).2
    refine ⟨_, rfl, _, rfl, _, rfl, _, _, rfl, rfl, _, rfl, h, _, rfl, s' _ _ hhD, fun z G2 u2 hz => ?_⟩
    rw [show ((i : Int) + 1) = ((i + 1 : Nat) : Int) by (first | lia | omega), cut_toV (by rw [mapI_len]; (first | lia | omega)), <- List.map_take] at hz
    have hmem : n ∈ (wroR m ys).flatten.take (i + 1) := List.mem_of_getElem? (i := i) (by rw [List.getElem?_take, if_pos (by (first | lia | omega))]; exact hn)
    refine ⟨z, _, rfl, hz, List.ne_nil_of_mem hmem, fun MX hM1 hM2 => ⟨rfl, _, rfl, ?_⟩⟩
    have e : hiP (wroR m ys).flatten i = decide (V.int n = V.int MX) := by
     unfold hiP
     rw [hat]
     by_cases c : n = MX
     ·rw [decide_eq_true (by rw [c]), List.all_eq_true]
      intro b hb
      exact decide_eq_true (by rw [c]; exact hM2 b hb)
     ·rw [decide_eq_false (fun z => c (V.int.inj z)), List.all_eq_false]
      have := hM2 n hmem
      exact ⟨MX, hM1, by simp; (first | lia | omega)⟩
    have := q' G2 u2
    rw [e] at this
    exact this
   rw [enF_hiL, hiL_cut _ _ rfl (wr_cut W)] at hE
   have tE := tD.trans sE
   have hxE := tE _ _ hx6
   refine ⟨_, rfl, _, rfl, o, ys, m, rfl, hxE, ho, by (first | lia | omega), fun rd zs GF sF hrd RA => ⟨rd, rfl, ⟨_, SqT.of hrd⟩, ?_⟩⟩
   have M : MetO ys m (roundsO ys) := by
    unfold roundsO
    rw [ho.len]
    exact met_walk ho (num0 m) (fun f hf => num0_mem hf) met_nil
   obtain ⟨ml1, ml2, ml3⟩ := M.lens ho
   have hzl := Paired.length RA
   refine lc_grow (yields_tup (xs := zs.map V.ref)) (small1 (by rw [List.length_map]; (first | lia | omega))) (fun x v _ => ∃ (z : Addr) (r : List Int) (MX : Int), x = .ref z /\ GF z = some (.tup (r.map V.int)) /\ v = .int MX /\ MX ∈ r /\ ∀ y ∈ r, y <= MX) (fun _ _ _ _ _ h => h) (fun G s' => SqT.of (s' _ _ hrd)) (fun x hx' G s' Q' q' => ?_) fun acc2 vs GG hacc2 sG hG2 PV => ?_
   ·obtain ⟨z, hz, rfl⟩ := List.mem_map.mp hx'
    obtain ⟨j, hj⟩ := List.getElem?_of_mem hz
    obtain ⟨r, hr1, hr2⟩ := paired_at RA hj
    have hrm := ml3 r (List.mem_of_getElem? hr1)
    exact ⟨_, rfl, z, r, rfl, s' _ _ hr2, (fun e => by rw [e] at hrm; exact absurd hrm.1 (by decide)), fun MX hM1 hM2 => q' _ _ (Same.refl G) ⟨z, r, MX, rfl, hr2, rfl, hM1, hM2⟩⟩
   have conv : ∀ {zs : List Addr} {rows : List (List Int)} {vs : List V}, RowsAt GF zs rows -> Paired (fun x v => ∃ (z : Addr) (r : List Int) (MX : Int), x = V.ref z /\ GF z = some (.tup (r.map V.int)) /\ v = .int MX /\ MX ∈ r /\ ∀ y ∈ r, y <= MX) (zs.map V.ref) vs -> ∃ Ms : List Int, vs = Ms.map V.int /\ Paired (fun (r : List Int) M => M ∈ r /\ ∀ y ∈ r, y <= M) rows Ms := by
    intro zs
    induction zs with
    | nil =>
     intro rows vs hR hP
     cases hR
     cases hP
     exact ⟨[], rfl, .nil⟩
    | cons z t ih =>
     intro rows vs hR hP
     cases hR with
     | cons r1 r2 =>
     cases hP with
     | cons p1 p2 =>
     obtain ⟨Ms, e, PM⟩ := ih r2 p2
     obtain ⟨z', r, MX, e1, e2, e3, e4, e5⟩ := p1
     cases e1
     rw [r1] at e2
     have er := mapI_inj' (by injection e2 with e2; injection e2)
     subst er
     exact ⟨MX :: Ms, by rw [e, e3]; rfl, .cons ⟨e4, e5⟩ PM⟩
   obtain ⟨Ms, rfl, PM⟩ := conv RA PV
   obtain ⟨hperm, hlenR⟩ := wro_heads ho PM
   have hMl : Ms.length = (roundsO ys).length := (Paired.length PM).symm
   refine ⟨acc2, Ms, rfl, hG2, by (first | lia | omega), fun sp ns' pn sn hsp => ?_⟩
   have u1 := same_upd (o := .lst (ns'.map V.int)) hsp
   have eh : (wroR m ys).map hdI = ns' := by
    refine eq_sorted ((pn.trans hperm).symm) ?_ sn
    exact List.pairwise_map.mpr (W.up.imp fun h => Int.le_of_lt h)
   have tF := (sF.trans sG).trans u1
   refine neLL (tF _ _ hE) upd_same eh ⟨_, rfl, iteF ?_⟩
   have tG := tE.trans tF
   refine ⟨_, rfl, _, h, _, m, rfl, tG _ _ hh6, hWo, hm, .inr ⟨rfl, fun GI sI => ?_⟩⟩
   refine ⟨_, rfl, _, o, ys, m, rfl, (tG.trans sI) _ _ hx6, ho, hm, .inl ⟨rfl, fun GJ sJ => ⟨rfl, _, rfl, ?_⟩⟩⟩
   have ec : highsO (wroR m ys).flatten = ((roundsO ys).length : Int) := by
    rw [highs_len, hiL_cut _ _ rfl (wr_cut W), List.length_map, hlenR]
   rw [ec, decide_eq_true rfl]
   refine iteF ⟨_, _, _, _, rfl, ?_⟩
   exact hh5.same (s6.trans ((tG.trans sI).trans sJ))
  ·rintro σ H2 ⟨c2, c3, c4, c5, rfl, hh2⟩
   refine ⟨Nat.zero_le _, fun e1 he1 => ?_⟩
   have o0 : Ord 0 [] := List.Perm.refl _
   have w0 : (wroR 0 ([] : List Int)).flatten = [] := List.eq_nil_of_length_eq_zero (by rw [(wro_ok o0).all.length_eq, num0_len'])
   have u1 := same_upd (o := .tup []) he1
   refine ⟨e1, [], 0, rfl, upd_same, o0, by decide, fun w1 G1 s1 hw1 => ?_⟩
   rw [w0] at hw1
   refine ⟨Nat.zero_le _, fun e2 he2 => ?_⟩
   have u2 := same_upd (o := .tup []) he2
   refine eqTT (ns := []) (ms := []) (u2 _ _ hw1) upd_same rfl ?_
   refine ⟨_, rfl, iteT ?_⟩
   refine ⟨Nat.zero_le _, fun e3 he3 => ?_⟩
   refine ⟨e3, [], 0, rfl, upd_same, o0, by decide, fun w2 G2 s2 hw2 => ?_⟩
   refine ⟨Nat.zero_le _, fun e4 he4 => ?_⟩
   have u4 := same_upd (o := .tup []) he4
   exact eqTT (ns := []) (ms := []) (u4 _ _ hw2) upd_same rfl (k _)
end
end K08
namespace K08
open PySem PySem.Spec PyProof.Rows L2
set_option maxHeartbeats 8000000 in
theorem all_mk {l : PySem.W.OpenLaw} {w : World} {K : PySem.W.Frag} {h : Heap} {mg : Str -> Option Value} {fa C_COUNTERS g_rounds_in g_stays_in g_rises_in g_highs_in g_crossed_in g_longest_in : Addr} (X : K.In h) (G : h.Ns mainGlobals mg) (hfa : mg "law" = some (.ref fa)) (TK : TopK K) (a_COUNTERS : PySem.W.nsIn K mainGlobals "COUNTERS" = some (some (.ref C_COUNTERS))) (GD_COUNTERS : GDict K w.params C_COUNTERS [("rounds", g_rounds_in), ("stays", g_stays_in), ("rises", g_rises_in), ("highs", g_highs_in), ("crossed", g_crossed_in), ("longest", g_longest_in)]) (n_rounds_in : PySem.W.nsIn K mainGlobals "rounds_in" = some (some (.ref g_rounds_in))) (n_stays_in : PySem.W.nsIn K mainGlobals "stays_in" = some (some (.ref g_stays_in))) (n_rises_in : PySem.W.nsIn K mainGlobals "rises_in" = some (some (.ref g_rises_in))) (n_highs_in : PySem.W.nsIn K mainGlobals "highs_in" = some (some (.ref g_highs_in))) (n_crossed_in : PySem.W.nsIn K mainGlobals "crossed_in" = some (some (.ref g_crossed_in))) (n_longest_in : PySem.W.nsIn K mainGlobals "longest_in" = some (some (.ref g_longest_in)))
  (d_round_from : Def K "round_from" s_round_from) (d_rounds_met : Def K "rounds_met" s_rounds_met) (d_rounds_of : Def K "rounds_of" s_rounds_of) (d_written : Def K "written" s_written) (d_cut_at_highs : Def K "cut_at_highs" s_cut_at_highs) (d_joined : Def K "joined" s_joined) (d_unwritten : Def K "unwritten" s_unwritten) (d_rounds_in : Def K "rounds_in" s_rounds_in) (d_highs_in : Def K "highs_in" s_highs_in) (d_count : Def K "count" s_count) (d__law_hand : Def K "_law_hand" s__law_hand) (d__law_pick : Def K "_law_pick" s__law_pick) (d__law_size : Def K "_law_size" s__law_size) (d__law_any : Def K "_law_any" s__law_any) (d__law_order : Def K "_law_order" s__law_order) (d__law_same : Def K "_law_same" s__law_same) (d__law_rounds : Def K "_law_rounds" s__law_rounds) (d__law_written : Def K "_law_written" s__law_written) (d_law : Def K "law" s_law) :
  ∃ fd : FuncData, (∀ (s : Shared) (v : Value), BindsTo s fd ⟨[v], []⟩ [("_law_script", v)]) /\ ∀ base : Heap, K.In base -> base.Ns mainGlobals mg -> FnOk l.prog w K mg base CX0 6 fa fd ["_law_script"] (spLaw K) := by
 have T : Top mg := TK.top X G
 obtain ⟨f_round_from, e_round_from, F_round_from, m_round_from⟩ := d_round_from.fn X G
 obtain ⟨f_rounds_met, e_rounds_met, F_rounds_met, m_rounds_met⟩ := d_rounds_met.fn X G
 obtain ⟨f_rounds_of, e_rounds_of, F_rounds_of, m_rounds_of⟩ := d_rounds_of.fn X G
 obtain ⟨f_written, e_written, F_written, m_written⟩ := d_written.fn X G
 obtain ⟨f_cut_at_highs, e_cut_at_highs, F_cut_at_highs, m_cut_at_highs⟩ := d_cut_at_highs.fn X G
 obtain ⟨f_joined, e_joined, F_joined, m_joined⟩ := d_joined.fn X G
 obtain ⟨f_unwritten, e_unwritten, F_unwritten, m_unwritten⟩ := d_unwritten.fn X G
 obtain ⟨f_rounds_in, e_rounds_in, F_rounds_in, m_rounds_in⟩ := d_rounds_in.fn X G
 obtain ⟨f_highs_in, e_highs_in, F_highs_in, m_highs_in⟩ := d_highs_in.fn X G
 obtain ⟨f_count, e_count, F_count, m_count⟩ := d_count.fn X G
 obtain ⟨f__law_hand, e__law_hand, F__law_hand, m__law_hand⟩ := d__law_hand.fn X G
 obtain ⟨f__law_pick, e__law_pick, F__law_pick, m__law_pick⟩ := d__law_pick.fn X G
 obtain ⟨f__law_size, e__law_size, F__law_size, m__law_size⟩ := d__law_size.fn X G
 obtain ⟨f__law_any, e__law_any, F__law_any, m__law_any⟩ := d__law_any.fn X G
 obtain ⟨f__law_order, e__law_order, F__law_order, m__law_order⟩ := d__law_order.fn X G
 obtain ⟨f__law_same, e__law_same, F__law_same, m__law_same⟩ := d__law_same.fn X G
 obtain ⟨f__law_rounds, e__law_rounds, F__law_rounds, m__law_rounds⟩ := d__law_rounds.fn X G
 obtain ⟨f__law_written, e__law_written, F__law_written, m__law_written⟩ := d__law_written.fn X G
 obtain ⟨f_law, e_law, F_law, m_law⟩ := d_law.fn X G
 have b_round_from := F_round_from.binds (ps := ["order", "first"]) fun _ _ _ _ _ _ us hl => match us, hl with | [_, _], _ => rfl
 have b_rounds_met := F_rounds_met.binds (ps := ["order", "firsts"]) fun _ _ _ _ _ _ us hl => match us, hl with | [_, _], _ => rfl
 have b_rounds_of := F_rounds_of.binds (ps := ["order"]) fun _ _ _ _ _ _ us hl => match us, hl with | [_], _ => rfl
 have b_written := F_written.binds (ps := ["order"]) fun _ _ _ _ _ _ us hl => match us, hl with | [_], _ => rfl
 have b_cut_at_highs := F_cut_at_highs.binds (ps := ["order"]) fun _ _ _ _ _ _ us hl => match us, hl with | [_], _ => rfl
 have b_joined := F_joined.binds (ps := ["rounds", "many"]) fun _ _ _ _ _ _ us hl => match us, hl with | [_, _], _ => rfl
 have b_unwritten := F_unwritten.binds (ps := ["order"]) fun _ _ _ _ _ _ us hl => match us, hl with | [_], _ => rfl
 have b_rounds_in := F_rounds_in.binds (ps := ["order"]) fun _ _ _ _ _ _ us hl => match us, hl with | [_], _ => rfl
 have b_highs_in := F_highs_in.binds (ps := ["order"]) fun _ _ _ _ _ _ us hl => match us, hl with | [_], _ => rfl
 have b_count := F_count.binds (ps := ["kind", "order"]) fun _ _ _ _ _ _ us hl => match us, hl with | [_, _], _ => rfl
 have b__law_hand := F__law_hand.binds (ps := ["_law_script"]) fun _ _ _ _ _ _ us hl => match us, hl with | [_], _ => rfl
 have b__law_pick := F__law_pick.binds (ps := ["_law_hand_here", "_law_many"]) fun _ _ _ _ _ _ us hl => match us, hl with | [_, _], _ => rfl
 have b__law_size := F__law_size.binds (ps := ["_law_hand_here", "_law_most"]) fun _ _ _ _ _ _ us hl => match us, hl with | [_, _], _ => rfl
 have b__law_any := F__law_any.binds (ps := ["_law_hand_here", "_law_many"]) fun _ _ _ _ _ _ us hl => match us, hl with | [_, _], _ => rfl
 have b__law_order := F__law_order.binds (ps := ["_law_hand_here", "_law_many"]) fun _ _ _ _ _ _ us hl => match us, hl with | [_, _], _ => rfl
 have b__law_same := F__law_same.binds (ps := ["_law_found", "_law_due"]) fun _ _ _ _ _ _ us hl => match us, hl with | [_, _], _ => rfl
 have b__law_rounds := F__law_rounds.binds (ps := ["_law_order_here"]) fun _ _ _ _ _ _ us hl => match us, hl with | [_], _ => rfl
 have b__law_written := F__law_written.binds (ps := ["_law_order_here"]) fun _ _ _ _ _ _ us hl => match us, hl with | [_], _ => rfl
 have e : fa = f_law := by
  have q := hfa.symm.trans m_law
  cases q
  rfl
 subst e
 obtain ⟨oc, od, kV, doc, pm, an, cdv, ct, osl, rfl, lk, hcd⟩ := F_law.ex
 refine ⟨PySem.W.fnOf "law" "law" (defArgs s_law) (defBody s_law) (defScope s_law) .none kV doc pm an cdv ct, fun s v => .of_eq rfl, fun base _ _ => ?_⟩
 have Cround_from : Cal l.prog w K mg base 1 "round_from" ["order", "first"] (spRoundFrom) := ⟨f_round_from, e_round_from, ok_round_from F_round_from T, m_round_from, F_round_from.kp, b_round_from⟩
 have Crounds_met : Cal l.prog w K mg base 2 "rounds_met" ["order", "firsts"] (spRoundsMet) := ⟨f_rounds_met, e_rounds_met, ok_rounds_met F_rounds_met T Cround_from, m_rounds_met, F_rounds_met.kp, b_rounds_met⟩
 have Crounds_of : Cal l.prog w K mg base 3 "rounds_of" ["order"] (spRounds) := ⟨f_rounds_of, e_rounds_of, ok_rounds_of F_rounds_of T Crounds_met, m_rounds_of, F_rounds_of.kp, b_rounds_of⟩
 have Cwritten : Cal l.prog w K mg base 3 "written" ["order"] (spWro) := ⟨f_written, e_written, ok_written F_written T Crounds_met, m_written, F_written.kp, b_written⟩
 have Ccut_at_highs : Cal l.prog w K mg base 1 "cut_at_highs" ["order"] (spCut) := ⟨f_cut_at_highs, e_cut_at_highs, ok_cut_at_highs F_cut_at_highs , m_cut_at_highs, F_cut_at_highs.kp, b_cut_at_highs⟩
 have Cjoined : Cal l.prog w K mg base 1 "joined" ["rounds", "many"] (spJoined) := ⟨f_joined, e_joined, ok_joined F_joined T, m_joined, F_joined.kp, b_joined⟩
 have Cunwritten : Cal l.prog w K mg base 2 "unwritten" ["order"] (spUnw) := ⟨f_unwritten, e_unwritten, ok_unwritten F_unwritten T Cjoined Ccut_at_highs, m_unwritten, F_unwritten.kp, b_unwritten⟩
 have Crounds_in : Cal l.prog w K mg base 4 "rounds_in" ["order"] (spCnt fun ns => ((roundsO ns).length : Int)) := ⟨f_rounds_in, e_rounds_in, ok_rounds_in F_rounds_in T Crounds_of, m_rounds_in, F_rounds_in.kp, b_rounds_in⟩
 have Chighs_in : Cal l.prog w K mg base 1 "highs_in" ["order"] (spCnt highsO) := ⟨f_highs_in, e_highs_in, ok_highs_in F_highs_in , m_highs_in, F_highs_in.kp, b_highs_in⟩
 have Ccount : Cal l.prog w K mg base 5 "count" ["kind", "order"] (spCount2) := ⟨f_count, e_count, ok_count F_count (PySem.W.mg_of X G a_COUNTERS) GD_COUNTERS (CalF.of Crounds_in (PySem.W.mg_of X G n_rounds_in) (by decide)) (CalF.of Chighs_in (PySem.W.mg_of X G n_highs_in) (by decide)), m_count, F_count.kp, b_count⟩
 have C_law_hand : Cal l.prog w K mg base 1 "_law_hand" ["_law_script"] (spHand K) := ⟨f__law_hand, e__law_hand, ok__law_hand F__law_hand , m__law_hand, F__law_hand.kp, b__law_hand⟩
 have C_law_pick : Cal l.prog w K mg base 1 "_law_pick" ["_law_hand_here", "_law_many"] (spPick) := ⟨f__law_pick, e__law_pick, ok__law_pick F__law_pick , m__law_pick, F__law_pick.kp, b__law_pick⟩
 have C_law_size : Cal l.prog w K mg base 2 "_law_size" ["_law_hand_here", "_law_most"] (spSize) := ⟨f__law_size, e__law_size, ok__law_size F__law_size C_law_pick, m__law_size, F__law_size.kp, b__law_size⟩
 have C_law_any : Cal l.prog w K mg base 2 "_law_any" ["_law_hand_here", "_law_many"] (spAny) := ⟨f__law_any, e__law_any, ok__law_any F__law_any T C_law_pick, m__law_any, F__law_any.kp, b__law_any⟩
 have C_law_order : Cal l.prog w K mg base 3 "_law_order" ["_law_hand_here", "_law_many"] (spOrder) := ⟨f__law_order, e__law_order, ok__law_order F__law_order T C_law_pick C_law_any, m__law_order, F__law_order.kp, b__law_order⟩
 have C_law_same : Cal l.prog w K mg base 2 "_law_same" ["_law_found", "_law_due"] (spSame 1) := ⟨f__law_same, e__law_same, ok__law_same F__law_same T m__law_same b__law_same 1, m__law_same, F__law_same.kp, b__law_same⟩
 have C_law_rounds : Cal l.prog w K mg base 1 "_law_rounds" ["_law_order_here"] (spRounds) := ⟨f__law_rounds, e__law_rounds, ok__law_rounds F__law_rounds T, m__law_rounds, F__law_rounds.kp, b__law_rounds⟩
 have C_law_written : Cal l.prog w K mg base 2 "_law_written" ["_law_order_here"] (spWro) := ⟨f__law_written, e__law_written, ok__law_written F__law_written T C_law_rounds, m__law_written, F__law_written.kp, b__law_written⟩
 exact ok_law F_law T C_law_hand C_law_size C_law_order C_law_same C_law_rounds C_law_written Cwritten Cunwritten Ccount
theorem walk {l : PySem.W.OpenLaw} {q : Program} {loose : List Str} {XP : (Str -> Option Value) -> Heap -> Prop} {YP : World -> Heap -> Prop} {d : DefRec} {K : Params -> PySem.W.Frag} (hn : l.most = some 63) (hdf : d.params.defaults = [])
  (hY : ∀ (w : World) (h : Heap), YP w h -> (K w.params).In h)
  (F : ∀ (w : World) (mg : Str -> Option Value) (fa : Addr) (h : Heap), (K w.params).In h -> h.Ns mainGlobals mg -> mg d.name = some (.ref fa) ->
   ∃ fd : FuncData, (∀ (s : Shared) (u : Value), BindsTo s fd ⟨[u], []⟩ [("_law_script", u)]) /\ ∀ base : Heap, (K w.params).In base -> base.Ns mainGlobals mg -> FnOk l.prog w (K w.params) mg base CX0 6 fa fd ["_law_script"] (spLaw (K w.params))) :
  PySem.W.WalkO q loose XP YP l.row.toRowW d [] (fun f vs => PySem.call f vs) :=
 L2.walk_of (n := 63) (k := 6) (x := "_law_script") (CX := fun _ => CX0) (sp := fun w => spLaw (K w.params)) hn (by decide) hdf ⟨rfl, by decide, by decide, rfl⟩ hY F (fun _ _ a ns hl _ hS => ⟨a, ns, rfl, hS, hl, fun _ => rfl⟩) fun _ _ _ _ _ z => z
end K08
open PySem PySem.W PyProof.Rows
set_option maxRecDepth 100000 in
set_option maxHeartbeats 0 in
theorem PySem.Challenge.cw_shuffletold_k08_written_and_unwritten_holds : PySem.Challenge.rw_shuffletold_k08_written_and_unwritten.Holds := by
 w_on; o_law; k_head; (case hw => w_witness2)
 k_fill
 refine K08.walk (l := PySem.Challenge.rw_shuffletold_k08_written_and_unwritten) rfl rfl (fun w h Y => PySem.W.kIn_of Y) ?F
 case F =>
  intro w mg fa h KX G hmg
  refine' K08.all_mk KX G hmg ⟨?_, ?_, ?_, ?_, ?_, ?_, ?_, ?_, ?_, ?_, ?_, ?_, ?_, ?_, ?_⟩ ?dA0 (L2.GDict.of ?dL0 ?dE0 ?dN0) ?nF0 ?nF1 ?nF2 ?nF3 ?nF4 ?nF5 (L2.Def.of ?a0 ?l0 ?c0 ?k0) (L2.Def.of ?a1 ?l1 ?c1 ?k1) (L2.Def.of ?a2 ?l2 ?c2 ?k2) (L2.Def.of ?a3 ?l3 ?c3 ?k3) (L2.Def.of ?a4 ?l4 ?c4 ?k4) (L2.Def.of ?a5 ?l5 ?c5 ?k5) (L2.Def.of ?a6 ?l6 ?c6 ?k6) (L2.Def.of ?a7 ?l7 ?c7 ?k7) (L2.Def.of ?a8 ?l8 ?c8 ?k8) (L2.Def.of ?a9 ?l9 ?c9 ?k9) (L2.Def.of ?a10 ?l10 ?c10 ?k10) (L2.Def.of ?a11 ?l11 ?c11 ?k11) (L2.Def.of ?a12 ?l12 ?c12 ?k12) (L2.Def.of ?a13 ?l13 ?c13 ?k13) (L2.Def.of ?a14 ?l14 ?c14 ?k14) (L2.Def.of ?a15 ?l15 ?c15 ?k15) (L2.Def.of ?a16 ?l16 ?c16 ?k16) (L2.Def.of ?a17 ?l17 ?c17 ?k17) (L2.Def.of ?a18 ?l18 ?c18 ?k18)
  (case dA0 => k_is); (case dL0 => k_is); (case dE0 => exact (.cons (.cons (.cons (.cons (.cons (.cons .nil))))))); (case dN0 => decide +kernel)
  (case nF0 => k_is)
  (case nF1 => k_is)
  (case nF2 => k_is)
  (case nF3 => k_is)
  (case nF4 => k_is)
  (case nF5 => k_is)
  (case a0 => k_is); (case l0 => k_is); (case c0 => k_is); (case k0 => k_is)
  (case a1 => k_is); (case l1 => k_is); (case c1 => k_is); (case k1 => k_is)
  (case a2 => k_is); (case l2 => k_is); (case c2 => k_is); (case k2 => k_is)
  (case a3 => k_is); (case l3 => k_is); (case c3 => k_is); (case k3 => k_is)
  (case a4 => k_is); (case l4 => k_is); (case c4 => k_is); (case k4 => k_is)
  (case a5 => k_is); (case l5 => k_is); (case c5 => k_is); (case k5 => k_is)
  (case a6 => k_is); (case l6 => k_is); (case c6 => k_is); (case k6 => k_is)
  (case a7 => k_is); (case l7 => k_is); (case c7 => k_is); (case k7 => k_is)
  (case a8 => k_is); (case l8 => k_is); (case c8 => k_is); (case k8 => k_is)
  (case a9 => k_is); (case l9 => k_is); (case c9 => k_is); (case k9 => k_is)
  (case a10 => k_is); (case l10 => k_is); (case c10 => k_is); (case k10 => k_is)
  (case a11 => k_is); (case l11 => k_is); (case c11 => k_is); (case k11 => k_is)
  (case a12 => k_is); (case l12 => k_is); (case c12 => k_is); (case k12 => k_is)
  (case a13 => k_is); (case l13 => k_is); (case c13 => k_is); (case k13 => k_is)
  (case a14 => k_is); (case l14 => k_is); (case c14 => k_is); (case k14 => k_is)
  (case a15 => k_is); (case l15 => k_is); (case c15 => k_is); (case k15 => k_is)
  (case a16 => k_is); (case l16 => k_is); (case c16 => k_is); (case k16 => k_is)
  (case a17 => k_is); (case l17 => k_is); (case c17 => k_is); (case k17 => k_is)
  (case a18 => k_is); (case l18 => k_is); (case c18 => k_is); (case k18 => k_is)
  all_goals k_is
