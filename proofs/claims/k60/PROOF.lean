import PyProof.Rows.All
import Wide.All
import OpenK.AllK
import Wide.FinOn
import Lean
import PyProof.EqAt
import PyProof.EqKinds
import PyProof.TupleCall
import PySem.Challenge.RW_shuffletold_k60_tables_by_numbers_put_in
set_option Elab.async false
set_option linter.all false
set_option maxRecDepth 100000
set_option genSizeOfSpec false
namespace L2
open PySem PySem.Spec PyProof.Rows
noncomputable abbrev Key := Sum Int Str
noncomputable def keyIs : Key -> Value -> Bool
 | .inl k, v => Value.isInt k v
 | .inr x, v => Value.isStrOf x v
noncomputable def keyH (w : World) : Key -> Int
 | .inl k => hashInt k
 | .inr x => hashStr w x
theorem keyIs_shape : ∀ {k : Key} {v : Value}, keyIs k v = true -> (∃ i t, k = Sum.inl i /\ v = Value.int i t) ∨ (∃ x t, k = Sum.inr x /\ v = Value.str x t)
 | .inl i, v, h => by
  obtain ⟨t, e⟩ := Value.isInt_shape (k := i) (v := v) h
  exact .inl ⟨i, t, rfl, e⟩
 | .inr x, v, h => by
  obtain ⟨t, e⟩ := Value.isStrOf_shape (x := x) (v := v) h
  exact .inr ⟨x, t, rfl, e⟩
theorem key_ll (a b : Int) : decide ((Sum.inl a : Key) = Sum.inl b) = (a == b) := by
 by_cases e : a = b
 ·subst e; simp
 ·have h : ¬ (Sum.inl a : Key) = Sum.inl b := fun q => e (Sum.inl.inj q)
  rw [decide_eq_false h]
  exact (beq_eq_false_iff_ne.mpr e).symm
theorem key_rr (a b : Str) : decide ((Sum.inr a : Key) = Sum.inr b) = decide (a = b) := by
 by_cases e : a = b
 ·subst e; simp
 ·have h : ¬ (Sum.inr a : Key) = Sum.inr b := fun q => e (Sum.inr.inj q)
  rw [decide_eq_false h, decide_eq_false e]
theorem key_lr (a : Int) (b : Str) : decide ((Sum.inl a : Key) = Sum.inr b) = false := decide_eq_false (fun q => nomatch q)
theorem key_rl (a : Str) (b : Int) : decide ((Sum.inr a : Key) = Sum.inl b) = false := decide_eq_false (fun q => nomatch q)
noncomputable def mixKind (prog : Program) (w : World) : PySem.KeyKind prog w Key where
 is := keyIs
 hash := keyH w
 inj := fun v a b ha hb => by
  rcases keyIs_shape ha with ⟨i, t, rfl, rfl⟩ | ⟨x, t, rfl, rfl⟩
  ·rcases keyIs_shape hb with ⟨j, u, rfl, e⟩ | ⟨y, u, rfl, e⟩
   ·injection e with e1 _; rw [e1]
   ·exact nomatch e
  ·rcases keyIs_shape hb with ⟨j, u, rfl, e⟩ | ⟨y, u, rfl, e⟩
   ·exact nomatch e
   ·injection e with e1 _; rw [e1]
 byValue := fun k v h => by
  rcases keyIs_shape h with ⟨i, t, rfl, rfl⟩ | ⟨x, t, rfl, rfl⟩ <;> rfl
 pyHash := fun hv h => by
  rcases keyIs_shape hv with ⟨i, t, rfl, rfl⟩ | ⟨x, t, rfl, rfl⟩
  ·exact wpAny_pyHash_int h
  ·exact wpAny_pyHash_str h
 eqBool := fun hu hv h => by
  rcases keyIs_shape hu with ⟨i, t, rfl, rfl⟩ | ⟨x, t, rfl, rfl⟩
  ·rcases keyIs_shape hv with ⟨j, u, rfl, rfl⟩ | ⟨y, u, rfl, rfl⟩
   ·rw [key_ll] at h; exact wpAny_eqBool_int h
   ·rw [key_lr] at h; exact SeqAt.EqAt.int_str i t y u _ _ _ _ h
  ·rcases keyIs_shape hv with ⟨j, u, rfl, rfl⟩ | ⟨y, u, rfl, rfl⟩
   ·rw [key_rl] at h; exact SeqAt.EqAt.str_int x t j u _ _ _ _ h
   ·rw [key_rr] at h; exact wpAny_eqBool_str h
 «strs» := fun k x t v h => by
  rcases keyIs_shape h with ⟨i, u, rfl, e⟩ | ⟨y, u, rfl, e⟩
  ·exact nomatch e
  ·injection e with e1 _
   subst e1
   cases v <;> rfl
end L2
namespace L2
open PySem PySem.Spec PyProof.Rows
inductive V where
 | non | bl (b : Bool) | int (i : Int) | str (x : Str) | byt (b : Array UInt8) | flt (b : UInt64) | ref (a : Addr) | ty (n : String)
 deriving DecidableEq
noncomputable def RelV : V -> Value -> Prop
 | .non, u => u = Value.none
 | .bl b, u => u = Value.bool b
 | .int i, u => ∃ t, u = Value.int i t
 | .str x, u => ∃ t, u = Value.str x t
 | .byt b, u => ∃ t, u = Value.bytes b t
 | .flt b, u => ∃ t, u = Value.float b t
 | .ref a, u => u = Value.ref a
 | .ty n, u => u = Value.type n
noncomputable abbrev Vals : List V -> List Value -> Prop := Paired RelV
theorem Vals.length {xs : List V} {us : List Value} (r : Vals xs us) : xs.length = us.length := Paired.length r
theorem Vals.get : ∀ {xs : List V} {us : List Value} {i : Nat} {x : V}, Vals xs us -> xs[i]? = some x -> ∃ u, us[i]? = some u /\ RelV x u
 | _, _, _, _, .nil, e => by simp at e
 | _, _, 0, _, .cons r _, e => by simp at e; subst e; exact ⟨_, rfl, r⟩
 | _, _, i + 1, x, .cons _ t, e => by
  obtain ⟨u, h1, h2⟩ := Vals.get (i := i) (x := x) t (by simpa using e)
  exact ⟨u, by simpa using h1, h2⟩
theorem Vals.set {x : V} {u : Value} (r : RelV x u) : ∀ {xs : List V} {us : List Value} (i : Nat), Vals xs us -> Vals (xs.set i x) (us.set i u)
 | _, _, _, .nil => .nil
 | _, _, 0, .cons _ t => .cons r t
 | _, _, i + 1, .cons q t => .cons q (Vals.set r i t)
theorem Vals.append : ∀ {xs ys : List V} {us ws : List Value}, Vals xs us -> Vals ys ws -> Vals (xs ++ ys) (us ++ ws)
 | _, _, _, _, .nil, s => s
 | _, _, _, _, .cons r t, s => .cons r (Vals.append t s)
theorem Vals.take : ∀ {xs : List V} {us : List Value} (n : Nat), Vals xs us -> Vals (xs.take n) (us.take n)
 | _, _, 0, _ => .nil
 | _, _, _ + 1, .nil => .nil
 | _, _, n + 1, .cons r t => .cons r (Vals.take n t)
theorem Vals.drop : ∀ {xs : List V} {us : List Value} (n : Nat), Vals xs us -> Vals (xs.drop n) (us.drop n)
 | _, _, 0, r => r
 | _, _, _ + 1, .nil => .nil
 | _, _, n + 1, .cons _ t => Vals.drop n t
theorem Vals.none_of : ∀ {xs : List V} {us : List Value} {i : Nat}, Vals xs us -> xs[i]? = none -> us[i]? = none := fun {xs us i} r e => by
 have h1 := r.length
 have h2 : xs.length <= i := List.getElem?_eq_none_iff.mp e
 exact List.getElem?_eq_none_iff.mpr (by (first | lia | omega))
noncomputable def RelO : Option V -> Option Value -> Prop
 | some v, some u => RelV v u
 | none, none => True
 | _, _ => False
noncomputable def KV {κ : Type} : List (κ × V) -> List (κ × Value) -> Prop := Paired fun (p : κ × V) (q : κ × Value) => p.1 = q.1 /\ RelV p.2 q.2
noncomputable def kV : Key -> V
 | .inl i => .int i
 | .inr x => .str x
inductive HO where
  | lst (xs : List V)
  | tup (xs : List V)
  | dK (kvs : List (Key × V)) | dT (kvs : List (List Key × V))
  | set (S : Int -> Bool) (n : Nat)
  | ins (C dx : Addr) (fs : List (Str × V))
  | own (x : Addr)
  | xd (fs : List (Str × V))
  | met (f x : Addr)
  | rng (lo hi : Int)
  | frz (o : Obj) (u : HO)
  | tbl (ps : Array Value)
  | ext (φ : Heap -> Prop)
noncomputable abbrev Hp := Addr -> Option HO
noncomputable def upd (H : Hp) (a : Addr) (o : HO) : Hp := fun b => if b = a then some o else H b
theorem upd_same {H : Hp} {a : Addr} {o : HO} : upd H a o a = some o := by unfold upd; rw [if_pos rfl]
theorem upd_ne {H : Hp} {a b : Addr} {o : HO} (h : b ≠ a) : upd H a o b = H b := by unfold upd; rw [if_neg h]
theorem upd_upd {H : Hp} {a : Addr} {o u : HO} : upd (upd H a o) a u = upd H a u := by
 funext b; unfold upd; split <;> rfl
theorem ne_of {H : Hp} {a b : Addr} {o u : HO} (h : H a = some o) (h' : H b = some u) (d : o ≠ u) : a ≠ b := by
 intro e; subst e; rw [h] at h'; exact d (Option.some.inj h')
theorem ne_of_none {H : Hp} {a b : Addr} {o : HO} (h : H a = some o) (h' : H b = none) : a ≠ b := by
 intro e; subst e; rw [h] at h'; cases h'
noncomputable def PTup (h : Heap) (a : Addr) (items : Array Value) : Prop := ∃ o, h.get? a = some o /\ o.cls = .type "tuple" /\ (∃ n, o.data = .seq items n) /\ o.dict = none /\ o.slots = #[]
theorem PTup.tup {h : Heap} {a : Addr} {items : Array Value} (p : PTup h a items) : IsTup h a items := by
 obtain ⟨o, e, c, d, _⟩ := p
 exact ⟨o, e, c, d⟩
theorem PTup.new {h : Heap} {items : Array Value} {n : Nat} : PTup (h.push { cls := .type "tuple", data := .seq items n }) h.objs.size items := ⟨_, Heap.get?_push_size _ rfl, rfl, ⟨_, rfl⟩, rfl, rfl⟩
section
variable (P : Program) (w : World)
noncomputable def ObjOk (H : Hp) (h : Heap) (a : Addr) : HO -> Prop
 | .lst xs => xs.length <= sizeLine /\ ∃ (its : List Value) (n : Nat), Vals xs its /\ h.get? a = some { cls := .type "list", data := .seq its.toArray n }
 | .tup xs => xs.length <= sizeLine /\ ∃ its : List Value, Vals xs its /\ PTup h a its.toArray
 | .dK kvs => kvs.length <= sizeLine /\ (a == sysModules) = false /\ ∃ vs, KV kvs vs /\ h.DictOf (mixKind P w) a vs
 | .dT kvs => kvs.length <= sizeLine /\ (a == sysModules) = false /\ ∃ xs : List (List Key × Addr × Value),
   Paired (fun (p : List Key × V) (q : List Key × Addr × Value) => p.1 = q.1 /\ H q.2.1 = some (.tup (p.1.map kV)) /\ RelV p.2 q.2.2) kvs xs /\
   ∃ o es ep, h.get? a = some o /\ o.ExactDict /\ o.data = .dict es ep /\ es.toList = xs.map (entryOfKey (tupleKind (mixKind P w))) /\ (xs.map (·.1)).Nodup
 | .set S n => h.SetOf (intKind P w) a S n
 | .ins C dx fs => H dx = some (.own a) /\ fs.length <= 1000 /\ dx ≠ a /\ h.get? a = some (PySem.W.instObj C dx) /\
   ∃ mA, h.Ns1 dx mA /\ (∀ f, RelO (fs.lookup f) (mA f)) /\ PySem.Within mA (fs.map (·.1))
 | .own _ => ∃ o, h.get? a = some o
 | .xd fs => ∃ mA, h.Ns1 a mA /\ ∀ f, RelO (fs.lookup f) (mA f)
 | .rng lo hi => ∃ t u v, h.get? a = some { cls := .type "range", data := .fields #[.int lo t, .int hi u, .int 1 v] }
 | .frz o u => h.get? a = some o /\ ObjOk H h a u
 | .tbl ps => h.get? a = some { cls := .none, data := .fields ps }
 | .met f x => h.get? a = some (PySem.W.methodObj (.ref f) (.ref x))
 | .ext φ => φ h /\ (∃ o, h.get? a = some o) /\ ∀ h1 h2 : Heap, φ h1 -> (∀ o, h1.get? a = some o -> h2.get? a = some o) -> φ h2
noncomputable def HOk (H : Hp) (h : Heap) : Prop := ∀ a o, H a = some o -> ObjOk P w H h a o
end
section
variable {P : Program} {w : World} {H H' : Hp} {h h' : Heap} {a : Addr} {o : HO}
theorem ObjOk.lt (x : ObjOk P w H h a o) : a < h.objs.size := by
 cases o with
 | lst xs => obtain ⟨_, _, _, _, e⟩ := x; exact Heap.lt_size e
 | tup xs => obtain ⟨_, _, _, p⟩ := x; exact p.tup.lt
 | dK kvs => obtain ⟨_, _, _, _, o, _, _, e, _⟩ := x; exact Heap.lt_size e
 | dT kvs => obtain ⟨_, _, _, _, o, _, _, e, _⟩ := x; exact Heap.lt_size e
 | set S n => obtain ⟨o, _, _, _, e, _⟩ := x; exact Heap.lt_size e
 | ins C dx fs => obtain ⟨_, _, _, e, _⟩ := x; exact Heap.lt_size e
 | own y => obtain ⟨_, e⟩ := x; exact Heap.lt_size e
 | xd fs => obtain ⟨_, ⟨_, _, _, e, _⟩, _⟩ := x; exact Heap.lt_size e
 | rng lo hi => obtain ⟨_, _, _, e⟩ := x; exact Heap.lt_size e
 | frz ob u => obtain ⟨e, _⟩ := x; exact Heap.lt_size e
 | tbl ps => exact Heap.lt_size (show h.get? a = some _ from x)
 | met f y => exact Heap.lt_size (show h.get? a = some _ from x)
 | ext φ => obtain ⟨_, ⟨_, e⟩, _⟩ := x; exact Heap.lt_size e
theorem Paired.mapP {α β : Type} {F G : α -> β -> Prop} : ∀ {l₁ : List α} {l₂ : List β}, Paired F l₁ l₂ -> (∀ a b, F a b -> G a b) -> Paired G l₁ l₂
 | _, _, .nil, _ => .nil
 | _, _, .cons r t, f => .cons (f _ _ r) (Paired.mapP t f)
theorem ObjOk.stay (x : ObjOk P w H h a o) (k : ∀ b u, (b = a ∨ H b = some (.own a)) -> h.get? b = some u -> h'.get? b = some u)
  (ho : ∀ b, H b = some (.own a) -> H' b = some (.own a)) (ht : ∀ b xs, H b = some (.tup xs) -> H' b = some (.tup xs)) : ObjOk P w H' h' a o := by
 induction o with
 | lst xs => obtain ⟨z, its, n, r, e⟩ := x; exact ⟨z, its, n, r, k _ _ (.inl rfl) e⟩
 | tup xs => obtain ⟨z, its, r, ob, e, c⟩ := x; exact ⟨z, its, r, ob, k _ _ (.inl rfl) e, c⟩
 | dK kvs => obtain ⟨z, y, vs, r, ob, es, ep, e, c⟩ := x; exact ⟨z, y, vs, r, ob, es, ep, k _ _ (.inl rfl) e, c⟩
 | dT kvs =>
  obtain ⟨z, y, xs, r, ob, es, ep, e, c⟩ := x
  exact ⟨z, y, xs, Paired.mapP r fun p q z => ⟨z.1, ht _ _ z.2.1, z.2.2⟩, ob, es, ep, k _ _ (.inl rfl) e, c⟩
 | set S n => obtain ⟨ob, es, ep, t, e, c⟩ := x; exact ⟨ob, es, ep, t, k _ _ (.inl rfl) e, c⟩
 | ins C dx fs =>
  obtain ⟨d, z, ne, e, mA, ⟨od, es, ep, e2, c⟩, r⟩ := x
  exact ⟨ho _ d, z, ne, k _ _ (.inl rfl) e, mA, ⟨od, es, ep, k _ _ (.inr d) e2, c⟩, r⟩
 | own y => obtain ⟨ob, e⟩ := x; exact ⟨ob, k _ _ (.inl rfl) e⟩
 | xd fs => obtain ⟨mA, ⟨od, es, ep, e, c⟩, r⟩ := x; exact ⟨mA, ⟨od, es, ep, k _ _ (.inl rfl) e, c⟩, r⟩
 | rng lo hi => obtain ⟨t, u, v, e⟩ := x; exact ⟨t, u, v, k _ _ (.inl rfl) e⟩
 | frz ob u ih => obtain ⟨e, q⟩ := x; exact ⟨k _ _ (.inl rfl) e, ih q⟩
 | tbl ps =>
  have e : h.get? a = some { cls := .none, data := .fields ps } := x
  show h'.get? a = some { cls := .none, data := .fields ps }
  exact k a _ (.inl rfl) e
 | met f y =>
  have e : h.get? a = some (PySem.W.methodObj (.ref f) (.ref y)) := x
  show h'.get? a = some (PySem.W.methodObj (.ref f) (.ref y))
  exact k a _ (.inl rfl) e
 | ext φ => obtain ⟨p, ⟨o, e⟩, st⟩ := x; exact ⟨st _ _ p fun o q => k _ _ (.inl rfl) q, ⟨o, k _ _ (.inl rfl) e⟩, st⟩
theorem HOk.lt (x : HOk P w H h) (e : H a = some o) : a < h.objs.size := (x a o e).lt
theorem HOk.fresh (x : HOk P w H h) (e : h.objs.size <= a) : H a = none := by
 cases q : H a with
 | none => rfl
 | some u => exact absurd (Nat.lt_of_lt_of_le (x.lt q) e) (Nat.lt_irrefl _)
theorem HOk.kept (x : HOk P w H h) (k : ∀ b u, h.get? b = some u -> h'.get? b = some u) : HOk P w H h' := fun a o e =>
 (x a o e).stay (fun b u _ q => k b u q) (fun _ q => q) fun _ _ q => q
theorem HOk.laid (x : HOk P w H h) (k : ∀ b u, h.get? b = some u -> h'.get? b = some u) (hp : h.objs.size <= a) (new : ObjOk P w (upd H a o) h' a o) : HOk P w (upd H a o) h' := fun b u e => by
 have hn := x.fresh hp
 by_cases hb : b = a
 ·subst hb; rw [upd_same] at e; cases e; exact new
 ·rw [upd_ne hb] at e
  exact (x b u e).stay (fun c v _ q => k c v q) (fun c q => by rw [upd_ne (ne_of_none q hn)]; exact q) fun c xs q => by rw [upd_ne (ne_of_none q hn)]; exact q
end
noncomputable def Rd (H : Hp) (a : Addr) (u : HO) : Prop := H a = some u ∨ ∃ o, H a = some (.frz o u)
theorem Rd.ok {P : Program} {w : World} {H : Hp} {h : Heap} {a : Addr} {u : HO} (r : Rd H a u) (x : HOk P w H h) : ObjOk P w H h a u := by
 rcases r with r | ⟨o, r⟩
 ·exact x a u r
 ·obtain ⟨_, q⟩ := x a _ r
  exact q
noncomputable def Mut : Option HO -> Prop
 | some (.lst _) => True
 | some (.dK _) => True
 | some (.dT _) => True
 | some (.set _ _) => True
 | some (.ins _ _ _) => True
 | some (.ext _) => True
 | _ => False
section
variable {P : Program} {w : World} {H : Hp} {h h' : Heap} {x e : Addr} {o' : HO}
theorem HOk.write (ok : HOk P w H h) (mu : Mut (H x)) (he : e = x ∨ H e = some (.own x)) (k : ∀ b u, b ≠ e -> h.get? b = some u -> h'.get? b = some u) (heo : ∃ u, h'.get? e = some u)
  (new : ObjOk P w (upd H x o') h' x o') : HOk P w (upd H x o') h' := fun b u q => by
 have nown : ∀ c y, H c = some (.own y) -> c ≠ x := fun c y r z => by subst z; rw [r] at mu; exact mu
 have ntup : ∀ c xs, H c = some (.tup xs) -> c ≠ x := fun c xs r z => by subst z; rw [r] at mu; exact mu
 by_cases hb : b = x
 ·subst hb; rw [upd_same] at q; cases q; exact new
 ·rw [upd_ne hb] at q
  by_cases hbe : b = e
  ·have q' : H b = some (.own x) := by
    rcases he with z | z
    ·exact absurd (hbe.trans z) hb
    ·rw [hbe]; exact z
   rw [q] at q'; cases q'
   obtain ⟨v, hv⟩ := heo
   exact ⟨v, by rw [hbe]; exact hv⟩
  ·refine (ok b u q).stay (fun c v hc r => k c v ?_ r) (fun c r => by rw [upd_ne (nown c b r)]; exact r) fun c xs r => by rw [upd_ne (ntup c xs r)]; exact r
   rcases hc with rfl | hc
   ·exact hbe
   ·rintro rfl
    rcases he with z | z
    ·exact nown c b hc z
    ·rw [hc] at z; cases z; exact hb rfl
end
structure Un (fs ex : List Addr) (H H' : Hp) (h h' : Heap) : Prop where
 keep : ∀ b o, h.get? b = some o -> H b = none -> b ∉ fs -> b ∉ ex -> h'.get? b = some o
 slot : ∀ b o, h.get? b = some o -> H b = none -> b ∈ fs -> b ∉ ex -> ∃ sl, h'.get? b = some { o with slots := sl }
 free : ∀ b o, h.get? b = some o -> H b = none -> b ∉ ex -> H' b = none
 there : ∀ b o, h.get? b = some o -> b ∉ ex -> ∃ o', h'.get? b = some o'
 tups : ∀ b xs, H b = some (.tup xs) -> H' b = some (.tup xs)
 frzs : ∀ b o u, H b = some (.frz o u) -> H' b = some (.frz o u)
 tbls : ∀ b ps, H b = some (.tbl ps) -> ∃ more, H' b = some (.tbl (ps ++ more))
section
variable {fs fs' ex ex' : List Addr} {H H1 H2 : Hp} {h h1 h2 h' : Heap} {a x e : Addr} {o : HO}
theorem Un.any (u : Un fs ex H H1 h h1) {b : Addr} {ob : Obj} (q : h.get? b = some ob) (n : H b = none) (hx : b ∉ ex) : ∃ sl, h1.get? b = some { ob with slots := sl } := by
 by_cases hb : b ∈ fs
 ·exact u.slot b ob q n hb hx
 ·exact ⟨ob.slots, u.keep b ob q n hb hx⟩
theorem Un.kept (k : ∀ b u, h.get? b = some u -> h'.get? b = some u) : Un fs ex H H h h' :=
 ⟨fun b ob q _ _ _ => k b ob q, fun b ob q _ _ _ => ⟨ob.slots, k b ob q⟩, fun _ _ _ n _ => n, fun b ob q _ => ⟨ob, k b ob q⟩, fun _ _ q => q, fun _ _ _ q => q, fun _ ps q => ⟨#[], by rw [q]; simp⟩⟩
theorem Un.refl : Un fs ex H H h h := Un.kept fun _ _ q => q
theorem Un.laid (k : ∀ b u, h.get? b = some u -> h'.get? b = some u) (hp : h.objs.size <= a) (hn : H a = none) : Un fs ex H (upd H a o) h h' where
 keep := fun b u q _ _ _ => k b u q
 slot := fun b u q _ _ _ => ⟨u.slots, k b u q⟩
 free := fun b u q n _ => by rw [upd_ne (Nat.ne_of_lt (Nat.lt_of_lt_of_le (Heap.lt_size q) hp))]; exact n
 there := fun b u q _ => ⟨u, k b u q⟩
 tups := fun b xs q => by rw [upd_ne (ne_of_none q hn)]; exact q
 frzs := fun b u xs q => by rw [upd_ne (ne_of_none q hn)]; exact q
 tbls := fun b ps q => ⟨#[], by rw [upd_ne (ne_of_none q hn), q]; simp⟩
theorem Un.write (mu : Mut (H x)) (he : e = x ∨ H e = some (.own x)) (k : ∀ b u, b ≠ e -> h.get? b = some u -> h'.get? b = some u) (heo : ∃ u, h'.get? e = some u) : Un fs ex H (upd H x o) h h' := by
 have hx : ∀ b, H b = none -> b ≠ x := fun b n z => by subst z; rw [n] at mu; exact mu
 have hb : ∀ b, H b = none -> b ≠ e := fun b n z => by
  subst z
  rcases he with r | r
  ·exact hx b n r
  ·rw [n] at r; cases r
 have hm : ∀ b u, H b = some u -> ¬ Mut (some u) -> b ≠ x := fun b u q nm z => by subst z; rw [q] at mu; exact nm mu
 refine ⟨fun b u q n _ _ => k b u (hb b n) q, fun b u q n _ _ => ⟨u.slots, k b u (hb b n) q⟩, fun b u q n _ => by rw [upd_ne (hx b n)]; exact n, fun b u q _ => ?_,
  fun b xs q => by rw [upd_ne (hm b _ q fun z => z)]; exact q, fun b u xs q => by rw [upd_ne (hm b _ q fun z => z)]; exact q, fun b ps q => ⟨#[], by rw [upd_ne (hm b _ q fun z => z), q]; simp⟩⟩
 by_cases hbe : b = e
 ·subst hbe; exact heo
 ·exact ⟨u, k b u hbe q⟩
end
noncomputable def trk (h : Heap) (H : Hp) : List Addr := (List.range h.objs.size).filter fun a => (H a).isSome
noncomputable def hidT (h : Heap) (H : Hp) : Heap := PySem.W.hideAll h (trk h H)
theorem hidT_size (h : Heap) (H : Hp) : (hidT h H).objs.size = h.objs.size := PySem.W.hideAll_size _ _
theorem hidT_get {h : Heap} {H : Hp} {b : Addr} {o : Obj} (e : h.get? b = some o) (n : H b = none) : (hidT h H).get? b = some o :=
 PySem.W.hideAll_get _ e fun hm => by
  have q : (H b).isSome = true := (List.mem_filter.mp hm).2
  rw [n] at q; simp at q
theorem of_hidT {h : Heap} {H : Hp} {b : Addr} {o : Obj} (e : (hidT h H).get? b = some o) : h.get? b = some o /\ H b = none := by
 have e' : h.get? b = some o := PySem.W.of_hideAll (trk h H) e
 refine ⟨e', ?_⟩
 cases q : H b with
 | none => rfl
 | some x =>
  have hm : b ∈ trk h H := List.mem_filter.mpr ⟨List.mem_range.mpr (Heap.lt_size e'), by simp [q]⟩
  have z : (hidT h H).get? b = none := PySem.W.hideAll_none (trk h H) hm
  rw [z] at e; cases e
noncomputable def allNews (g h : Heap) (L : Addr) : List (Addr × Obj) := (List.range h.objs.size).filterMap fun a => if a = L ∨ (g.get? a).isSome = true then none else (h.get? a).map fun o => (a, o)
noncomputable def rest (g h : Heap) (L d : Addr) : List (Addr × Obj) := (allNews g h L).filter fun p => decide (p.1 ≠ d)
end L2
namespace L2
open PySem PySem.Spec PyProof.Rows
structure Mod (K : PySem.W.Frag) (mg : Str -> Option Value) (base : Heap) : Prop where
 kin : K.In base
 glob : base.Ns mainGlobals mg
 blt : ∃ mb, base.Ns builtinsNs mb /\ ∀ x : Str, x ≠ "__name__" -> mb x = bootBuiltins x
 nolimit : base.NoLimit
structure Cx where
 prog : Program
 w : World
 K : PySem.W.Frag
 mg : Str -> Option Value
 base : Heap
 A : Around
 N : List Str
 s₀ : Shared
 H₀ : Hp
 env : Env
 outer : List Env
 stack : List Env
 ex : List Addr
 fn : Str -> Bool
 calm : Bool
 pn : List (Addr × Obj)
 xe : Value -> Shared -> Prop
noncomputable def frs (l : List Env) : List Addr := l.filterMap (·.frame)
noncomputable abbrev Cx.fs (X : Cx) : List Addr := frs X.outer
noncomputable def Vis (sc : Scope) (x : Str) : Prop := sc.names.lookup x = some .local ∨ sc.names.lookup x = some .cell ∨ sc.names.lookup x = some .free
noncomputable def Loc (sc : Scope) (x : Str) : Prop := sc.names.lookup x = some .local ∨ sc.names.lookup x = some .cell
noncomputable def Look (env : Env) (h : Heap) (m : Str -> Option Value) (x : Str) (u : Value) : Prop :=
 (env.kindOf x = some .local /\ m x = some u) ∨ ((env.kindOf x = some .cell ∨ env.kindOf x = some .free) /\ ∃ c, env.cells.lookup x = some c /\ h.IsCell c (some u))
structure Cx.Ok (X : Cx) : Prop where
 mod : Mod X.K X.mg X.base
 kind : X.env.scope.kind = .function
 glob : X.env.globals = mainGlobals
 blt : X.env.builtins = builtinsNs
 above : X.s₀.heap.objs.size <= X.env.locals
 inj : ∀ x y c, X.env.cells.lookup x = some c -> X.env.cells.lookup y = some c -> x = y
 has : ∀ x, (X.env.kindOf x = some .cell ∨ X.env.kindOf x = some .free) -> ∃ c, X.env.cells.lookup x = some c
 cab : ∀ x c, X.fn x = true -> X.env.cells.lookup x = some c -> X.s₀.heap.objs.size <= c
 hd : X.calm = true -> X.A.handled = none
 frames : X.A.frames = some X.stack
 stk : X.stack = X.outer ∨ (X.stack = X.env :: X.outer /\ X.env.frame = some X.env.locals)
 exf : ∀ b ∈ X.ex, b ≠ X.env.locals /\ ∀ x c, X.env.cells.lookup x = some c -> c ≠ b
 bs : ∀ b o, X.base.get? b = some o -> X.s₀.heap.get? b = some o /\ X.H₀ b = none
 bsz : X.base.objs.size <= X.s₀.heap.objs.size
 noex : ∀ b o, X.base.get? b = some o -> b ∉ X.ex
 exfs : ∀ b ∈ X.ex, b ∉ X.fs
 funs : X.s₀.heap.FunFrames X.base X.outer
 frf : ∀ b ∈ X.fs, X.H₀ b = none
structure Inv (X : Cx) (pins : List (Addr × Obj)) (σ : List (Option V)) (H : Hp) (s : Shared) : Prop where
 ok : X.Ok
 os : s.os = X.s₀.os
 bare : AllBare s.gens
 base : Un X.fs X.ex X.H₀ H X.s₀.heap s.heap
 loc : ∃ m, s.heap.Ns X.env.locals m /\ ∀ (i : Nat) (x : Str) (v : V), X.N[i]? = some x -> σ[i]? = some (some v) -> Vis X.env.scope x -> ∃ u, RelV v u /\ Look X.env s.heap m x u
 cell : ∀ x c, X.env.cells.lookup x = some c -> ∃ v, s.heap.IsCell c v
 free : H X.env.locals = none
 freeC : ∀ x c, X.env.cells.lookup x = some c -> H c = none
 pin : ∀ p ∈ X.pn ++ pins, s.heap.get? p.1 = some p.2 /\ H p.1 = none /\ p.1 ≠ X.env.locals /\ p.1 ∉ X.fs /\ ∀ v, p.2.data ≠ .cell v
 hok : HOk X.prog X.w H s.heap
 len : σ.length = X.N.length
section
variable {X : Cx} {pins : List (Addr × Obj)} {σ : List (Option V)} {H H' : Hp} {s : Shared} {h' : Heap}
theorem Cx.Ok.nofr (ok : X.Ok) {b : Addr} {o : Obj} (e : X.base.get? b = some o) : b ∉ X.fs := fun hb => by
 have := (ok.funs.mem hb).1
 rw [e] at this; cases this
theorem Inv.bs (I : Inv X pins σ H s) : ∀ b o, X.base.get? b = some o -> s.heap.get? b = some o /\ H b = none := fun b o e =>
 ⟨I.base.keep b o (I.ok.bs b o e).1 (I.ok.bs b o e).2 (I.ok.nofr e) (I.ok.noex b o e), I.base.free b o (I.ok.bs b o e).1 (I.ok.bs b o e).2 (I.ok.noex b o e)⟩
theorem Inv.bk (I : Inv X pins σ H s) : ∀ b o, X.base.get? b = some o -> s.heap.get? b = some o := fun b o e => (I.bs b o e).1
theorem Inv.mod (I : Inv X pins σ H s) : Mod X.K X.mg X.base := I.ok.mod
theorem Inv.kIn (I : Inv X pins σ H s) : X.K.In s.heap := I.ok.mod.kin.keeps I.bk
theorem Inv.lt (I : Inv X pins σ H s) : X.env.locals < s.heap.objs.size := let ⟨_, hn, _⟩ := I.loc; hn.lt
theorem Inv.sz (I : Inv X pins σ H s) : X.s₀.heap.objs.size <= s.heap.objs.size := Nat.le_trans I.ok.above (Nat.le_of_lt I.lt)
theorem Inv.nofs (I : Inv X pins σ H s) {a : Addr} (h : s.heap.objs.size <= a) : a ∉ X.fs := fun hb => by
 obtain ⟨_, o, ho, _⟩ := I.ok.funs.mem hb
 exact absurd (Nat.lt_of_lt_of_le (Heap.lt_size ho) (Nat.le_trans I.sz h)) (Nat.lt_irrefl _)
theorem Inv.cne (I : Inv X pins σ H s) : ∀ x c, X.env.cells.lookup x = some c -> c ≠ X.env.locals := fun x c e z => by
 obtain ⟨v, o, ho, hd⟩ := I.cell x c e
 obtain ⟨m, ⟨o', es, ep, ho', hd', _⟩, _⟩ := I.loc
 rw [z, ho'] at ho; cases ho; rw [hd'] at hd; cases hd
theorem Inv.funs (I : Inv X pins σ H s) : s.heap.FunFrames X.base X.outer := by
 have all : ∀ (l : List Env), (∀ b ∈ frs l, b ∈ X.fs) -> X.s₀.heap.FunFrames X.base l -> s.heap.FunFrames X.base l := by
  intro l
  induction l with
  | nil => intro _ _; trivial
  | cons env r ih =>
   intro hs hl
   obtain ⟨hk, ⟨L, o, hf, hn, ho, hd⟩, hr⟩ := hl
   have hL : L ∈ X.fs := hs L (by unfold frs; rw [List.filterMap_cons, hf]; exact List.mem_cons_self)
   obtain ⟨sl, e⟩ := I.base.slot L o ho (I.ok.frf L hL) hL fun z => I.ok.exfs L z hL
   exact ⟨hk, ⟨L, _, hf, hn, e, hd⟩, ih (fun b hb => hs b (by unfold frs; rw [List.filterMap_cons, hf]; exact List.mem_cons_of_mem _ hb)) hr⟩
 exact all X.outer (fun _ hb => hb) I.ok.funs
theorem Inv.stack (I : Inv X pins σ H s) : s.heap.FunFrames X.base X.stack := by
 rcases I.ok.stk with e | ⟨e, hf⟩
 ·rw [e]; exact I.funs
 ·rw [e]
  obtain ⟨m, hn, _⟩ := I.loc
  refine .cons (by rw [I.ok.kind]; decide) hf hn ?_ I.funs
  exact Heap.get?_none_of_le (Nat.le_trans I.ok.bsz I.ok.above)
theorem Inv.stkSub (I : Inv X pins σ H s) : ∀ b ∈ frs X.stack, b ∈ X.env.locals :: X.fs := fun b hb => by
 rcases I.ok.stk with e | ⟨e, hf⟩
 ·rw [e] at hb; exact List.mem_cons_of_mem _ hb
 ·rw [e] at hb
  unfold frs at hb
  rw [List.filterMap_cons, hf] at hb
  exact hb
theorem Inv.stkFree (I : Inv X pins σ H s) : ∀ b ∈ frs X.stack, H b = none := fun b hb => by
 rcases List.mem_cons.mp (I.stkSub b hb) with e | hb
 ·rw [e]; exact I.free
 ·obtain ⟨_, o, ho, _⟩ := I.ok.funs.mem hb
  exact I.base.free b o ho (I.ok.frf b hb) fun z => I.ok.exfs b z hb
theorem Inv.step {g' : Array GenState} {t' : Nat} {d' : Drawn} {ch : List Addr} (I : Inv X pins σ H s)
  (hch : ∀ b ∈ ch, (b ∈ X.ex ∨ X.s₀.heap.objs.size <= b) /\ b ≠ X.env.locals /\ (∀ x c, X.env.cells.lookup x = some c -> c ≠ b) /\ ∀ p ∈ X.pn ++ pins, p.1 ≠ b)
  (keep : ∀ b o, b ≠ X.env.locals -> b ∉ X.fs -> b ∉ ch -> s.heap.get? b = some o -> H b = none -> h'.get? b = some o)
  (slot : ∀ b o, b ≠ X.env.locals -> b ∈ X.fs -> b ∉ ch -> s.heap.get? b = some o -> H b = none -> ∃ sl, h'.get? b = some { o with slots := sl }) (free : ∀ b o, b ∉ ch -> s.heap.get? b = some o -> H b = none -> H' b = none)
  (there : ∀ b o, b ∉ ch -> s.heap.get? b = some o -> ∃ o', h'.get? b = some o')
  (tups : ∀ b xs, H b = some (.tup xs) -> H' b = some (.tup xs)) (frzs : ∀ b o u, H b = some (.frz o u) -> H' b = some (.frz o u)) (tbls : ∀ b ps, H b = some (.tbl ps) -> ∃ more, H' b = some (.tbl (ps ++ more)))
  (ns : ∀ m, s.heap.Ns X.env.locals m -> h'.Ns X.env.locals m) (hok : HOk X.prog X.w H' h') (hg : AllBare g') :
  Inv X pins σ H' { s with heap := h', gens := g', drawn := d', toks := t' } := by
 have neL : ∀ b o, X.s₀.heap.get? b = some o -> b ≠ X.env.locals := fun b o e => Nat.ne_of_lt (Nat.lt_of_lt_of_le (Heap.lt_size e) I.ok.above)
 have neC : ∀ b o, X.s₀.heap.get? b = some o -> b ∉ X.ex -> b ∉ ch := fun b o e hx hb => by
  rcases (hch b hb).1 with z | z
  ·exact hx z
  ·exact absurd (Nat.lt_of_lt_of_le (Heap.lt_size e) z) (Nat.lt_irrefl _)
 have cellK : ∀ x c, X.env.cells.lookup x = some c -> ∀ v, s.heap.IsCell c v -> h'.IsCell c v := fun x c e v ⟨o, ho, hd⟩ => by
  have nch : c ∉ ch := fun z => (hch c z).2.2.1 x c e rfl
  by_cases hc : c ∈ X.fs
  ·obtain ⟨sl, q⟩ := slot c o (I.cne x c e) hc nch ho (I.freeC x c e)
   exact ⟨_, q, hd⟩
  ·exact ⟨o, keep c o (I.cne x c e) hc nch ho (I.freeC x c e), hd⟩
 refine ⟨I.ok, I.os, hg, ⟨fun b o e n hb hx => ?_, fun b o e n hb hx => ?_, fun b o e n hx => ?_, fun b o e hx => ?_, fun b xs e => tups b xs (I.base.tups b xs e), fun b o xs e => frzs b o xs (I.base.frzs b o xs e), fun b ps e => ?_⟩, ?_, fun x c e => ?_, ?_, fun x c e => ?_, fun p hp => ?_, hok, I.len⟩
 ·exact keep b o (neL b o e) hb (neC b o e hx) (I.base.keep b o e n hb hx) (I.base.free b o e n hx)
 ·obtain ⟨sl, e1⟩ := I.base.slot b o e n hb hx
  obtain ⟨sl', e2⟩ := slot b _ (neL b o e) hb (neC b o e hx) e1 (I.base.free b o e n hx)
  exact ⟨sl', e2⟩
 ·obtain ⟨o', e1⟩ := I.base.there b o e hx
  exact free b o' (neC b o e hx) e1 (I.base.free b o e n hx)
 ·obtain ⟨o', e1⟩ := I.base.there b o e hx
  exact there b o' (neC b o e hx) e1
 ·obtain ⟨m1, e1⟩ := I.base.tbls b ps e
  obtain ⟨m2, e2⟩ := tbls b _ e1
  exact ⟨m1 ++ m2, by rw [e2, Array.append_assoc]⟩
 ·obtain ⟨m, hn, hl⟩ := I.loc
  refine ⟨m, ns m hn, fun i x v e1 e2 e3 => ?_⟩
  obtain ⟨u, r, l⟩ := hl i x v e1 e2 e3
  refine ⟨u, r, ?_⟩
  rcases l with l | ⟨k, c, e, z⟩
  ·exact .inl l
  ·exact .inr ⟨k, c, e, cellK x c e _ z⟩
 ·obtain ⟨v, z⟩ := I.cell x c e
  exact ⟨v, cellK x c e v z⟩
 ·obtain ⟨m, ⟨o, _, _, ho, _⟩, _⟩ := I.loc
  exact free _ o (fun z => (hch _ z).2.1 rfl) ho I.free
 ·obtain ⟨v, o, ho, hd⟩ := I.cell x c e
  exact free c o (fun z => (hch c z).2.2.1 x c e rfl) ho (I.freeC x c e)
 ·obtain ⟨e, n, ne, nf, d⟩ := I.pin p hp
  have nch : p.1 ∉ ch := fun z => (hch p.1 z).2.2.2 p hp rfl
  exact ⟨keep p.1 p.2 ne nf nch e n, free p.1 p.2 nch e n, ne, nf, d⟩
theorem Inv.un {t' : Nat} (I : Inv X pins σ H s) (u : Un X.fs [] H H' s.heap h') (hok : HOk X.prog X.w H' h') : Inv X pins σ H' { s with heap := h', toks := t' } := by
 obtain ⟨m, ⟨o, es, ep, ho, r⟩, _⟩ := id I.loc
 obtain ⟨sl, hL⟩ := u.any ho I.free (by simp)
 exact I.step (g' := s.gens) (d' := s.drawn) (ch := []) (fun _ z => nomatch z) (fun b o _ hb _ e n => u.keep b o e n hb (by simp)) (fun b o _ hb _ e n => u.slot b o e n hb (by simp)) (fun b o _ e n => u.free b o e n (by simp)) (fun b o _ e => u.there b o e (by simp)) u.tups u.frzs u.tbls (fun m' hm => by
  obtain ⟨o', es', ep', ho', r'⟩ := hm
  rw [ho] at ho'; cases ho'
  exact ⟨_, es', ep', hL, r'⟩) hok I.bare
theorem Inv.call {g' : Array GenState} {t' : Nat} {d' : Drawn} {ch : List Addr} (I : Inv X pins σ H s) (u : Un (frs X.stack) ch H H' s.heap h') (hok : HOk X.prog X.w H' h') (hg : AllBare g')
  (hch : ∀ b ∈ ch, (b ∈ X.ex ∨ X.s₀.heap.objs.size <= b) /\ b ≠ X.env.locals /\ (∀ x c, X.env.cells.lookup x = some c -> c ≠ b) /\ ∀ p ∈ X.pn ++ pins, p.1 ≠ b) :
  Inv X pins σ H' { s with heap := h', gens := g', drawn := d', toks := t' } := by
 obtain ⟨m, ⟨o, es, ep, ho, r⟩, _⟩ := id I.loc
 obtain ⟨sl, hL⟩ := u.any ho I.free fun z => (hch _ z).2.1 rfl
 exact I.step (ch := ch) hch (fun b o hL hb hc e n => u.keep b o e n (fun z => (List.mem_cons.mp (I.stkSub b z)).elim hL hb) hc) (fun b o _ _ hc e n => u.any e n hc) (fun b o hc e n => u.free b o e n hc) (fun b o hc e => u.there b o e hc) u.tups u.frzs u.tbls (fun m' hm => by
  obtain ⟨o', es', ep', ho', r'⟩ := hm
  rw [ho] at ho'; cases ho'
  exact ⟨_, es', ep', hL, r'⟩) hok hg
theorem Inv.turned {t' : Nat} {it : Addr} (I : Inv X pins σ H s) (k : ∀ b o, b ≠ it -> s.heap.get? b = some o -> h'.get? b = some o) (hn : H it = none) (hL : it ≠ X.env.locals)
  (h1 : it ∈ X.ex ∨ X.s₀.heap.objs.size <= it) (h2 : ∀ x c, X.env.cells.lookup x = some c -> c ≠ it) (h3 : ∀ p ∈ X.pn ++ pins, p.1 ≠ it) : Inv X pins σ H { s with heap := h', toks := t' } := by
 have nit : ∀ b u, H b = some u -> b ≠ it := fun b u e z => by rw [z, hn] at e; cases e
 refine I.step (g' := s.gens) (d' := s.drawn) (ch := [it]) (fun b hb => ?_) (fun b o _ _ hc e _ => k b o (fun z => hc (by simp [z])) e) (fun b o _ _ hc e _ => ⟨o.slots, k b o (fun z => hc (by simp [z])) e⟩) (fun _ _ _ _ n => n)
  (fun b o hc e => ⟨o, k b o (fun z => hc (by simp [z])) e⟩) (fun _ _ e => e) (fun _ _ _ e => e) (fun b ps e => ⟨#[], by rw [e]; simp⟩) (fun m hm => ?_) (fun b u e => ?_) I.bare
 ·have e : b = it := by simpa using hb
  subst e
  exact ⟨h1, hL, h2, h3⟩
 ·obtain ⟨o, es, ep, ho, r⟩ := hm
  exact ⟨o, es, ep, k _ o (Ne.symm hL) ho, r⟩
 ·refine (I.hok b u e).stay (fun c v hc q => k c v ?_ q) (fun _ q => q) fun _ _ q => q
  rcases hc with z | z
  ·rw [z]; exact nit b u e
  ·exact nit c _ z
theorem Inv.tok (I : Inv X pins σ H s) (t : Nat) : Inv X pins σ H { s with toks := t } := I.un (h' := s.heap) (t' := t) Un.refl I.hok
theorem Inv.kept {t' : Nat} (I : Inv X pins σ H s) (k : ∀ b u, s.heap.get? b = some u -> h'.get? b = some u) : Inv X pins σ H { s with heap := h', toks := t' } := I.un (Un.kept k) (I.hok.kept k)
theorem Inv.laid {a : Addr} {o : HO} {t' : Nat} (I : Inv X pins σ H s) (k : ∀ b u, s.heap.get? b = some u -> h'.get? b = some u) (hp : s.heap.objs.size <= a) (new : ObjOk X.prog X.w (upd H a o) h' a o) :
  Inv X pins σ (upd H a o) { s with heap := h', toks := t' } := I.un (Un.laid k hp (I.hok.fresh hp)) (I.hok.laid k hp new)
theorem Inv.write {x e : Addr} {o : HO} {t' : Nat} (I : Inv X pins σ H s) (mu : Mut (H x)) (he : e = x ∨ H e = some (.own x)) (k : ∀ b u, b ≠ e -> s.heap.get? b = some u -> h'.get? b = some u) (heo : ∃ u, h'.get? e = some u)
  (new : ObjOk X.prog X.w (upd H x o) h' x o) : Inv X pins σ (upd H x o) { s with heap := h', toks := t' } := I.un (Un.write mu he k heo) (I.hok.write mu he k heo new)
theorem Inv.weak {σ' : List (Option V)} (I : Inv X pins σ H s) (hl : σ'.length = σ.length) (w : ∀ (i : Nat) v, σ'[i]? = some (some v) -> σ[i]? = some (some v)) : Inv X pins σ' H s :=
 ⟨I.ok, I.os, I.bare, I.base, let ⟨m, hn, hl'⟩ := I.loc; ⟨m, hn, fun i x v e1 e2 e3 => hl' i x v e1 (w i v e2) e3⟩, I.cell, I.free, I.freeC, I.pin, I.hok, hl.trans I.len⟩
theorem Inv.pins_of {pins' : List (Addr × Obj)} (I : Inv X pins σ H s) (h : ∀ p ∈ pins', s.heap.get? p.1 = some p.2 /\ H p.1 = none /\ p.1 ≠ X.env.locals /\ p.1 ∉ X.fs /\ ∀ v, p.2.data ≠ .cell v) : Inv X pins' σ H s :=
 ⟨I.ok, I.os, I.bare, I.base, I.loc, I.cell, I.free, I.freeC, fun p hp => (List.mem_append.mp hp).elim (fun z => I.pin p (List.mem_append_left _ z)) (h p), I.hok, I.len⟩
theorem nodup_ix {N : List Str} (hN : N.Nodup) {i j : Nat} {x : Str} (a : N[i]? = some x) (b : N[j]? = some x) : i = j := by
 obtain ⟨h1, e1⟩ := List.getElem?_eq_some_iff.mp a
 obtain ⟨h2, e2⟩ := List.getElem?_eq_some_iff.mp b
 exact (List.getElem_inj hN).mp (e1.trans e2.symm)
theorem store_ok2 {M : Model} {A : Around} {E : Value -> Shared -> Prop} {i : Nat} {x : Str} {v : V} {u : Value} {Q : Unit -> Shared -> Prop} (I : Inv X pins σ H s) (hN : X.N.Nodup) (hi : X.N[i]? = some x) (hx : Loc X.env.scope x) (r : RelV v u)
  (h : ∀ s', Inv X pins (σ.set i (some v)) H s' -> (∃ a, Heap.SameBut a s.heap s'.heap /\ (a = X.env.locals ∨ X.env.cells.lookup x = some a)) -> Q () s') (hf : X.fn x = true ∨ X.env.scope.names.lookup x = some .local := by first | exact .inl rfl | exact .inr rfl | assumption) : wpAny M A (storeName X.env x u) Q E s := by
 obtain ⟨m, hn, hl⟩ := id I.loc
 have hcls : (X.env.scope.kind == .class || (X.env.scope.kind == .module && X.env.locals != X.env.globals)) = false := by rw [I.ok.kind]; rfl
 have hiσ : i < σ.length := by rw [I.len]; exact (List.getElem?_eq_some_iff.mp hi).1
 have cne := I.cne
 have tracked : ∀ {a : Addr} {h' : Heap}, (∃ o, s.heap.get? a = some o /\ H a = none) -> Heap.SameBut a s.heap h' -> HOk X.prog X.w H h' := fun {a h'} ha hs b ob e => by
  obtain ⟨_, _, hfree⟩ := ha
  refine (I.hok b ob e).stay (fun c w' hc q => (hs.2 c ?_).trans q) (fun _ q => q) fun _ _ q => q
  rintro rfl
  rcases hc with rfl | hc
  ·rw [hfree] at e; cases e
  ·rw [hfree] at hc; cases hc
 rcases hx with hk | hk
 ·refine wpAny_storeName_local hk hn (fun h' hn' hs => ?_) hcls
  obtain ⟨oL, _, _, hoL, _⟩ := id hn
  refine h _ ⟨I.ok, I.os, I.bare, ⟨fun b o e n hb hx => ?_, fun b o e n hb hx => ?_, I.base.free, fun b o e hx => ?_, I.base.tups, I.base.frzs, I.base.tbls⟩, ⟨_, hn', fun j y v' e1 e2 e3 => ?_⟩, fun y c e => ?_, I.free, I.freeC, fun p hp => ?_, tracked ⟨oL, hoL, I.free⟩ hs, by simpa using I.len⟩ ⟨_, hs, .inl rfl⟩
  ·exact (hs.2 b (Nat.ne_of_lt (Nat.lt_of_lt_of_le (Heap.lt_size e) I.ok.above))).trans (I.base.keep b o e n hb hx)
  ·obtain ⟨sl, e1⟩ := I.base.slot b o e n hb hx
   exact ⟨sl, (hs.2 b (Nat.ne_of_lt (Nat.lt_of_lt_of_le (Heap.lt_size e) I.ok.above))).trans e1⟩
  ·obtain ⟨o', e1⟩ := I.base.there b o e hx
   exact ⟨o', (hs.2 b (Nat.ne_of_lt (Nat.lt_of_lt_of_le (Heap.lt_size e) I.ok.above))).trans e1⟩
  ·by_cases hj : j = i
   ·subst hj
    rw [hi] at e1; cases e1
    rw [List.getElem?_set_self hiσ] at e2
    cases e2
    exact ⟨u, r, .inl ⟨hk, by simp⟩⟩
   ·rw [List.getElem?_set_ne (Ne.symm hj)] at e2
    obtain ⟨u', r', q⟩ := hl j y v' e1 e2 e3
    refine ⟨u', r', ?_⟩
    rcases q with ⟨k, e⟩ | ⟨k, c, e, z⟩
    ·refine .inl ⟨k, ?_⟩
     have : y ≠ x := fun e => hj (nodup_ix hN e1 (e ▸ hi))
     simp [this, e]
    ·exact .inr ⟨k, c, e, z.sameBut hs (cne y c e)⟩
  ·obtain ⟨w', z⟩ := I.cell y c e
   exact ⟨w', z.sameBut hs (cne y c e)⟩
  ·obtain ⟨e, n, ne, nf, d⟩ := I.pin p hp
   exact ⟨(hs.2 p.1 ne).trans e, n, ne, nf, d⟩
 ·have hfn : X.fn x = true := by
   rcases hf with z | z
   ·exact z
   ·rw [z] at hk; cases hk
  obtain ⟨c, hc⟩ := I.ok.has x (.inl hk)
  obtain ⟨w', z⟩ := I.cell x c hc
  refine wpAny_storeName_cell I.ok.kind hk hc z (fun h' hc' hs => ?_)
  obtain ⟨oc, hoc, hocd⟩ := id z
  refine h { s with heap := h' } ⟨I.ok, I.os, I.bare, ⟨fun b o e n hb hx => ?_, fun b o e n hb hx => ?_, I.base.free, fun b o e hx => ?_, I.base.tups, I.base.frzs, I.base.tbls⟩, ⟨m, hn.sameBut hs (Ne.symm (cne x c hc)), fun j y v' e1 e2 e3 => ?_⟩, fun y c' e => ?_, I.free, I.freeC, fun p hp => ?_, tracked ⟨oc, hoc, I.freeC x c hc⟩ hs, by simpa using I.len⟩ ⟨c, hs, .inr hc⟩
  ·exact (hs.2 b (Nat.ne_of_lt (Nat.lt_of_lt_of_le (Heap.lt_size e) (I.ok.cab x c hfn hc)))).trans (I.base.keep b o e n hb hx)
  ·obtain ⟨sl, e1⟩ := I.base.slot b o e n hb hx
   exact ⟨sl, (hs.2 b (Nat.ne_of_lt (Nat.lt_of_lt_of_le (Heap.lt_size e) (I.ok.cab x c hfn hc)))).trans e1⟩
  ·obtain ⟨o', e1⟩ := I.base.there b o e hx
   exact ⟨o', (hs.2 b (Nat.ne_of_lt (Nat.lt_of_lt_of_le (Heap.lt_size e) (I.ok.cab x c hfn hc)))).trans e1⟩
  ·by_cases hj : j = i
   ·subst hj
    rw [hi] at e1; cases e1
    rw [List.getElem?_set_self hiσ] at e2
    cases e2
    exact ⟨u, r, .inr ⟨.inl hk, c, hc, hc'⟩⟩
   ·rw [List.getElem?_set_ne (Ne.symm hj)] at e2
    obtain ⟨u', r', q⟩ := hl j y v' e1 e2 e3
    refine ⟨u', r', ?_⟩
    rcases q with q | ⟨k, c', e, z'⟩
    ·exact .inl q
    ·refine .inr ⟨k, c', e, z'.sameBut hs ?_⟩
     rintro rfl
     exact hj (nodup_ix hN e1 (I.ok.inj _ _ _ e hc ▸ hi))
  ·by_cases hcc : c' = c
   ·subst hcc; exact ⟨_, hc'⟩
   ·obtain ⟨w2, z2⟩ := I.cell y c' e
    exact ⟨w2, z2.sameBut hs hcc⟩
  ·obtain ⟨e, n, ne, nf, d⟩ := I.pin p hp
   refine ⟨(hs.2 p.1 ?_).trans e, n, ne, nf, d⟩
   intro q
   rw [q, hoc] at e
   have q' : oc = p.2 := Option.some.inj e
   exact d w' (by rw [<- q']; exact hocd)
theorem store_ok {M : Model} {A : Around} {E : Value -> Shared -> Prop} {i : Nat} {x : Str} {v : V} {u : Value} {Q : Unit -> Shared -> Prop} (I : Inv X pins σ H s) (hN : X.N.Nodup) (hi : X.N[i]? = some x) (hx : Loc X.env.scope x) (r : RelV v u)
  (h : ∀ s', Inv X pins (σ.set i (some v)) H s' -> Q () s') (hf : X.fn x = true ∨ X.env.scope.names.lookup x = some .local := by first | exact .inl rfl | exact .inr rfl | assumption) : wpAny M A (storeName X.env x u) Q E s :=
 store_ok2 I hN hi hx r (fun s' I' _ => h s' I') hf
theorem Inv.call' {s' : Shared} {ch : List Addr} (I : Inv X pins σ H s) (ho : s'.os = s.os) (u : Un (frs X.stack) ch H H' s.heap s'.heap) (hok : HOk X.prog X.w H' s'.heap) (hg : AllBare s'.gens)
  (hch : ∀ b ∈ ch, (b ∈ X.ex ∨ X.s₀.heap.objs.size <= b) /\ b ≠ X.env.locals /\ (∀ x c, X.env.cells.lookup x = some c -> c ≠ b) /\ ∀ p ∈ X.pn ++ pins, p.1 ≠ b) : Inv X pins σ H' s' := by
 obtain ⟨h', g', d', t', o'⟩ := s'
 have e : o' = s.os := ho
 subst e
 exact I.call (g' := g') (t' := t') (d' := d') u hok hg hch
end
noncomputable abbrev XK := Value -> Option Addr -> Hp -> Prop
noncomputable abbrev St := List (Option V)
noncomputable abbrev VK := V -> Hp -> Prop
noncomputable abbrev TE := St -> Hp -> VK -> Prop
noncomputable abbrev TT := St -> Hp -> (Bool -> Hp -> Prop) -> Prop
noncomputable abbrev TA := St -> Hp -> (List V -> Hp -> Prop) -> Prop
structure Ends where
 nx : St -> Hp -> Prop
 rt : VK
 bk : St -> Hp -> Prop := fun _ _ => False
 ct : St -> Hp -> Prop := fun _ _ => False
noncomputable abbrev TS := Ends -> St -> Hp -> Prop
noncomputable def EP (X : Cx) (pins : List (Addr × Obj)) (σ : St) (Q : VK) (u : Value) (s' : Shared) : Prop := ∃ v H', Inv X pins σ H' s' /\ RelV v u /\ Q v H'
noncomputable def TP (X : Cx) (pins : List (Addr × Obj)) (σ : St) (Q : Bool -> Hp -> Prop) (b : Bool) (s' : Shared) : Prop := ∃ H', Inv X pins σ H' s' /\ Q b H'
noncomputable def AP (X : Cx) (pins : List (Addr × Obj)) (σ : St) (Q : List V -> Hp -> Prop) (us : List Value) (s' : Shared) : Prop := ∃ vs H', Inv X pins σ H' s' /\ Vals vs us /\ Q vs H'
noncomputable def SP (X : Cx) (pins : List (Addr × Obj)) (D : Ends) (f : Flow) (s' : Shared) : Prop :=
 match f with
 | .next => ∃ σ' H', Inv X pins σ' H' s' /\ D.nx σ' H'
 | .brk => ∃ σ' H', Inv X pins σ' H' s' /\ D.bk σ' H'
 | .cont => ∃ σ' H', Inv X pins σ' H' s' /\ D.ct σ' H'
 | .ret u => ∃ v σ' H', Inv X pins σ' H' s' /\ RelV v u /\ D.rt v H'
noncomputable def PE (X : Cx) (e : Expr) (t : TE) : Prop :=
 ∀ (pins : List (Addr × Obj)) (s : Shared) (σ : St) (H : Hp) (Q : VK), Inv X pins σ H s -> t σ H Q -> wpAny (model X.prog X.w) X.A (eval e X.env) (EP X pins σ Q) X.xe s
noncomputable def PT (X : Cx) (e : Expr) (t : TT) : Prop :=
 ∀ (pins : List (Addr × Obj)) (s : Shared) (σ : St) (H : Hp) (Q : Bool -> Hp -> Prop), Inv X pins σ H s -> t σ H Q -> wpAny (model X.prog X.w) X.A (isTrue e X.env (eval e X.env)) (TP X pins σ Q) X.xe s
noncomputable def PW (X : Cx) (e : Expr) (t : TT) : Prop :=
 ∀ (whole : Sem Value) (pins : List (Addr × Obj)) (s : Shared) (σ : St) (H : Hp) (Q : Bool -> Hp -> Prop), Inv X pins σ H s -> t σ H Q -> wpAny (model X.prog X.w) X.A (isTrue e X.env whole) (TP X pins σ Q) X.xe s
theorem PW.pt {X : Cx} {e : Expr} {t : TT} (h : PW X e t) : PT X e t := h _
noncomputable def PA (X : Cx) (es : List Expr) (t : TA) : Prop :=
 ∀ (pos : Pos) (pins : List (Addr × Obj)) (s : Shared) (σ : St) (H : Hp) (Q : List V -> Hp -> Prop), Inv X pins σ H s -> t σ H Q -> wpAny (model X.prog X.w) X.A (spliced (backTo pos (starEach es X.env))) (AP X pins σ Q) X.xe s
noncomputable def PS (X : Cx) (st : Stmt) (t : TS) : Prop :=
 ∀ (pins : List (Addr × Obj)) (s : Shared) (σ : St) (H : Hp) (D : Ends), Inv X pins σ H s -> t D σ H -> wpAny (model X.prog X.w) X.A (exec st X.env) (SP X pins D) X.xe s
noncomputable def PSs (X : Cx) (st : List Stmt) (t : TS) : Prop :=
 ∀ (pins : List (Addr × Obj)) (s : Shared) (σ : St) (H : Hp) (D : Ends), Inv X pins σ H s -> t D σ H -> wpAny (model X.prog X.w) X.A (execs st X.env) (SP X pins D) X.xe s
theorem thn {α : Type} {t : Sem α} {Q Q' : α -> Shared -> Prop} {M : Model} {A : Around} {E : Value -> Shared -> Prop} {s : Shared} (h : wpAny M A t Q E s) (hQ : ∀ a s, Q a s -> Q' a s) : wpAny M A t Q' E s := wpAny_mono h hQ fun _ _ x => x
end L2
namespace L2
open PySem PySem.Spec PyProof.Rows
section
variable {X : Cx}
noncomputable def tVar (i : Nat) : TE := fun σ H Q => ∃ v, σ[i]? = some (some v) /\ Q v H
noncomputable def tC (v : V) : TE := fun _ H Q => Q v H
theorem pe_var {i : Nat} {x : Str} {pos : Pos} (hN : X.N[i]? = some x) (hv : Vis X.env.scope x) (hd : (x == ("__debug__" : Str)) = false := by decide) (hcd : (x == ("__classdict__" : Str)) = false := by decide) : PE X (.Name x pos) (tVar i) := by
 intro pins s σ H Q I h
 obtain ⟨v, e, h⟩ := h
 obtain ⟨m, hn, hl⟩ := I.loc
 obtain ⟨u, r, l⟩ := hl i x v hN e hv
 have fin : EP X pins σ Q u s := ⟨v, H, I, r, h⟩
 rcases l with ⟨hk, hm⟩ | ⟨hk, c, hc, hcell⟩
 ·exact wpAny_Name (wpAny_loadName_local I.ok.kind hk hn hm fin) hd
 ·rcases hk with hk | hk
  ·exact wpAny_Name (wpAny_loadName_cell I.ok.kind hk hc hcell fin) hd
  ·exact wpAny_Name (wpAny_loadName_free I.ok.kind hk hc hcell fin hcd) hd
theorem pe_int {i j pos} : PE X (.Constant (.int i) j pos) (tC (.int i)) := fun _ _ _ H _ I h => wpAny_Constant_int ⟨.int i, H, I.tok _, ⟨_, rfl⟩, h⟩
theorem pe_bl {b j pos} : PE X (.Constant (.bool b) j pos) (tC (.bl b)) := fun _ _ _ H _ I h => Constant_bool ⟨.bl b, H, I, rfl, h⟩
noncomputable def Gl (X : Cx) (x : Str) : Prop := X.env.kindOf x = some .globalImplicit
theorem ld_glob {E : Value -> Shared -> Prop} {pins : List (Addr × Obj)} {s : Shared} {σ : St} {H : Hp} {x : Str} {u : Value} {pos : Pos} {Q : Value -> Shared -> Prop} (I : Inv X pins σ H s) (hg : Gl X x) (hm : X.mg x = some u) (h : Q u s)
  (hd : (x == ("__debug__" : Str)) = false := by decide) : wpAny (model X.prog X.w) X.A (eval (.Name x pos) X.env) Q E s :=
 Calls.Name_function_global I.ok.kind hg (Calls.loadGlobal_global (by rw [I.ok.glob]; exact I.mod.glob.keeps I.bk) hm h) hd
theorem ld_blt {E : Value -> Shared -> Prop} {pins : List (Addr × Obj)} {s : Shared} {σ : St} {H : Hp} {x : Str} {u : Value} {pos : Pos} {Q : Value -> Shared -> Prop} (I : Inv X pins σ H s) (hg : Gl X x) (hm : X.mg x = none) (hv : bootBuiltins x = some u) (h : Q u s)
  (hn : x ≠ "__name__" := by decide) (hd : (x == ("__debug__" : Str)) = false := by decide) : wpAny (model X.prog X.w) X.A (eval (.Name x pos) X.env) Q E s := by
 obtain ⟨mb, h1, h2⟩ := I.mod.blt
 exact Calls.Name_function_global I.ok.kind hg (Calls.loadGlobal_builtin (by rw [I.ok.glob]; exact I.mod.glob.keeps I.bk) hm (by rw [I.ok.blt]; exact h1.keeps I.bk) ((h2 x hn).trans hv) h) hd
theorem pe_bltn {x : Str} {v : V} {u : Value} {pos : Pos} (hg : Gl X x) (hm : X.mg x = none) (hv : bootBuiltins x = some u) (r : RelV v u) (hn : x ≠ "__name__" := by decide) (hd : (x == ("__debug__" : Str)) = false := by decide) : PE X (.Name x pos) (tC v) :=
 fun _ _ _ H _ I h => ld_blt I hg hm hv ⟨v, H, I, r, h⟩ hn hd
variable {a b : Expr} {ta tb : TE} {pos : Pos}
noncomputable def tB (t : TE) : TT := fun σ H Q => t σ H fun x H1 => ∃ c, x = .bl c /\ Q c H1
theorem pt_val {e : Expr} {t : TE} (h : PE X e t) (he : ∀ whole, isTrue e X.env whole = (do let v <- whole; standAt e.pos; holding [v] (truthy v)) := by intro _; rfl) : PT X e (tB t) := by
 intro pins s σ H Q I hw
 refine isTrue_plain (thn (h pins s σ H _ I hw) fun v s1 ⟨x, H1, I1, r1, q1⟩ => ?_) (he _)
 obtain ⟨d, rfl, q⟩ := q1
 cases r1
 exact wpAny_truthy_bool ⟨H1, I1, q⟩
variable {tA tB' : TT} {rest : List Expr}
noncomputable def tAnd (t u : TT) : TT := fun σ H Q => t σ H fun c H1 => if c = true then u σ H1 Q else Q false H1
noncomputable def tOr (t u : TT) : TT := fun σ H Q => t σ H fun c H1 => if c = true then Q true H1 else u σ H1 Q
noncomputable def tNot (t : TT) : TT := fun σ H Q => t σ H fun c H1 => Q (!c) H1
theorem pw_and1 (ha : PT X a tA) : PW X (.BoolOp .And [a] pos) tA := by
 intro wh pins s σ H Q I h
 refine isTrue_and (thn (ha pins s σ H Q I h) fun c s1 e => ?_)
 cases c with
 | true => exact isTrue_and_nil e
 | false => exact e
theorem pw_or1 (ha : PT X a tA) : PW X (.BoolOp .Or [a] pos) tA := by
 intro wh pins s σ H Q I h
 refine isTrue_or (thn (ha pins s σ H Q I h) fun c s1 e => ?_)
 cases c with
 | false => exact isTrue_or_nil e
 | true => exact e
theorem pw_and (ha : PT X a tA) (hb : PW X (.BoolOp .And (b :: rest) pos) tB') : PW X (.BoolOp .And (a :: b :: rest) pos) (tAnd tA tB') := by
 intro wh pins s σ H Q I h
 refine isTrue_and (thn (ha pins s σ H _ I h) fun c s1 ⟨H1, I1, q1⟩ => ?_)
 cases c with
 | true => exact hb wh pins s1 σ H1 Q I1 q1
 | false => exact ⟨H1, I1, q1⟩
theorem pw_or (ha : PT X a tA) (hb : PW X (.BoolOp .Or (b :: rest) pos) tB') : PW X (.BoolOp .Or (a :: b :: rest) pos) (tOr tA tB') := by
 intro wh pins s σ H Q I h
 refine isTrue_or (thn (ha pins s σ H _ I h) fun c s1 ⟨H1, I1, q1⟩ => ?_)
 cases c with
 | true => exact ⟨H1, I1, q1⟩
 | false => exact hb wh pins s1 σ H1 Q I1 q1
theorem pt_not (ha : PT X a tA) : PT X (.UnaryOp .Not a pos) (tNot tA) := by
 intro pins s σ H Q I h
 exact isTrue_not (ha pins s σ H (fun c H1 => Q (!c) H1) I h)
noncomputable def tAndV (ta tb : TE) : TE := fun σ H Q => ta σ H fun x H1 => ∃ c, x = .bl c /\ if c = true then tb σ H1 Q else Q (.bl false) H1
noncomputable def tNotV (ta : TE) : TE := fun σ H Q => ta σ H fun x H1 => ∃ c, x = .bl c /\ Q (.bl (!c)) H1
theorem pe_one {op} {t : TE} (h : PE X a t) : PE X (.BoolOp op [a] pos) t := fun pins s σ H Q I hw => BoolOp_one (h pins s σ H Q I hw)
theorem pe_and (ha : PE X a ta) (hb : PE X (.BoolOp .And (b :: rest) pos) tb) : PE X (.BoolOp .And (a :: b :: rest) pos) (tAndV ta tb) := by
 intro pins s σ H Q I h
 refine BoolOp_and (thn (ha pins s σ H _ I h) fun v s1 ⟨x, H1, I1, r1, q1⟩ => ?_)
 obtain ⟨c, rfl, q1⟩ := q1
 cases r1
 refine wpAny_truthy_bool ?_
 cases c with
 | true => exact hb pins s1 σ H1 Q I1 q1
 | false => exact ⟨.bl false, H1, I1, rfl, q1⟩
theorem pe_not (ha : PE X a ta) : PE X (.UnaryOp .Not a pos) (tNotV ta) := by
 intro pins s σ H Q I h
 refine UnaryOp_ (thn (ha pins s σ H _ I h) fun v s1 ⟨x, H1, I1, r1, q1⟩ => ?_)
 obtain ⟨c, rfl, q1⟩ := q1
 cases r1
 exact not_of (wpAny_truthy_bool ⟨.bl (!c), H1, I1, rfl, q1⟩)
end
end L2
namespace L2
open PySem PySem.Spec PyProof.Rows
noncomputable def SqL (K : PySem.W.Frag) (H : Hp) (a : Addr) (xs : List V) : Prop :=
 Rd H a (.lst xs) ∨
  ∃ (o : Obj) (its : Array Value) (n : Nat), K.lookup a = some o /\ o.cls = .type "list" /\ o.dict = none /\ o.data = .seq its n /\ its.size <= sizeLine /\ Vals xs its.toList
noncomputable def SqT (K : PySem.W.Frag) (H : Hp) (a : Addr) (xs : List V) : Prop :=
 Rd H a (.tup xs) ∨
  ∃ (o : Obj) (its : Array Value) (n : Nat), K.lookup a = some o /\ o.cls = .type "tuple" /\ o.data = .seq its n /\ its.size <= sizeLine /\ Vals xs its.toList
noncomputable def absV : Value -> Option V
 | .none => some .non
 | .bool b => some (.bl b)
 | .int i _ => some (.int i)
 | .str x _ => some (.str x)
 | .bytes b _ => some (.byt b)
 | .float b _ => some (.flt b)
 | .ref a => some (.ref a)
 | .type n => some (.ty n)
 | _ => none
theorem RelV.abs {x : V} {u : Value} (r : RelV x u) : absV u = some x := by
 cases x with
 | non => cases r; rfl
 | bl _ => cases r; rfl
 | int _ => obtain ⟨t, rfl⟩ := r; rfl
 | str _ => obtain ⟨t, rfl⟩ := r; rfl
 | byt _ => obtain ⟨t, rfl⟩ := r; rfl
 | flt _ => obtain ⟨t, rfl⟩ := r; rfl
 | ref _ => cases r; rfl
 | ty _ => cases r; rfl
theorem RelV.inj {x y : V} {u : Value} (r : RelV x u) (q : RelV y u) : x = y := Option.some.inj (r.abs.symm.trans q.abs)
theorem Vals.inj : ∀ {xs ys : List V} {us : List Value}, Vals xs us -> Vals ys us -> xs = ys
 | _, _, _, .nil, .nil => rfl
 | _, _, _, .cons r t, .cons r' t' => by rw [r.inj r', Vals.inj t t']
section
variable {X : Cx} {pins : List (Addr × Obj)} {σ : St} {H : Hp} {s : Shared} {a : Addr} {xs ys : List V}
theorem SqL.of {K : PySem.W.Frag} (h : H a = some (.lst xs)) : SqL K H a xs := .inl (.inl h)
theorem SqT.of {K : PySem.W.Frag} (h : H a = some (.tup xs)) : SqT K H a xs := .inl (.inl h)
theorem Inv.list (I : Inv X pins σ H s) (h : SqL X.K H a xs) : ∃ its : List Value, Vals xs its /\ PlainL s.heap a its.toArray /\ xs.length <= sizeLine := by
 rcases h with h | ⟨o, its, n, hk, hc, hd, hs, hz, r⟩
 ·obtain ⟨z, its, n, r, e⟩ := h.ok I.hok
  exact ⟨its, r, ⟨_, n, e, rfl, rfl, rfl⟩, z⟩
 ·refine ⟨its.toList, r, ⟨o, n, I.kIn a o hk, hc, hd, by simpa using hs⟩, ?_⟩
  have e := r.length
  simp only [Array.length_toList] at e
  (first | lia | omega)
theorem Inv.tuple (I : Inv X pins σ H s) (h : SqT X.K H a xs) : ∃ its : List Value, Vals xs its /\ IsTup s.heap a its.toArray /\ xs.length <= sizeLine := by
 rcases h with h | ⟨o, its, n, hk, hc, hs, hz, r⟩
 ·obtain ⟨z, its, r, p⟩ := h.ok I.hok
  exact ⟨its, r, p.tup, z⟩
 ·refine ⟨its.toList, r, ⟨o, I.kIn a o hk, hc, n, by simpa using hs⟩, ?_⟩
  have e := r.length
  simp only [Array.length_toList] at e
  (first | lia | omega)
theorem Inv.list_inj (I : Inv X pins σ H s) (h : SqL X.K H a xs) (h' : SqL X.K H a ys) : xs = ys := by
 obtain ⟨its, r, ⟨o, n, e, _, _, d⟩, _⟩ := I.list h
 obtain ⟨its', r', ⟨o', n', e', _, _, d'⟩, _⟩ := I.list h'
 rw [e] at e'; cases e'
 rw [d] at d'
 injection d' with d1 _
 have : its = its' := by simpa using congrArg Array.toList d1
 subst this
 exact r.inj r'
theorem Inv.tuple_inj (I : Inv X pins σ H s) (h : SqT X.K H a xs) (h' : SqT X.K H a ys) : xs = ys := by
 obtain ⟨its, r, ⟨o, e, _, n, d⟩, _⟩ := I.tuple h
 obtain ⟨its', r', ⟨o', e', _, n', d'⟩, _⟩ := I.tuple h'
 rw [e] at e'; cases e'
 rw [d] at d'
 injection d' with d1 _
 have : its = its' := by simpa using congrArg Array.toList d1
 subst this
 exact r.inj r'
end
noncomputable abbrev Cx.wish (X : Cx) (E : Value -> Shared -> Prop) : Cx := { X with xe := E }
noncomputable abbrev Cx.nox (X : Cx) : Cx := X.wish fun _ _ => False
theorem Cx.Ok.wish {X : Cx} (ok : X.Ok) (E : Value -> Shared -> Prop) : (X.wish E).Ok :=
 ⟨ok.mod, ok.kind, ok.glob, ok.blt, ok.above, ok.inj, ok.has, ok.cab, ok.hd, ok.frames, ok.stk, ok.exf, ok.bs, ok.bsz, ok.noex, ok.exfs, ok.funs, ok.frf⟩
theorem Cx.Ok.unwish {X : Cx} {E : Value -> Shared -> Prop} (ok : (X.wish E).Ok) : X.Ok :=
 ⟨ok.mod, ok.kind, ok.glob, ok.blt, ok.above, ok.inj, ok.has, ok.cab, ok.hd, ok.frames, ok.stk, ok.exf, ok.bs, ok.bsz, ok.noex, ok.exfs, ok.funs, ok.frf⟩
section
variable {X : Cx} {pins : List (Addr × Obj)} {σ : St} {H : Hp} {s : Shared} {E : Value -> Shared -> Prop}
theorem Inv.wish (I : Inv X pins σ H s) (E : Value -> Shared -> Prop) : Inv (X.wish E) pins σ H s := ⟨I.ok.wish E, I.os, I.bare, I.base, I.loc, I.cell, I.free, I.freeC, I.pin, I.hok, I.len⟩
theorem Inv.unwish (I : Inv (X.wish E) pins σ H s) : Inv X pins σ H s := ⟨I.ok.unwish, I.os, I.bare, I.base, I.loc, I.cell, I.free, I.freeC, I.pin, I.hok, I.len⟩
theorem SP.unwish {D : Ends} {f : Flow} {s' : Shared} (h : SP (X.wish E) pins D f s') : SP X pins D f s' := by
 cases f with
 | next => obtain ⟨σ', H', I, q⟩ := h; exact ⟨σ', H', I.unwish, q⟩
 | brk => obtain ⟨σ', H', I, q⟩ := h; exact ⟨σ', H', I.unwish, q⟩
 | cont => obtain ⟨σ', H', I, q⟩ := h; exact ⟨σ', H', I.unwish, q⟩
 | ret u => obtain ⟨v, σ', H', I, r, q⟩ := h; exact ⟨v, σ', H', I.unwish, r, q⟩
theorem PSs.nox {st : List Stmt} {t : TS} (h : PSs X.nox st t) : PSs X st t := fun pins s σ H D I hw =>
 wpAny_mono (h pins s σ H D (I.wish _) hw) (fun _ _ q => q.unwish) fun _ _ z => False.elim z
end
section
variable {X : Cx} {st : Stmt} {rest : List Stmt} {t u : TS} {e : Expr} {te : TE} {pos : Pos}
noncomputable def tNext : TS := fun D σ H => D.nx σ H
noncomputable def tSeq (t u : TS) : TS := fun D σ H => t { D with nx := u D } σ H
theorem pss_nil : PSs X [] tNext := fun _ _ σ H _ I h => wpAny_execs_nil ⟨σ, H, I, h⟩
theorem pss_cons (h1 : PS X st t) (h2 : PSs X rest u) : PSs X (st :: rest) (tSeq t u) := by
 intro pins s σ H D I h
 refine wpAny_execs_cons (thn (h1 pins s σ H { D with nx := u D } I h) fun f s1 q => ?_)
 cases f with
 | next =>
  obtain ⟨σ', H', I', q⟩ := q
  exact h2 pins s1 σ' H' D I' q
 | ret v => exact q
 | brk => exact q
 | cont => exact q
theorem pss_one (h1 : PS X st t) : PSs X [st] t := by
 intro pins s σ H D I h
 refine wpAny_execs_cons (thn (h1 pins s σ H D I h) fun f s1 q => ?_)
 cases f with
 | next => exact wpAny_execs_nil q
 | ret v => exact q
 | brk => exact q
 | cont => exact q
theorem Inv.quiet {pins : List (Addr × Obj)} {σ : St} {H : Hp} {s : Shared} (I : Inv X pins σ H s) : interactive X.env = false := by simp [interactive, I.ok.kind]
noncomputable def tDrop (te : TE) : TS := fun D σ H => te σ H fun _ H1 => D.nx σ H1
theorem ps_expr (he : PE X e te) (hs : swapsWith e none pos.line X.env = pure false := by rfl) : PS X (.Expr e pos) (tDrop te) := by
 intro pins s σ H D I h
 exact wpAny_Expr_any (thn (he pins s σ H _ I h) fun v s1 ⟨x, H1, I1, r1, q1⟩ => ⟨σ, H1, I1, q1⟩) I.quiet hs
noncomputable def tRet (te : TE) : TS := fun D σ H => te σ H D.rt
theorem ps_ret (he : PE X e te) : PS X (.Return (some e) pos) (tRet te) := by
 intro pins s σ H D I h
 exact wpAny_Return_some (thn (he pins s σ H _ I h) fun v s1 ⟨x, H1, I1, r1, q1⟩ => ⟨x, σ, H1, I1, r1, q1⟩)
noncomputable def tIfS (c : TT) (t u : TS) : TS := fun D σ H => c σ H fun b H1 => if b = true then t D σ H1 else u D σ H1
theorem ps_if {c : Expr} {a b : List Stmt} {tc : TT} (hc : PT X c tc) (ha : PSs X a t) (hb : PSs X b u) : PS X (.If c a b pos) (tIfS tc t u) := by
 intro pins s σ H D I h
 refine wpAny_If (thn (hc pins s σ H _ I h) fun d s1 ⟨H1, I1, q1⟩ => ?_)
 cases d with
 | true => exact ha pins s1 σ H1 D I1 q1
 | false => exact hb pins s1 σ H1 D I1 q1
noncomputable def tNever : TS := fun _ _ _ => False
theorem pss_never {sts : List Stmt} : PSs X sts tNever := fun _ _ _ _ _ _ h => h.elim
end
noncomputable abbrev TG := V -> St -> Hp -> (St -> Hp -> Prop) -> Prop
noncomputable abbrev TGs := List V -> St -> Hp -> (St -> Hp -> Prop) -> Prop
noncomputable def PG (X : Cx) (target : Expr) (t : TG) : Prop :=
 ∀ (pins : List (Addr × Obj)) (s : Shared) (σ : St) (H : Hp) (v : V) (u : Value) (Q : St -> Hp -> Prop), Inv X pins σ H s -> RelV v u -> t v σ H Q ->
  wpAny (model X.prog X.w) X.A (assign target X.env u) (fun _ s' => ∃ σ' H', Inv X pins σ' H' s' /\ Q σ' H') X.xe s
noncomputable def PGs (X : Cx) (ts : List Expr) (t : TGs) : Prop :=
 ∀ (pins : List (Addr × Obj)) (s : Shared) (σ : St) (H : Hp) (vs : List V) (us : List Value) (Q : St -> Hp -> Prop), Inv X pins σ H s -> Vals vs us -> t vs σ H Q ->
  wpAny (model X.prog X.w) X.A (assignInOrder ((assignEach ts X.env).map (·.2)) us) (fun _ s' => ∃ σ' H', Inv X pins σ' H' s' /\ Q σ' H') X.xe s
noncomputable abbrev TSet := V -> V -> V -> Hp -> (Hp -> Prop) -> Prop
noncomputable def PSet (X : Cx) (t : TSet) : Prop :=
 ∀ (pins : List (Addr × Obj)) (s : Shared) (σ : St) (H : Hp) (o i v : V) (ov iv u : Value) (Q : Hp -> Prop), Inv X pins σ H s -> RelV o ov -> RelV i iv -> RelV v u -> t o i v H Q ->
  wpAny (model X.prog X.w) X.A (setItem ov iv u) (fun _ s' => ∃ H', Inv X pins σ H' s' /\ Q H') X.xe s
section
variable {X : Cx} {pos : Pos}
noncomputable def gName (i : Nat) : TG := fun v σ H Q => Q (σ.set i (some v)) H
theorem pg_name {i : Nat} {x : Str} (hN : X.N.Nodup) (hi : X.N[i]? = some x) (hx : Loc X.env.scope x) (hf : X.fn x = true ∨ X.env.scope.names.lookup x = some .local := by first | exact .inl rfl | exact .inr rfl | assumption) : PG X (.Name x pos) (gName i) := by
 intro pins s σ H v u Q I r h
 exact wpAny_assign_Name (store_ok I hN hi hx r (fun s' I' => ⟨_, H, I', h⟩) hf)
noncomputable def gNil : TGs := fun vs σ H Q => vs = [] /\ Q σ H
noncomputable def gCons (t : TG) (u : TGs) : TGs := fun vs σ H Q => ∃ v r, vs = v :: r /\ t v σ H fun σ' H' => u r σ' H' Q
theorem pgs_nil : PGs X [] gNil := by
 intro pins s σ H vs us Q I r h
 obtain ⟨e, h⟩ := h
 subst e
 cases r
 exact assignInOrder_nil ⟨σ, H, I, h⟩
theorem pgs_cons {e : Expr} {es : List Expr} {t : TG} {u : TGs} (h1 : PG X e t) (h2 : PGs X es u)
  (hs : (assignEach (e :: es) X.env).map (·.2) = assign e X.env :: (assignEach es X.env).map (·.2) := by rfl) : PGs X (e :: es) (gCons t u) := by
 intro pins s σ H vs us Q I r h
 obtain ⟨v, vr, e1, h⟩ := h
 subst e1
 cases r with
 | cons r rr =>
  rw [hs]
  refine assignInOrder_cons (thn (h1 pins s σ H _ _ _ I r h) fun _ s1 ⟨σ1, H1, I1, q1⟩ => ?_)
  exact h2 pins s1 σ1 H1 _ _ Q I1 rr q1
noncomputable def gTup (K : PySem.W.Frag) (n : Nat) (t : TGs) : TG := fun v σ H Q => ∃ a xs, v = .ref a /\ SqT K H a xs /\ xs.length = n /\ t xs σ H Q
theorem pg_tup {es : List Expr} {k : Nat} {t : TGs} {n : Nat} (hc : X.calm = true) (h : PGs X es t)
  (hn : (assignEach es X.env).length = n := by rfl) (hst : (assignEach es X.env).findIdx? (·.1) = none := by rfl) : PG X (.Tuple es k pos) (gTup X.K n t) := by
 intro pins s σ H v u Q I r hw
 obtain ⟨a, xs, e1, hq, hl, hw⟩ := hw
 subst e1
 cases r
 obtain ⟨its, rv, ht, hz⟩ := I.tuple hq
 refine assign_Tuple_tuple (I.ok.hd hc) ht (by simp [hn, <- hl, rv.length]) hst fun h' hx => ?_
 have I1 : Inv X pins σ H { s with heap := h' } := I.kept (t' := s.toks) fun b o e => hx b o (Nat.ne_of_lt (Heap.lt_size e)) e
 exact h pins _ σ H xs _ Q I1 (by simpa using rv) hw
noncomputable def gSub (to ti : TE) (t : TSet) : TG := fun v σ H Q => to σ H fun o H1 => ti σ H1 fun i H2 => t o i v H2 fun H3 => Q σ H3
theorem pg_sub {o i : Expr} {to ti : TE} {t : TSet} (ho : PE X o to) (hi : PE X i ti) (hs : PSet X t)
  (ha : ∀ v, assign (.Subscript o i pos) X.env v = (do
   let ov <- holding [v] (eval o X.env)
   let iv <- holding [v, ov] (eval i X.env)
   standAt pos
   holding [v, ov, iv] (setItem ov iv v)
   release [v, ov, iv] []) := by intro _; rfl) : PG X (.Subscript o i pos) (gSub to ti t) := by
 intro pins s σ H v u Q I r h
 rw [ha]
 refine wpAny_bind (wpAny_holding (thn (ho pins s σ H _ I h) fun ov s1 ⟨x, H1, I1, r1, q1⟩ => ?_))
 refine wpAny_bind (wpAny_holding (thn (hi pins s1 σ H1 _ I1 q1) fun iv s2 ⟨y, H2, I2, r2, q2⟩ => ?_))
 refine wpAny_bind (wpAny_standAt (wpAny_bind (wpAny_holding (thn (hs pins s2 σ H2 x y v ov iv u _ I2 r1 r2 r q2) fun _ s3 ⟨H3, I3, q3⟩ => ?_))))
 exact wpAny_release ⟨σ, H3, I3, q3⟩
noncomputable def tAsg (te : TE) (g : TG) : TS := fun D σ H => te σ H fun x H1 => g x σ H1 D.nx
theorem ps_asg {tg e : Expr} {te : TE} {g : TG} (he : PE X e te) (hg : PG X tg g) (hs : swapsWithSole [tg] e pos.line X.env = pure false := by rfl) (hw : swappedStores [tg] e X.env = pure none := by rfl)
  (h1 : (assignEach [tg] X.env).map (·.2) = [assign tg X.env] := by rfl) : PS X (.Assign [tg] e pos) (tAsg te g) := by
 intro pins s σ H D I h
 refine wpAny_Assign_stores (thn (he pins s σ H _ I h) fun v s1 ⟨x, H1, I1, r1, q1⟩ => ?_) hs hw
 rw [h1]
 exact thn (hg pins s1 σ H1 x v _ I1 r1 q1) fun _ s2 q => q
theorem ps_set {i : Nat} {x : Str} {e : Expr} {te : TE} {pos' : Pos} (hN : X.N.Nodup) (hi : X.N[i]? = some x) (hx : Loc X.env.scope x) (he : PE X e te) (hs : swapsWith e (some (.Name x pos')) pos.line X.env = pure false := by rfl) (hf : X.fn x = true ∨ X.env.scope.names.lookup x = some .local := by first | exact .inl rfl | exact .inr rfl | assumption) :
  PS X (.Assign [.Name x pos'] e pos) (tAsg te (gName i)) := by
 intro pins s σ H D I h
 refine wpAny_Assign_Name (thn (he pins s σ H _ I h) fun v s1 ⟨y, H1, I1, r1, q1⟩ => ?_) hs
 exact store_ok I1 hN hi hx r1 (fun s2 I2 => ⟨_, H1, I2, q1⟩) hf
noncomputable def tPar (i j : Nat) (ta : TA) : TS := fun D σ H => ta σ H fun vs H1 => ∃ v w, vs = [v, w] /\ D.nx ((σ.set i (some v)).set j (some w)) H1
theorem ps_par {i j : Nat} {x y : Str} {a b : Expr} {ta : TA} {px py pt : Pos} {kt k2 pt2} (hc : X.calm = true) (hN : X.N.Nodup) (hi : X.N[i]? = some x) (hj : X.N[j]? = some y) (hij : i ≠ j)
  (hx : X.env.scope.names.lookup x = some .local) (hy : X.env.scope.names.lookup y = some .local) (ha : PA X [a, b] ta)
  (hw : swappedStores [.Tuple [.Name x px, .Name y py] kt pt] (.Tuple [a, b] k2 pt2) X.env = pure (some [x, y]))
  (hs : swapsWithSole [.Tuple [.Name x px, .Name y py] kt pt] (.Tuple [a, b] k2 pt2) pos.line X.env = pure false := by rfl) :
  PS X (.Assign [.Tuple [.Name x px, .Name y py] kt pt] (.Tuple [a, b] k2 pt2) pos) (tPar i j ta) := by
 intro pins s σ H D I h
 rw [exec_Assign_arm]
 refine wpAny_bind (wpAny_standAt ?_)
 rw [hs]
 refine wpAny_bind (wpAny_pure ?_)
 rw [if_neg (by decide)]
 refine wpAny_bind (Tuple_ (thn (ha _ pins s σ H _ I h) fun us s1 ⟨vs, H1, I1, r1, q1⟩ => ?_))
 obtain ⟨v, w, e1, q1⟩ := q1
 subst e1
 obtain ⟨u1, u2, rfl, rv, rw'⟩ : ∃ u1 u2, us = [u1, u2] /\ RelV v u1 /\ RelV w u2 := by
  cases r1 with
  | cons p q =>
   cases q with
   | cons p' q' =>
    cases q'
    exact ⟨_, _, rfl, p, p'⟩
 refine wpAny_newObj_type ?_ (by show 2 <= sizeLine; decide)
 have I2 : Inv X pins σ H1 { s1 with heap := s1.heap.push { cls := .type "tuple", data := .seq [u1, u2].toArray } } := I1.kept (t' := s1.toks) fun b o e => Heap.get?_push_of_some _ e
 rw [hw]
 refine wpAny_bind (wpAny_pure ?_)
 show wpAny (model X.prog X.w) X.A (do rule "assign.swapped-stores"; let items <- unpackItems (.ref s1.heap.objs.size) 2 none; assignInOrder [fun v => bindName X.env y v, fun v => bindName X.env x v] items.reverse; pure Flow.next) _ _ _
 refine wpAny_bind (wpAny_rule (wpAny_bind (unpackItems_tuple (items := #[u1, u2]) (I.ok.hd hc) (IsTup.new s1.heap _) fun h' hx' => ?_)))
 have I3 := I2.kept (h' := h') (t' := s1.toks) fun b o e => hx' b o (Nat.ne_of_lt (Heap.lt_size e)) e
 show wpAny _ _ (assignInOrder [fun v => bindName X.env y v, fun v => bindName X.env x v] [u2, u1] >>= fun _ => pure Flow.next) _ _ _
 refine wpAny_bind (assignInOrder_cons (wpAny_bindName (store_ok I3 hN hj (.inl hy) rw' (fun s2 I4 => ?_) (.inr hy))))
 refine assignInOrder_cons (wpAny_bindName (store_ok I4 hN hi (.inl hx) rv (fun s3 I5 => assignInOrder_nil (wpAny_pure ?_)) (.inr hx)))
 rw [List.set_comm _ _ (Ne.symm hij)] at I5
 exact ⟨_, H1, I5, q1⟩
end
section
variable {X : Cx} {pos : Pos}
noncomputable def tWhile (c : TT) (tb : TS) : TS := fun D σ H => ∃ W : Nat -> St -> Hp -> Prop, (∃ m, W m σ H) /\ ∀ m σ H, W m σ H ->
 c σ H fun b H1 => if b = true then ∃ N : St -> Hp -> Prop, (∀ σ' H', N σ' H' -> ∃ m', m' < m /\ W m' σ' H') /\ tb { D with nx := N, ct := N, bk := D.nx } σ H1 else D.nx σ H1
theorem ps_while {c : Expr} {body : List Stmt} {tc : TT} {tb : TS} (hp : PassesOwn (model X.prog X.w) X.A X.env X.xe) (hc : PT X c tc) (hb : PSs X body tb) : PS X (.While c body [] pos) (tWhile tc tb) := by
 intro pins s σ H D I h
 obtain ⟨W, ⟨m0, w0⟩, turn⟩ := h
 refine wpAny_While (codeAny_whileLoop (fun n s' => ∃ σ' H', Inv X pins σ' H' s' /\ W n σ' H') ?_ m0 ⟨σ, H, I, w0⟩)
 rintro n s1 ⟨σ1, H1, I1, w1⟩
 refine wpAny_passesOwn hp (thn (hc pins s1 σ1 H1 _ I1 (turn n σ1 H1 w1)) fun b s2 ⟨H2, I2, q2⟩ => ?_)
 cases b with
 | true =>
  obtain ⟨N, hN, q2⟩ := q2
  rw [if_pos rfl]
  refine wpAny_passesOwn hp (thn (hb pins s2 σ1 H2 _ I2 q2) fun f s3 q3 => ?_)
  cases f with
  | next =>
   obtain ⟨σ3, H3, I3, n3⟩ := q3
   obtain ⟨m', hm, w3⟩ := hN σ3 H3 n3
   exact ⟨m', hm, σ3, H3, I3, w3⟩
  | cont =>
   obtain ⟨σ3, H3, I3, n3⟩ := q3
   obtain ⟨m', hm, w3⟩ := hN σ3 H3 n3
   exact ⟨m', hm, σ3, H3, I3, w3⟩
  | brk => exact q3
  | ret v => exact q3
 | false =>
  rw [if_neg Bool.false_ne_true]
  exact wpAny_execs_nil ⟨σ1, H2, I2, q2⟩
end
structure It where
 go : Nat -> Hp -> Prop
 yld : Nat -> Hp -> V -> Hp -> Prop
 stop : Nat -> Hp -> Prop
noncomputable def FpOk (X : Cx) (pins : List (Addr × Obj)) (H : Hp) (b : Addr) : Prop :=
 H b = none /\ b ≠ X.env.locals /\ b ∉ X.fs /\ (b ∈ X.ex ∨ X.s₀.heap.objs.size <= b) /\ (∀ x c, X.env.cells.lookup x = some c -> c ≠ b) /\ ∀ p ∈ X.pn ++ pins, p.1 ≠ b
theorem Inv.fpOk {X : Cx} {pins : List (Addr × Obj)} {σ : St} {H H' : Hp} {s : Shared} {b : Addr} (I : Inv X pins σ H s) (hb : s.heap.objs.size <= b) (hn : H' b = none) : FpOk X pins H' b := by
 refine ⟨hn, Nat.ne_of_gt (Nat.lt_of_lt_of_le I.lt hb), I.nofs hb, .inr (Nat.le_trans I.sz hb), fun x c e z => ?_, fun p hp z => ?_⟩
 ·obtain ⟨v, q⟩ := I.cell x c e
  exact absurd (Nat.lt_of_lt_of_le q.lt (by rw [z]; exact hb)) (Nat.lt_irrefl _)
 ·exact absurd (Nat.lt_of_lt_of_le (Heap.lt_size (I.pin p hp).1) (by rw [z]; exact hb)) (Nat.lt_irrefl _)
structure Turn (P : Program) (w : World) (K : PySem.W.Frag) (tg : Expr) (J : It) (fp : List Addr) (it : Addr) (tn : Nat -> Heap -> Prop) : Prop where
 mem : it ∈ fp
 obj : ∀ i h, tn i h -> ∀ b ∈ fp, ∃ o, h.get? b = some o /\ ∀ v, o.data ≠ .cell v
 keep : ∀ i h h', tn i h -> (∀ b ∈ fp, ∀ o, h.get? b = some o -> h'.get? b = some o) -> tn i h'
 item : ∀ (X : Cx), X.prog = P -> X.w = w -> X.K = K -> X.calm = true -> ∀ (i : Nat) (pins : List (Addr × Obj)) (s : Shared) (σ : St) (H : Hp) (E : Value -> Shared -> Prop), Inv X pins σ H s -> (∀ b ∈ fp, FpOk X pins H b) -> tn i s.heap -> J.go i H ->
  wpAny (model P w) X.A (pyNext (.ref it)) (fun r s1 => ∃ u, r = some u /\
   wpAny (model P w) X.A (letOwnedTupleGo tg (.ref it) u) (fun _ s2 => ∃ x H', Inv X pins σ H' s2 /\ RelV x u /\ J.yld i H x H' /\ tn (i + 1) s2.heap /\ ∀ b ∈ fp, H' b = none) E s1) E s
 done : ∀ (X : Cx), X.prog = P -> X.w = w -> X.K = K -> X.calm = true -> ∀ (i : Nat) (pins : List (Addr × Obj)) (s : Shared) (σ : St) (H : Hp) (E : Value -> Shared -> Prop), Inv X pins σ H s -> (∀ b ∈ fp, FpOk X pins H b) -> tn i s.heap -> J.stop i H ->
  wpAny (model P w) X.A (pyNext (.ref it)) (fun r s1 => r = none /\ Inv X pins σ H s1) E s
 self : ∀ (A : Around) (i : Nat) (s : Shared) (Q : Value -> Shared -> Prop) (E : Value -> Shared -> Prop), tn i s.heap -> Q (.ref it) s -> wpAny (model P w) A (pyIter (.ref it)) Q E s
noncomputable abbrev TI := St -> Hp -> (It -> Hp -> Prop) -> Prop
noncomputable def PIE (X : Cx) (pins : List (Addr × Obj)) (σ : St) (tg : Expr) (R : It -> Hp -> Prop) (itv : Value) (s2 : Shared) : Prop :=
 ∃ (it : Addr) (fp : List Addr) (tn : Nat -> Heap -> Prop) (J : It) (H' : Hp), itv = .ref it /\ Inv X pins σ H' s2 /\ Turn X.prog X.w X.K tg J fp it tn /\ tn 0 s2.heap /\ (∀ b ∈ fp, FpOk X pins H' b) /\ R J H'
noncomputable def PI (X : Cx) (tg iter : Expr) (wi : TI) : Prop :=
 ∀ (pins : List (Addr × Obj)) (s : Shared) (σ : St) (H : Hp) (R : It -> Hp -> Prop), Inv X pins σ H s -> wi σ H R ->
  wpAny (model X.prog X.w) X.A (eval iter X.env) (fun v s1 => wpAny (model X.prog X.w) X.A (pyIter v) (PIE X pins σ tg R) X.xe s1) X.xe s
theorem go_of {M : Model} {A : Around} {E : Value -> Shared -> Prop} {s : Shared} {tg : Expr} {it : Addr} {u : Value} {o : Obj} {n : String} {vs : Array Value} {Q : Unit -> Shared -> Prop} (ho : s.heap.get? it = some o) (hc : o.cls = .type n) (hd : o.data = .fields vs)
    (hn : ["enumerate", "zip", "dict_itemiterator", "dict_reverseitemiterator", "odict_iterator", "itertools.zip_longest", "itertools.pairwise"].contains n = false) (hQ : Q () s) : wpAny M A (letOwnedTupleGo tg (.ref it) u) Q E s := by
  unfold letOwnedTupleGo
  cases tg <;> first
    | exact wpAny_pure hQ
    | (cases u <;> first
        | exact wpAny_pure hQ
        | (refine wpAny_bind (wpAny_load ho ?_)
           rw [hc, hd]
           show wpAny M A (if (["enumerate", "zip", "dict_itemiterator", "dict_reverseitemiterator", "odict_iterator", "itertools.zip_longest", "itertools.pairwise"].contains n && vs[0]? == some (rawInt _)) = true then _ else _) Q E s
           rw [if_neg (by intro h; rw [hn, Bool.false_and] at h; cases h)]
           exact wpAny_pure hQ))
noncomputable def Itl (K : PySem.W.Frag) (a : Addr) : It :=
 ⟨fun i H => ∃ xs x, SqL K H a xs /\ xs[i]? = some x, fun i H x H' => H' = H /\ ∀ xs, SqL K H a xs -> xs[i]? = some x, fun i H => ∃ xs, SqL K H a xs /\ xs.length <= i⟩
noncomputable def Itt (K : PySem.W.Frag) (a : Addr) : It :=
 ⟨fun i H => ∃ xs x, SqT K H a xs /\ xs[i]? = some x, fun i H x H' => H' = H /\ ∀ xs, SqT K H a xs -> xs[i]? = some x, fun i H => ∃ xs, SqT K H a xs /\ xs.length <= i⟩
noncomputable def Itr (lo : Int) (n : Nat) : It := ⟨fun i _ => i < n, fun i H x H' => H' = H /\ x = .int (lo + i), fun i _ => n <= i⟩
theorem turn_list {P : Program} {w : World} {K : PySem.W.Frag} {tg : Expr} (a it : Addr) : Turn P w K tg (Itl K a) [it] it (fun i h => h.IsListIter it a i) where
 mem := by simp
 obj := fun i h st b hb => by
  have e : b = it := by simpa using hb
  subst e
  obtain ⟨o, e, c, d⟩ := st
  exact ⟨o, e, fun v z => by rw [d] at z; cases z⟩
 keep := fun i h h' st k => st.at fun o e => k it (by simp) o e
 item := by
  intro X hP hw hK hc i pins s σ H E I hf st hg
  subst hP hw hK
  obtain ⟨xs, x, hq, hx⟩ := hg
  obtain ⟨its, rv, p, hz⟩ := I.list hq
  obtain ⟨u, hu, ru⟩ := rv.get hx
  obtain ⟨f0, f1, f2, f3, f4, f5⟩ := hf it (by simp)
  refine wpAny_pyNext_list_item st p.isList (x := u) (by simpa using hu) fun h' st' sb => ?_
  have I1 : Inv X pins σ H { s with heap := h' } := I.turned (t' := s.toks) (fun b o hb e => (sb.2 b hb).trans e) f0 f1 f3 f4 f5
  obtain ⟨o, e, c, d⟩ := id st'
  exact ⟨u, rfl, go_of (s := { s with heap := h' }) e c d (by decide) ⟨x, H, I1, ru, ⟨rfl, fun ys hy => by rw [I.list_inj hy hq]; exact hx⟩, st', fun b hb => (hf b hb).1⟩⟩
 done := by
  intro X hP hw hK hc i pins s σ H E I hf st hg
  subst hP hw hK
  obtain ⟨xs, hq, hx⟩ := hg
  obtain ⟨its, rv, p, hz⟩ := I.list hq
  obtain ⟨f0, f1, f2, f3, f4, f5⟩ := hf it (by simp)
  have hl := rv.length
  exact wpAny_pyNext_list_end (I.ok.hd hc) st p.isList (by simp; (first | lia | omega)) fun h' eb => ⟨rfl, I.turned (t' := s.toks) (fun b o hb e => eb b o hb e) f0 f1 f3 f4 f5⟩
 self := fun _ _ _ _ _ st h => wpAny_pyIter_listiter st h
theorem turn_tuple {P : Program} {w : World} {K : PySem.W.Frag} {tg : Expr} (a it : Addr) : Turn P w K tg (Itt K a) [it] it (fun i h => h.IsTupleIter it a i) where
 mem := by simp
 obj := fun i h st b hb => by
  have e : b = it := by simpa using hb
  subst e
  obtain ⟨o, e, c, d⟩ := st
  exact ⟨o, e, fun v z => by rw [d] at z; cases z⟩
 keep := fun i h h' st k => st.at fun o e => k it (by simp) o e
 item := by
  intro X hP hw hK hc i pins s σ H E I hf st hg
  subst hP hw hK
  obtain ⟨xs, x, hq, hx⟩ := hg
  obtain ⟨its, rv, p, hz⟩ := I.tuple hq
  obtain ⟨u, hu, ru⟩ := rv.get hx
  obtain ⟨f0, f1, f2, f3, f4, f5⟩ := hf it (by simp)
  refine wpAny_pyNext_tuple_item st (show s.heap.IsTuple a its.toArray from p) (x := u) (by simpa using hu) fun h' st' sb => ?_
  have I1 : Inv X pins σ H { s with heap := h' } := I.turned (t' := s.toks) (fun b o hb e => (sb.2 b hb).trans e) f0 f1 f3 f4 f5
  obtain ⟨o, e, c, d⟩ := id st'
  exact ⟨u, rfl, go_of (s := { s with heap := h' }) e c d (by decide) ⟨x, H, I1, ru, ⟨rfl, fun ys hy => by rw [I.tuple_inj hy hq]; exact hx⟩, st', fun b hb => (hf b hb).1⟩⟩
 done := by
  intro X hP hw hK hc i pins s σ H E I hf st hg
  subst hP hw hK
  obtain ⟨xs, hq, hx⟩ := hg
  obtain ⟨its, rv, p, hz⟩ := I.tuple hq
  obtain ⟨f0, f1, f2, f3, f4, f5⟩ := hf it (by simp)
  have hl := rv.length
  exact wpAny_pyNext_tuple_end (I.ok.hd hc) st (show s.heap.IsTuple a its.toArray from p) (by simp; (first | lia | omega)) fun h' eb => ⟨rfl, I.turned (t' := s.toks) (fun b o hb e => eb b o hb e) f0 f1 f3 f4 f5⟩
 self := fun _ _ _ _ _ st h => wpAny_pyIter_tupleiter st h
theorem turn_range {P : Program} {w : World} {K : PySem.W.Frag} {tg : Expr} (it : Addr) (lo : Int) (n : Nat) : Turn P w K tg (Itr lo n) [it] it (fun i h => IsRangeIter h it (lo + (i : Nat) * 1) ((n : Int) - (i : Nat)) 1) where
 mem := by simp
 obj := fun i h st b hb => by
  have e : b = it := by simpa using hb
  subst e
  exact ⟨_, st, fun v z => by
   have z' : Data.fields _ = Data.cell v := z
   cases z'⟩
 keep := fun i h h' st k => k it (by simp) _ st
 item := by
  intro X hP hw hK hc i pins s σ H E I hf st hg
  subst hP hw hK
  obtain ⟨f0, f1, f2, f3, f4, f5⟩ := hf it (by simp)
  have W := Walks.range (prog := X.prog) (w := X.w) (I.ok.hd hc) it lo 1 n
  refine W.item i s _ _ hg st fun v h' tk hv st' kk => ?_
  obtain ⟨t, rfl⟩ := hv
  have I1 : Inv X pins σ H { s with heap := h', toks := tk } := I.turned (fun b o hb e => kk b o (by simpa using hb) e) f0 f1 f3 f4 f5
  refine ⟨_, rfl, go_of (s := { s with heap := h', toks := tk }) (n := "range_iterator") st' rfl rfl (by decide) ⟨.int (lo + i), H, I1, ⟨t, ?_⟩, ⟨rfl, rfl⟩, st', fun b hb => (hf b hb).1⟩⟩
  rw [Int.mul_one]
 done := by
  intro X hP hw hK hc i pins s σ H E I hf st hg
  subst hP hw hK
  obtain ⟨f0, f1, f2, f3, f4, f5⟩ := hf it (by simp)
  exact wpAny_pyNext_range_end (I.ok.hd hc) st (by have : n <= i := hg; (first | lia | omega)) fun h' eb => ⟨rfl, I.turned (t' := s.toks) (fun b o hb e => eb b o hb e) f0 f1 f3 f4 f5⟩
 self := fun _ _ _ _ _ st h => wpAny_pyIter_rangeiter st h
end L2
namespace L2
open PySem PySem.Spec PyProof.Rows
section
variable {X : Cx} {tg : Expr}
noncomputable def iList (K : PySem.W.Frag) (tl : TE) : TI := fun σ H R => tl σ H fun x H1 => ∃ a, x = .ref a /\ (∃ xs, SqL K H1 a xs) /\ R (Itl K a) H1
noncomputable def iTup (K : PySem.W.Frag) (tl : TE) : TI := fun σ H R => tl σ H fun x H1 => ∃ a, x = .ref a /\ (∃ xs, SqT K H1 a xs) /\ R (Itt K a) H1
theorem pi_list {l : Expr} {tl : TE} (hl : PE X l tl) : PI X tg l (iList X.K tl) := by
 intro pins s σ H R I h
 refine thn (hl pins s σ H _ I h) fun v s1 ⟨x, H1, I1, r1, q1⟩ => ?_
 obtain ⟨a, e, ⟨xs, hq⟩, q⟩ := q1
 subst e
 cases r1
 obtain ⟨its, rv, p, hz⟩ := I1.list hq
 refine wpAny_pyIter_list p.isList ?_
 refine ⟨s1.heap.objs.size, [s1.heap.objs.size], _, _, H1, rfl, I1.kept (t' := s1.toks) fun b o e => Heap.get?_push_of_some _ e, turn_list a _, ⟨_, Heap.get?_push_size _ rfl, rfl, rfl⟩, fun b hb => ?_, q⟩
 have e : b = s1.heap.objs.size := by simpa using hb
 subst e
 exact I1.fpOk (Nat.le_refl _) (I1.hok.fresh (Nat.le_refl _))
theorem pi_tup {l : Expr} {tl : TE} (hl : PE X l tl) : PI X tg l (iTup X.K tl) := by
 intro pins s σ H R I h
 refine thn (hl pins s σ H _ I h) fun v s1 ⟨x, H1, I1, r1, q1⟩ => ?_
 obtain ⟨a, e, ⟨xs, hq⟩, q⟩ := q1
 subst e
 cases r1
 obtain ⟨its, rv, p, hz⟩ := I1.tuple hq
 refine wpAny_pyIter_tuple (show s1.heap.IsTuple a its.toArray from p) ?_
 refine ⟨s1.heap.objs.size, [s1.heap.objs.size], _, _, H1, rfl, I1.kept (t' := s1.toks) fun b o e => Heap.get?_push_of_some _ e, turn_tuple a _, ⟨_, Heap.get?_push_size _ rfl, rfl, rfl⟩, fun b hb => ?_, q⟩
 have e : b = s1.heap.objs.size := by simpa using hb
 subst e
 exact I1.fpOk (Nat.le_refl _) (I1.hok.fresh (Nat.le_refl _))
theorem range_it {pins : List (Addr × Obj)} {σ : St} {H : Hp} {s : Shared} {R : It -> Hp -> Prop} {E : Value -> Shared -> Prop} {lo hi : Int} {t u v : Tok} {tk : Nat} (I : Inv X pins σ H s) (h1 : -(2 ^ 62) <= lo) (h2 : lo < 2 ^ 62) (h3 : -(2 ^ 62) <= hi) (h4 : hi < 2 ^ 62)
  (q : R (Itr lo (hi - lo).toNat) H) : wpAny (model X.prog X.w) X.A (pyIter (.ref s.heap.objs.size)) (PIE X pins σ tg R) E { s with heap := s.heap.push { cls := .type "range", data := .fields #[.int lo t, .int hi u, .int 1 v] }, toks := tk } := by
 refine wpAny_pyIter_range (IsRange.new ..) (small_one h1 h2 h3 h4) ?_
 have I1 : Inv X pins σ H { s with heap := s.heap.push { cls := .type "range", data := .fields #[.int lo t, .int hi u, .int 1 v] }, toks := tk } := I.kept fun b o e => Heap.get?_push_of_some _ e
 refine ⟨(s.heap.push { cls := .type "range", data := .fields #[.int lo t, .int hi u, .int 1 v] }).objs.size, [(s.heap.push { cls := .type "range", data := .fields #[.int lo t, .int hi u, .int 1 v] }).objs.size], _, _, H, rfl,
  I1.kept (t' := tk) fun b o e => Heap.get?_push_of_some _ e, turn_range _ lo (hi - lo).toNat, ?_, fun b hb => ?_, q⟩
 ·have e1 : lo + ((0 : Nat) : Int) * 1 = lo := by simp
  have e2 : (((hi - lo).toNat : Nat) : Int) - ((0 : Nat) : Int) = Builtin.Range.rangeSize lo hi 1 := by rw [rangeSize_one]; split <;> (first | lia | omega)
  show IsRangeIter _ _ (lo + ((0 : Nat) : Int) * 1) ((((hi - lo).toNat : Nat) : Int) - ((0 : Nat) : Int)) 1
  rw [e1, e2]
  exact Heap.get?_push_size _ rfl
 ·have e : b = (s.heap.push { cls := .type "range", data := .fields #[.int lo t, .int hi u, .int 1 v] }).objs.size := by simpa using hb
  subst e
  exact I1.fpOk (Nat.le_refl _) (I1.hok.fresh (Nat.le_refl _))
noncomputable def iRng1 (ta : TA) : TI := fun σ H R => ta σ H fun vs H1 => ∃ j : Int, vs = [.int j] /\ -(2 ^ 62) <= j /\ j < 2 ^ 62 /\ R (Itr 0 j.toNat) H1
theorem pi_range1 {a : Expr} {ta : TA} {p pos : Pos} (hg : Gl X "range") (hm : X.mg "range" = none) (ha : PA X [a] ta) (hs : starEach [a] X.env = [(false, eval a X.env)] := by rfl) : PI X tg (.Call (.Name "range" p) [a] [] pos) (iRng1 ta) := by
 intro pins s σ H R I h
 refine Call_ (ld_blt I hg hm boot_range (PyProof.Rows.callWith_type1 (thn (ha pos pins s σ H _ I h) fun us s1 ⟨vs, H1, I1, r1, q1⟩ => ?_) hs rfl))
 obtain ⟨j, e, q1, q2, q⟩ := q1
 subst e
 cases r1 with
 | cons r rr =>
  cases rr
  obtain ⟨t, rfl⟩ := r
  exact call_range_1 (range_it I1 (by (first | lia | omega)) (by (first | lia | omega)) q1 q2 (by simpa using q))
noncomputable def tFor (wi : TI) (g : TG) (tb : TS) : TS := fun D σ H => wi σ H fun J H1 => ∃ W : Nat -> Nat -> St -> Hp -> Prop, (∃ m, W 0 m σ H1) /\ ∀ i m σ H, W i m σ H ->
 (J.stop i H /\ D.nx σ H) ∨ (J.go i H /\ ∃ N : St -> Hp -> Prop, (∀ σ' H', N σ' H' -> ∃ m', m' < m /\ W (i + 1) m' σ' H') /\ ∀ x H', J.yld i H x H' -> g x σ H' fun σ2 H2 => tb { D with nx := N, ct := N, bk := D.nx } σ2 H2)
noncomputable def pinsAt (fp : List Addr) (h : Heap) : List (Addr × Obj) := fp.filterMap fun b => (h.get? b).map fun o => (b, o)
theorem mem_pinsAt {fp : List Addr} {h : Heap} {b : Addr} {o : Obj} (hb : b ∈ fp) (e : h.get? b = some o) : (b, o) ∈ pinsAt fp h := List.mem_filterMap.mpr ⟨b, hb, by rw [e]; rfl⟩
theorem of_pinsAt {fp : List Addr} {h : Heap} {p : Addr × Obj} (hp : p ∈ pinsAt fp h) : p.1 ∈ fp /\ h.get? p.1 = some p.2 := by
 obtain ⟨b, hb, e⟩ := List.mem_filterMap.mp hp
 cases q : h.get? b with
 | none => rw [q] at e; cases e
 | some o =>
  rw [q] at e
  have e' : (b, o) = p := Option.some.inj e
  subst e'
  exact ⟨hb, q⟩
theorem Inv.pinned {pins : List (Addr × Obj)} {σ : St} {H : Hp} {s : Shared} {fp : List Addr} (I : Inv X pins σ H s) (hf : ∀ b ∈ fp, FpOk X pins H b) (ho : ∀ b ∈ fp, ∃ o, s.heap.get? b = some o /\ ∀ v, o.data ≠ .cell v) : Inv X (pins ++ pinsAt fp s.heap) σ H s :=
 I.pins_of fun p hp => (List.mem_append.mp hp).elim (fun z => I.pin p (List.mem_append_right _ z)) fun z => by
  obtain ⟨hb, e⟩ := of_pinsAt z
  obtain ⟨f0, f1, f2, _⟩ := hf p.1 hb
  obtain ⟨o, e', d⟩ := ho p.1 hb
  rw [e] at e'; cases e'
  exact ⟨e, f0, f1, f2, d⟩
theorem Inv.unpinned {pins pl : List (Addr × Obj)} {σ : St} {H : Hp} {s : Shared} (I : Inv X (pins ++ pl) σ H s) : Inv X pins σ H s := I.pins_of fun p hp => I.pin p (List.mem_append_right _ (List.mem_append_left _ hp))
theorem ps_for {iter : Expr} {body : List Stmt} {wi : TI} {g : TG} {tb : TS} {pos : Pos} (hp : PassesOwn (model X.prog X.w) X.A X.env X.xe) (hc : X.calm = true) (hi : PI X tg iter wi) (hg : PG X tg g) (hb : PSs X body tb)
  (hs : ∀ x, foldedSetIterable iter X.env x = pure x := by intro _; rfl) : PS X (.For tg iter body [] pos) (tFor wi g tb) := by
 intro pins s σ H D I h
 refine wpAny_For (thn (hi pins s σ H _ I h) fun v s1 h1 => thn h1 fun itv s2 h2 => ?_) hs
 obtain ⟨it, fp, tn, J, H2, e, I2, T, st2, f2, W, ⟨m0, w0⟩, turn⟩ := h2
 subst e
 have stat : ∀ {H' : Hp}, (∀ b ∈ fp, H' b = none) -> ∀ b ∈ fp, FpOk X pins H' b := fun hn b hb => ⟨hn b hb, (f2 b hb).2⟩
 refine codeAny_forLoop_any (fun n s' => ∃ i σ' H', Inv X pins σ' H' s' /\ tn i s'.heap /\ (∀ b ∈ fp, H' b = none) /\ W i n σ' H') ?_ m0 ⟨0, σ, H2, I2, st2, fun b hb => (f2 b hb).1, w0⟩
 rintro n s3 ⟨i, σ3, H3, I3, st3, fr3, w3⟩
 rcases turn i n σ3 H3 w3 with ⟨stop, qn⟩ | ⟨go, N, hN, step⟩
 ·refine wpAny_passesOwn hp (thn (T.done X rfl rfl rfl hc i pins s3 σ3 H3 X.xe I3 (stat fr3) st3 stop) fun r s4 ⟨hr, I4⟩ => ?_)
  subst hr
  exact wpAny_execs_nil ⟨σ3, H3, I4, qn⟩
 ·refine wpAny_passesOwn hp (thn (T.item X rfl rfl rfl hc i pins s3 σ3 H3 X.xe I3 (stat fr3) st3 go) fun r s4 ⟨u, hr, h4⟩ => ?_)
  subst hr
  refine wpAny_passesOwn hp (thn h4 fun _ s5 ⟨x, H5, I5, r5, y5, st5, fr5⟩ => ?_)
  have I5' := I5.pinned (stat fr5) (T.obj _ _ st5)
  refine wpAny_passesOwn hp (thn (hg _ s5 σ3 H5 x u _ I5' r5 (step x H5 y5)) fun _ s6 ⟨σ6, H6, I6, q6⟩ => ?_)
  refine wpAny_passesOwn hp (thn (hb _ s6 σ6 H6 _ I6 q6) fun f s7 q7 => ?_)
  have again : ∀ {σ7 : St} {H7 : Hp}, Inv X (pins ++ pinsAt fp s5.heap) σ7 H7 s7 -> N σ7 H7 -> ∃ m, m < n /\ ∃ i σ' H', Inv X pins σ' H' s7 /\ tn i s7.heap /\ (∀ b ∈ fp, H' b = none) /\ W i m σ' H' := fun {σ7 H7} I7 n7 => by
   obtain ⟨m', hm, w7⟩ := hN σ7 H7 n7
   refine ⟨m', hm, i + 1, σ7, H7, I7.unpinned, T.keep _ _ _ st5 fun b hb o e => (I7.pin (b, o) (List.mem_append_right _ (List.mem_append_right _ (mem_pinsAt hb e)))).1, fun b hb => ?_, w7⟩
   obtain ⟨o, e, d⟩ := T.obj _ _ st5 b hb
   exact (I7.pin (b, o) (List.mem_append_right _ (List.mem_append_right _ (mem_pinsAt hb e)))).2.1
  cases f with
  | next => obtain ⟨σ7, H7, I7, n7⟩ := q7; exact again I7 n7
  | cont => obtain ⟨σ7, H7, I7, n7⟩ := q7; exact again I7 n7
  | brk => obtain ⟨σ7, H7, I7, q7⟩ := q7; exact ⟨σ7, H7, I7.unpinned, q7⟩
  | ret v => obtain ⟨x7, σ7, H7, I7, r7, q7⟩ := q7; exact ⟨x7, σ7, H7, I7.unpinned, r7, q7⟩
end
theorem for_list {K : PySem.W.Frag} {a : Addr} {xs : List V} {g : TG} {tb : TS} {D : Ends} {σ : St} {H : Hp} (Pv : Nat -> St -> Hp -> Prop) (h0 : Pv 0 σ H) (hl : ∀ i σ H, i <= xs.length -> Pv i σ H -> SqL K H a xs)
  (hs : ∀ i x σ H, xs[i]? = some x -> Pv i σ H -> g x σ H fun σ2 H2 => tb { D with nx := Pv (i + 1), ct := Pv (i + 1), bk := D.nx } σ2 H2) (hd : ∀ σ H, Pv xs.length σ H -> D.nx σ H) :
  ∃ W : Nat -> Nat -> St -> Hp -> Prop, (∃ m, W 0 m σ H) /\ ∀ i m σ H, W i m σ H ->
   ((Itl K a).stop i H /\ D.nx σ H) ∨ ((Itl K a).go i H /\ ∃ N : St -> Hp -> Prop, (∀ σ' H', N σ' H' -> ∃ m', m' < m /\ W (i + 1) m' σ' H') /\ ∀ x H', (Itl K a).yld i H x H' -> g x σ H' fun σ2 H2 => tb { D with nx := N, ct := N, bk := D.nx } σ2 H2) := by
 refine ⟨fun i m σ H => m = xs.length - i /\ i <= xs.length /\ Pv i σ H, ⟨xs.length, by simp, Nat.zero_le _, h0⟩, ?_⟩
 rintro i m σ H ⟨rfl, hi, p⟩
 have q := hl i σ H hi p
 by_cases hlt : i < xs.length
 ·refine .inr ⟨⟨xs, xs[i], q, by simp [hlt]⟩, Pv (i + 1), fun σ' H' p' => ⟨xs.length - (i + 1), by (first | lia | omega), rfl, hlt, p'⟩, fun x H' y => ?_⟩
  obtain ⟨e, y⟩ := y
  subst e
  exact hs i x σ _ (y xs q) p
 ·have e : i = xs.length := by (first | lia | omega)
  subst e
  exact .inl ⟨⟨xs, q, Nat.le_refl _⟩, hd σ H p⟩
theorem for_range {lo : Int} {n : Nat} {g : TG} {tb : TS} {D : Ends} {σ : St} {H : Hp} (Pv : Nat -> St -> Hp -> Prop) (h0 : Pv 0 σ H)
  (hs : ∀ i σ H, i < n -> Pv i σ H -> g (.int (lo + i)) σ H fun σ2 H2 => tb { D with nx := Pv (i + 1), ct := Pv (i + 1), bk := D.nx } σ2 H2) (hd : ∀ σ H, Pv n σ H -> D.nx σ H) :
  ∃ W : Nat -> Nat -> St -> Hp -> Prop, (∃ m, W 0 m σ H) /\ ∀ i m σ H, W i m σ H ->
   ((Itr lo n).stop i H /\ D.nx σ H) ∨ ((Itr lo n).go i H /\ ∃ N : St -> Hp -> Prop, (∀ σ' H', N σ' H' -> ∃ m', m' < m /\ W (i + 1) m' σ' H') /\ ∀ x H', (Itr lo n).yld i H x H' -> g x σ H' fun σ2 H2 => tb { D with nx := N, ct := N, bk := D.nx } σ2 H2) := by
 refine ⟨fun i m σ H => m = n - i /\ i <= n /\ Pv i σ H, ⟨n, by simp, Nat.zero_le _, h0⟩, ?_⟩
 rintro i m σ H ⟨rfl, hi, p⟩
 by_cases hlt : i < n
 ·refine .inr ⟨hlt, Pv (i + 1), fun σ' H' p' => ⟨n - (i + 1), by (first | lia | omega), rfl, hlt, p'⟩, fun x H' y => ?_⟩
  obtain ⟨e, y⟩ := y
  subst e y
  exact hs i σ _ hlt p
 ·have e : i = n := by (first | lia | omega)
  subst e
  exact .inl ⟨Nat.le_refl _, hd σ H p⟩
end L2
namespace L2
open PySem PySem.Spec PyProof.Rows
noncomputable abbrev R2 := V -> V -> Hp -> VK -> Prop
noncomputable def OpR (X : Cx) (f : Value -> Value -> Sem Value) (r : R2) : Prop :=
 ∀ (pins : List (Addr × Obj)) (s : Shared) (σ : St) (H : Hp) (x y : V) (v u : Value) (Q : VK), Inv X pins σ H s -> RelV x v -> RelV y u -> r x y H Q ->
  wpAny (model X.prog X.w) X.A (f v u) (EP X pins σ Q) X.xe s
noncomputable def UnR (X : Cx) (f : Value -> Sem Value) (r : V -> Hp -> VK -> Prop) : Prop :=
 ∀ (pins : List (Addr × Obj)) (s : Shared) (σ : St) (H : Hp) (x : V) (v : Value) (Q : VK), Inv X pins σ H s -> RelV x v -> r x H Q ->
  wpAny (model X.prog X.w) X.A (f v) (EP X pins σ Q) X.xe s
noncomputable def CallR (X : Cx) (f : Value) (r : List V -> Hp -> VK -> Prop) : Prop :=
 ∀ (pins : List (Addr × Obj)) (s : Shared) (σ : St) (H : Hp) (xs : List V) (us : List Value) (Q : VK), Inv X pins σ H s -> Vals xs us -> r xs H Q ->
  wpAny (model X.prog X.w) X.A (call f us) (EP X pins σ Q) X.xe s
noncomputable def tOp (r : R2) (ta tb : TE) : TE := fun σ H Q => ta σ H fun x H1 => tb σ H1 fun y H2 => r x y H2 Q
noncomputable def tUn (r : V -> Hp -> VK -> Prop) (ta : TE) : TE := fun σ H Q => ta σ H fun x H1 => r x H1 Q
noncomputable def rI (C : Int -> Int -> Prop) (g : Int -> Int -> V) : R2 := fun x y H Q => ∃ i j, x = .int i /\ y = .int j /\ C i j /\ Q (g i j) H
noncomputable def rI0 (g : Int -> Int -> V) : R2 := fun x y H Q => ∃ i j, x = .int i /\ y = .int j /\ Q (g i j) H
noncomputable def rU (g : Int -> V) : V -> Hp -> VK -> Prop := fun x H Q => ∃ i, x = .int i /\ Q (g i) H
section
variable {X : Cx} {a b c : Expr} {ta tb tc : TE} {pos : Pos}
theorem binT (ha : PE X a ta) (hb : PE X b tb) {pins : List (Addr × Obj)} {s : Shared} {σ : St} {H : Hp} {R : V -> V -> Hp -> Prop} (I : Inv X pins σ H s)
  (h : ta σ H fun x H1 => tb σ H1 fun y H2 => R x y H2) {Q : Value -> Shared -> Prop} {f : Value -> Value -> Sem Value}
  (hf : ∀ v u s2 x y H2, Inv X pins σ H2 s2 -> RelV x v -> RelV y u -> R x y H2 -> wpAny (model X.prog X.w) X.A (f v u) Q X.xe s2) :
  wpAny (model X.prog X.w) X.A (eval a X.env) (fun v s₁ => wpAny (model X.prog X.w) X.A (eval b X.env) (fun u s₂ => wpAny (model X.prog X.w) X.A (f v u) Q X.xe s₂) X.xe s₁) X.xe s := by
 refine thn (ha pins s σ H _ I h) fun v s1 ⟨x, H1, I1, r1, q1⟩ => ?_
 refine thn (hb pins s1 σ H1 _ I1 q1) fun u s2 ⟨y, H2, I2, r2, q2⟩ => ?_
 exact hf v u s2 x y H2 I2 r1 r2 q2
theorem pe_op {op : Operator} {r : R2} (ho : OpR X (binaryOp op) r) (ha : PE X a ta) (hb : PE X b tb) : PE X (.BinOp a op b pos) (tOp r ta tb) := by
 intro pins s σ H Q I h
 exact wpAny_BinOp (binT ha hb I h fun v u s2 x y H2 I2 rx ry q => ho pins s2 σ H2 x y v u Q I2 rx ry q)
theorem pe_un {op : UnaryOp} {r : V -> Hp -> VK -> Prop} (ho : UnR X (unaryOp op) r) (ha : PE X a ta) : PE X (.UnaryOp op a pos) (tUn r ta) := by
 intro pins s σ H Q I h
 exact UnaryOp_ (thn (ha pins s σ H _ I h) fun v s1 ⟨x, H1, I1, r1, q1⟩ => ho pins s1 σ H1 x v Q I1 r1 q1)
theorem opI {f : Value -> Value -> Sem Value} {C : Int -> Int -> Prop} {g : Int -> Int -> Int}
  (rule : ∀ (i j : Int) (t u : Tok) (s : Shared) (Q : Value -> Shared -> Prop) (E : Value -> Shared -> Prop), C i j -> Q (.int (g i j) s.toks) { s with toks := s.toks + 1 } -> wpAny (model X.prog X.w) X.A (f (.int i t) (.int j u)) Q E s) :
  OpR X f (rI C fun i j => .int (g i j)) := by
 intro pins s σ H x y v u Q I rx ry h
 obtain ⟨i, j, rfl, rfl, hc, q⟩ := h
 obtain ⟨t, rfl⟩ := rx
 obtain ⟨t', rfl⟩ := ry
 exact rule i j t t' s _ _ hc ⟨.int (g i j), H, I.tok _, ⟨_, rfl⟩, q⟩
theorem opI0 {f : Value -> Value -> Sem Value} {g : Int -> Int -> Int}
  (rule : ∀ (i j : Int) (t u : Tok) (s : Shared) (Q : Value -> Shared -> Prop) (E : Value -> Shared -> Prop), Q (.int (g i j) s.toks) { s with toks := s.toks + 1 } -> wpAny (model X.prog X.w) X.A (f (.int i t) (.int j u)) Q E s) :
  OpR X f (rI0 fun i j => .int (g i j)) := by
 intro pins s σ H x y v u Q I rx ry h
 obtain ⟨i, j, rfl, rfl, q⟩ := h
 obtain ⟨t, rfl⟩ := rx
 obtain ⟨t', rfl⟩ := ry
 exact rule i j t t' s _ _ ⟨.int (g i j), H, I.tok _, ⟨_, rfl⟩, q⟩
theorem opB0 {f : Value -> Value -> Sem Value} {g : Int -> Int -> Bool}
  (rule : ∀ (i j : Int) (t u : Tok) (s : Shared) (Q : Value -> Shared -> Prop) (E : Value -> Shared -> Prop), Q (.bool (g i j)) s -> wpAny (model X.prog X.w) X.A (f (.int i t) (.int j u)) Q E s) :
  OpR X f (rI0 fun i j => .bl (g i j)) := by
 intro pins s σ H x y v u Q I rx ry h
 obtain ⟨i, j, rfl, rfl, q⟩ := h
 obtain ⟨t, rfl⟩ := rx
 obtain ⟨t', rfl⟩ := ry
 exact rule i j t t' s _ _ ⟨.bl (g i j), H, I, rfl, q⟩
noncomputable def CDiv (i j : Int) : Prop := 0 < j /\ j < 1073741824
noncomputable def CPow (i j : Int) : Prop := 0 <= j /\ j <= 1000000 /\ i.natAbs < 2 ^ 64
noncomputable def CMul (i j : Int) : Prop := (-(2 ^ 64) < i /\ i < 2 ^ 64) ∨ (-(2 ^ 64) < j /\ j < 2 ^ 64)
theorem CMul.ok {i j : Int} (h : CMul i j) : IntMulOk i j := by
 rcases h with ⟨h1, h2⟩ | ⟨h1, h2⟩
 ·exact .of_left (intBits_le_64 h1 h2)
 ·exact .of_right (intBits_le_64 h1 h2)
theorem op_add : OpR X (binaryOp .Add) (rI0 fun i j => .int (i + j)) := opI0 fun _ _ _ _ _ _ _ q => add_int q
theorem op_sub : OpR X (binaryOp .Sub) (rI0 fun i j => .int (i - j)) := opI0 fun _ _ _ _ _ _ _ q => sub_int q
theorem op_mul : OpR X (binaryOp .Mult) (rI CMul fun i j => .int (i * j)) := opI fun _ _ _ _ _ _ _ hc q => mul_int q hc.ok
theorem op_fdiv : OpR X (binaryOp .FloorDiv) (rI CDiv fun i j => .int (i / j)) := opI fun i j _ _ _ _ _ hc q => by
 have h1 : (0 : Int) < j := hc.1
 have h2 : j < 1073741824 := hc.2
 exact floordiv_int (by (first | lia | omega)) (by rw [Int.fdiv_eq_ediv_of_nonneg i (by (first | lia | omega))]; exact q) (.inl (PyProof.noPylong_small (by (first | lia | omega))))
theorem op_mod : OpR X (binaryOp .Mod) (rI (fun _ j => 0 < j) fun i j => .int (i % j)) := opI fun i j _ _ _ _ _ hc q => by
 have h1 : (0 : Int) < j := hc
 exact mod_int' (by (first | lia | omega)) (by rw [Int.fmod_eq_emod_of_nonneg i (by (first | lia | omega))]; exact q)
theorem op_pow : OpR X (binaryOp .Pow) (rI CPow fun i j => .int (i ^ j.toNat)) := opI fun _ _ _ _ _ _ _ hc q => pow_int_small hc.1 hc.2.1 hc.2.2 q
theorem unI {f : Value -> Sem Value} {g : Int -> Int}
  (rule : ∀ (i : Int) (t : Tok) (s : Shared) (Q : Value -> Shared -> Prop) (E : Value -> Shared -> Prop), Q (.int (g i) s.toks) { s with toks := s.toks + 1 } -> wpAny (model X.prog X.w) X.A (f (.int i t)) Q E s) :
  UnR X f (rU fun i => .int (g i)) := by
 intro pins s σ H x v Q I rx h
 obtain ⟨i, rfl, q⟩ := h
 obtain ⟨t, rfl⟩ := rx
 exact rule i t s _ _ ⟨.int (g i), H, I.tok _, ⟨_, rfl⟩, q⟩
theorem un_neg : UnR X (unaryOp .USub) (rU fun i => .int (-i)) := unI fun _ _ _ _ _ q => neg_int q
end
noncomputable def scal : V -> V -> Bool
 | .non, .non => true | .non, .int _ => true | .int _, .non => true | .non, .bl _ => true | .bl _, .non => true | .non, .str _ => true | .str _, .non => true
 | .int _, .int _ => true | .bl _, .bl _ => true | .str _, .str _ => true | .byt _, .byt _ => true
 | .int _, .str _ => true | .str _, .int _ => true | .bl _, .str _ => true | .str _, .bl _ => true
 | _, _ => false
noncomputable def rEq : R2 := fun x y H Q => scal x y = true /\ Q (.bl (decide (x = y))) H
noncomputable def rNe : R2 := fun x y H Q => scal x y = true /\ Q (.bl (!decide (x = y))) H
theorem dec_int {i j : Int} : decide (V.int i = V.int j) = (i == j) := by
 rw [Bool.eq_iff_iff]
 simp
theorem dec_bl {i j : Bool} : decide (V.bl i = V.bl j) = (i == j) := by
 rw [Bool.eq_iff_iff]
 simp
theorem dec_str {i j : Str} : decide (V.str i = V.str j) = (i == j) := by
 rw [Bool.eq_iff_iff]
 simp
theorem dec_byt {i j : Array UInt8} : decide (V.byt i = V.byt j) = (i.toList == j.toList) := by
 rw [Bool.eq_iff_iff]
 cases i
 cases j
 simp
section
variable {X : Cx} {a b c : Expr} {ta tb tc : TE} {pos : Pos}
theorem fin_bl {pins : List (Addr × Obj)} {σ : St} {H : Hp} {s : Shared} {Q : VK} {k k' : Bool} (I : Inv X pins σ H s) (q : Q (.bl k) H) (e : k = k') : EP X pins σ Q (.bool k') s := by
 subst e
 exact ⟨.bl k, H, I, rfl, q⟩
theorem op_eq : OpR X (compareOp .Eq) rEq := by
 intro pins s σ H x y v u Q I rx ry h
 obtain ⟨hs, q⟩ := h
 cases x with
 | non =>
  cases rx
  cases y with
  | non => cases ry; exact PySem.EqNone.eq_none_none (fin_bl I q (by simp))
  | bl j => cases ry; exact PySem.EqNone.eq_none_bool (fin_bl I q (by simp))
  | int j => obtain ⟨t', rfl⟩ := ry; exact PySem.EqNone.eq_none_int (fin_bl I q (by simp))
  | str j => obtain ⟨t', rfl⟩ := ry; exact PySem.EqNone.eq_none_str (fin_bl I q (by simp))
  | _ => exact absurd (show false = true from hs) Bool.false_ne_true
 | bl i =>
  cases rx
  cases y with
  | non => cases ry; exact PySem.EqNone.eq_bool_none (fin_bl I q (by simp))
  | bl j => cases ry; exact eq_bool (fin_bl I q dec_bl)
  | str j => obtain ⟨t', rfl⟩ := ry; exact PySem.EqMixed.eq_bool_str (fin_bl I q (by simp))
  | _ => exact absurd (show false = true from hs) Bool.false_ne_true
 | int i =>
  obtain ⟨t, rfl⟩ := rx
  cases y with
  | non => cases ry; exact PySem.EqNone.eq_int_none (fin_bl I q (by simp))
  | int j => obtain ⟨t', rfl⟩ := ry; exact eq_int (fin_bl I q dec_int)
  | str j => obtain ⟨t', rfl⟩ := ry; exact PySem.EqMixed.eq_int_str (fin_bl I q (by simp))
  | _ => exact absurd (show false = true from hs) Bool.false_ne_true
 | str i =>
  obtain ⟨t, rfl⟩ := rx
  cases y with
  | non => cases ry; exact PySem.EqNone.eq_str_none (fin_bl I q (by simp))
  | bl j => cases ry; exact PySem.EqMixed.eq_str_bool (fin_bl I q (by simp))
  | int j => obtain ⟨t', rfl⟩ := ry; exact PySem.EqMixed.eq_str_int (fin_bl I q (by simp))
  | str j => obtain ⟨t', rfl⟩ := ry; exact eq_str (fin_bl I q dec_str)
  | _ => exact absurd (show false = true from hs) Bool.false_ne_true
 | byt i =>
  obtain ⟨t, rfl⟩ := rx
  cases y with
  | byt j => obtain ⟨t', rfl⟩ := ry; exact PySem.W.eq_bytes (fin_bl I q dec_byt)
  | _ => exact absurd (show false = true from hs) Bool.false_ne_true
 | _ => cases y <;> exact absurd (show false = true from hs) Bool.false_ne_true
theorem op_ne : OpR X (compareOp .NotEq) rNe := by
 intro pins s σ H x y v u Q I rx ry h
 obtain ⟨hs, q⟩ := h
 cases x with
 | non =>
  cases rx
  cases y with
  | non => cases ry; exact PySem.EqNone.ne_none_none (fin_bl I q (by simp))
  | bl j => cases ry; exact PySem.EqNone.ne_none_bool (fin_bl I q (by simp))
  | int j => obtain ⟨t', rfl⟩ := ry; exact PySem.EqNone.ne_none_int (fin_bl I q (by simp))
  | str j => obtain ⟨t', rfl⟩ := ry; exact PySem.EqNone.ne_none_str (fin_bl I q (by simp))
  | _ => exact absurd (show false = true from hs) Bool.false_ne_true
 | bl i =>
  cases rx
  cases y with
  | non => cases ry; exact PySem.EqNone.ne_bool_none (fin_bl I q (by simp))
  | bl j => cases ry; exact ne_bool (fin_bl I q (congrArg not dec_bl))
  | str j => obtain ⟨t', rfl⟩ := ry; exact PySem.EqMixed.ne_bool_str (fin_bl I q (by simp))
  | _ => exact absurd (show false = true from hs) Bool.false_ne_true
 | int i =>
  obtain ⟨t, rfl⟩ := rx
  cases y with
  | non => cases ry; exact PySem.EqNone.ne_int_none (fin_bl I q (by simp))
  | int j => obtain ⟨t', rfl⟩ := ry; exact ne_int (fin_bl I q (congrArg not dec_int))
  | str j => obtain ⟨t', rfl⟩ := ry; exact PySem.EqMixed.ne_int_str (fin_bl I q (by simp))
  | _ => exact absurd (show false = true from hs) Bool.false_ne_true
 | str i =>
  obtain ⟨t, rfl⟩ := rx
  cases y with
  | non => cases ry; exact PySem.EqNone.ne_str_none (fin_bl I q (by simp))
  | bl j => cases ry; exact PySem.EqMixed.ne_str_bool (fin_bl I q (by simp))
  | int j => obtain ⟨t', rfl⟩ := ry; exact PySem.EqMixed.ne_str_int (fin_bl I q (by simp))
  | str j => obtain ⟨t', rfl⟩ := ry; exact ne_str (fin_bl I q (congrArg not dec_str))
  | _ => exact absurd (show false = true from hs) Bool.false_ne_true
 | byt i =>
  obtain ⟨t, rfl⟩ := rx
  cases y with
  | byt j => obtain ⟨t', rfl⟩ := ry; exact PySem.W.ne_bytes (fin_bl I q (congrArg not dec_byt))
  | _ => exact absurd (show false = true from hs) Bool.false_ne_true
 | _ => cases y <;> exact absurd (show false = true from hs) Bool.false_ne_true
theorem op_lt : OpR X (compareOp .Lt) (rI0 fun i j => .bl (decide (i < j))) := opB0 fun _ _ _ _ _ _ _ q => lt_int q
theorem op_le : OpR X (compareOp .LtE) (rI0 fun i j => .bl (decide (i <= j))) := opB0 fun _ _ _ _ _ _ _ q => le_int q
theorem op_gt : OpR X (compareOp .Gt) (rI0 fun i j => .bl (decide (j < i))) := opB0 fun _ _ _ _ _ _ _ q => gt_int q
theorem op_ge : OpR X (compareOp .GtE) (rI0 fun i j => .bl (decide (j <= i))) := opB0 fun _ _ _ _ _ _ _ q => ge_int q
theorem nomark (b : Expr) {op : CmpOp} (h : op ≠ .In := by decide) (h2 : op ≠ .NotIn := by decide) : behindInMarks op b = false := by
 have e1 : (op == CmpOp.In) = false := by cases op <;> first | rfl | exact absurd rfl h
 have e2 : (op == CmpOp.NotIn) = false := by cases op <;> first | rfl | exact absurd rfl h2
 cases b <;> simp [behindInMarks, e1, e2]
theorem pe_cmpR {op : CmpOp} {r : R2} (ho : OpR X (compareOp op) r) (ha : PE X a ta) (hb : PE X b tb) (hm : behindInMarks op b = false) : PE X (.Compare a [op] [b] pos) (tOp r ta tb) := by
 intro pins s σ H Q I h
 exact wpAny_Compare1 (binT ha hb I h fun v u s2 x y H2 I2 rx ry q => ho pins s2 σ H2 x y v u Q I2 rx ry q) hm
noncomputable def tTest (t : TE) : TT := fun σ H Q => t σ H fun x H' => ∃ k, x = .bl k /\ Q k H'
theorem pt_cmpR {op : CmpOp} {r : R2} (ho : OpR X (compareOp op) r) (ha : PE X a ta) (hb : PE X b tb) (hm : behindInMarks op b = false) : PT X (.Compare a [op] [b] pos) (tTest (tOp r ta tb)) := by
 intro pins s σ H Q I h
 refine wpAny_isTrue_Compare1 (thn (ha pins s σ H _ I h) fun v s1 ⟨x, H1, I1, r1, q1⟩ => thn (hb pins s1 σ H1 _ I1 q1) fun u s2 ⟨y, H2, I2, r2, q2⟩ =>
  thn (ho pins s2 σ H2 x y v u _ I2 r1 r2 q2) fun c s3 ⟨z, H3, I3, r3, k, e, q3⟩ => ?_) hm
 subst e
 cases r3
 exact wpAny_truthy_bool ⟨H3, I3, q3⟩
theorem line63 : (sizeLine : Nat) < 2 ^ 63 := by rw [sizeLine_eq]; decide
theorem vals1 {x : V} {us : List Value} (r : Vals [x] us) : ∃ u, us = [u] /\ RelV x u := by
 cases r with
 | cons r1 r2 => cases r2; exact ⟨_, rfl, r1⟩
theorem vals2 {x y : V} {us : List Value} (r : Vals [x, y] us) : ∃ u w', us = [u, w'] /\ RelV x u /\ RelV y w' := by
 cases r with
 | cons r1 r2 =>
  cases r2 with
  | cons r3 r4 => cases r4; exact ⟨_, _, rfl, r1, r3⟩
theorem call_int1 : CallR X (.type "int") (fun xs H Q => (∃ i, xs = [.int i] /\ Q (.int i) H) ∨ ∃ k, xs = [.bl k] /\ Q (.int (if k then 1 else 0)) H) := by
 intro pins s σ H xs us Q I r h
 rcases h with ⟨i, rfl, q⟩ | ⟨k, rfl, q⟩
 ·obtain ⟨u, rfl, t, rfl⟩ := vals1 r
  exact call_int_int ⟨.int i, H, I, ⟨_, rfl⟩, q⟩
 ·obtain ⟨u, rfl, r1⟩ := vals1 r
  cases r1
  exact call_int_bool ⟨.int (if k then 1 else 0), H, I.tok _, ⟨_, rfl⟩, q⟩
end
end L2
namespace L2
open PySem PySem.Spec PyProof.Rows
structure ObjM (h : Heap) (x dx C : Addr) (mA : Str -> Option Value) : Prop where
 obj : h.get? x = some (PySem.W.instObj C dx)
 ns : h.Ns1 dx mA
 ne : dx ≠ x
theorem lookIn_ns {h : Heap} {dx : Addr} {mA : Str -> Option Value} (n : h.Ns1 dx mA) : ∃ od, h.get? dx = some od /\ ∀ name, PySem.W.lookIn name od = some (mA name) := by
 obtain ⟨o, es, ep, ho, hd, hk, _, hm⟩ := n
 refine ⟨o, ho, fun name => ?_⟩
 have e := hm name
 unfold nsFind findBy at e
 rw [<- Array.find?_toList] at e
 unfold PySem.W.lookIn
 rw [hd]
 dsimp only
 split
 ·rename_i y q
  rw [q] at e
  exact congrArg some e
 ·rename_i q
  rw [q] at e
  have a : es.toList.any (·.refKey) = false := by
   rw [List.any_eq_false]
   intro y hy
   obtain ⟨z, t, hkey⟩ := hk y (Array.mem_toList_iff.mp hy)
   simp [DictEntry.refKey, hkey]
  have a' : ¬ es.toList.any (·.refKey) = true := by rw [a]; exact Bool.false_ne_true
  rw [if_neg a']
  exact congrArg some e
theorem ObjM.look {h : Heap} {x dx C : Addr} {mA : Str -> Option Value} (I : ObjM h x dx C mA) : ∃ od, PySem.W.InstAt h x (PySem.W.instObj C dx) C (some od) /\ ∀ name, PySem.W.lookIn name od = some (mA name) :=
 let ⟨od, ho, hl⟩ := lookIn_ns I.ns
 ⟨od, ⟨I.obj, rfl, rfl, ho⟩, hl⟩
section
variable {prog : Program} {w : World} {A : Around} {E : Value -> Shared -> Prop} {s : Shared} {K : PySem.W.Frag} {x dx C f : Addr} {mA : Str -> Option Value} {name : Str} {v : Value}
end
section
variable {P : Program} {w : World} {H H' : Hp} {h h' : Heap} {a C dx : Addr} {fs fs' : List (Str × V)}
theorem ins_get (hok : HOk P w H h) (e : H a = some (.ins C dx fs)) : ∃ mA, ObjM h a dx C mA /\ (∀ f, RelO (fs.lookup f) (mA f)) /\ PySem.Within mA (fs.map (·.1)) /\ fs.length <= 1000 /\ H dx = some (.own a) := by
 obtain ⟨d, z, ne, ob, mA, n, r, q⟩ := (show ObjOk P w H h a (.ins C dx fs) from hok a _ e)
 exact ⟨mA, ⟨ob, n, ne⟩, r, q, z, d⟩
end
structure Cls (K : PySem.W.Frag) (C : Addr) : Prop where
 pg : PySem.W.plainGet K C Str.empty = true
 hd : PySem.W.hasDictIn K C = true
 po : PySem.W.plainOver K C = true
 sa : PySem.W.findIn K (.ref C) "__setattr__" = some (some (.builtin "object.__setattr__"))
theorem Cls.get {K : PySem.W.Frag} {C : Addr} (c : Cls K C) (f : Str) : PySem.W.plainGet K C f = true := c.pg
structure Con (K : PySem.W.Frag) (C : Addr) (f : Str) (v : V) (u : Value) : Prop where
 at_ : PySem.W.findIn K (.ref C) f = some (some u)
 rel : RelV v u
 get : PySem.W.specialIn K u "__get__" = some none
 cp : PySem.W.copiedNames.contains f = false
structure Meth (K : PySem.W.Frag) (C : Addr) (m : Str) (f : Addr) : Prop where
 at_ : PySem.W.findIn K (.ref C) m = some (some (.ref f))
 fn : PySem.W.isFn K (.ref f) = true
 kp : PySem.W.keepIn K (.ref f) = true
section
variable {X : Cx} {pins : List (Addr × Obj)} {σ : St} {H : Hp} {s : Shared} {a C dx : Addr} {fs : List (Str × V)} {f : Str} {v : V} {A : Around} {E : Value -> Shared -> Prop}
end
section
variable {X : Cx} {o e value : Expr} {f : Str} {pos pos' tpos : Pos} {ta tv : TE}
end
section
variable {X : Cx} {pins : List (Addr × Obj)} {σ : St} {H : Hp} {s : Shared} {A : Around} {E : Value -> Shared -> Prop} {Q : Value -> Shared -> Prop} {c : Value} {b : Bool}
inductive TyOf (K : PySem.W.Frag) (H : Hp) : V -> Value -> Prop where
 | non : TyOf K H .non (.type "NoneType")
 | bl (x : Bool) : TyOf K H (.bl x) (.type "bool")
 | int (i : Int) : TyOf K H (.int i) (.type "int")
 | str (x : Str) : TyOf K H (.str x) (.type "str")
 | flt (x : UInt64) : TyOf K H (.flt x) (.type "float")
 | lst {a : Addr} {xs : List V} (e : H a = some (.lst xs)) : TyOf K H (.ref a) (.type "list")
 | frz {a : Addr} {o : Obj} {xs : List V} (e : H a = some (.frz o (.lst xs))) : TyOf K H (.ref a) (.type "list")
 | tup {a : Addr} {xs : List V} (e : H a = some (.tup xs)) : TyOf K H (.ref a) (.type "tuple")
 | dK {a : Addr} {kvs : List (Key × V)} (e : H a = some (.dK kvs)) : TyOf K H (.ref a) (.type "dict")
 | dT {a : Addr} {kvs : List (List Key × V)} (e : H a = some (.dT kvs)) : TyOf K H (.ref a) (.type "dict")
 | ins {a C dx : Addr} {fs : List (Str × V)} (e : H a = some (.ins C dx fs)) (cl : Cls K C) (ha : PySem.W.findIn K (.ref C) "__class__" = some (some (.builtin "object.__class__")))
   (hn : PySem.W.specialIn K (.builtin "object.__class__") "__get__" = some (some (.builtin "getset_descriptor.__get__"))) (htk : PySem.W.takesIn K (.builtin "object.__class__") = some true)
   (hm : PySem.W.mroIn K C (.type "object") = some true) : TyOf K H (.ref a) (.ref C)
theorem isinst_ok {x : V} {u t : Value} (I : Inv X pins σ H s) (rx : RelV x u) (ty : TyOf X.K H x t) (e : PySem.W.kitOne X.K t c = some b) (h : ∀ tk, Q (.bool b) { s with toks := tk }) :
  wpAny (model X.prog X.w) A (call (.builtin "isinstance") [u, c]) Q E s := by
 cases ty with
 | non => cases (show u = Value.none from rx); exact PySem.W.kia_one PySem.W.kitx_none I.kIn True.intro e (fun z => nomatch z) h
 | bl y => cases (show u = Value.bool y from rx); exact PySem.W.kia_one PySem.W.kitx_bool I.kIn True.intro e (fun z => nomatch z) h
 | int i => obtain ⟨t, q⟩ := (show ∃ t, u = Value.int i t from rx); cases q; exact PySem.W.kia_one PySem.W.kitx_int I.kIn True.intro e (fun z => nomatch z) h
 | str y => obtain ⟨t, q⟩ := (show ∃ t, u = Value.str y t from rx); cases q; exact PySem.W.kia_one PySem.W.kitx_str I.kIn True.intro e (fun z => nomatch z) h
 | flt y => obtain ⟨t, q⟩ := (show ∃ t, u = Value.float y t from rx); cases q; exact PySem.W.kia_one PySem.W.kitx_float I.kIn True.intro e (fun z => nomatch z) h
 | @lst a xs ea =>
  cases (show u = Value.ref a from rx)
  obtain ⟨_, _, n, _, h1⟩ := (show ObjOk X.prog X.w H s.heap a (.lst xs) from I.hok a _ ea)
  exact PySem.W.kia_one PySem.W.kitx_list I.kIn ⟨_, h1, rfl⟩ e (fun z => nomatch z) h
 | @frz a ob xs ea =>
  cases (show u = Value.ref a from rx)
  obtain ⟨_, _, _, n, _, h1⟩ := (show ObjOk X.prog X.w H s.heap a (.frz ob (.lst xs)) from I.hok a _ ea)
  exact PySem.W.kia_one PySem.W.kitx_list I.kIn ⟨_, h1, rfl⟩ e (fun z => nomatch z) h
 | @tup a xs ea =>
  cases (show u = Value.ref a from rx)
  obtain ⟨_, _, _, p⟩ := (show ObjOk X.prog X.w H s.heap a (.tup xs) from I.hok a _ ea)
  obtain ⟨o, h1, h2, _⟩ := p
  exact PySem.W.kia_one PySem.W.kitx_tuple I.kIn ⟨o, h1, h2⟩ e (fun z => nomatch z) h
 | @dK a kvs ea =>
  cases (show u = Value.ref a from rx)
  obtain ⟨_, _, vs, _, p⟩ := (show ObjOk X.prog X.w H s.heap a (.dK kvs) from I.hok a _ ea)
  obtain ⟨o, es, ep, h1, h2, _⟩ := p
  exact PySem.W.kia_one PySem.W.kitx_dict I.kIn ⟨o, h1, h2.1⟩ e (fun z => nomatch z) h
 | @dT a kvs ea =>
  cases (show u = Value.ref a from rx)
  obtain ⟨_, _, xs, _, o, es, ep, h1, h2, _⟩ := (show ObjOk X.prog X.w H s.heap a (.dT kvs) from I.hok a _ ea)
  exact PySem.W.kia_one PySem.W.kitx_dict I.kIn ⟨o, h1, h2.1⟩ e (fun z => nomatch z) h
 | @ins a C dx fs ea cl ha hn htk hm =>
  cases (show u = Value.ref a from rx)
  obtain ⟨mA, O, _⟩ := ins_get I.hok ea
  obtain ⟨od, J, _⟩ := O.look
  exact PySem.W.kia_one (PySem.W.kitx_own (cl.get _) cl.hd ha hn htk hm) I.kIn J e (fun z => nomatch z) h
end
end L2
namespace L2
open PySem PySem.Spec PyProof.Rows
structure Room (k : Nat) (A : Around) : Prop where
 hd : A.handled = none
 dp : A.depth + 3 * k + 5 < recursionLimit
 un : A.units + 16 * k + 200 < cLine
 gd : A.guards = some []
theorem Room.mono {j k : Nat} {A : Around} (r : Room k A) (h : j <= k) : Room j A := ⟨r.hd, by have := r.dp; (first | lia | omega), by have := r.un; (first | lia | omega), r.gd⟩
theorem Room.deeper {k : Nat} {A : Around} (r : Room (k + 1) A) (env : Env) : Room k (A.deeper env) :=
 ⟨r.hd, by have := r.dp; show A.depth + 1 + 3 * k + 5 < _; (first | lia | omega), by have := r.un; show A.units + 3 + 16 * k + 200 < _; (first | lia | omega), r.gd⟩
theorem Room.depth {k : Nat} {A : Around} (r : Room k A) : A.depth < recursionLimit := by have := r.dp; (first | lia | omega)
theorem Room.units {k : Nat} {A : Around} (r : Room k A) : A.units + 64 < cLine := by have := r.un; (first | lia | omega)
noncomputable def tNil : TA := fun _ H Q => Q [] H
noncomputable def tCons (ta : TE) (tr : TA) : TA := fun σ H Q => ta σ H fun x H1 => tr σ H1 fun xs H2 => Q (x :: xs) H2
section
variable {X : Cx} {e : Expr} {es : List Expr} {te : TE} {t : TA} {pos : Pos}
theorem pa_nil : PA X [] tNil := fun _ _ _ _ H Q I h => Calls.spliced_nil ⟨[], H, I, .nil, h⟩
theorem pa_cons (ha : PE X e te) (hr : PA X es t) (hs : starEach (e :: es) X.env = (false, eval e X.env) :: starEach es X.env := by rfl) : PA X (e :: es) (tCons te t) := by
 intro pos pins s σ H Q I h
 rw [hs]
 show wpAny _ _ (spliced ((false, eval e X.env) :: backTo pos (starEach es X.env))) _ _ s
 refine Calls.spliced_cons (thn (ha pins s σ H _ I h) fun u s1 ⟨x, H1, I1, r1, q1⟩ => ?_)
 exact thn (hr pos pins s1 σ H1 _ I1 q1) fun us s2 ⟨xs, H2, I2, r2, q2⟩ => ⟨x :: xs, H2, I2, .cons r1 r2, q2⟩
noncomputable def tTup (t : TA) : TE := fun σ H Q => t σ H fun xs H1 => xs.length <= sizeLine /\ ∀ p, H1 p = none -> Q (.ref p) (upd H1 p (.tup xs))
noncomputable def tLst (t : TA) : TE := fun σ H Q => t σ H fun xs H1 => xs.length <= sizeLine /\ ∀ p, H1 p = none -> Q (.ref p) (upd H1 p (.lst xs))
theorem pe_tup {x1} (h : PA X es t) : PE X (.Tuple es x1 pos) (tTup t) := by
 intro pins s σ H Q I hq
 refine wpAny_Tuple_spliced (thn (h pos pins s σ H _ I hq) fun us s1 ⟨xs, H1, I1, r, z, q⟩ => ⟨by rw [<- r.length]; exact z, ?_⟩)
 have hf : H1 s1.heap.objs.size = none := I1.hok.fresh (Nat.le_refl _)
 refine ⟨.ref s1.heap.objs.size, upd H1 s1.heap.objs.size (.tup xs), I1.laid (t' := s1.toks) (fun b u e => Heap.get?_push_of_some _ e) (Nat.le_refl _) ?_, rfl, q _ hf⟩
 exact ⟨z, us, r, PTup.new⟩
theorem pe_lst (h : PA X es t) : PE X (.List es pos) (tLst t) := by
 intro pins s σ H Q I hq
 refine wpAny_List_spliced (thn (h pos pins s σ H _ I hq) fun us s1 ⟨xs, H1, I1, r, z, q⟩ => ⟨by rw [<- r.length]; exact z, ?_⟩)
 have hf : H1 s1.heap.objs.size = none := I1.hok.fresh (Nat.le_refl _)
 refine ⟨.ref s1.heap.objs.size, upd H1 s1.heap.objs.size (.lst xs), I1.laid (t' := s1.toks) (fun b u e => Heap.get?_push_of_some _ e) (Nat.le_refl _) ?_, rfl, q _ hf⟩
 exact ⟨z, us, 0, r, Heap.get?_push_size _ rfl⟩
end
noncomputable abbrev Sp := List V -> Hp -> VK -> XK -> Prop
noncomputable abbrev CXT := List Env -> Hp -> Shared -> XK -> Value -> Shared -> Prop
structure Env0 (P : Program) (w : World) (K : PySem.W.Frag) (mg : Str -> Option Value) (base : Heap) (A : Around) (outer : List Env) (s : Shared) (H : Hp) : Prop where
 frames : A.frames = some outer
 mod : Mod K mg base
 bs : ∀ b o, base.get? b = some o -> s.heap.get? b = some o /\ H b = none
 bsz : base.objs.size <= s.heap.objs.size
 funs : s.heap.FunFrames base outer
 frf : ∀ b ∈ frs outer, H b = none
 hok : HOk P w H s.heap
 bare : AllBare s.gens
noncomputable def CE (outer : List Env) (P : Program) (w : World) (H : Hp) (s : Shared) (Q : VK) (u : Value) (s' : Shared) : Prop :=
 ∃ v H', s'.os = s.os /\ AllBare s'.gens /\ Un (frs outer) [] H H' s.heap s'.heap /\ HOk P w H' s'.heap /\ RelV v u /\ Q v H'
noncomputable def CR (CX : CXT) (outer : List Env) (P : Program) (w : World) (H : Hp) (s : Shared) (Q : VK) (E : XK) (r : Result) (s' : Shared) : Prop :=
 match r with
 | .ok (.ret u) => CE outer P w H s Q u s'
 | .ok _ => False
 | .error e => CX outer H s E e s'
structure FnOk (P : Program) (w : World) (K : PySem.W.Frag) (mg : Str -> Option Value) (base : Heap) (CX : CXT) (k : Nat) (f : Addr) (fd : FuncData) (ps : List Str) (sp : Sp) : Prop where
 len : ∀ vs H Q E, sp vs H Q E -> vs.length = ps.length
 run : ∀ (A : Around) (outer : List Env) (s : Shared) (H : Hp) (args : Args) (us : List Value) (vs : List V) (Q : VK) (E : XK), Room k A -> Env0 P w K mg base A outer s H -> BindsTo s fd args (ps.zip us) -> Vals vs us -> sp vs H Q E ->
  codeAny (model P w) A (.call (.ref f) args) (CR CX outer P w H s Q E) s
section
variable {X : Cx} {pins : List (Addr × Obj)} {σ : St} {H : Hp} {s s' : Shared}
theorem Inv.env0 (I : Inv X pins σ H s) : Env0 X.prog X.w X.K X.mg X.base X.A X.stack s H :=
 ⟨I.ok.frames, I.ok.mod, I.bs, Nat.le_trans I.ok.bsz I.sz, I.stack, I.stkFree, I.hok, I.bare⟩
theorem Inv.after {Q : VK} {u : Value} (I : Inv X pins σ H s) (h : CE X.stack X.prog X.w H s Q u s') : EP X pins σ Q u s' := by
 obtain ⟨v, H', os, bare, un, hok, r, q⟩ := h
 obtain ⟨hh, g, d, t, os'⟩ := s'
 obtain rfl : os' = s.os := os
 exact ⟨v, H', I.call (h' := hh) (g' := g) (d' := d) (t' := t) (ch := []) un hok bare (fun b z => absurd z (by simp)), r, q⟩
end
noncomputable def tCall (sp : Sp) (dvs : List V) (E : XK) (t : TA) : TE := fun σ H Q => t σ H fun vs H1 => sp (vs ++ dvs) H1 Q E
noncomputable def Binds (K : PySem.W.Frag) (fd : FuncData) (ps : List Str) (ds : List Value) : Prop :=
 ∀ (s : Shared) (us : List Value), K.In s.heap -> (us ++ ds).length = ps.length -> BindsTo s fd ⟨us, []⟩ (ps.zip (us ++ ds))
theorem Binds.all {K : PySem.W.Frag} {fd : FuncData} {ps : List Str} (h : ∀ us : List Value, us.length = ps.length -> bindArgs fd ⟨us, []⟩ = pure (ps.zip us)) : Binds K fd ps [] := fun s us _ hl => by
 rw [List.append_nil] at hl ⊢
 exact .of_eq (h us hl)
noncomputable def Passes (CX : CXT) (X : Cx) (E : XK) : Prop := ∀ (pins : List (Addr × Obj)) (σ : St) (H : Hp) (s : Shared) (e : Value) (s' : Shared), Inv X pins σ H s -> CX X.stack H s E e s' -> X.xe e s'
section
variable {X : Cx} {CX : CXT} {k : Nat} {f C : Addr} {fd : FuncData} {ps : List Str} {sp : Sp} {dvs : List V} {ds : List Value} {E : XK} {x m : Str} {p pos apos : Pos} {e o : Expr} {es : List Expr} {ta : TE} {t : TA}
theorem run_fn {pins : List (Addr × Obj)} {σ : St} {H : Hp} {s : Shared} {Q : VK} {us : List Value} {vs : List V} (F : FnOk X.prog X.w X.K X.mg X.base CX k f fd ps sp) (hr : Room k X.A) (hb : Binds X.K fd ps ds) (hd : Vals dvs ds) (hx : Passes CX X E)
  (I : Inv X pins σ H s) (r : Vals vs us) (h : sp (vs ++ dvs) H Q E) : wpAny (model X.prog X.w) X.A (call (.ref f) us) (EP X pins σ Q) X.xe s := by
 have r2 : Vals (vs ++ dvs) (us ++ ds) := r.append hd
 have hl : (us ++ ds).length = ps.length := by rw [<- r2.length]; exact F.len _ _ _ _ h
 refine wpAny_call (codeAny_mono (F.run X.A X.stack s H ⟨us, []⟩ (us ++ ds) (vs ++ dvs) Q E hr I.env0 (hb s us I.kIn hl) r2 h) fun r s' hq => ?_)
 cases r with
 | error e => exact hx pins σ H s e s' I hq
 | ok fl =>
  cases fl with
  | ret u => exact I.after hq
  | next => exact False.elim hq
  | brk => exact False.elim hq
  | cont => exact False.elim hq
theorem pe_call (F : FnOk X.prog X.w X.K X.mg X.base CX k f fd ps sp) (hr : Room k X.A) (hg : Gl X x) (hm : X.mg x = some (.ref f)) (hk : PySem.W.keepIn X.K (.ref f) = true) (hb : Binds X.K fd ps ds) (hd : Vals dvs ds) (hx : Passes CX X E)
  (ha : PA X (e :: es) t) (hdb : (x == ("__debug__" : Str)) = false := by decide) (he : starEach (e :: es) X.env = (false, eval e X.env) :: starEach es X.env := by rfl) (hpl : (backTo pos (starEach es X.env)).any (·.1) = false := by rfl) :
  PE X (.Call (.Name x p) (e :: es) [] pos) (tCall sp dvs E t) := by
 intro pins s σ H Q I h
 refine wpAny_Call_Name_kw (ld_glob I hg hm ?_ hdb)
 refine PySem.W.callWith_K (h₀ := X.base) I.ok.mod.kin hk (thn (ha pos pins s σ H _ I h) fun us s1 ⟨vs, H1, I1, r, q⟩ => ⟨I1.kIn, ?_⟩) he hpl
 exact run_fn F hr hb hd hx I1 r q
structure Mk (K : PySem.W.Frag) (C f : Addr) : Prop where
 makes : PySem.W.makesIn K C = true
 init : PySem.W.findIn K (.ref C) "__init__" = some (some (.ref f))
 fn : PySem.W.isFn K (.ref f) = true
 kp : PySem.W.keepIn K (.ref C) = true
end
section
variable {X : Cx} {CX : CXT} {k : Nat} {f C : Addr} {fd : FuncData} {ps ks : List Str} {sp : Sp} {E : XK} {x m : Str} {p pos apos kpos : Pos} {e o : Expr} {es : List Expr} {kws : List Keyword} {te ta : TE} {t tk : TA} {nm : Option Str}
structure KBinds (K : PySem.W.Frag) (fd : FuncData) (ps ks : List Str) (g : List Value -> List Value -> List Value) (gV : List V -> List V -> List V) : Prop where
 to : ∀ (s : Shared) (us ws : List Value), K.In s.heap -> (g us ws).length = ps.length -> BindsTo s fd ⟨us, ks.zip ws⟩ (ps.zip (g us ws))
 rel : ∀ {vs : List V} {us : List Value} {zs : List V} {ws : List Value}, Vals vs us -> Vals zs ws -> Vals (gV vs zs) (g us ws)
variable {g : List Value -> List Value -> List Value} {gV : List V -> List V -> List V}
end
structure FnScope (N P : List Str) (sc : Scope) : Prop where
 kind : sc.kind = .function
 co : sc.isCoroutine = false
 gen : sc.isGenerator = false
 nd : N.Nodup
 pre : N.take P.length = P
 par : ∀ x ∈ P, sc.names.lookup x = some .local ∨ sc.names.lookup x = some .cell
 nofree : ∀ y ∈ sc.names, y.2 ≠ .free
theorem bindL_out {kindOf : Str -> Option NameKind} {x : Str} : ∀ {binds : List (Str × Value)} {m : Str -> Option Value}, (∀ v, (x, v) ∉ binds) -> bindL kindOf binds m x = m x
 | [], _, _ => rfl
 | (n, v) :: r, m, h => by
  unfold bindL
  rw [bindL_out fun w hw => h w (List.mem_cons_of_mem _ hw)]
  split
  ·have : x ≠ n := by rintro rfl; exact h v List.mem_cons_self
   simp [this]
  ·rfl
theorem bindC_out {kindOf : Str -> Option NameKind} {x : Str} : ∀ {binds : List (Str × Value)} {m : Str -> Option Value}, (∀ v, (x, v) ∉ binds) -> bindC kindOf binds m x = m x
 | [], _, _ => rfl
 | (n, v) :: r, m, h => by
  unfold bindC
  rw [bindC_out fun w hw => h w (List.mem_cons_of_mem _ hw)]
  split
  ·rfl
  ·have : x ≠ n := by rintro rfl; exact h v List.mem_cons_self
   simp [this]
theorem bindL_get {kindOf : Str -> Option NameKind} {x : Str} {v : Value} : ∀ {P : List Str} {vs : List Value} {i : Nat} {m : Str -> Option Value}, P.Nodup -> P[i]? = some x -> vs[i]? = some v -> kindOf x = some .local ->
  bindL kindOf (P.zip vs) m x = some v
 | [], _, _, _, _, h, _, _ => by simp at h
 | _ :: _, [], _, _, _, _, h, _ => by simp at h
 | p :: P, w :: vs, 0, m, nd, h1, h2, hk => by
  simp at h1 h2; subst h1; subst h2
  show bindL kindOf ((p, w) :: P.zip vs) m p = _
  unfold bindL
  rw [bindL_out fun v hv => (List.nodup_cons.mp nd).1 (List.of_mem_zip hv).1, if_pos hk]
  simp
 | p :: P, w :: vs, i + 1, m, nd, h1, h2, hk => by
  show bindL kindOf ((p, w) :: P.zip vs) m x = _
  unfold bindL
  exact bindL_get (i := i) (List.nodup_cons.mp nd).2 (by simpa using h1) (by simpa using h2) hk
theorem bindC_get {kindOf : Str -> Option NameKind} {x : Str} {v : Value} : ∀ {P : List Str} {vs : List Value} {i : Nat} {m : Str -> Option Value}, P.Nodup -> P[i]? = some x -> vs[i]? = some v -> kindOf x ≠ some .local ->
  bindC kindOf (P.zip vs) m x = some v
 | [], _, _, _, _, h, _, _ => by simp at h
 | _ :: _, [], _, _, _, _, h, _ => by simp at h
 | p :: P, w :: vs, 0, m, nd, h1, h2, hk => by
  simp at h1 h2; subst h1; subst h2
  show bindC kindOf ((p, w) :: P.zip vs) m p = _
  unfold bindC
  rw [bindC_out fun v hv => (List.nodup_cons.mp nd).1 (List.of_mem_zip hv).1, if_neg hk]
  simp
 | p :: P, w :: vs, i + 1, m, nd, h1, h2, hk => by
  show bindC kindOf ((p, w) :: P.zip vs) m x = _
  unfold bindC
  exact bindC_get (i := i) (List.nodup_cons.mp nd).2 (by simpa using h1) (by simpa using h2) hk
noncomputable def start (N : List Str) (vs : List V) : St := vs.map some ++ List.replicate (N.length - vs.length) none
noncomputable def cxOf (CX : CXT) (P : Program) (w : World) (K : PySem.W.Frag) (mg : Str -> Option Value) (base : Heap) (N : List Str) (qual : Str) (scope : Scope) (f : Addr) (cd : Value) (A : Around) (outer : List Env) (s : Shared) (H : Hp) (E : XK) : Cx where
 prog := P
 w := w
 K := K
 mg := mg
 base := base
 A := A.deeper (envOfC qual scope s.heap.objs.size f cd)
 N := N
 s₀ := s
 H₀ := H
 env := envOfC qual scope s.heap.objs.size f cd
 outer := outer
 stack := envOfC qual scope s.heap.objs.size f cd :: outer
 ex := []
 calm := true
 fn := fun _ => true
 pn := []
 xe := fun e s' => wpAny (model P w) (A.deeper (envOfC qual scope s.heap.objs.size f cd)) (leaving (envOfC qual scope s.heap.objs.size f cd) e) (fun _ s'' => CX outer H s E e s'') (fun e' s'' => CX outer H s E e' s'') s'
theorem cell_has {sc : Scope} {n : Nat} {x : Str} (h : sc.names.lookup x = some .cell) : ∃ c, (cellsFrom n sc.names []).lookup x = some c := by
 have q := PySem.W.cellsFrom_some sc.names n [] (.inl h)
 exact Option.isSome_iff_exists.mp q
theorem inv_start {CX : CXT} {P : Program} {w : World} {K : PySem.W.Frag} {mg : Str -> Option Value} {base : Heap} {N ps : List Str} {qual : Str} {scope : Scope} {f : Addr} {cd : Value} {A : Around} {outer : List Env} {s s1 : Shared} {H : Hp} {E : XK} {us : List Value} {vs : List V}
  (S : FnScope N ps scope) (hd : A.handled = none) (e0 : Env0 P w K mg base A outer s H) (hl : vs.length = ps.length) (r : Vals vs us)
  (x : InCallC s s.heap.objs.size (bindL (envOfC qual scope s.heap.objs.size f cd).kindOf (ps.zip us) fun _ => none) (cellsFrom (s.heap.objs.size + 1) scope.names []) (bindC (envOfC qual scope s.heap.objs.size f cd).kindOf (ps.zip us) fun _ => none) s1) :
  Inv (cxOf CX P w K mg base N qual scope f cd A outer s H E) [] (start N vs) H s1 := by
 have hpl : ps.length <= N.length := by have := congrArg List.length S.pre; rw [List.length_take] at this; (first | lia | omega)
 obtain ⟨h1, tk, rfl, hk⟩ := x.done
 have noA : ∀ b : Addr, b ∉ (cxOf CX P w K mg base N qual scope f cd A outer s H E).ex := fun b z => absurd (show b ∈ ([] : List Addr) from z) (by simp)
 refine ⟨⟨e0.mod, S.kind, rfl, rfl, Nat.le_refl _, fun y z c h1 h2 => ?_, fun y hy => ?_, fun y c _ h => ?_, fun _ => hd, Around.frames_deeper e0.frames, .inr ⟨rfl, rfl⟩, fun b z => absurd z (noA b), e0.bs, e0.bsz, fun b _ _ => noA b, fun b z => absurd z (noA b), e0.funs, e0.frf⟩,
  rfl, e0.bare, Un.kept hk, ⟨_, x.toInCall.ns, fun i y v h1 h2 h3 => ?_⟩, fun y c h => ⟨_, x.cell y c h⟩, e0.hok.fresh (Nat.le_refl _), fun y c h => ?_, fun p hp => absurd (show p ∈ ([] : List (Addr × Obj)) from hp) (by simp), e0.hok.kept hk, ?_⟩
 ·exact name_of_addr x.apart (PySem.mem_of_lookup h1) (PySem.mem_of_lookup h2)
 ·have hy : scope.names.lookup y = some .cell ∨ scope.names.lookup y = some .free := hy
  rcases hy with hy | hy
  ·exact cell_has hy
  ·exact absurd rfl (S.nofree _ (PySem.mem_of_lookup hy))
 ·exact Nat.le_of_lt (x.above y c (PySem.mem_of_lookup h))
 ·have hi : i < vs.length := by
   unfold start at h2
   by_cases hi : i < vs.length
   ·exact hi
   ·rw [List.getElem?_append_right (by simpa using hi)] at h2
    rw [List.getElem?_replicate] at h2
    split at h2 <;> cases h2
  have ha : vs[i]? = some v := by
   unfold start at h2
   rw [List.getElem?_append_left (by simpa using hi), List.getElem?_map] at h2
   cases e : vs[i]? with
   | none => rw [e] at h2; cases h2
   | some a => rw [e] at h2; cases h2; rfl
  obtain ⟨u, hu, rv⟩ := r.get ha
  have hp : ps[i]? = some y := by
   rw [<- S.pre, List.getElem?_take_of_lt (by (first | lia | omega))]; exact h1
  have ndP : ps.Nodup := by rw [<- S.pre]; exact S.nd.sublist (List.take_sublist _ _)
  refine ⟨u, rv, ?_⟩
  rcases S.par y (List.mem_of_getElem? hp) with k | k
  ·exact .inl ⟨k, bindL_get ndP hp hu k⟩
  ·obtain ⟨c, e⟩ := cell_has (n := s.heap.objs.size + 1) k
   refine .inr ⟨.inl k, c, e, ?_⟩
   have q := x.cell y c e
   rw [bindC_get ndP hp hu (by show scope.names.lookup y ≠ _; rw [k]; decide)] at q
   exact q
 ·exact e0.hok.fresh (Nat.le_of_lt (x.above y c (PySem.mem_of_lookup h)))
 ·unfold start
  show _ = N.length
  rw [List.length_append, List.length_map, List.length_replicate]
  (first | lia | omega)
theorem fn_of {CX : CXT} {P : Program} {w : World} {K : PySem.W.Frag} {mg : Str -> Option Value} {base : Heap} {k : Nat} {f : Addr} {name qual : Str} {params : Arguments} {body : List Stmt} {scope : Scope} {dV kV doc pm cdv ct oc : Value} {an od : Option Addr}
  {osl : Array (Option Value)} {N ps : List Str} {sp : Sp} (lk : K.lookup f = some ⟨oc, od, .func (PySem.W.fnOf name qual params body scope dV kV doc pm an cdv ct), osl⟩) (hcd : PySem.W.codeIn K cdv qual = true) (S : FnScope N ps scope)
  (len : ∀ vs H Q E, sp vs H Q E -> vs.length = ps.length)
  (hbody : ∀ (A : Around) (outer : List Env) (s : Shared) (H : Hp) (vs : List V) (Q : VK) (E : XK), Room k (A.deeper (envOfC qual scope s.heap.objs.size f cdv)) -> sp vs H Q E ->
   ∃ t, PSs (cxOf CX P w K mg base N qual scope f cdv A outer s H E) body t /\ t { nx := fun _ H' => Q .non H', rt := Q } (start N vs) H) :
  FnOk P w K mg base CX (k + 1) f (PySem.W.fnOf name qual params body scope dV kV doc pm an cdv ct) ps sp := by
 refine ⟨len, fun A outer s H args us vs Q E hr e0 hb r hsp => ?_⟩
 have hl := len _ _ _ _ hsp
 have KX : K.In s.heap := e0.mod.kin.keeps fun b o e => (e0.bs b o e).1
 have lim : s.heap.NoLimit := e0.mod.nolimit.keeps fun b o e => (e0.bs b o e).1
 have hkind : ∀ y ∈ ps.zip us, scope.names.lookup y.1 = some .local ∨ (scope.names.lookup y.1 = some .cell /\ ((cellsFrom (s.heap.objs.size + 1) scope.names []).lookup y.1).isSome = true) := fun ⟨n, v⟩ hy => by
  rcases S.par n (List.of_mem_zip hy).1 with q | q
  ·exact .inl q
  ·exact .inr ⟨q, PySem.W.cellsFrom_some _ _ _ (.inl q)⟩
 refine codeAny_call_function hr.depth (KX _ _ lk) rfl S.co S.gen rfl (PySem.W.codeRec_of KX hcd) (hb _ _ _ _ ?_)
 refine wpAny_newFunctionEnv_cells S.kind hkind fun env he s1 x => ?_
 subst he
 refine ⟨lim.keeps x.toInCall.keep, codeAny_func ?_⟩
 obtain ⟨t, ht, hq⟩ := hbody A outer s H vs Q E (hr.deeper _) hsp
 have I : Inv (cxOf CX P w K mg base N qual scope f cdv A outer s H E) [] (start N vs) H s1 := inv_start S hr.hd e0 hl r x
 refine wpAny_mono (ht [] s1 (start N vs) H _ I hq) (fun fl s' hs => ?_) fun e s' hs => hs
 have fin : ∀ {σ' : St} {H' : Hp} {v : V} {u : Value}, Inv (cxOf CX P w K mg base N qual scope f cdv A outer s H E) [] σ' H' s' -> RelV v u -> Q v H' -> CE outer P w H s Q u s' :=
  fun {σ' H' v u} J rv q => ⟨v, H', J.os, J.bare, J.base, J.hok, rv, q⟩
 cases fl with
 | ret u =>
  obtain ⟨v, σ', H', J, rv, q⟩ := hs
  exact fin J rv q
 | next =>
  obtain ⟨σ', H', J, q⟩ := hs
  exact fin (v := V.non) (u := Value.none) J rfl q
 | brk =>
  obtain ⟨_, _, _, q⟩ := hs
  exact False.elim q
 | cont =>
  obtain ⟨_, _, _, q⟩ := hs
  exact False.elim q
end L2
namespace L2
open PySem PySem.Spec PyProof.Rows
section
variable {X : Cx} {x : Str} {p pos : Pos} {e : Expr} {es : List Expr} {t : TA} {id T : String} {r : List V -> Hp -> VK -> Prop}
noncomputable def tCB (r : List V -> Hp -> VK -> Prop) (t : TA) : TE := fun σ H Q => t σ H fun vs H1 => r vs H1 Q
theorem pe_callB (hc : CallR X (.builtin id) r) (hg : Gl X x) (hm : X.mg x = none) (hv : bootBuiltins x = some (.builtin id)) (ha : PA X (e :: es) t) (hn : x ≠ "__name__" := by decide) (hdb : (x == ("__debug__" : Str)) = false := by decide)
  (he : starEach (e :: es) X.env = (false, eval e X.env) :: starEach es X.env := by rfl) (hpl : (backTo pos (starEach es X.env)).any (·.1) = false := by rfl) : PE X (.Call (.Name x p) (e :: es) [] pos) (tCB r t) := by
 intro pins s σ H Q I h
 refine wpAny_Call_Name_kw (ld_blt I hg hm hv ?_ hn hdb)
 exact PyProof.Rows.callWith_builtin1 (thn (ha pos pins s σ H _ I h) fun us s1 ⟨vs, H1, I1, r1, q1⟩ => hc pins s1 σ H1 vs us Q I1 r1 q1) he hpl
theorem pe_callTy (hc : CallR X (.type T) r) (hg : Gl X x) (hm : X.mg x = none) (hv : bootBuiltins x = some (.type T)) (ha : PA X (e :: es) t) (hn : x ≠ "__name__" := by decide) (hdb : (x == ("__debug__" : Str)) = false := by decide)
  (he : starEach (e :: es) X.env = (false, eval e X.env) :: starEach es X.env := by rfl) (hpl : (backTo pos (starEach es X.env)).any (·.1) = false := by rfl) : PE X (.Call (.Name x p) (e :: es) [] pos) (tCB r t) := by
 intro pins s σ H Q I h
 refine wpAny_Call_Name_kw (ld_blt I hg hm hv ?_ hn hdb)
 exact PyProof.Rows.callWith_type1 (thn (ha pos pins s σ H _ I h) fun us s1 ⟨vs, H1, I1, r1, q1⟩ => hc pins s1 σ H1 vs us Q I1 r1 q1) he hpl
end
end L2
namespace HT
open PySem PyProof.Rows
section
open PySem.SeqAt
open PySem.AutoSeq1 (wpAny_loadPart')
open PySem.MeetsSeq PySem.MeetsSeq2 PySem.MeetsSeq3
end
section
variable {prog : Program} {w : World} {A : Around} {E : Value -> Shared -> Prop} {s : Shared}
noncomputable def sIx (n d : Nat) : Option Int -> Nat
 | none => d
 | some v => if v < 0 then (v + (n : Int)).toNat else min v.toNat n
theorem sIx_none (n d : Nat) : sIx n d none = d := rfl
theorem sIx_nat (n d k : Nat) : sIx n d (some (k : Int)) = min k n := by
 show (if (k : Int) < 0 then ((k : Int) + (n : Int)).toNat else min (k : Int).toNat n) = min k n
 rw [if_neg (by (first | lia | omega)), Int.toNat_natCast]
theorem sIx_le (n d : Nat) (hd : d <= n) (o : Option Int) : sIx n d o <= n := by
 cases o with
 | none => exact hd
 | some v =>
  show (if v < 0 then (v + (n : Int)).toNat else min v.toNat n) <= n
  by_cases hv : v < 0
  ·rw [if_pos hv]; (first | lia | omega)
  ·rw [if_neg hv]; exact Nat.min_le_right _ _
theorem clip_eq (v : Int) (n d : Nat) : (if v < 0 then max (v + (n : Int)) 0 else min v (n : Int)) = ((sIx n d (some v) : Nat) : Int) := by
 show (if v < 0 then max (v + (n : Int)) 0 else min v (n : Int)) = (((if v < 0 then (v + (n : Int)).toNat else min v.toNat n) : Nat) : Int)
 by_cases hv : v < 0
 ·simp only [if_pos hv]; (first | lia | omega)
 ·simp only [if_neg hv]; (first | lia | omega)
theorem adjust_gen (lo hi : Option Int) (n : Nat) : Builtin.Slice.sliceAdjust lo hi 1 (n : Int) = (((sIx n 0 lo : Nat) : Int), ((sIx n n hi : Nat) : Int)) := by
 have h1 : ¬ ((1 : Int) < 0) := by (first | lia | omega)
 unfold Builtin.Slice.sliceAdjust
 simp only [h1, if_false]
 refine Prod.ext ?_ ?_
 ·cases lo with
  | none => rfl
  | some v => exact clip_eq v n 0
 ·cases hi with
  | none => rfl
  | some v => exact clip_eq v n n
theorem places_gen (i j : Nat) : Builtin.Slice.slicePlaces (i : Int) (j : Int) 1 = j - i := by
 unfold Builtin.Slice.slicePlaces
 have h1 : (1 : Int) > 0 := by (first | lia | omega)
 simp only [h1, if_true, Int.ediv_one]
 split <;> (first | lia | omega)
theorem slicePart_ {v : Value} {o : Option Int} {Q : Option Int -> Shared -> Prop} (p : IsPart v o) (h : Q o s) : wpAny (model prog w) A (Builtin.Slice.slicePartIndex v) Q E s := by
 cases p with
 | none => exact slicePart_none h
 | int i t => exact slicePart_int h
theorem sliceApplied_gen {sl : Addr} {vl vu : Value} {lo hi : Option Int} {n : Nat} {Q : Int × Int × Nat -> Shared -> Prop} (hs : s.heap.IsSliceOf sl vl vu .none) (pl : IsPart vl lo) (pu : IsPart vu hi)
  (h : Q (((sIx n 0 lo : Nat) : Int), 1, sIx n n hi - sIx n 0 lo) s) : wpAny (model prog w) A (Builtin.Slice.sliceApplied (.ref sl) (pure (n : Int))) Q E s := by
 obtain ⟨os, hos, hcs, hds⟩ := id hs
 unfold Builtin.Slice.sliceApplied Builtin.Slice.sliceFields
 refine wpAny_bind (wpAny_bind (wpAny_field hos hds (x := vl) rfl (wpAny_bind (wpAny_field hos hds (x := vu) rfl (wpAny_bind (wpAny_field hos hds (x := .none) rfl (wpAny_pure ?_)))))))
 refine wpAny_bind (slicePart_none ?_)
 show wpAny _ _ (if ((1 : Int) == 0) = true then _ else _) _ _ s
 rw [if_neg (by decide)]
 refine wpAny_bind (slicePart_ pl (wpAny_bind (slicePart_ pu (wpAny_bind (wpAny_pure ?_)))))
 show wpAny _ _ (match Builtin.Slice.sliceAdjust lo hi 1 (n : Int) with | (lo, hi) => pure (lo, (1 : Int), Builtin.Slice.slicePlaces lo hi 1)) _ _ s
 rw [adjust_gen lo hi n]
 show wpAny _ _ (pure (((sIx n 0 lo : Nat) : Int), (1 : Int), Builtin.Slice.slicePlaces ((sIx n 0 lo : Nat) : Int) ((sIx n n hi : Nat) : Int) 1)) _ _ s
 rw [places_gen]
 exact wpAny_pure h
theorem pick_gen (xs : Array Value) (i k : Nat) : ((List.range k).filterMap fun (m : Nat) => xs[((i : Int) + (m : Int) * 1).toNat]?).toArray = ((xs.toList.drop i).take k).toArray := by
 have e : (fun (m : Nat) => xs[((i : Int) + (m : Int) * 1).toNat]?) = fun m => xs[i + m]? := by
  funext m
  have : ((i : Int) + (m : Int) * 1).toNat = i + m := by (first | lia | omega)
  rw [this]
 rw [e]
 have := pick_run xs i k
 rw [List.filterMap_map] at this
 have e2 : ((fun x => xs[x]?) ∘ fun x => i + x) = fun m => xs[i + m]? := rfl
 rw [e2] at this
 rw [this]
theorem getItem_tuple_cut {t sl : Addr} {items : Array Value} {vl vu : Value} {lo hi : Option Int} {Q : Value -> Shared -> Prop} (ht : IsTup s.heap t items) (hs : s.heap.IsSliceOf sl vl vu .none) (pl : IsPart vl lo) (pu : IsPart vu hi)
  (hw : ¬ (sIx items.size 0 lo = 0 /\ sIx items.size items.size hi = items.size))
  (h : Q (.ref s.heap.objs.size) { s with heap := s.heap.push { cls := .type "tuple", data := .seq ((items.toList.drop (sIx items.size 0 lo)).take (sIx items.size items.size hi - sIx items.size 0 lo)).toArray } })
  (hsz : items.size <= sizeLine) : wpAny (model prog w) A (getItem (.ref t) (.ref sl)) Q E s := by
 have htake : sizeOk (.seq ((items.toList.drop (sIx items.size 0 lo)).take (sIx items.size items.size hi - sIx items.size 0 lo)).toArray) := by
  show ((items.toList.drop (sIx items.size 0 lo)).take (sIx items.size items.size hi - sIx items.size 0 lo)).toArray.size <= sizeLine
  rw [List.size_toArray, List.length_take, List.length_drop, Array.length_toList]
  (first | lia | omega)
 have hj : sIx items.size items.size hi <= items.size := sIx_le _ _ (Nat.le_refl _) hi
 obtain ⟨os, hos, hcs, hds⟩ := id hs
 have hTs : s.TypeIs (.ref sl) "slice" := ⟨os, hos, hcs⟩
 unfold getItem
 try with_reducible refine wpAny_holding ?_
 first | refine wpAny_bind (wpAny_pure ?_) | skip
 refine wpAny_bind (wpAny_sequenceKey ht.typeIs (by decide) ?_)
 refine wpAny_bind (wpAny_callSpecial?_slot (name := Str.ofString "__getitem__") ht.typeIs PyProof.Rows.slot_tuple_getitem
  (wpAny_call_entry PyProof.Rows.slot_tuple_getitem ht.typeIs entry_tuple_getitem ?_ (args_tuple_getitem _ _)))
 show wpAny _ _ (Builtin.Tuple.tupleItemsOf (.ref t) >>= _) _ _ s
 refine wpAny_bind (tupleItemsOf_ ht ?_)
 refine wpAny_bind (wpAny_typeOf hTs ?_)
 rw [if_pos (by decide)]
 refine wpAny_bind (sliceApplied_gen hs pl pu ?_)
 have hno : ¬ ((((sIx items.size 0 lo : Nat) : Int) == 0 && (1 : Int) == 1 && (sIx items.size items.size hi - sIx items.size 0 lo) == items.size) = true) := by
  intro q
  rw [Bool.and_eq_true, Bool.and_eq_true] at q
  have q1 : ((sIx items.size 0 lo : Nat) : Int) = 0 := eq_of_beq q.1.1
  have q2 : sIx items.size items.size hi - sIx items.size 0 lo = items.size := eq_of_beq q.2
  exact hw ⟨by (first | lia | omega), by (first | lia | omega)⟩
 show wpAny _ _ (if (((sIx items.size 0 lo : Nat) : Int) == 0 && (1 : Int) == 1 && (sIx items.size items.size hi - sIx items.size 0 lo) == items.size) = true then _ else _) _ _ s
 rw [if_neg hno, pick_gen]
 first
  | exact wpAny_bind (m := Builtin.Tuple.tupleExact _) (wpAny_newObj_type (wpAny_pure ⟨_, rfl, wpAny_pure h⟩) htake)
  | exact wpAny_bind (m := Builtin.Tuple.tupleExact _) (wpAny_newObj_type (wpAny_bind (wpAny_pure (wpAny_pure ⟨_, rfl, wpAny_pure h⟩))) htake)
  | exact wpAny_bind (wpAny_bind (m := Builtin.Tuple.tupleExact _) (wpAny_newObj_type (wpAny_pure (wpAny_pure ⟨_, rfl, wpAny_pure h⟩)) htake))
  | exact wpAny_bind (wpAny_bind (m := Builtin.Tuple.tupleExact _) (wpAny_newObj_type (wpAny_pure ⟨_, rfl, wpAny_pure h⟩) htake))
end
end HT
namespace L2
open PySem PySem.Spec PyProof.Rows
noncomputable abbrev TO := St -> Hp -> (Option Int -> Hp -> Prop) -> Prop
noncomputable def PO (X : Cx) (e : Option Expr) (t : TO) : Prop :=
 ∀ (pins : List (Addr × Obj)) (s : Shared) (σ : St) (H : Hp) (Q : Option Int -> Hp -> Prop), Inv X pins σ H s -> t σ H Q ->
  wpAny (model X.prog X.w) X.A (evalPart e X.env) (fun u s' => ∃ o H', Inv X pins σ H' s' /\ IsPart u o /\ Q o H') X.xe s
noncomputable def tNoPart : TO := fun _ H Q => Q none H
noncomputable def tPart (t : TE) : TO := fun σ H Q => t σ H fun x H1 => ∃ i, x = .int i /\ Q (some i) H1
theorem intsAre_of {ns : List Int} : ∀ {us : List Value}, Vals (ns.map V.int) us -> IntsAre us ns := by
 induction ns with
 | nil => intro us r; rw [List.map_nil] at r; cases r; exact .nil
 | cons n ns ih =>
  intro us r
  rw [List.map_cons] at r
  cases r with
  | cons r1 r2 =>
   obtain ⟨t, e⟩ := r1
   subst e
   exact .cons n t (ih r2)
section
variable {X : Cx} {e : Expr} {te : TE} {lo hi : Option Expr} {tl th : TO} {pos p2 : Pos}
theorem po_none : PO X none tNoPart := by
 intro pins s σ H Q I h
 rw [evalPart_none]
 exact wpAny_pure ⟨none, H, I, .none, h⟩
theorem po_some (h : PE X e te) : PO X (some e) (tPart te) := by
 intro pins s σ H Q I hw
 rw [evalPart_some]
 refine thn (h pins s σ H _ I hw) fun u s1 ⟨x, H1, I1, r1, q1⟩ => ?_
 obtain ⟨i, rfl, q⟩ := q1
 obtain ⟨t, rfl⟩ := r1
 exact ⟨some i, H1, I1, .int i t, q⟩
noncomputable def SlR (X : Cx) (r : V -> Option Int -> Option Int -> Hp -> VK -> Prop) : Prop :=
 ∀ (pins : List (Addr × Obj)) (s : Shared) (σ : St) (H : Hp) (x : V) (v vl vu : Value) (lo hi : Option Int) (sl : Addr) (Q : VK), Inv X pins σ H s -> RelV x v -> s.heap.IsSliceOf sl vl vu .none -> IsPart vl lo -> IsPart vu hi -> r x lo hi H Q ->
  ∃ T id, typeLookup (.type T) "__getitem__" = pure (some (.builtin id)) /\ s.TypeIs v T /\ wpAny (model X.prog X.w) X.A (getItem v (.ref sl)) (EP X pins σ Q) X.xe s
noncomputable def tSl (r : V -> Option Int -> Option Int -> Hp -> VK -> Prop) (te : TE) (tl th : TO) : TE := fun σ H Q => te σ H fun x H1 => tl σ H1 fun l H2 => th σ H2 fun u H3 => r x l u H3 Q
theorem pe_slice {r : V -> Option Int -> Option Int -> Hp -> VK -> Prop} (hr : SlR X r) (he : PE X e te) (hl : PO X lo tl) (hu : PO X hi th) : PE X (.Subscript e (.Slice lo hi none p2) pos) (tSl r te tl th) := by
 intro pins s σ H Q I h
 refine Subscript_ (thn (he pins s σ H _ I h) fun v s1 ⟨x, H1, I1, r1, q1⟩ => ?_)
 refine wpAny_Slice (thn (hl pins s1 σ H1 _ I1 q1) fun vl s2 ⟨l, H2, I2, pl, q2⟩ => thn (hu pins s2 σ H2 _ I2 q2) fun vu s3 ⟨u, H3, I3, pu, q3⟩ => ?_)
 rw [evalPart_none]
 refine wpAny_pure ?_
 have I4 : Inv X pins σ H3 { s3 with heap := s3.heap.push { cls := .type "slice", data := .fields #[vl, vu, .none] } } := I3.kept (t' := s3.toks) fun b ob q => Heap.get?_push_of_some _ q
 obtain ⟨T, id, hT, ht, hg⟩ := hr pins { s3 with heap := s3.heap.push { cls := .type "slice", data := .fields #[vl, vu, .none] } } σ H3 x v vl vu l u s3.heap.objs.size Q I4 r1 (Heap.IsSliceOf.new ..) pl pu q3
 show wpAny (model X.prog X.w) X.A (subscriptTail e (.Slice lo hi none p2) v (.ref s3.heap.objs.size)) (EP X pins σ Q) X.xe { s3 with heap := s3.heap.push { cls := .type "slice", data := .fields #[vl, vu, .none] } }
 exact tail_any (ops := [.ref s3.heap.objs.size, v]) ht hT hg (by with_unfolding_all rfl)
noncomputable def cutV (xs : List V) (lo hi : Option Int) : List V := (xs.drop (HT.sIx xs.length 0 lo)).take (HT.sIx xs.length xs.length hi - HT.sIx xs.length 0 lo)
theorem cutV_length (xs : List V) (lo hi : Option Int) : (cutV xs lo hi).length <= xs.length := by
 unfold cutV
 rw [List.length_take, List.length_drop]
 (first | lia | omega)
noncomputable def rSlT (K : PySem.W.Frag) : V -> Option Int -> Option Int -> Hp -> VK -> Prop := fun x lo hi H Q => ∃ a xs, x = .ref a /\ SqT K H a xs /\
 ¬ (HT.sIx xs.length 0 lo = 0 /\ HT.sIx xs.length xs.length hi = xs.length) /\ ∀ p, H p = none -> Q (.ref p) (upd H p (.tup (cutV xs lo hi)))
theorem sl_tup : SlR X (rSlT X.K) := by
 intro pins s σ H x v vl vu lo hi sl Q I rx hs pl pu h
 obtain ⟨a, xs, rfl, hx, hw, q⟩ := h
 cases rx
 obtain ⟨its, r, ht, hz⟩ := I.tuple hx
 have hlen : its.toArray.size = xs.length := by rw [List.size_toArray]; exact r.length.symm
 refine ⟨"tuple", _, PyProof.Rows.slot_tuple_getitem.lookup, ht.typeIs, ?_⟩
 refine HT.getItem_tuple_cut ht hs pl pu (by rw [hlen]; exact hw) ?_ (by rw [hlen]; exact hz)
 rw [hlen]
 refine ⟨.ref s.heap.objs.size, _, I.laid (t' := s.toks) (o := .tup (cutV xs lo hi)) (fun b ob q => Heap.get?_push_of_some _ q) (Nat.le_refl _) ?_, rfl, q _ (I.hok.fresh (Nat.le_refl _))⟩
 exact ⟨Nat.le_trans (cutV_length xs lo hi) hz, _, (r.drop (HT.sIx xs.length 0 lo)).take (HT.sIx xs.length xs.length hi - HT.sIx xs.length 0 lo), PTup.new⟩
end
end L2
namespace L2
open PySem PySem.Spec PyProof.Rows
noncomputable def ixN (n : Nat) (i : Int) : Option Nat := if 0 <= i then (if i < n then some i.toNat else none) else if -(n : Int) <= i then some (i + n).toNat else none
noncomputable def atI {α : Type} (xs : List α) (i : Int) : Option α := (ixN xs.length i).bind fun j => xs[j]?
theorem ixN_seq {n : Nat} {i : Int} {j : Nat} (h : ixN n i = some j) : seqIndex? i n = some j /\ j < n /\ -(n : Int) <= i /\ i < n := by
 unfold ixN at h
 by_cases h0 : 0 <= i
 ·rw [if_pos h0] at h
  by_cases h1 : i < n
  ·rw [if_pos h1] at h
   have e : i.toNat = j := Option.some.inj h
   exact ⟨by rw [seqIndex_of h0 h1, e], by (first | lia | omega), by (first | lia | omega), h1⟩
  ·rw [if_neg h1] at h; cases h
 ·rw [if_neg h0] at h
  by_cases h1 : -(n : Int) <= i
  ·rw [if_pos h1] at h
   have e : (i + n).toNat = j := Option.some.inj h
   exact ⟨by rw [seqIndex_neg (by (first | lia | omega)) h1, e], by (first | lia | omega), h1, by (first | lia | omega)⟩
  ·rw [if_neg h1] at h; cases h
theorem atI_get {α : Type} {xs : List α} {i : Int} {v : α} (h : atI xs i = some v) : ∃ j, seqIndex? i xs.length = some j /\ xs[j]? = some v /\ j < xs.length /\ -(xs.length : Int) <= i /\ i < xs.length := by
 unfold atI at h
 cases e : ixN xs.length i with
 | none => rw [e] at h; cases h
 | some j =>
  rw [e] at h
  obtain ⟨h1, h2, h3, h4⟩ := ixN_seq e
  exact ⟨j, h1, h, h2, h3, h4⟩
theorem atI_nat {α : Type} {xs : List α} {j : Nat} {v : α} (h : xs[j]? = some v) : atI xs (j : Int) = some v := by
 have hj : j < xs.length := (List.getElem?_eq_some_iff.mp h).1
 have e : ixN xs.length (j : Int) = some j := by
  unfold ixN
  rw [if_pos (by (first | lia | omega)), if_pos (by (first | lia | omega))]; simp
 unfold atI; rw [e]; exact h
noncomputable def PlainIx (b : Expr) : Prop := ∀ o i, subscripted b false o i = operate [o, i] (getItem o i)
noncomputable def IxR (X : Cx) (r : R2) : Prop :=
 ∀ (value slice : Expr) (pins : List (Addr × Obj)) (s : Shared) (σ : St) (H : Hp) (x y : V) (v u : Value) (Q : VK), Inv X pins σ H s -> RelV x v -> RelV y u -> r x y H Q ->
  subscripted slice false v u = operate [v, u] (getItem v u) -> wpAny (model X.prog X.w) X.A (subscriptTail value slice v u) (EP X pins σ Q) X.xe s
noncomputable def MtR (X : Cx) (id : String) (r : V -> List V -> Hp -> VK -> Prop) : Prop :=
 ∀ (pins : List (Addr × Obj)) (s : Shared) (σ : St) (H : Hp) (x : V) (xs : List V) (v : Value) (us : List Value) (Q : VK), Inv X pins σ H s -> RelV x v -> Vals xs us -> r x xs H Q ->
  wpAny (model X.prog X.w) X.A (call (.builtin id) (v :: us)) (EP X pins σ Q) X.xe s
section
variable {X : Cx} {a b : Expr} {ta tb : TE} {pos : Pos}
theorem pe_ix {r : R2} (hr : IxR X r) (ha : PE X a ta) (hb : PE X b tb) (hs : PlainIx b) : PE X (.Subscript a b pos) (tOp r ta tb) := by
 intro pins s σ H Q I h
 exact Subscript_ (binT ha hb I h fun v u s2 x y H2 I2 rx ry q => hr a b pins s2 σ H2 x y v u Q I2 rx ry q (hs _ _))
noncomputable def rIxL (K : PySem.W.Frag) : R2 := fun x y H Q => ∃ p xs i v, x = .ref p /\ y = .int i /\ SqL K H p xs /\ atI xs i = some v /\ Q v H
noncomputable def rIxT (K : PySem.W.Frag) : R2 := fun x y H Q => ∃ p xs i v, x = .ref p /\ y = .int i /\ SqT K H p xs /\ atI xs i = some v /\ Q v H
theorem ix_list : IxR X (rIxL X.K) := by
 intro value slice pins s σ H x y v u Q I rx ry h hs
 obtain ⟨p, xs, i, z, rfl, rfl, hq, he, q⟩ := h
 cases rx
 obtain ⟨t, rfl⟩ := ry
 obtain ⟨its, r, pl, hz⟩ := I.list hq
 obtain ⟨j, h1, h2, h3, h4, h5⟩ := atI_get he
 obtain ⟨w, ew, rw'⟩ := r.get h2
 have hl := r.length
 have hn := line63
 have fin : EP X pins σ Q w s := ⟨z, H, I, rw', q⟩
 by_cases h0 : 0 <= i
 ·have hj : i.toNat = j := by
   rw [seqIndex_of h0 h5] at h1
   exact Option.some.inj h1
  exact item_listR pl.isList h0 (by (first | lia | omega)) (by rw [hj]; simpa using ew) fin hs
 ·have hj : (i + (its.toArray.size : Int)).toNat = j := by
   rw [seqIndex_neg (by (first | lia | omega)) h4] at h1
   rw [List.size_toArray, <- hl]
   exact Option.some.inj h1
  exact subscriptTail_builtinR (x := w) pl.isList.typeIs slot_list_getitem.lookup
   (wpAny_getItem_list_neg (Q := fun r s' => r = w /\ EP X pins σ Q r s') pl.isList (by (first | lia | omega)) (by rw [List.size_toArray] <;> (first | lia | omega)) (by (first | lia | omega)) (by rw [hj]; simpa using ew) ⟨rfl, fin⟩) hs
theorem ix_tup : IxR X (rIxT X.K) := by
 intro value slice pins s σ H x y v u Q I rx ry h hs
 obtain ⟨p, xs, i, z, rfl, rfl, hq, he, q⟩ := h
 cases rx
 obtain ⟨t, rfl⟩ := ry
 obtain ⟨its, r, pl, hz⟩ := I.tuple hq
 obtain ⟨j, h1, h2, h3, h4, h5⟩ := atI_get he
 obtain ⟨w, ew, rw'⟩ := r.get h2
 have hl := r.length
 have hn := line63
 have fin : EP X pins σ Q w s := ⟨z, H, I, rw', q⟩
 exact subscriptTail_builtinR (x := w) pl.typeIs slot_tuple_getitem.lookup
  (getItem_tuple (j := j) (Q := fun r s' => r = w /\ EP X pins σ Q r s') pl (by (first | lia | omega)) (by (first | lia | omega)) (by rw [List.size_toArray, <- hl]; exact h1) (by simpa using ew) ⟨rfl, fin⟩) hs
theorem mapSeq_set (its : List Value) (n j : Nat) (u : Value) : Obj.mapSeq (·.setIfInBounds j u) { cls := .type "list", data := .seq its.toArray n } = { cls := .type "list", data := .seq (its.set j u).toArray n } := by
 simp [Obj.mapSeq]
theorem Inv.lst {pins : List (Addr × Obj)} {σ : St} {H : Hp} {s : Shared} {p : Addr} {xs : List V} (I : Inv X pins σ H s) (h : H p = some (.lst xs)) :
  ∃ (its : List Value) (n : Nat), Vals xs its /\ s.heap.get? p = some { cls := .type "list", data := .seq its.toArray n } /\ xs.length <= sizeLine := by
 obtain ⟨z, its, n, r, e⟩ := I.hok p _ h
 exact ⟨its, n, r, e, z⟩
theorem Inv.lstUpd {pins : List (Addr × Obj)} {σ : St} {H : Hp} {s : Shared} {p : Addr} {xs ys : List V} {its its' : List Value} {n n' : Nat} {f : Obj -> Obj} (I : Inv X pins σ H s) (h : H p = some (.lst xs))
  (ho : s.heap.get? p = some { cls := .type "list", data := .seq its.toArray n }) (hf : f { cls := .type "list", data := .seq its.toArray n } = { cls := .type "list", data := .seq its'.toArray n' }) (r : Vals ys its') (hz : ys.length <= sizeLine) (t : Nat) :
  Inv X pins σ (upd H p (.lst ys)) { s with heap := s.heap.update p f, toks := t } := by
 have e : (s.heap.update p f).get? p = some { cls := .type "list", data := .seq its'.toArray n' } := by
  rw [Heap.get?_update_self f ho (by rw [hf] <;> rfl), hf]
 refine I.write (x := p) (e := p) (by rw [h]; trivial) (.inl rfl) (fun b u hb q => (Heap.get?_update_other _ _ (Ne.symm hb)).trans q) ⟨_, e⟩ ?_
 exact ⟨hz, its', n', r, e⟩
noncomputable def rSetL : V -> V -> V -> Hp -> (Hp -> Prop) -> Prop := fun o i v H Q => ∃ p xs k j, o = .ref p /\ i = .int k /\ H p = some (.lst xs) /\ ixN xs.length k = some j /\ Q (upd H p (.lst (xs.set j v)))
theorem set_list : PSet X rSetL := by
 intro pins s σ H o i v ov iv u Q I ro ri rv h
 obtain ⟨p, xs, k, j, rfl, rfl, hp, hj, q⟩ := h
 cases ro
 obtain ⟨t, rfl⟩ := ri
 obtain ⟨its, n, r, ho, hz⟩ := I.lst hp
 obtain ⟨h1, h2, h3, h4⟩ := ixN_seq hj
 have hl := r.length
 have hn := line63
 have I' : Inv X pins σ (upd H p (.lst (xs.set j v))) { s with heap := s.heap.update p (Obj.mapSeq (·.setIfInBounds j u)) } :=
  I.lstUpd hp ho (mapSeq_set its n j u) (r.set rv j) (by rw [List.length_set]; exact hz) s.toks
 by_cases h0 : 0 <= k
 ·have hk : k.toNat = j := by
   rw [seqIndex_of h0 h4] at h1
   exact Option.some.inj h1
  exact PySem.W.ki_setAt ho h0 (by (first | lia | omega)) (by rw [List.size_toArray, <- hl]; exact h4) (by rw [hk]; exact ⟨_, I', q⟩)
 ·have hk : (k + (its.toArray.size : Int)).toNat = j := by
   rw [seqIndex_neg (by (first | lia | omega)) h3] at h1
   rw [List.size_toArray, <- hl]
   exact Option.some.inj h1
  exact PySem.W.ki_setBack ho (by (first | lia | omega)) (by rw [List.size_toArray, <- hl]; exact h3) (by (first | lia | omega)) (by rw [hk]; exact ⟨_, I', q⟩)
theorem slice_bounds (lo hi : Option Int) (n : Nat) : (sliceBounds lo hi none n).1 = ((HT.sIx n 0 lo : Nat) : Int) /\ (sliceBounds lo hi none n).2.1 = ((HT.sIx n n hi : Nat) : Int) /\ (sliceBounds lo hi none n).2.2 = 1 := by
 refine ⟨?_, ?_, rfl⟩
 ·cases lo with
  | none => simp [sliceBounds, HT.sIx]
  | some i =>
   simp only [sliceBounds, HT.sIx, Option.getD_none, show (1 : Int) > 0 by decide, if_true]
   by_cases h : i < 0
   ·simp only [h, if_true] <;> (first | lia | omega)
   ·simp only [h, if_false] <;> (first | lia | omega)
 ·cases hi with
  | none => simp [sliceBounds, HT.sIx]
  | some i =>
   simp only [sliceBounds, HT.sIx, Option.getD_none, show (1 : Int) > 0 by decide, if_true]
   by_cases h : i < 0
   ·simp only [h, if_true] <;> (first | lia | omega)
   ·simp only [h, if_false] <;> (first | lia | omega)
theorem slicePick_cut (its : List Value) (lo hi : Option Int) : slicePick its.toArray lo hi none = ((its.drop (HT.sIx its.length 0 lo)).take (HT.sIx its.length its.length hi - HT.sIx its.length 0 lo)).toArray := by
 obtain ⟨h1, h2, h3⟩ := slice_bounds lo hi its.toArray.size
 unfold slicePick
 rw [h1, h2, h3]
 simp only [sliceRange_one, pick_run, List.size_toArray] <;> rfl
noncomputable def rSlL (K : PySem.W.Frag) : V -> Option Int -> Option Int -> Hp -> VK -> Prop := fun x lo hi H Q => ∃ a xs, x = .ref a /\ SqL K H a xs /\ ∀ p, H p = none -> Q (.ref p) (upd H p (.lst (cutV xs lo hi)))
theorem sl_list : SlR X (rSlL X.K) := by
 intro pins s σ H x v vl vu lo hi sl Q I rx hs pl pu h
 obtain ⟨a, xs, rfl, hx, q⟩ := h
 cases rx
 obtain ⟨its, r, ht, hz⟩ := I.list hx
 have hlen := r.length
 refine ⟨"list", _, slot_list_getitem.lookup, ht.isList.typeIs, ?_⟩
 refine wpAny_getItem_list_slice ht.isList hs pl pu .none (by simp) ?_ (by rw [List.size_toArray] <;> (first | lia | omega))
 rw [slicePick_cut, <- hlen]
 refine ⟨.ref s.heap.objs.size, _, I.laid (t' := s.toks) (o := .lst (cutV xs lo hi)) (fun b ob q => Heap.get?_push_of_some _ q) (Nat.le_refl _) ?_, rfl, q _ (I.hok.fresh (Nat.le_refl _))⟩
 exact ⟨Nat.le_trans (cutV_length xs lo hi) hz, _, 0, (r.drop (HT.sIx xs.length 0 lo)).take (HT.sIx xs.length xs.length hi - HT.sIx xs.length 0 lo), Heap.get?_push_size _ rfl⟩
theorem call_len_seq : CallR X (.builtin "len") (fun xs H Q => ∃ p ys, xs = [.ref p] /\ (SqL X.K H p ys ∨ SqT X.K H p ys) /\ Q (.int ys.length) H) := by
 intro pins s σ H xs us Q I r h
 obtain ⟨p, ys, rfl, hq, q⟩ := h
 obtain ⟨u, rfl, rx⟩ := vals1 r
 cases rx
 have hn := line63
 rcases hq with hq | hq
 ·obtain ⟨its, r', pl, hz⟩ := I.list hq
  have hlen := r'.length
  exact Calls.call_len_list pl.isList (by simp only [List.size_toArray] <;> (first | lia | omega)) ⟨.int ys.length, H, I.tok _, ⟨s.toks + 1, by rw [List.size_toArray, hlen]⟩, q⟩
 ·obtain ⟨its, r', pl, hz⟩ := I.tuple hq
  have hlen := r'.length
  exact len_tuple pl (by simp only [List.size_toArray] <;> (first | lia | omega)) ⟨.int ys.length, H, I.tok _, ⟨s.toks + 1, by rw [List.size_toArray, hlen]⟩, q⟩
theorem call_tuple_of : CallR X (.type "tuple") (fun xs H Q => ∃ p ys, xs = [.ref p] /\ ((SqL X.K H p ys /\ ∀ l, H l = none -> Q (.ref l) (upd H l (.tup ys))) ∨ (SqT X.K H p ys /\ Q (.ref p) H))) := by
 intro pins s σ H xs us Q I r h
 obtain ⟨p, ys, rfl, h⟩ := h
 obtain ⟨u, rfl, rx⟩ := vals1 r
 cases rx
 rcases h with ⟨hq, q⟩ | ⟨hq, q⟩
 ·obtain ⟨its, r', pl, hz⟩ := I.list hq
  have hlen := r'.length
  refine call_tuple_list pl.isList (fun h' kp => ?_) (by simp only [List.size_toArray] <;> (first | lia | omega))
  have I1 : Inv X pins σ H { s with heap := h' } := I.kept (t' := s.toks) kp
  have I2 : Inv X pins σ (upd H h'.objs.size (.tup ys)) { s with heap := h'.push { cls := .type "tuple", data := .seq its.toArray } } :=
   I1.laid (t' := s.toks) (fun b o e => Heap.get?_push_of_some _ e) (Nat.le_refl _) (show ObjOk X.prog X.w _ _ _ (.tup ys) from ⟨hz, its, r', PTup.new⟩)
  exact ⟨.ref h'.objs.size, _, I2, rfl, q _ (I1.hok.fresh (Nat.le_refl _))⟩
 ·obtain ⟨its, r', pl, hz⟩ := I.tuple hq
  exact call_tuple_same pl ⟨.ref p, H, I, rfl, q⟩
noncomputable def tyV (K : PySem.W.Frag) (T : String) (x : V) (H : Hp) : Prop := match x with
 | .str _ => T = "str"
 | .int _ => T = "int"
 | .ref p => (T = "list" /\ ∃ xs, SqL K H p xs) ∨ (T = "tuple" /\ ∃ o, K.lookup p = some o /\ o.cls = .type "tuple" /\ o.dict = none) ∨
   (T = "dict" /\ ((∃ kvs, H p = some (.dK kvs)) ∨ ∃ kvs, H p = some (.dT kvs))) ∨ (T = "set" /\ ∃ S n, H p = some (.set S n))
 | _ => False
theorem tyV_is {pins : List (Addr × Obj)} {σ : St} {H : Hp} {s : Shared} {T : String} {x : V} {v : Value} (I : Inv X pins σ H s) (r : RelV x v) (ty : tyV X.K T x H) :
  s.TypeIs v T /\ ∀ a, v = .ref a -> ∃ ob, s.heap.get? a = some ob /\ ob.dict = none := by
 cases x with
 | str z =>
  obtain ⟨t, rfl⟩ := r
  cases (show T = "str" from ty)
  exact ⟨typeIs_str s z t, fun _ e => nomatch e⟩
 | int i =>
  obtain ⟨t, rfl⟩ := r
  cases (show T = "int" from ty)
  exact ⟨typeIs_int s i t, fun _ e => nomatch e⟩
 | ref p =>
  cases r
  rcases ty with ⟨rfl, xs, hq⟩ | ⟨rfl, o, hk, hc, hd⟩ | ⟨rfl, hk⟩ | ⟨rfl, S, n, hk⟩
  ·obtain ⟨its, _, pl, _⟩ := I.list hq
   refine ⟨pl.isList.typeIs, fun a e => ?_⟩
   cases e
   obtain ⟨o, n, e, c, hd, _⟩ := pl
   exact ⟨o, e, hd⟩
  ·refine ⟨⟨o, I.kIn p o hk, hc⟩, fun a e => ?_⟩
   cases e
   exact ⟨o, I.kIn _ o hk, hd⟩
  ·have z : ∃ o, s.heap.get? p = some o /\ o.ExactDict := by
    rcases hk with ⟨kvs, hk⟩ | ⟨kvs, hk⟩
    ·obtain ⟨_, _, _, _, o, _, _, e, ex, _⟩ := I.hok p _ hk
     exact ⟨o, e, ex⟩
    ·obtain ⟨_, _, _, _, o, _, _, e, ex, _⟩ := I.hok p _ hk
     exact ⟨o, e, ex⟩
   obtain ⟨o, e, ex⟩ := z
   refine ⟨⟨o, e, ex.1⟩, fun a e2 => ?_⟩
   cases e2
   exact ⟨o, e, ex.2.1⟩
  ·obtain ⟨o, _, _, _, e, ex, _⟩ := I.hok p _ hk
   refine ⟨⟨o, e, ex.1⟩, fun a e2 => ?_⟩
   cases e2
   exact ⟨o, e, ex.2.1⟩
 | _ => exact False.elim ty
noncomputable def tBM (K : PySem.W.Frag) (T : String) (r : V -> List V -> Hp -> VK -> Prop) (to : TE) (t : TA) : TE := fun σ H Q => to σ H fun x H1 => tyV K T x H1 /\ t σ H1 fun xs H2 => r x xs H2 Q
variable {o e : Expr} {es : List Expr} {to : TE} {t : TA} {name : Str} {apos cpos : Pos} {T id : String} {r : V -> List V -> Hp -> VK -> Prop}
theorem pe_bm (pa : PlainAttrs T) (slot : Slot T name id) (hty : typeOf (.builtin id) = pure (.type "method_descriptor")) (hm : MtR X id r) (ho : PE X o to) (ha : PA X (e :: es) t)
  (hbase : attributeBase o name X.env (eval o X.env) = eval o X.env := by rfl)
  (hfew : ((backTo cpos (starEach (e :: es) X.env)).all (fun x => !x.1) && (backToKw cpos (keywordEach [] X.env)).all (fun x => x.1.isSome)
   && decide ((e :: es).length + ([] : List Keyword).length + (if ([] : List Keyword).isEmpty then 0 else 1) < 30)) = true := by rfl)
  (hline : (apos.endLine == cpos.line) = true := by rfl) (hs : starEach (e :: es) X.env = (false, eval e X.env) :: starEach es X.env := by rfl) (hplain : (backTo cpos (starEach es X.env)).any (·.1) = false := by rfl) :
  PE X (.Call (.Attribute o name apos) (e :: es) [] cpos) (tBM X.K T r to t) := by
 intro pins s σ H Q I h
 refine wpAny_Call_method_late hbase hfew hline rfl (thn (ho pins s σ H _ I h) fun v s1 ⟨x, H1, I1, r1, ty, q1⟩ => ?_)
 obtain ⟨h1, h2⟩ := tyV_is I1 r1 ty
 refine ⟨T, id, pa, slot, hty, h1, h2, ?_⟩
 have hA := ha cpos pins s1 σ H1 _ I1 q1
 rw [hs] at hA ⊢
 refine Calls.callWith_builtin (by show (false || (backTo cpos (starEach es X.env)).any (·.1)) = false; rw [hplain] <;> rfl) (Calls.evalArgs_plain ?_)
 exact thn hA fun us s2 ⟨vs, H2, I2, r2, q2⟩ => hm pins s2 σ H2 x vs v us Q I2 r1 r2 q2
end
end L2
namespace L2
open PySem PySem.Spec PyProof.Rows
noncomputable def MtM (X : Cx) (id : String) (r : V -> List V -> Hp -> VK -> Prop) : Prop :=
 ∀ (pins : List (Addr × Obj)) (s : Shared) (σ : St) (H : Hp) (x : V) (xs : List V) (v : Value) (us : List Value) (Q : VK), Inv X pins σ H s -> RelV x v -> Vals xs us -> r x xs H Q ->
  wpAny (model X.prog X.w) X.A (call (.builtin id) (v :: us)) (EP X pins σ Q) X.xe s
theorem Vals.one : ∀ {x : V} {us : List Value}, Vals [x] us -> ∃ u, us = [u] /\ RelV x u
 | _, _, .cons r .nil => ⟨_, rfl, r⟩
theorem Vals.two : ∀ {x y : V} {us : List Value}, Vals [x, y] us -> ∃ u v, us = [u, v] /\ RelV x u /\ RelV y v
 | _, _, _, .cons r (.cons q .nil) => ⟨_, _, rfl, r, q⟩
theorem Vals.eraseIdx : ∀ {xs : List V} {us : List Value} (i : Nat), Vals xs us -> Vals (xs.eraseIdx i) (us.eraseIdx i)
 | _, _, _, .nil => .nil
 | _, _, 0, .cons _ t => t
 | _, _, i + 1, .cons r t => .cons r (Vals.eraseIdx i t)
theorem Vals.reverse {xs : List V} {us : List Value} (h : Vals xs us) : Vals xs.reverse us.reverse := by
 induction h with
 | nil => exact .nil
 | cons r t ih => rw [List.reverse_cons, List.reverse_cons]; exact Vals.append ih (.cons r .nil)
theorem len_erase {α : Type} : ∀ (l : List α) (i : Nat), (l.eraseIdx i).length <= l.length
 | [], _ => Nat.le_refl _
 | _ :: _, 0 => Nat.le_succ _
 | _ :: r, i + 1 => Nat.succ_le_succ (len_erase r i)
section
variable {X : Cx} {pins : List (Addr × Obj)} {σ : St} {H : Hp} {s : Shared} {l b : Addr} {xs ys zs : List V}
theorem Inv.lset {its its' : List Value} {n : Nat} {f : Array Value -> Array Value} {t' : Nat} (I : Inv X pins σ H s) (hH : H l = some (.lst xs))
  (e : s.heap.get? l = some { cls := .type "list", data := .seq its.toArray n }) (hf : f its.toArray = its'.toArray) (hv : Vals ys its') (hz : ys.length <= sizeLine) :
  Inv X pins σ (upd H l (.lst ys)) { s with heap := s.heap.update l (Obj.mapSeq f), toks := t' } := by
 have q := PySem.IsL.update e f
 rw [hf] at q
 refine I.write (x := l) (e := l) (by rw [hH]; exact trivial) (.inl rfl) (fun b' u hb hu => (Heap.get?_update_other s.heap (Obj.mapSeq f) (Ne.symm hb)).trans hu) ⟨_, q⟩ ?_
 exact ⟨hz, its', _, hv, q⟩
theorem Inv.lnew {its : List Value} {t' : Nat} (I : Inv X pins σ H s) (hv : Vals ys its) (hz : ys.length <= sizeLine) :
  Inv X pins σ (upd H s.heap.objs.size (.lst ys)) { s with heap := s.heap.push { cls := .type "list", data := .seq its.toArray }, toks := t' } :=
 I.laid (fun _ _ q => Heap.get?_push_of_some _ q) (Nat.le_refl _) ⟨hz, its, 0, hv, Heap.get?_push_size _ rfl⟩
theorem Inv.fresh (I : Inv X pins σ H s) : H s.heap.objs.size = none := I.hok.fresh (Nat.le_refl _)
theorem Inv.lstM (I : Inv X pins σ H s) (hH : H l = some (.lst xs)) : xs.length <= sizeLine /\ ∃ (its : List Value) (n : Nat), Vals xs its /\ xs.length = its.length /\ s.heap.get? l = some { cls := .type "list", data := .seq its.toArray n } := by
 obtain ⟨z, its, n, r, e⟩ := I.hok l _ hH
 exact ⟨z, its, n, r, r.length, e⟩
theorem notLongL {n : Nat} (h : n <= sizeLine) : Builtin.List.listTooLong n = false := by
 unfold Builtin.List.listTooLong
 exact decide_eq_false (by (first | lia | omega))
end
section
variable {X : Cx}
noncomputable def rAppend : V -> List V -> Hp -> VK -> Prop := fun x vs H Q => ∃ l xs y, x = .ref l /\ vs = [y] /\ H l = some (.lst xs) /\ xs.length < sizeLine /\ Q .non (upd H l (.lst (xs ++ [y])))
theorem mt_append : MtM X "list.append" rAppend := by
 intro pins s σ H x vs v us Q I rx rv h
 obtain ⟨l, xs, y, rfl, rfl, hH, hz, q⟩ := h
 cases rx
 obtain ⟨u, rfl, ru⟩ := rv.one
 obtain ⟨z, its, n, r, hl, e⟩ := I.lstM hH
 refine call_meets F.slot_list_append ⟨_, e, rfl⟩ F.entry_list_append (F.args_list_append_2 _ _) (PySem.list_append l its.toArray n u (by rw [List.size_toArray]; (first | lia | omega))) ⟨e, ?_⟩
 refine ⟨.non, _, I.lset (its' := its ++ [u]) hH e (by simp) (r.append (.cons ru .nil)) ?_, rfl, q⟩
 rw [List.length_append, List.length_singleton]
 (first | lia | omega)
noncomputable def rPopAt : V -> List V -> Hp -> VK -> Prop := fun x vs H Q => ∃ l xs i k y, x = .ref l /\ vs = [.int i] /\ H l = some (.lst xs) /\ -(2 ^ 63) <= i /\ i < 2 ^ 63 /\ seqIndex? i xs.length = some k /\ xs[k]? = some y /\ Q y (upd H l (.lst (xs.eraseIdx k)))
theorem mt_popAt : MtM X "list.pop" rPopAt := by
 intro pins s σ H x vs v us Q I rx rv h
 obtain ⟨l, xs, i, k, y, rfl, rfl, hH, h1, h2, hk, hy, q⟩ := h
 cases rx
 obtain ⟨u, rfl, ru⟩ := rv.one
 obtain ⟨t, rfl⟩ := ru
 obtain ⟨z, its, n, r, hl, e⟩ := I.lstM hH
 obtain ⟨w, hw, rw'⟩ := r.get hy
 refine call_meets F.slot_list_pop ⟨_, e, rfl⟩ F.entry_list_pop (F.args_list_pop_2 _ _)
  (MeetsSeq.list_pop_at l its.toArray n i t k w (fitsIndex_both h1 h2) (by rw [List.size_toArray, <- hl]; exact hk) (by rw [<- Array.getElem?_toList]; exact hw) (by rw [List.size_toArray]; (first | lia | omega))) ⟨e, ?_⟩
 refine ⟨y, _, I.lset (its' := its.eraseIdx k) hH e ?_ (r.eraseIdx k) ?_, rw', q⟩
 ·show its.toArray.eraseIdxIfInBounds k = (its.eraseIdx k).toArray
  rw [List.eraseIdxIfInBounds_toArray]
 ·have := len_erase xs k
  (first | lia | omega)
noncomputable def rCat : R2 := fun x y H Q => ∃ l b xs zs, x = .ref l /\ y = .ref b /\ H l = some (.lst xs) /\ H b = some (.lst zs) /\ xs.length + zs.length <= sizeLine /\ ∀ p, H p = none -> Q (.ref p) (upd H p (.lst (xs ++ zs)))
theorem op_cat : OpR X (binaryOp .Add) rCat := by
 intro pins s σ H x y v u Q I rx ry h
 obtain ⟨l, b, xs, zs, rfl, rfl, hH, hB, hz, q⟩ := h
 cases rx
 cases ry
 obtain ⟨z, its, n, r, hl, e⟩ := I.lstM hH
 obtain ⟨z2, its2, n2, r2, hl2, e2⟩ := I.lstM hB
 refine PySem.P.add_list e e2 ?_ (by rw [List.size_toArray, List.size_toArray]; (first | lia | omega))
 have ea : its.toArray ++ its2.toArray = (its ++ its2).toArray := by simp
 rw [ea]
 exact ⟨.ref _, _, I.lnew (t' := s.toks) (r.append r2) (by rw [List.length_append]; (first | lia | omega)), rfl, q _ I.fresh⟩
end
section
variable {prog : Program} {w : World} {A : Around} {E : Value -> Shared -> Prop} {s : Shared}
end
section
variable {X : Cx}
end
end L2
namespace Att
open PySem PySem.W PySem.Calls PyProof.Rows
theorem ints_of_wellAll {P : Params} {h : Heap} : ∀ (ns : List Int) (vs : List Value), WellAll P h vs (ns.map WData.int) -> IntsAre vs ns := by
 intro ns
 induction ns with
 | nil =>
  intro vs w
  rw [List.map_nil] at w
  cases w
  exact .nil
 | cons n ns ih =>
  intro vs w
  rw [List.map_cons] at w
  cases w with
  | cons a b =>
   cases a
   exact .cons _ _ (ih _ b)
theorem script_of {l : OpenLaw} {n : Nat} (hn : l.most = some n) {P : Params} {h : Heap} {args : List WData} {vals : List Value}
  (hpre : l.row.toRowW.claim.pre args = true) (hwl : WellAll P h vals args) :
  ∃ a vs ns, vals = [Value.ref a] /\ args = [WData.list (ns.map WData.int)] /\ h.get? a = some { cls := .type "list", data := .seq vs.toArray } /\ IntsAre vs ns /\ ns.length <= n := by
 have hsh : WShape.hasAll [] args [.list .int] = true := (pre_splitW hpre).1
 have hc : l.pre.holds [] { args := args } = true := (pre_splitW hpre).2
 obtain ⟨d, r, rfl, h1, h2⟩ := hasAllW_cons hsh
 obtain rfl := hasAllW_nil h2
 obtain ⟨xs, rfl, h3⟩ := hasW_list h1
 obtain ⟨ns, rfl⟩ := items_int h3
 have hlen : ns.length <= n := by
  unfold OpenLaw.pre at hc
  have h4 : (WTm.not (.lt (.lit (.int (n : Int))) (.len (.arg 0)))).holds [] { args := [.list (ns.map .int)] } = true := by
   have h4 := (holds_andW hc).1
   rw [hn] at h4
   exact h4
  have h5 := condW_of h4 (w_not (w_lt w_lit (w_len_list (w_arg rfl))))
  rw [List.length_map] at h5
  refine Nat.le_of_not_lt fun q => ?_
  have q' : (n : Int) < ((ns.length : Nat) : Int) := by (first | lia | omega)
  first
   | (rw [decide_eq_true q'] at h5; exact absurd h5 (by decide))
   | (simp at h5; (first | lia | omega))
 cases hwl with
 | cons w1 w2 =>
  cases w2
  cases w1 with
  | list ho hall => exact ⟨_, _, ns, rfl, rfl, ho, ints_of_wellAll ns _ hall, hlen⟩
theorem post_true (l : OpenLaw) (args : List WData) : l.row.toRowW.claim.post args (.bool true) args = true :=
 postW_of (r := l.row.toRowW) (X := (true == true))
  (show WShape.has [] (.bool true) .bool = true by first | rfl | decide | simp [WShape.has, WShape.arms, WShape.armsAll])
  (show (WTm.eq .res (.lit (.bool true))).value [] { args := args, res := some (.bool true), after := args } = some (.bool (true == true)) from w_eq_bool (w_res rfl) w_lit) rfl
theorem attach_call {l : OpenLaw} {n : Nat} {q : Program} {loose : List Str} {XP : (Str -> Option Value) -> Heap -> Prop} {YP : World -> Heap -> Prop} {d : DefRec}
  (hn : l.most = some n) (hdf : d.params.defaults = [])
  (call : ∀ (w : World) (s₀ s₁ : Shared) (mg mb : Str -> Option Value) (fa : Addr) (o : Obj) (pm cd doc : Value) (a : Addr) (vs : List Value) (ns : List Int),
   Ground q loose [] XP w s₀ mg mb s₁.heap -> YP w s₁.heap ->
   s₁.heap.get? fa = some o -> o.data = .func (docDef d.name d.params d.body d.scope pm cd doc) -> s₁.heap.CodeRec cd d.name -> mg d.name = some (.ref fa) ->
   s₁.heap.get? a = some { cls := .type "list", data := .seq vs.toArray } -> IntsAre vs ns -> ns.length <= n -> s₁.gens = #[] ->
   codeAny (model l.prog w) callerA (.call (.ref fa) ⟨[.ref a], []⟩) (fun r s' => r = .ok (.ret (.bool true)) /\ OldK s₁.heap s'.heap /\ s'.os = s₁.os /\ AllBare s'.gens) s₁) :
  WalkO q loose XP YP l.row.toRowW d [] (fun f vs => PySem.call f vs) := by
 intro w s₀ s₁ mg mb G Y fa o pm cd doc dV kV ho hd hcd hD hmg hg args vals as hpre hlay hrd hwl hlo
 obtain rfl : dV = .none := Dflts.none hD hdf
 obtain rfl : kV = .none := Dflts.noKw hD
 obtain ⟨a, vs, ns, rfl, rfl, hobj, hints, hlen⟩ := script_of hn hpre hwl
 refine enter_call (codeAny_mono (call w s₀ s₁ mg mb fa o pm cd doc a vs ns G Y ho (fd_plain hd) hcd hmg hobj hints hlen hg) fun r s' hq => ?_)
 obtain ⟨rfl, h2, h3, h4⟩ := hq
 exact ⟨.inl ⟨.bool true, .bool true, [], rfl, fun _ => rfl, .bool true, post_true l _, fun _ => ⟨List.Pairwise.nil, fun _ hm => (nomatch hm)⟩⟩, h2, h3, h4⟩
section
variable {prog : Program} {w : World} {A : Around} {E : Value -> Shared -> Prop} {s : Shared} {K : Frag}
end
end Att
namespace L2
open PySem PySem.Spec PyProof.Rows
theorem vals_ints : ∀ {vs : List Value} {ns : List Int}, IntsAre vs ns -> Vals (ns.map V.int) vs
 | _, _, .nil => .nil
 | _, _, .cons n t h => .cons ⟨t, rfl⟩ (vals_ints h)
noncomputable def Only (H : Hp) : Prop := ∀ b, H b = none ∨ ∃ o xs, H b = some (.frz o (.lst xs))
theorem law_call {P : Program} {w : World} {K : PySem.W.Frag} {mg mb : Str -> Option Value} {CX : CXT} {k : Nat} {fa a : Addr} {fd : FuncData} {x : Str} {sp : Sp} {s₁ : Shared} {vs : List Value} {ns : List Int}
  (KX : K.In s₁.heap) (hns : s₁.heap.Ns mainGlobals mg) (hb : s₁.heap.Ns builtinsNs mb) (hbb : ∀ x : Str, x ≠ "__name__" -> mb x = bootBuiltins x) (hlim : s₁.heap.NoLimit) (hg : s₁.gens = #[])
  (ha : s₁.heap.get? a = some { cls := .type "list", data := .seq vs.toArray }) (hi : IntsAre vs ns) (hl : ns.length <= sizeLine) (hr : Room k callerA)
  (F : ∀ base : Heap, K.In base -> base.Ns mainGlobals mg -> FnOk P w K mg base CX k fa fd [x] sp) (hbind : ∀ (s : Shared) (u : Value), BindsTo s fd ⟨[u], []⟩ [(x, u)])
  (hsp : ∀ H : Hp, Only H -> SqL K H a (ns.map V.int) -> sp [.ref a] H (fun v _ => v = .bl true) fun _ _ _ => False)
  (hCX : ∀ H e s', CX [] H s₁ (fun _ _ _ => False) e s' -> False) :
  codeAny (model P w) callerA (.call (.ref fa) ⟨[.ref a], []⟩) (fun r s' => r = .ok (.ret (.bool true)) /\ OldK s₁.heap s'.heap /\ s'.os = s₁.os /\ AllBare s'.gens) s₁ := by
 have rv := vals_ints hi
 have lenV := hi.length
 have core : ∀ H : Hp, Only H -> SqL K H a (ns.map V.int) -> HOk P w H s₁.heap -> (∀ b, H b ≠ none -> b = a) -> (H a ≠ none -> K.lookup a = none) ->
   codeAny (model P w) callerA (.call (.ref fa) ⟨[.ref a], []⟩) (fun r s' => r = .ok (.ret (.bool true)) /\ OldK s₁.heap s'.heap /\ s'.os = s₁.os /\ AllBare s'.gens) s₁ := by
  intro H hO hS hok hA hK
  have base_of : ∀ {b : Addr} {o : Obj}, s₁.heap.get? b = some o -> H b = none -> (hidT s₁.heap H).get? b = some o := fun e n => hidT_get e n
  have noA : ∀ {b : Addr} {o : Obj} {es : Array DictEntry} {ep : Nat}, s₁.heap.get? b = some o -> o.data = .dict es ep -> H b = none := fun {b o es ep} e d => by
   cases q : H b with
   | none => rfl
   | some u =>
    have e' : b = a := hA b (by rw [q]; simp)
    subst e'
    rw [ha] at e; cases e
    have d' : Data.seq vs.toArray _ = Data.dict es ep := d
    cases d'
  have nsK : ∀ {b : Addr} {m : Str -> Option Value}, s₁.heap.Ns b m -> (hidT s₁.heap H).Ns b m := fun {b m} ⟨o, es, ep, e, d, r⟩ => ⟨o, es, ep, base_of e (noA e d), d, r⟩
  have hKb : K.In (hidT s₁.heap H) := fun b o e => base_of (KX b o e) (by
   cases q : H b with
   | none => rfl
   | some u =>
    have e' : b = a := hA b (by rw [q]; simp)
    subst e'
    rw [hK (by rw [q]; simp)] at e; cases e)
  have hM : Mod K mg (hidT s₁.heap H) := ⟨hKb, nsK hns, ⟨mb, nsK hb, hbb⟩, let ⟨mc, h1, h2⟩ := hlim; ⟨mc, nsK h1, h2⟩⟩
  have e0 : Env0 P w K mg (hidT s₁.heap H) callerA [] s₁ H := ⟨rfl, hM, fun b o e => of_hidT e, Nat.le_of_eq (hidT_size _ _), trivial, fun b hb => absurd (show b ∈ ([] : List Addr) from hb) (by simp), hok, .of_eq hg⟩
  refine codeAny_mono ((F _ hKb (nsK hns)).run callerA [] s₁ H ⟨[.ref a], []⟩ [.ref a] [.ref a] _ _ hr e0 (hbind s₁ (.ref a)) (.cons rfl .nil) (hsp H hO hS)) fun r s' h => ?_
  cases r with
  | error e => exact (hCX H e s' h).elim
  | ok fl =>
   cases fl with
   | next => exact False.elim h
   | brk => exact False.elim h
   | cont => exact False.elim h
   | ret u =>
    obtain ⟨v, H', os, bare, un, hok', r', q⟩ := h
    have q' : v = .bl true := q
    subst q'
    obtain rfl : u = Value.bool true := r'
    refine ⟨rfl, OldK.of_keep fun b o e => ?_, os, bare⟩
    cases q : H b with
    | none => exact un.keep b o e q (by intro z; exact absurd (show b ∈ ([] : List Addr) from z) (by simp)) (by simp)
    | some u =>
     rcases hO b with z | ⟨ob, xs, z⟩
     ·rw [q] at z; cases z
     ·have z2 := un.frzs b ob _ z
      obtain ⟨e1, _⟩ := hok b _ z
      obtain ⟨e2, _⟩ := hok' b _ z2
      rw [e] at e1; cases e1
      exact e2
 cases hk : K.lookup a with
 | some o =>
  have e := KX a o hk
  rw [ha] at e
  cases e
  refine core (fun _ => none) (fun _ => .inl rfl) (.inr ⟨_, vs.toArray, _, hk, rfl, rfl, rfl, by rw [List.size_toArray, lenV]; exact hl, by simpa using rv⟩) (fun b u z => by have z' : (none : Option HO) = some u := z; cases z') (fun b z => absurd rfl z) fun z => absurd rfl z
 | none =>
  refine core (fun b => if b = a then some (.frz { cls := .type "list", data := .seq vs.toArray } (.lst (ns.map V.int))) else none) (fun b => ?_) (.inl (.inr ⟨{ cls := .type "list", data := .seq vs.toArray }, if_pos rfl⟩)) (fun b u z => ?_) (fun b z => ?_) fun _ => hk
  ·by_cases hb : b = a
   ·exact .inr ⟨_, _, if_pos hb⟩
   ·exact .inl (if_neg hb)
  ·by_cases hb : b = a
   ·have z' := (if_pos hb).symm.trans z
    cases z'
    subst hb
    exact ⟨ha, by rw [List.length_map]; exact hl, vs, _, rv, ha⟩
   ·have z' := (if_neg hb).symm.trans z
    cases z'
  ·by_cases hb : b = a
   ·exact hb
   ·exact absurd (if_neg hb) z
end L2
namespace L2
open PySem PySem.Spec PyProof.Rows
theorem walk_of {l : PySem.W.OpenLaw} {n k : Nat} {q : Program} {loose : List Str} {XP : (Str -> Option Value) -> Heap -> Prop} {YP : World -> Heap -> Prop} {d : DefRec} {K : Params -> PySem.W.Frag} {CX : World -> CXT} {sp : World -> Sp} {x : Str}
  (hn : l.most = some n) (hn2 : n <= sizeLine) (hdf : d.params.defaults = []) (hr : Room k callerA)
  (hY : ∀ (w : World) (h : Heap), YP w h -> (K w.params).In h)
  (F : ∀ (w : World) (mg : Str -> Option Value) (fa : Addr) (h : Heap), (K w.params).In h -> h.Ns mainGlobals mg -> mg d.name = some (.ref fa) ->
   ∃ fd : FuncData, (∀ (s : Shared) (u : Value), BindsTo s fd ⟨[u], []⟩ [(x, u)]) /\
    ∀ base : Heap, (K w.params).In base -> base.Ns mainGlobals mg -> FnOk l.prog w (K w.params) mg base (CX w) k fa fd [x] (sp w))
  (hsp : ∀ (w : World) (H : Hp) (a : Addr) (ns : List Int), ns.length <= n -> Only H -> SqL (K w.params) H a (ns.map V.int) -> sp w [.ref a] H (fun v _ => v = .bl true) fun _ _ _ => False)
  (hCX : ∀ (w : World) (H : Hp) (s : Shared) (e : Value) (s' : Shared), CX w [] H s (fun _ _ _ => False) e s' -> False) :
  PySem.W.WalkO q loose XP YP l.row.toRowW d [] (fun f vs => PySem.call f vs) := by
 refine Att.attach_call hn hdf fun w s₀ s₁ mg mb fa o pm cd doc a vs ns G Y ho hd hcd hmg hobj hints hlen hg => ?_
 have KX := hY w _ Y
 obtain ⟨fd, hb, hF⟩ := F w mg fa _ KX G.T.g hmg
 exact law_call KX G.T.g G.T.b G.T.builtins G.T.nolimit hg hobj hints (Nat.le_trans hlen hn2) hr hF hb (fun H hO hS => hsp w H a ns hlen hO hS) fun H e s' => hCX w H s₁ e s'
end L2
namespace L2
open PySem PySem.Spec PyProof.Rows
noncomputable def defArgs (s : Stmt) : Arguments := match s with
 | .FunctionDef _ a _ _ _ _ _ _ _ _ => a
 | _ => { posonlyargs := [], args := [], vararg := none, kwonlyargs := [], kw_defaults := [], kwarg := none, defaults := [] }
noncomputable def defBody (s : Stmt) : List Stmt := match s with
 | .FunctionDef _ _ b _ _ _ _ _ _ _ => b
 | _ => []
noncomputable def defScope (s : Stmt) : Scope := match s with
 | .FunctionDef _ _ _ _ _ _ sc _ _ _ => sc
 | _ => { kind := .function, names := [], isGenerator := false, isCoroutine := false }
noncomputable abbrev CX0 : CXT := fun _ _ _ _ _ _ => False
noncomputable abbrev E0 : XK := fun _ _ _ => False
theorem pass0 {X : Cx} : Passes CX0 X E0 := fun _ _ _ _ _ _ _ h => h.elim
structure Fun (K : PySem.W.Frag) (x qual : Str) (st : Stmt) (f : Addr) (fd : FuncData) : Prop where
 ex : ∃ (oc : Value) (od : Option Addr) (kV doc pm : Value) (an : Option Addr) (cdv ct : Value) (osl : Array (Option Value)),
  fd = PySem.W.fnOf x qual (defArgs st) (defBody st) (defScope st) .none kV doc pm an cdv ct /\ K.lookup f = some ⟨oc, od, .func fd, osl⟩ /\ PySem.W.codeIn K cdv qual = true
 kp : PySem.W.keepIn K (.ref f) = true
section
variable {P : Program} {w : World} {K : PySem.W.Frag} {mg : Str -> Option Value} {base : Heap}
theorem Fun.ok {x qual : Str} {st : Stmt} {f : Addr} {fd : FuncData} {N ps : List Str} {k : Nat} {sp : Sp} (F : Fun K x qual st f fd) (S : FnScope N ps (defScope st)) (len : ∀ vs H Q E, sp vs H Q E -> vs.length = ps.length)
  (hbody : ∀ (cdv : Value) (A : Around) (outer : List Env) (s : Shared) (H : Hp) (vs : List V) (Q : VK) (E : XK), Room k (A.deeper (envOfC qual (defScope st) s.heap.objs.size f cdv)) -> sp vs H Q E ->
   ∃ t, PSs (cxOf CX0 P w K mg base N qual (defScope st) f cdv A outer s H E).nox (defBody st) t /\ t { nx := fun _ H' => Q .non H', rt := Q } (start N vs) H) : FnOk P w K mg base CX0 (k + 1) f fd ps sp := by
 obtain ⟨oc, od, kV, doc, pm, an, cdv, ct, osl, rfl, lk, hcd⟩ := F.ex
 refine fn_of lk hcd S len fun A outer s H vs Q E hr hsp => ?_
 obtain ⟨t, h, q⟩ := hbody cdv A outer s H vs Q E hr hsp
 exact ⟨t, h.nox, q⟩
theorem Fun.binds {x qual : Str} {st : Stmt} {f : Addr} {fd : FuncData} {ps : List Str} (F : Fun K x qual st f fd)
  (h : ∀ (kV doc pm : Value) (an : Option Addr) (cdv ct : Value) (us : List Value), us.length = ps.length -> bindArgs (PySem.W.fnOf x qual (defArgs st) (defBody st) (defScope st) .none kV doc pm an cdv ct) ⟨us, []⟩ = pure (ps.zip us)) : Binds K fd ps [] := by
 obtain ⟨oc, od, kV, doc, pm, an, cdv, ct, osl, rfl, lk, hcd⟩ := F.ex
 exact .all (h kV doc pm an cdv ct)
theorem fun_mk {x qual : Str} {st : Stmt} {f : Addr} {oc : Value} {od an : Option Addr} {osl : Array (Option Value)} {kV doc pm cdv ct : Value} (l : K.lookup f = some ⟨oc, od, .func (PySem.W.fnOf x qual (defArgs st) (defBody st) (defScope st) .none kV doc pm an cdv ct), osl⟩)
  (c : PySem.W.codeIn K cdv qual = true) (k : PySem.W.keepIn K (.ref f) = true) : Fun K x qual st f (PySem.W.fnOf x qual (defArgs st) (defBody st) (defScope st) .none kV doc pm an cdv ct) := ⟨⟨oc, od, kV, doc, pm, an, cdv, ct, osl, rfl, l, c⟩, k⟩
end
section
variable {X : Cx}
theorem pv (i : Nat) {x : Str} {pos : Pos} (hN : X.N[i]? = some x := by rfl) (hv : Vis X.env.scope x := by first | exact Or.inl rfl | exact Or.inr (Or.inl rfl) | exact Or.inr (Or.inr rfl)) (hd : (x == ("__debug__" : Str)) = false := by decide)
  (hcd : (x == ("__classdict__" : Str)) = false := by decide) : PE X (.Name x pos) (tVar i) := pe_var hN hv hd hcd
end
theorem iteF {A B : Prop} (h : B) : if false = true then A else B := by
 rw [if_neg Bool.false_ne_true]
 exact h
theorem iteT {A B : Prop} (h : A) : if true = true then A else B := by
 rw [if_pos rfl]
 exact h
theorem ite2 {c A B : Prop} [Decidable c] (h1 : c -> A) (h2 : ¬ c -> B) : if c then A else B := by
 by_cases h : c
 ·rw [if_pos h]
  exact h1 h
 ·rw [if_neg h]
  exact h2 h
theorem iteNS {c A B : Prop} [Decidable c] (hc : c) (h : B) : if (!decide c) = true then A else B := by
 rw [decide_eq_true hc]
 exact iteF h
noncomputable def Same (H H' : Hp) : Prop := ∀ b o, H b = some o -> H' b = some o
theorem Same.refl (H : Hp) : Same H H := fun _ _ h => h
theorem Same.trans {H H1 H2 : Hp} (a : Same H H1) (b : Same H1 H2) : Same H H2 := fun c o h => b c o (a c o h)
theorem Same.free {H H' : Hp} (e : Same H H') {l : Addr} (h : H' l = Option.none) : H l = Option.none := by
 cases q : H l with
 | none => rfl
 | some o =>
  rw [e l o q] at h
  cases h
theorem Same.seq {K : PySem.W.Frag} {H H' : Hp} {a : Addr} {xs : List V} (e : Same H H') (h : SqL K H a xs) : SqL K H' a xs := by
 rcases h with (h | ⟨o, h⟩) | h
 ·exact .inl (.inl (e _ _ h))
 ·exact .inl (.inr ⟨o, e _ _ h⟩)
 ·exact .inr h
end L2
namespace L2
open PySem PySem.Spec PyProof.Rows
theorem closure_ok {env : Env} {scope : Scope} (h : ∀ y ∈ scope.names, y.2 = .free -> ∃ c, env.cells.lookup y.1 = some c) :
  ∃ cl, closureFor scope env = pure cl /\ (∀ x c, cl.lookup x = some c -> env.cells.lookup x = some c) /\ ∀ y ∈ scope.names, y.2 = .free -> cl.lookup y.1 = env.cells.lookup y.1 := by
 have go : ∀ (names : List (Str × NameKind)) (acc : List (Str × Addr)), (∀ y ∈ names, y.2 = .free -> ∃ c, env.cells.lookup y.1 = some c) ->
   (∀ x c, acc.lookup x = some c -> env.cells.lookup x = some c) ->
   ∃ cl, (forIn names acc (fun (y : Str × NameKind) (cs : List (Str × Addr)) => if (y.2 == .free) = true then (do let c <- cellOf env y.1; pure (ForInStep.yield ((y.1, c) :: cs))) else pure (ForInStep.yield cs)) : Sem (List (Str × Addr))) = pure cl /\
    (∀ x c, cl.lookup x = some c -> env.cells.lookup x = some c) /\ (∀ x c, acc.lookup x = some c -> cl.lookup x = some c) /\ ∀ y ∈ names, y.2 = .free -> cl.lookup y.1 = env.cells.lookup y.1 := by
  intro names
  induction names with
  | nil => intro acc _ ha; exact ⟨acc, rfl, ha, fun _ _ h => h, fun y hy => nomatch hy⟩
  | cons y r ih =>
   intro acc hn ha
   obtain ⟨n, k⟩ := y
   by_cases hk : k = .free
   ·subst hk
    obtain ⟨c, hc⟩ := hn (n, .free) List.mem_cons_self rfl
    have ha' : ∀ x d, (((n, c) :: acc : List (Str × Addr))).lookup x = some d -> env.cells.lookup x = some d := fun x d e => by
     rw [List.lookup_cons] at e
     cases hx : x == n with
     | true =>
      rw [hx] at e
      have e1 : x = n := eq_of_beq hx
      subst e1
      cases e
      exact hc
     | false => rw [hx] at e; exact ha x d e
    obtain ⟨cl, e, h1, h2, h3⟩ := ih ((n, c) :: acc) (fun y hy => hn y (List.mem_cons_of_mem _ hy)) ha'
    refine ⟨cl, ?_, h1, fun x d e => ?_, fun y hy hf => ?_⟩
    ·rw [List.forIn_cons]
     have ec : cellOf env n = pure c := by unfold cellOf; rw [hc]
     simp only [beq_self_eq_true, if_true]
     rw [ec]
     exact e
    ·have e' := ha x d e
     by_cases hx : x = n
     ·subst hx
      rw [hc] at e'; cases e'
      exact h2 x c (by rw [List.lookup_cons]; simp)
     ·exact h2 x d (by rw [List.lookup_cons, beq_eq_false_iff_ne.mpr hx]; exact e)
    ·rcases List.mem_cons.mp hy with rfl | hy
     ·show cl.lookup n = env.cells.lookup n
      rw [hc]
      exact h2 n c (by rw [List.lookup_cons]; simp)
     ·exact h3 y hy hf
   ·obtain ⟨cl, e, h1, h2, h3⟩ := ih acc (fun y hy => hn y (List.mem_cons_of_mem _ hy)) ha
    refine ⟨cl, ?_, h1, h2, fun y hy hf => ?_⟩
    ·rw [List.forIn_cons]
     have : (k == NameKind.free) = false := by simpa using hk
     simp only [this, Bool.false_eq_true, if_false]
     exact e
    ·rcases List.mem_cons.mp hy with rfl | hy
     ·exact absurd hf hk
     ·exact h3 y hy hf
 obtain ⟨cl, e, h1, _, h3⟩ := go scope.names [] h (fun x c e => by simp at e)
 refine ⟨cl, ?_, h1, h3⟩
 unfold closureFor
 exact (congrArg (fun m => m >>= fun r => pure r) e).trans rfl
noncomputable def compSt (n : Nat) (ix : List Nat) (σ : St) : St := List.replicate n none ++ ix.map fun i => σ.getD i none
noncomputable def Cx.comp (X : Cx) (s₂ : Shared) (H₂ : Hp) (N' : List Str) (scope : Scope) (cl : List (Str × Addr)) (C : Addr) (fp : List Addr) : Cx :=
 { X with N := N', s₀ := s₂, H₀ := H₂, env := compEnvC scope cl C X.env, outer := X.stack, stack := X.stack, ex := fp, fn := fun _ => false, pn := [], xe := fun _ _ => False }
structure CompScope (X : Cx) (scope : Scope) (N' : List Str) (n : Nat) (ix : List Nat) : Prop where
 kind : scope.kind = .function
 nocell : ∀ y ∈ scope.names, y.2 ≠ .cell
 names : ∀ y ∈ scope.names, y.2 = .local -> scope.names.lookup y.1 = some .local
 free : ∀ y ∈ scope.names, y.2 = .free -> X.env.scope.names.lookup y.1 = some .cell ∨ X.env.scope.names.lookup y.1 = some .free
 nodup : ∀ y : Str, (y, NameKind.free) ∈ scope.names -> scope.names.lookup y = some .local -> False
 len : N'.length = n + ix.length
 at_ : ∀ (j i : Nat), ix[j]? = some i -> ∃ x, N'[n + j]? = some x /\ X.N[i]? = some x /\ (x, NameKind.free) ∈ scope.names
end L2
namespace L2
open PySem PySem.Spec PyProof.Rows
theorem relabel_lookup {env : Env} {scope : Scope} (x : Str) : (relabel scope env).names.lookup x = (scope.names.lookup x).map fun k => if (k == .free && env.scope.kind == .function && env.kindOf x == some .cell) then .cell else k := by
 show (scope.names.map fun (n, k) => if (k == NameKind.free && env.scope.kind == .function && env.kindOf n == some .cell) then (n, NameKind.cell) else (n, k)).lookup x = _
 generalize scope.names = l
 induction l with
 | nil => rfl
 | cons y r ih =>
  obtain ⟨n, k⟩ := y
  rw [List.map_cons, List.lookup_cons]
  cases hx : x == n with
  | true =>
   have e : x = n := eq_of_beq hx
   subst e
   by_cases hc : (k == NameKind.free && env.scope.kind == .function && env.kindOf x == some .cell) = true
   ·rw [if_pos hc, List.lookup_cons]
    simp only [beq_self_eq_true]
    show some NameKind.cell = some (ite _ _ _)
    rw [if_pos hc]
   ·rw [if_neg hc, List.lookup_cons]
    simp only [beq_self_eq_true]
    show some k = some (ite _ _ _)
    rw [if_neg hc]
  | false =>
   by_cases hc : (k == NameKind.free && env.scope.kind == .function && env.kindOf n == some .cell) = true
   ·rw [if_pos hc, List.lookup_cons, hx]; exact ih
   ·rw [if_neg hc, List.lookup_cons, hx]; exact ih
section
variable {X : Cx} {pins : List (Addr × Obj)} {σ : St} {H : Hp} {s : Shared}
theorem relabel_free {env : Env} {scope : Scope} {x : Str} (h : scope.names.lookup x = some .free) : (relabel scope env).names.lookup x = some .cell ∨ (relabel scope env).names.lookup x = some .free := by
 rw [relabel_lookup, h]
 by_cases hc : (NameKind.free == NameKind.free && env.scope.kind == .function && env.kindOf x == some .cell) = true
 ·exact .inl (by show some (ite _ _ _) = _; rw [if_pos hc])
 ·exact .inr (by show some (ite _ _ _) = _; rw [if_neg hc])
theorem of_relabel {env : Env} {scope : Scope} {x : Str} (hn : ∀ y ∈ scope.names, y.2 ≠ .cell) (h : (relabel scope env).names.lookup x = some .cell ∨ (relabel scope env).names.lookup x = some .free) : scope.names.lookup x = some .free := by
 rw [relabel_lookup] at h
 cases e : scope.names.lookup x with
 | none => rw [e] at h; rcases h with h | h <;> cases h
 | some k =>
  rw [e] at h
  have hk := hn _ (PySem.mem_of_lookup e)
  by_cases hf : k = .free
  ·rw [hf]
  ·have hb : (k == NameKind.free) = false := by simpa using hf
   have hr : Option.map (fun k => if (k == NameKind.free && env.scope.kind == .function && env.kindOf x == some .cell) = true then NameKind.cell else k) (some k) = some k := by
    show some (ite _ _ _) = _
    rw [if_neg (by rw [hb]; simp)]
   rw [hr] at h
   rcases h with h | h
   ·cases h; exact absurd rfl hk
   ·exact h
theorem inv_comp {scope : Scope} {N' : List Str} {n : Nat} {ix : List Nat} {cl : List (Str × Addr)} {fp : List Addr} {h₁ : Heap} {acc C : Addr} {na : Nat} {m : Str -> Option Value} {tk : Nat}
  (I : Inv X pins σ H s) (S : CompScope X scope N' n ix) (hcl1 : ∀ x c, cl.lookup x = some c -> X.env.cells.lookup x = some c) (hcl2 : ∀ y ∈ scope.names, y.2 = .free -> cl.lookup y.1 = X.env.cells.lookup y.1)
  (hf : ∀ b ∈ fp, FpOk X pins H b) (hlt : ∀ b ∈ fp, b < s.heap.objs.size) (ha : s.heap.objs.size <= acc) (hC : s.heap.objs.size <= C) (hne : C ≠ acc)
  (k : ∀ b u, s.heap.get? b = some u -> h₁.get? b = some u) (hacc : h₁.get? acc = some { cls := .type "list", data := .seq ([] : List Value).toArray na }) (hns : h₁.Ns C m) :
  Inv (X.comp s H N' scope cl C fp) [] (compSt n ix σ) (upd H acc (.lst [])) { s with heap := h₁, toks := tk } := by
 have fr : ∀ b : Addr, s.heap.objs.size <= b -> H b = none := fun b hb => I.hok.fresh hb
 have cellLt : ∀ x c, cl.lookup x = some c -> c < s.heap.objs.size := fun x c e => by
  obtain ⟨v, q⟩ := I.cell x c (hcl1 x c e)
  exact q.lt
 refine ⟨⟨I.ok.mod, S.kind, I.ok.glob, I.ok.blt, hC, fun x y c e1 e2 => I.ok.inj x y c (hcl1 x c e1) (hcl1 y c e2), fun x hx => ?_, fun x c e _ => absurd e Bool.false_ne_true, I.ok.hd, I.ok.frames, .inl rfl, fun b hb => ⟨Nat.ne_of_lt (Nat.lt_of_lt_of_le (hlt b hb) hC), fun x c e => (hf b hb).2.2.2.2.1 x c (hcl1 x c e)⟩,
   I.bs, Nat.le_trans I.ok.bsz I.sz, fun b o e hb => ?_, fun b hb hs => ?_, I.stack, I.stkFree⟩,
  rfl, I.bare, Un.laid k ha (fr acc ha), ⟨m, hns, fun i x v e1 e2 e3 => ?_⟩, fun x c e => ?_, ?_, fun x c e => ?_, fun p hp => absurd (show p ∈ ([] : List (Addr × Obj)) from hp) (by simp), I.hok.laid k ha ⟨Nat.zero_le _, [], na, .nil, hacc⟩, ?_⟩
 ·have hx' : scope.names.lookup x = some .free := of_relabel (env := X.env) S.nocell hx
  have hm := PySem.mem_of_lookup hx'
  obtain ⟨c, e⟩ := I.ok.has x (S.free _ hm rfl)
  exact ⟨c, (hcl2 _ hm rfl).trans e⟩
 ·rcases (hf b hb).2.2.2.1 with z | z
  ·exact I.ok.noex b o e z
  ·exact absurd (Nat.lt_of_lt_of_le (Heap.lt_size e) (Nat.le_trans I.ok.bsz z)) (Nat.lt_irrefl _)
 ·rcases List.mem_cons.mp (I.stkSub b hs) with z | z
  ·exact (hf b hb).2.1 z
  ·exact (hf b hb).2.2.1 z
 ·-- a name of the frame, seen through its cell
  have hi : n <= i := by
   by_cases hi : n <= i
   ·exact hi
   ·unfold compSt at e2
    rw [List.getElem?_append_left (by simp; (first | lia | omega)), List.getElem?_replicate] at e2
    split at e2 <;> cases e2
  obtain ⟨j, rfl⟩ : ∃ j, i = n + j := ⟨i - n, by (first | lia | omega)⟩
  unfold compSt at e2
  rw [List.getElem?_append_right (by simp), List.length_replicate, Nat.add_sub_cancel_left, List.getElem?_map] at e2
  cases ej : ix[j]? with
  | none => rw [ej] at e2; cases e2
  | some q =>
   rw [ej] at e2
   have e2' : σ.getD q none = some v := Option.some.inj e2
   have e2'' : σ[q]? = some (some v) := by
    rw [List.getD_eq_getElem?_getD] at e2'
    cases eq : σ[q]? with
    | none => rw [eq] at e2'; cases e2'
    | some z => rw [eq] at e2'; exact congrArg some e2'
   obtain ⟨y, h1, h2, h3⟩ := S.at_ j q ej
   have ey : y = x := Option.some.inj (h1.symm.trans e1)
   subst ey
   have hk := S.free _ h3 rfl
   obtain ⟨mX, _, hl⟩ := I.loc
   obtain ⟨u, r, l⟩ := hl q y v h2 e2'' (.inr hk)
   refine ⟨u, r, .inr ?_⟩
   have hkc : X.env.kindOf y = some .cell ∨ X.env.kindOf y = some .free := hk
   have l' : ∃ c, X.env.cells.lookup y = some c /\ s.heap.IsCell c (some u) := by
    rcases l with ⟨z, _⟩ | ⟨_, c, ec, hc⟩
    ·rcases hkc with q | q <;> (rw [q] at z; cases z)
    ·exact ⟨c, ec, hc⟩
   obtain ⟨c, ec, o, ho, hd⟩ := l'
   have e3' : Vis (relabel scope X.env) y := e3
   refine ⟨?_, c, (hcl2 _ h3 rfl).trans ec, o, k _ _ ho, hd⟩
   have nl : scope.names.lookup y ≠ some .local := fun z => ?_
   ·cases el : scope.names.lookup y with
    | none =>
     have : (relabel scope X.env).names.lookup y = none := by rw [relabel_lookup, el]; rfl
     rcases e3' with z | z | z <;> (rw [this] at z; cases z)
    | some kk =>
     have hmem := PySem.mem_of_lookup el
     have ncell := S.nocell _ hmem
     have hr : (relabel scope X.env).names.lookup y = some (if (kk == NameKind.free && X.env.scope.kind == .function && X.env.kindOf y == some .cell) = true then .cell else kk) := by rw [relabel_lookup, el]; rfl
     by_cases hkf : kk = .free
     ·subst hkf
      exact relabel_free (env := X.env) el
     ·have hb : (kk == NameKind.free) = false := by simpa using hkf
      have hr' : (relabel scope X.env).names.lookup y = some kk := by rw [hr, hb]; rfl
      rcases e3' with z | z | z
      ·rw [hr'] at z; cases z; exact absurd el nl
      ·rw [hr'] at z; cases z; exact absurd rfl ncell
      ·rw [hr'] at z; cases z; exact absurd rfl hkf
   ·exact S.nodup _ h3 z
 ·obtain ⟨v, o, ho, hd⟩ := I.cell x c (hcl1 x c e)
  exact ⟨v, o, k _ _ ho, hd⟩
 ·show upd H acc (.lst []) C = none
  rw [upd_ne hne]; exact fr C hC
 ·show upd H acc (.lst []) c = none
  have := cellLt x c e
  rw [upd_ne (Nat.ne_of_lt (Nat.lt_of_lt_of_le this ha))]
  exact I.freeC x c (hcl1 x c e)
 ·show (compSt n ix σ).length = N'.length
  unfold compSt
  rw [List.length_append, List.length_replicate, List.length_map, S.len]
end
end L2
namespace L2
open PySem PySem.Spec PyProof.Rows
noncomputable def Wk (σ σ' : St) : Prop := σ.length = σ'.length /\ ∀ (i : Nat) v, σ[i]? = some (some v) -> σ'[i]? = some (some v)
noncomputable def PTs (Y : Cx) (ifs : List Expr) (t : TT) : Prop :=
 ∀ (pins : List (Addr × Obj)) (s : Shared) (σ : St) (H : Hp) (Q : Bool -> Hp -> Prop), Inv Y pins σ H s -> t σ H Q ->
  wpAny (model Y.prog Y.w) Y.A (forIn ifs true fun c r => if r = true then do let ok <- isTrue c Y.env (eval c Y.env); pure (ForInStep.yield ok) else pure (ForInStep.yield r)) (TP Y pins σ Q) Y.xe s
noncomputable def tNoTest : TT := fun _ H Q => Q true H
theorem pts_nil {Y : Cx} : PTs Y [] tNoTest := fun _ _ _ H _ I h => wpAny_tests_nil ⟨H, I, h⟩
theorem pts_one {Y : Cx} {c : Expr} {t : TT} (h : PT Y c t) : PTs Y [c] t := fun pins s σ H Q I q => wpAny_tests_one (h pins s σ H Q I q)
theorem compLoop_gen {prog : Program} {w : World} {A : Around} {R : Result -> Shared -> Prop} {s : Shared} {elt target iter : Expr} {ifs : List Expr} {scope : Scope} {pos : Pos} {it acc : Value} {env : Env} (I : Nat -> Shared -> Prop)
  (turn : ∀ n s, I n s -> wpAny (model prog w) A (pyNext it) (fun r s₁ => match r with
   | none => R (.ok .next) s₁
   | some v => wpAny (model prog w) A (letOwnedTupleGo target it v) (fun _ s₂ => wpAny (model prog w) A (assign target env v) (fun _ s₃ =>
     wpAny (model prog w) A (forIn ifs true fun c r => if r = true then do let ok <- isTrue c env (eval c env); pure (ForInStep.yield ok) else pure (ForInStep.yield r)) (fun ok s₄ =>
      if ok = true then wpAny (model prog w) A (eval elt env) (fun x s₅ =>
       wpAny (model prog w) A (call (.builtin "list.append") [acc, x]) (fun _ s₆ => ∃ m, m < n /\ I m s₆) (fun _ _ => False) s₅) (fun _ _ => False) s₄
      else ∃ m, m < n /\ I m s₄) (fun _ _ => False) s₃) (fun _ _ => False) s₂) (fun _ _ => False) s₁) (fun _ _ => False) s)
  (n : Nat) (h : I n s) :
  codeAny (model prog w) A (.compLoop (.ListComp elt [⟨target, iter, ifs, 0⟩] scope pos) 0 it acc env) R s := by
 refine codeAny_loop rfl I (fun n s hI => ?_) n h
 show wpAny _ A ((compTurn (.ListComp elt [⟨target, iter, ifs, 0⟩] scope pos) 0 it acc env).onRaise (fun x => do noteFrame x env; theTreesLotGoes x)) _ _ s
 refine wpAny_noted (wpAny_noRaise ?_)
 rw [compTurn_list]
 refine wpAny_bind (wpAny_standAt (wpAny_bind (thn (turn n s hI) fun r s₁ h₁ => ?_)))
 cases r with
 | none => exact wpAny_pure h₁
 | some v =>
  refine wpAny_bind (thn h₁ fun _ s₂ h₂ => wpAny_bind (thn h₂ fun _ s₃ h₃ => wpAny_bind (thn h₃ fun ok s₄ h₄ => ?_)))
  cases ok with
  | false => exact wpAny_pure ⟨rfl, h₄⟩
  | true => exact wpAny_bind (wpAny_bind (thn h₄ fun x s₅ h₅ => wpAny_bind (thn h₅ fun _ s₆ h₆ => wpAny_pure (wpAny_pure ⟨rfl, h₆⟩))))
noncomputable def LcW (J : It) (H1 : Hp) (g : TG) (tt : TT) (te : TE) (n : Nat) (ix : List Nat) (σ : St) (Q : VK) : Prop := ∀ acc, H1 acc = none ->
 ∃ W : Nat -> Nat -> Hp -> Prop, (∃ m, W 0 m (upd H1 acc (.lst []))) /\ ∀ i m H, W i m H ->
  (J.stop i H /\ Q (.ref acc) H) ∨ (J.go i H /\ ∀ x H', J.yld i H x H' -> g x (compSt n ix σ) H' fun σ2 H2 => Wk (compSt n ix σ) σ2 /\ tt σ2 H2 fun b H3 =>
   if b = true then te σ2 H3 fun v H4 => ∃ ys, H4 acc = some (.lst ys) /\ ys.length < sizeLine /\ ∃ m', m' < m /\ W (i + 1) m' (upd H4 acc (.lst (ys ++ [v])))
   else ∃ m', m' < m /\ W (i + 1) m' H3)
noncomputable def tLc (wi : TI) (g : TG) (tt : TT) (te : TE) (n : Nat) (ix : List Nat) : TE := fun σ H Q => wi σ H fun J H1 => LcW J H1 g tt te n ix σ Q
section
variable {X : Cx} {elt tg iter : Expr} {ifs : List Expr} {scope : Scope} {pos : Pos} {wi : TI} {g : TG} {tt : TT} {te : TE} {N' : List Str} {n : Nat} {ix : List Nat}
theorem lc_core {pins : List (Addr × Obj)} {σ : St} {H2 : Hp} {s2 : Shared} {cl : List (Str × Addr)} {it : Addr} {fp : List Addr} {tn : Nat -> Heap -> Prop} {J : It} {Q : VK} {R : Value -> Addr -> Result -> Shared -> Prop}
  (hc : X.calm = true) (S : CompScope X scope N' n ix)
  (hY : ∀ s₂ H₂ cl C fp, PG (X.comp s₂ H₂ N' scope cl C fp) tg g /\ PTs (X.comp s₂ H₂ N' scope cl C fp) ifs tt /\ PE (X.comp s₂ H₂ N' scope cl C fp) elt te)
  (I2 : Inv X pins σ H2 s2) (hcl1 : ∀ x c, cl.lookup x = some c -> X.env.cells.lookup x = some c) (hcl2 : ∀ y ∈ scope.names, y.2 = .free -> cl.lookup y.1 = X.env.cells.lookup y.1)
  (T : Turn X.prog X.w X.K tg J fp it tn) (st2 : tn 0 s2.heap) (f2 : ∀ b ∈ fp, FpOk X pins H2 b)
  (hW : LcW J H2 g tt te n ix σ Q)
  (hR : ∀ acc C s' H' m, s'.heap.Ns C m -> Inv X pins σ H' s' -> H' C = none -> C ≠ X.env.locals -> (C ∈ X.ex ∨ X.s₀.heap.objs.size <= C) -> (∀ x c, X.env.cells.lookup x = some c -> c ≠ C) -> (∀ p ∈ X.pn ++ pins, p.1 ≠ C) -> C ∉ X.fs -> Q (.ref acc) H' -> R (.ref acc) C (.ok .next) s') :
  wpAny (model X.prog X.w) X.A (newList []) (fun acc s₃ => wpAny (model X.prog X.w) X.A (newFunctionEnv scope X.env.globals cl [] X.env.qual none .none (some X.env)) (fun cenv s₄ =>
   codeAny (model X.prog X.w) X.A (.compStart (.ListComp elt [⟨tg, iter, ifs, 0⟩] scope pos) 0 (.ref it) acc { cenv with scope := relabel scope X.env }) (R acc cenv.locals) s₄) X.xe s₃) X.xe s2 := by
 refine wpAny_newObj_type (wpAny_newFunctionEnv S.nocell (by intro y hy; simp at hy) (fun h₁ hns₁ hsb₁ => ?_) S.kind)
 dsimp only at hns₁ hsb₁ ⊢
 generalize hH2 : s2.heap.push { cls := .type "list", dict := none, data := .seq ([] : List Value).toArray } = G at hns₁ hsb₁ ⊢
 have hC : G.objs.size = s2.heap.objs.size + 1 := by rw [<- hH2, Heap.size_push]
 have hlt : ∀ b ∈ fp, b < s2.heap.objs.size := fun b hb => by
  obtain ⟨o, e, _⟩ := T.obj _ _ st2 b hb
  exact Heap.lt_size e
 have old : ∀ b o, s2.heap.get? b = some o -> h₁.get? b = some o := fun b o e => hsb₁.extBut b o (by rw [hC]; exact Nat.ne_of_lt (Nat.lt_succ_of_lt (Heap.lt_size e))) (Heap.get?_push_of_some _ (hH2 ▸ Heap.get?_push_of_some _ e))
 have hacc : h₁.get? s2.heap.objs.size = some { cls := .type "list", dict := none, data := .seq ([] : List Value).toArray } := hsb₁.extBut _ _ (by rw [hC]; exact Nat.ne_of_lt (Nat.lt_succ_self _)) (Heap.get?_push_of_some _ (hH2 ▸ Heap.get?_push_size _ rfl))
 obtain ⟨W, ⟨m0, w0⟩, turn⟩ := hW s2.heap.objs.size (I2.hok.fresh (Nat.le_refl _))
 obtain ⟨hYg, hYt, hYe⟩ := hY s2 H2 cl G.objs.size fp
 have fpY : ∀ {H' : Hp}, (∀ b ∈ fp, H' b = none) -> ∀ b ∈ fp, FpOk (X.comp s2 H2 N' scope cl G.objs.size fp) [] H' b := fun {H'} hn b hb => by
  obtain ⟨_, q1, q2, q3, q4, q5⟩ := f2 b hb
  refine ⟨hn b hb, ?_, fun z => ?_, .inl hb, fun x c e => q4 x c (hcl1 x c e), fun p hp => absurd (show p ∈ ([] : List (Addr × Obj)) from hp) (by simp)⟩
  ·show b ≠ G.objs.size
   rw [hC]
   exact Nat.ne_of_lt (Nat.lt_succ_of_lt (hlt b hb))
  ·rcases List.mem_cons.mp (I2.stkSub b z) with y | y
   ·exact q1 y
   ·exact q2 y
 have loop : ∀ s₃ : Shared, s₃ = { s2 with heap := h₁, toks := s2.toks + ([] : List (Str × Value)).length } ->
   codeAny (model X.prog X.w) X.A (.compLoop (.ListComp elt [⟨tg, iter, ifs, 0⟩] scope pos) 0 (.ref it) (.ref s2.heap.objs.size) (compEnvC scope cl G.objs.size X.env)) (R (.ref s2.heap.objs.size) G.objs.size) s₃ := by
  rintro s₃ rfl
  have I4 := inv_comp (tk := s2.toks + ([] : List (Str × Value)).length) I2 S hcl1 hcl2 f2 hlt (Nat.le_refl _) (by rw [hC]; exact Nat.le_succ _) (by rw [hC]; exact Nat.ne_of_gt (Nat.lt_succ_self _)) old hacc hns₁
  refine compLoop_gen (fun n' s' => ∃ i H', Inv (X.comp s2 H2 N' scope cl G.objs.size fp) [] (compSt n ix σ) H' s' /\ tn i s'.heap /\ (∀ b ∈ fp, H' b = none) /\ W i n' H') ?_ m0
   ⟨0, _, I4, T.keep _ _ _ st2 fun b hb o e => old b o e, fun b hb => ?_, w0⟩
  ·rintro n' s3 ⟨i, H3, I3, st3, fr3, w3⟩
   rcases turn i n' H3 w3 with ⟨stop, q⟩ | ⟨go, step⟩
   ·refine thn (T.done (X.comp s2 H2 N' scope cl G.objs.size fp) rfl rfl rfl hc i [] s3 _ H3 _ I3 (fpY fr3) st3 stop) fun r s4 ⟨hr, I5⟩ => ?_
    subst hr
    obtain ⟨mC, hnC, _⟩ := I5.loc
    have IX : Inv X pins σ H3 s4 := I2.call' I5.os I5.base I5.hok I5.bare fun b hb => by
     obtain ⟨_, q1, q2, q3, q4, q5⟩ := f2 b hb
     exact ⟨q3, q1, q4, q5⟩
    refine hR _ _ s4 H3 mC hnC IX I5.free ?_ (.inr ?_) (fun x c e z => ?_) (fun p hp z => ?_) (I2.nofs (by rw [hC]; exact Nat.le_succ _)) q
    ·rw [hC]
     exact Nat.ne_of_gt (Nat.lt_succ_of_lt I2.lt)
    ·rw [hC]
     exact Nat.le_succ_of_le I2.sz
    ·obtain ⟨v, q⟩ := I2.cell x c e
     rw [hC] at z
     exact absurd z (Nat.ne_of_lt (Nat.lt_succ_of_lt q.lt))
    ·rw [hC] at z
     exact absurd z (Nat.ne_of_lt (Nat.lt_succ_of_lt (Heap.lt_size (I2.pin p hp).1)))
   ·refine thn (T.item (X.comp s2 H2 N' scope cl G.objs.size fp) rfl rfl rfl hc i [] s3 _ H3 _ I3 (fpY fr3) st3 go) fun r s4 ⟨u, hr, h4⟩ => ?_
    subst hr
    refine thn h4 fun _ s5 ⟨x, H5, I5, r5, y5, st5, fr5⟩ => ?_
    have I5' := I5.pinned (fpY fr5) (T.obj _ _ st5)
    refine thn (hYg _ s5 _ H5 x u _ I5' r5 (step x H5 y5)) fun _ s6 ⟨σ6, H6, I6, wk, q6⟩ => ?_
    have back : ∀ {H' : Hp} {s' : Shared}, Inv (X.comp s2 H2 N' scope cl G.objs.size fp) ([] ++ pinsAt fp s5.heap) σ6 H' s' ->
      Inv (X.comp s2 H2 N' scope cl G.objs.size fp) [] (compSt n ix σ) H' s' /\ tn (i + 1) s'.heap /\ ∀ b ∈ fp, H' b = none := fun {H' s'} I7 => by
     refine ⟨I7.unpinned.weak wk.1 wk.2, T.keep _ _ _ st5 fun b hb o e => (I7.pin (b, o) (List.mem_append_right _ (List.mem_append_right _ (mem_pinsAt hb e)))).1, fun b hb => ?_⟩
     obtain ⟨o, e, d⟩ := T.obj _ _ st5 b hb
     exact (I7.pin (b, o) (List.mem_append_right _ (List.mem_append_right _ (mem_pinsAt hb e)))).2.1
    refine thn (hYt _ s6 σ6 H6 _ I6 q6) fun ok s7 ⟨H7, I7, q7⟩ => ?_
    cases ok with
    | false =>
     rw [if_neg Bool.false_ne_true] at q7 ⊢
     obtain ⟨m', hm, w7⟩ := q7
     obtain ⟨b1, b2, b3⟩ := back I7
     exact ⟨m', hm, i + 1, H7, b1, b2, b3, w7⟩
    | true =>
     rw [if_pos rfl] at q7 ⊢
     refine thn (hYe _ s7 σ6 H7 _ I7 q7) fun xv s8 ⟨v8, H8, I8, r8, ys, ha, hz, m', hm, w8⟩ => ?_
     refine thn (mt_append _ s8 σ6 H8 (.ref s2.heap.objs.size) [v8] (.ref s2.heap.objs.size) [xv] (fun _ H' => H' = upd H8 s2.heap.objs.size (.lst (ys ++ [v8]))) I8 rfl (.cons r8 .nil) ⟨_, ys, v8, rfl, rfl, ha, hz, rfl⟩) fun _ s9 ⟨_, H9, I9, _, e9⟩ => ?_
     subst e9
     obtain ⟨b1, b2, b3⟩ := back I9
     exact ⟨m', hm, i + 1, _, b1, b2, b3, w8⟩
  ·rw [upd_ne (Nat.ne_of_lt (hlt b hb))]
   exact (f2 b hb).1
 exact codeAny_compStart_list (loop _ rfl) (T.self _ 0 _ _ _ (T.keep _ _ _ st2 fun b hb o e => old b o e) (loop _ rfl))
theorem pe_lc (hc : X.calm = true) (S : CompScope X scope N' n ix) (hi : PI X tg iter wi)
  (hY : ∀ s₂ H₂ cl C fp, PG (X.comp s₂ H₂ N' scope cl C fp) tg g /\ PTs (X.comp s₂ H₂ N' scope cl C fp) ifs tt /\ PE (X.comp s₂ H₂ N' scope cl C fp) elt te)
  (hs : ∀ x, foldedSetIterable iter X.env x = pure x := by intro _; rfl) : PE X (.ListComp elt [⟨tg, iter, ifs, 0⟩] scope pos) (tLc wi g tt te n ix) := by
 intro pins s σ H Q I h
 obtain ⟨cl, hcl, hcl1, hcl2⟩ := closure_ok (env := X.env) (scope := scope) fun y hy hf => I.ok.has _ (S.free y hy hf)
 rw [eval_ListComp]
 refine wpAny_comprehension_free (use := none) rfl hs hcl S.kind S.names (thn (hi pins s σ H _ I h) fun v s1 h1 => thn h1 fun itv s2 h2 => ?_)
 obtain ⟨it, fp, tn, J, H2, rfl, I2, T, st2, f2, hW⟩ := h2
 refine lc_core (R := fun acc C => compPost (model X.prog X.w) X.A X.xe none (EP X pins σ Q) acc C) hc S hY I2 hcl1 hcl2 T st2 f2 hW ?_
 intro acc C s' H' m hn IX hf hL h1 h2 h3 h4 q
 exact ⟨m, hn, fun h' sb => ⟨.ref acc, H', IX.turned (t' := s'.toks) (fun b o hb e => sb.extBut b o hb e) hf hL h1 h2 h3, rfl, q⟩⟩
end
end L2
namespace L2
open PySem PySem.Spec PyProof.Rows
theorem PE.mono {X : Cx} {e : Expr} {t t' : TE} (h : PE X e t) (m : ∀ σ H Q, t' σ H Q -> t σ H Q) : PE X e t' := fun pins s σ H Q I q => h pins s σ H Q I (m σ H Q q)
theorem same_upd {H : Hp} {a : Addr} {o : HO} (h : H a = none) : Same H (upd H a o) := fun b u e => by
 rw [upd_ne (ne_of_none e h)]; exact e
theorem same_updR {H H' : Hp} {a : Addr} {o : HO} (s : Same H H') (h : H a = none) : Same H (upd H' a o) := fun b u e => by
 rw [upd_ne (ne_of_none e h)]; exact s b u e
noncomputable def SameT (H H' : Hp) : Prop := ∀ b xs, H b = some (.tup xs) -> H' b = some (.tup xs)
theorem Same.t {H H' : Hp} (h : Same H H') : SameT H H' := fun b xs e => h b _ e
theorem SameT.trans {H H1 H2 : Hp} (a : SameT H H1) (b : SameT H1 H2) : SameT H H2 := fun c o h => b c o (a c o h)
theorem sameT_lst {H : Hp} {a : Addr} {xs ys : List V} (h : H a = some (.lst xs)) : SameT H (upd H a (.lst ys)) := fun b zs e => by
 rw [upd_ne (ne_of e h (by intro z; cases z))]; exact e
structure Yields (J : It) (Ok : Hp -> Prop) (xs : List V) : Prop where
 go : ∀ i H, Ok H -> i < xs.length -> J.go i H
 yld : ∀ i H x H', Ok H -> i < xs.length -> J.yld i H x H' -> H' = H /\ xs[i]? = some x
 stop : ∀ H, Ok H -> J.stop xs.length H
theorem yields_list {K : PySem.W.Frag} {a : Addr} {xs : List V} : Yields (Itl K a) (fun H => SqL K H a xs) xs :=
 ⟨fun i H q h => ⟨xs, xs[i], q, by simp [h]⟩, fun i H x H' q _ y => ⟨y.1, y.2 xs q⟩, fun H q => ⟨xs, q, Nat.le_refl _⟩⟩
theorem yields_tup {K : PySem.W.Frag} {a : Addr} {xs : List V} : Yields (Itt K a) (fun H => SqT K H a xs) xs :=
 ⟨fun i H q h => ⟨xs, xs[i], q, by simp [h]⟩, fun i H x H' q _ y => ⟨y.1, y.2 xs q⟩, fun H q => ⟨xs, q, Nat.le_refl _⟩⟩
noncomputable def rangeV (lo : Int) (n : Nat) : List V := (List.range n).map fun (i : Nat) => V.int (lo + (i : Int))
theorem rangeV_len (lo : Int) (n : Nat) : (rangeV lo n).length = n := by simp [rangeV]
theorem rangeV_get {lo : Int} {n i : Nat} (h : i < n) : (rangeV lo n)[i]? = some (V.int (lo + (i : Int))) := by
 simp [rangeV, h]
theorem yields_range {lo : Int} {n : Nat} : Yields (Itr lo n) (fun _ => True) (rangeV lo n) := by
 refine ⟨fun i H _ h => ?_, fun i H x H' _ h y => ?_, fun H _ => ?_⟩
 ·rw [rangeV_len] at h; exact h
 ·obtain ⟨y1, y2⟩ := y
  rw [rangeV_len] at h
  exact ⟨y1, by rw [rangeV_get h, y2]⟩
 ·rw [rangeV_len]; exact Nat.le_refl _
section
variable {J : It} {Ok : Hp -> Prop} {xs : List V} {tt : TT} {te : TE} {ix : List Nat} {σ : St} {H1 : Hp} {Q : VK}
theorem lc_pure (Y : Yields J Ok xs) (small : xs.length < sizeLine) (p : V -> Bool) (f : V -> V) (hok : ∀ H, Same H1 H -> Ok H)
  (ht : ∀ x ∈ xs, ∀ H, Same H1 H -> ∀ Q' : Bool -> Hp -> Prop, Q' (p x) H -> tt (some x :: ix.map fun i => σ.getD i none) H Q')
  (he : ∀ x ∈ xs, p x = true -> ∀ H, Same H1 H -> ∀ Q' : VK, Q' (f x) H -> te (some x :: ix.map fun i => σ.getD i none) H Q')
  (fin : ∀ acc, H1 acc = none -> Q (.ref acc) (upd H1 acc (.lst ((xs.filter p).map f)))) :
  LcW J H1 (gName 0) tt te 1 ix σ Q := by
 intro acc ha
 refine ⟨fun i m H => m = xs.length - i /\ i <= xs.length /\ H = upd H1 acc (.lst (((xs.take i).filter p).map f)), ⟨xs.length, by simp, Nat.zero_le _, rfl⟩, ?_⟩
 rintro i m H ⟨rfl, hi, rfl⟩
 have sm : Same H1 (upd H1 acc (.lst (((xs.take i).filter p).map f))) := same_upd ha
 have o := hok _ sm
 by_cases hlt : i < xs.length
 ·refine .inr ⟨Y.go i _ o hlt, fun x H' y => ?_⟩
  obtain ⟨rfl, hx⟩ := Y.yld i _ x H' o hlt y
  have hmem : x ∈ xs := List.mem_of_getElem? hx
  have htk : xs.take (i + 1) = xs.take i ++ [x] := by
   rw [List.take_succ, hx]; rfl
  refine ⟨⟨rfl, fun j v e => ?_⟩, ?_⟩
  ·cases j with
   | zero => cases e
   | succ j => exact e
  ·refine ht x hmem _ sm _ ?_
   cases hp : p x with
   | false =>
    rw [if_neg Bool.false_ne_true]
    refine ⟨xs.length - (i + 1), by (first | lia | omega), rfl, hlt, ?_⟩
    rw [htk, List.filter_append]
    simp [hp]
   | true =>
    rw [if_pos rfl]
    refine he x hmem hp _ sm _ ?_
    refine ⟨_, upd_same, ?_, xs.length - (i + 1), by (first | lia | omega), rfl, hlt, ?_⟩
    ·rw [List.length_map]
     refine Nat.lt_of_le_of_lt (List.length_filter_le _ _) ?_
     rw [List.length_take]; (first | lia | omega)
    ·rw [upd_upd, htk, List.filter_append, List.map_append]
     simp [hp]
 ·have e : i = xs.length := by (first | lia | omega)
  subst e
  refine .inl ⟨Y.stop _ o, ?_⟩
  rw [List.take_length]
  exact fin acc ha
theorem lc_grow (Y : Yields J Ok xs) (small : xs.length < sizeLine) (R : V -> V -> Hp -> Prop) (hR : ∀ x v H H', SameT H H' -> R x v H -> R x v H') (hok : ∀ H, Same H1 H -> Ok H)
  (he : ∀ x ∈ xs, ∀ H, Same H1 H -> ∀ Q' : VK, (∀ v H', Same H H' -> R x v H' -> Q' v H') -> te (some x :: ix.map fun i => σ.getD i none) H Q')
  (fin : ∀ acc ys H', H1 acc = none -> Same H1 H' -> H' acc = some (.lst ys) -> Paired (fun x v => R x v H') xs ys -> Q (.ref acc) H') :
  LcW J H1 (gName 0) tNoTest te 1 ix σ Q := by
 intro acc ha
 refine ⟨fun i m H => m = xs.length - i /\ i <= xs.length /\ Same H1 H /\ ∃ ys, H acc = some (.lst ys) /\ Paired (fun x v => R x v H) (xs.take i) ys, ⟨xs.length, by simp, Nat.zero_le _, same_upd ha, [], upd_same, .nil⟩, ?_⟩
 rintro i m H ⟨rfl, hi, sm, ys, hacc, pr⟩
 have o := hok _ sm
 have hlen : ys.length = i := by rw [<- Paired.length pr, List.length_take]; (first | lia | omega)
 by_cases hlt : i < xs.length
 ·refine .inr ⟨Y.go i _ o hlt, fun x H' y => ?_⟩
  obtain ⟨rfl, hx⟩ := Y.yld i _ x H' o hlt y
  have hmem : x ∈ xs := List.mem_of_getElem? hx
  have htk : xs.take (i + 1) = xs.take i ++ [x] := by
   rw [List.take_succ, hx]; rfl
  refine ⟨⟨rfl, fun j v e => ?_⟩, ?_⟩
  ·cases j with
   | zero => cases e
   | succ j => exact e
  ·unfold tNoTest
   dsimp only
   rw [if_pos rfl]
   refine he x hmem _ sm _ fun v H4 s4 r4 => ?_
   have h4 : H4 acc = some (.lst ys) := s4 _ _ hacc
   refine ⟨ys, h4, by (first | lia | omega), xs.length - (i + 1), by (first | lia | omega), rfl, hlt, same_updR (sm.trans s4) ha, ys ++ [v], upd_same, ?_⟩
   rw [htk]
   have st : SameT H4 (upd H4 acc (.lst (ys ++ [v]))) := sameT_lst h4
   exact Paired.snoc (Paired.mapP pr fun x' v' r' => hR _ _ _ _ (s4.t.trans st) r') (hR _ _ _ _ st r4)
 ·have e : i = xs.length := by (first | lia | omega)
  subst e
  refine .inl ⟨Y.stop _ o, ?_⟩
  rw [List.take_length] at pr
  exact fin acc ys H ha sm hacc pr
end
end L2
namespace L2
open PySem PySem.Spec PyProof.Rows
section
variable {prog : Program} {w : World} {A : Around} {E : Value -> Shared -> Prop} {s : Shared}
theorem nextT_item {it t : Addr} {i : Nat} {its : Array Value} {x : Value} {Q : Value -> Shared -> Prop} (hi : s.heap.IsTupleIter it t i) (ht : s.heap.IsTuple t its) (hx : its[i]? = some x)
  (q : ∀ h', h'.IsTupleIter it t (i + 1) -> Heap.SameBut it s.heap h' -> Q x { s with heap := h' }) : wpAny (model prog w) A (Builtin.SmallTypes.nextOf (.ref it)) Q E s := by
 obtain ⟨o, e1, e2, e3⟩ := id hi
 obtain ⟨u, f1, f2, nu, f3⟩ := ht
 unfold Builtin.SmallTypes.nextOf
 refine wpAny_bind (wpAny_callSpecial?_slot (name := Str.ofString "__next__") hi.typeIs F.slot_tuple_iterator_next (wpAny_call_entry F.slot_tuple_iterator_next hi.typeIs F.entry_tuple_iterator_next ?_ (F.args_tuple_iterator_next_1 _)))
 show wpAny _ _ (field (.ref it) 0 >>= _) _ _ s
 refine wpAny_bind (wpAny_field e1 e3 (x := .ref t) rfl ?_)
 show wpAny _ _ (if (Value.ref t == Value.none) = true then _ else _) _ _ s
 rw [if_neg (show ¬ ((Value.ref t == Value.none) = true) from Bool.false_ne_true)]
 show wpAny _ _ (field (.ref it) 1 >>= _) _ _ s
 refine wpAny_bind (wpAny_field e1 e3 (x := .int i 0) rfl ?_)
 show wpAny _ _ (seqItems? (.ref t) >>= _) _ _ s
 refine wpAny_bind (wpAny_seqItems f1 f3 ?_)
 simp only [Int.toNat_natCast, hx]
 refine wpAny_bind (wpAny_setField e1 e3 (by simp) (wpAny_pure ⟨x, rfl, wpAny_pure (q _ ⟨_, Heap.get?_update_self _ e1 (Obj.isFreed_of_fields (Obj.data_mapFields e3 _)), (Obj.cls_mapFields ..).trans e2, ?_⟩ (Heap.SameBut.update ..))⟩))
 rw [Obj.data_mapFields e3]
 simp [rawInt]
theorem nextT_end {it t : Addr} {i : Nat} {its : Array Value} {Q : Value -> Shared -> Prop} (hh : A.handled = none) (hi : s.heap.IsTupleIter it t i) (ht : s.heap.IsTuple t its) (hx : its[i]? = none)
  (q : ∀ h' e, Heap.ExtBut it s.heap h' -> (∃ o, h'.get? e = some o /\ o.cls = .type "StopIteration") -> E (.ref e) { s with heap := h' }) : wpAny (model prog w) A (Builtin.SmallTypes.nextOf (.ref it)) Q E s := by
 obtain ⟨o, e1, e2, e3⟩ := id hi
 obtain ⟨u, f1, f2, nu, f3⟩ := ht
 unfold Builtin.SmallTypes.nextOf
 refine wpAny_bind (wpAny_callSpecial?_slot (name := Str.ofString "__next__") hi.typeIs F.slot_tuple_iterator_next (wpAny_call_entry F.slot_tuple_iterator_next hi.typeIs F.entry_tuple_iterator_next ?_ (F.args_tuple_iterator_next_1 _)))
 show wpAny _ _ (field (.ref it) 0 >>= _) _ _ s
 refine wpAny_bind (wpAny_field e1 e3 (x := .ref t) rfl ?_)
 show wpAny _ _ (if (Value.ref t == Value.none) = true then _ else _) _ _ s
 rw [if_neg (show ¬ ((Value.ref t == Value.none) = true) from Bool.false_ne_true)]
 show wpAny _ _ (field (.ref it) 1 >>= _) _ _ s
 refine wpAny_bind (wpAny_field e1 e3 (x := .int i 0) rfl ?_)
 show wpAny _ _ (seqItems? (.ref t) >>= _) _ _ s
 refine wpAny_bind (wpAny_seqItems f1 f3 ?_)
 simp only [Int.toNat_natCast, hx]
 refine wpAny_bind (wpAny_rule (wpAny_bind (wpAny_setField e1 e3 (by simp) ?_)))
 show wpAny _ _ (newExc (.type "StopIteration") [] >>= _) _ _ _
 refine wpAny_bind ?_
 simp only [newExc, newTuple]
 refine wpAny_bind (wpAny_newObj_type ?_ (by size_fits))
 refine wpAny_bind (m := firstArgMember _ _) (wpAny_of_eq (a := Value.none) (by first | rfl | (simp only [firstArgMember]; rfl)) ?_)
 refine wpAny_newObj_type ?_ (by size_fits)
 simp only [raiseNew]
 refine wpAny_bind (wpAny_handled ?_)
 first | rw [show A.in1.handled = none from hh] | rw [hh]
 refine wpAny_bind (wpAny_pure (wpAny_throw ?_))
 exact q _ _ (((Heap.SameBut.update ..).extBut.push _).push _) ⟨_, Heap.get?_push_size _ rfl, rfl⟩
end
theorem drawsT {prog : Program} {w : World} {A : Around} (hh : A.handled = none) (it t : Addr) (hne : t ≠ it) (its : Array Value) :
  Draws prog w A it [it, t] its.size (fun i v => its[i]? = some v) (fun i h => h.IsTupleIter it t i /\ h.IsTuple t its) where
 live := fun _ _ st => let ⟨o, ho, _⟩ := st.1; ⟨o, ho⟩
 frame := fun _ _ _ st hk => ⟨let ⟨o, ho, r⟩ := st.1; ⟨o, hk it (by simp) o ho, r⟩, let ⟨o, ho, r⟩ := st.2; ⟨o, hk t (by simp) o ho, r⟩⟩
 item := fun i s Q E hi st hQ => nextT_item st.1 st.2 (x := its[i]) (by simp [hi]) fun h' a b => hQ _ h' s.toks (by simp [hi]) ⟨a, st.2.extBut b.extBut hne⟩ b
 done := fun s Q E st hE => nextT_end hh st.1 st.2 (by simp) hE
theorem enum_newT (l : Addr) (items : Array Value) (n : Nat) (dct : Option Addr) (sl : Array (Option Value)) :
  Meets (Builtin.«enumerate.__new__» ⟨[.type "enumerate", .ref l], []⟩) (fun _ R s => s.heap.get? l = some { cls := .type "tuple", dict := dct, data := .seq items n, slots := sl } /\
   R (.ok (.ret (.ref (s.heap.push { cls := .type "tuple_iterator", data := .fields #[.ref l, .int 0 0] }).objs.size)))
    { s with heap := (s.heap.push { cls := .type "tuple_iterator", data := .fields #[.ref l, .int 0 0] }).push { cls := .type "enumerate", data := .fields #[.none, .bool false, .ref s.heap.objs.size, rawInt 0, .none, .none] } }) :=
 .of_wp fun prog w A R s h => by
  obtain ⟨hp, g, d, tk, os⟩ := s; obtain ⟨hl, h⟩ := h
  have hsub := sub_enumerate
  have hL : Heap.IsTuple (Shared.heap ⟨hp, g, d, tk, os⟩) l items := ⟨_, hl, rfl, n, rfl⟩
  wp_walk using AutoSeq1.wpAny_loadPart' hl
  refine wpAny_stack_any fun st => wpAny_pure ?_
  split
  ·rename_i c _ _ _ _ _
   cases (c == Value.type "enumerate") <;> (wp_walk using AutoSeq1.wpAny_loadPart' hl, wpAny_pyIter_tuple hL; exact ⟨_, rfl, h⟩)
  ·wp_walk using AutoSeq1.wpAny_loadPart' hl, wpAny_pyIter_tuple hL
   exact ⟨_, rfl, h⟩
theorem call_enumT {prog : Program} {w : World} {A : Around} {E : Value -> Shared -> Prop} {s : Shared} {l : Addr} {items : Array Value} {Q : Value -> Shared -> Prop} (hL : s.heap.IsTuple l items)
  (h : ∀ h', IsEnum h' (s.heap.objs.size + 1) s.heap.objs.size 0 .none -> h'.IsTupleIter s.heap.objs.size l 0 -> h'.objs.size = s.heap.objs.size + 2 ->
   (∀ b o, s.heap.get? b = some o -> h'.get? b = some o) -> Q (.ref (s.heap.objs.size + 1)) { s with heap := h' }) :
  wpAny (model prog w) A (call (.type "enumerate") [.ref l]) Q E s := by
 obtain ⟨⟨c, dct, dt, sl⟩, hl, hc, n, hd⟩ := hL
 replace hc : c = .type "tuple" := hc
 replace hd : dt = .seq items n := hd
 subst hc hd
 refine callType_new F.called_enumerate (by decide) (F.typeCall_enumerate_1 _) (F.newCall_enumerate_1 _) (fun obj => F.args_object_init_2 obj _) F.entry_enumerate_new (enum_newT l items n dct sl) ⟨hl, ?_⟩
 have hz : (s.heap.push { cls := .type "tuple_iterator", data := .fields #[.ref l, .int 0 0] }).objs.size = s.heap.objs.size + 1 := Heap.size_push ..
 show _ /\ _
 rw [hz]
 have he := Heap.get?_push_size (s.heap.push { cls := .type "tuple_iterator", data := .fields #[.ref l, .int 0 0] }) (o := { cls := .type "enumerate", data := .fields #[.none, .bool false, .ref s.heap.objs.size, rawInt 0, .none, .none] }) rfl
 rw [hz] at he
 exact ⟨⟨_, he, rfl⟩, h _ he ⟨_, Heap.get?_push_of_some _ (Heap.get?_push_size _ rfl), rfl, rfl⟩ (by rw [Heap.size_push, hz]) fun b o x => Heap.get?_push_of_some _ (Heap.get?_push_of_some _ x)⟩
end L2
namespace L2
open PySem PySem.Spec PyProof.Rows
section
variable {X : Cx} {pins : List (Addr × Obj)} {σ : St} {H : Hp} {s : Shared} {h' : Heap}
theorem Inv.turnedN {t' : Nat} {fp : List Addr} (I : Inv X pins σ H s) (hf : ∀ b ∈ fp, FpOk X pins H b) (k : ∀ b o, b ∉ fp -> s.heap.get? b = some o -> h'.get? b = some o) : Inv X pins σ H { s with heap := h', toks := t' } := by
 have nit : ∀ b u, H b = some u -> b ∉ fp := fun b u e z => by rw [(hf b z).1] at e; cases e
 refine I.step (g' := s.gens) (d' := s.drawn) (ch := fp) (fun b hb => ?_) (fun b o _ _ hc e _ => k b o hc e) (fun b o _ _ hc e _ => ⟨o.slots, k b o hc e⟩) (fun _ _ _ _ n => n)
  (fun b o hc e => ⟨o, k b o hc e⟩) (fun _ _ e => e) (fun _ _ _ e => e) (fun b ps e => ⟨#[], by rw [e]; simp⟩) (fun m hm => ?_) (fun b u e => ?_) I.bare
 ·obtain ⟨_, q1, q2, q3, q4, q5⟩ := hf b hb
  exact ⟨q3, q1, q4, q5⟩
 ·obtain ⟨o, es, ep, ho, r⟩ := hm
  exact ⟨o, es, ep, k _ o (fun z => (hf _ z).2.1 rfl) ho, r⟩
 ·refine (I.hok b u e).stay (fun c v hc q => k c v ?_ q) (fun _ q => q) fun _ _ q => q
  rcases hc with z | z
  ·rw [z]; exact nit b u e
  ·exact nit c _ z
theorem Inv.trackT {a : Addr} {xs : List V} {its : List Value} (I : Inv X pins σ H s) (hn : H a = none) (hs : X.s₀.heap.objs.size <= a) (hL : a ≠ X.env.locals) (hc : ∀ x c, X.env.cells.lookup x = some c -> c ≠ a) (hp : ∀ p ∈ X.pn ++ pins, p.1 ≠ a)
  (rv : Vals xs its) (ht : PTup s.heap a its.toArray) (hz : xs.length <= sizeLine) : Inv X pins σ (upd H a (.tup xs)) s := by
 have ne : ∀ {b u}, H b = some u -> b ≠ a := fun e => ne_of_none e hn
 refine ⟨I.ok, I.os, I.bare, ⟨I.base.keep, I.base.slot, fun b o e n hx => ?_, I.base.there, fun b ys e => ?_, fun b o u e => ?_, fun b ps e => ?_⟩, I.loc, I.cell, ?_, fun x c e => ?_, fun p hp' => ?_, fun b u e => ?_, I.len⟩
 ·rw [upd_ne (Nat.ne_of_lt (Nat.lt_of_lt_of_le (Heap.lt_size e) hs))]
  exact I.base.free b o e n hx
 ·have q := I.base.tups b ys e
  rw [upd_ne (ne q)]; exact q
 ·have q := I.base.frzs b o u e
  rw [upd_ne (ne q)]; exact q
 ·obtain ⟨m, q⟩ := I.base.tbls b ps e
  exact ⟨m, by rw [upd_ne (ne q)]; exact q⟩
 ·rw [upd_ne (Ne.symm hL)]; exact I.free
 ·rw [upd_ne (hc x c e)]; exact I.freeC x c e
 ·obtain ⟨q1, q2, q3⟩ := I.pin p hp'
  exact ⟨q1, by rw [upd_ne (hp p hp')]; exact q2, q3⟩
 ·by_cases hb : b = a
  ·subst hb
   rw [upd_same] at e; cases e
   exact ⟨hz, its, rv, ht⟩
  ·rw [upd_ne hb] at e
   exact (I.hok b u e).stay (fun _ _ _ q => q) (fun c q => by rw [upd_ne (ne q)]; exact q) fun c ys q => by rw [upd_ne (ne q)]; exact q
theorem Inv.turnedT {t' : Nat} {fp : List Addr} {xs : List V} {its : List Value} (I : Inv X pins σ H s) (hf : ∀ b ∈ fp, FpOk X pins H b) (k : ∀ b o, b ∉ fp -> s.heap.get? b = some o -> h'.get? b = some o)
  (rv : Vals xs its) (ht : PTup h' s.heap.objs.size its.toArray) (hz : xs.length <= sizeLine) : Inv X pins σ (upd H s.heap.objs.size (.tup xs)) { s with heap := h', toks := t' } := by
 refine (I.turnedN (t' := t') hf k).trackT (I.hok.fresh (Nat.le_refl _)) I.sz (Nat.ne_of_gt I.lt) (fun x c e => ?_) (fun p hp => ?_) rv ht hz
 ·obtain ⟨v, q⟩ := I.cell x c e
  exact Nat.ne_of_lt q.lt
 ·exact Nat.ne_of_lt (Heap.lt_size (I.pin p hp).1)
end
noncomputable def Ite (K : PySem.W.Frag) (a : Addr) : It :=
 ⟨fun i H => ∃ xs x, SqT K H a xs /\ xs[i]? = some x, fun i H v H' => ∃ t x, H t = none /\ v = .ref t /\ H' = upd H t (.tup [.int i, x]) /\ ∀ xs, SqT K H a xs -> xs[i]? = some x, fun i H => ∃ xs, SqT K H a xs /\ xs.length = i⟩
theorem turn_enumT {P : Program} {w : World} {K : PySem.W.Frag} {els : List Expr} {kx} {tp : Pos} (a e it : Addr) (hne : e ≠ it) : Turn P w K (.Tuple els kx tp) (Ite K a) [e, it] e (fun i h => (∃ old, IsEnum h e it i old) /\ h.IsTupleIter it a i) where
 mem := by simp
 obj := fun i h st b hb => by
  obtain ⟨⟨old, he⟩, o, ho, hc, hd⟩ := st
  rcases List.mem_cons.mp hb with rfl | hb
  ·exact ⟨_, he, fun v z => by cases z⟩
  ·rw [List.mem_singleton.mp hb]
   exact ⟨o, ho, fun v z => by rw [hd] at z; cases z⟩
 keep := fun i h h' st k => by
  obtain ⟨⟨old, he⟩, o, ho, r⟩ := st
  exact ⟨⟨old, k e (by simp) _ he⟩, o, k it (by simp) _ ho, r⟩
 item := by
  intro X hP hw hK hc i pins s σ H E I hf st hg
  subst hP hw hK
  obtain ⟨xs, x, hq, hx⟩ := hg
  obtain ⟨its, rv, p, hz⟩ := I.tuple hq
  obtain ⟨u, hu, ru⟩ := rv.get hx
  obtain ⟨⟨old, he⟩, hi⟩ := st
  obtain ⟨o, ho, hcl, hd⟩ := id hi
  have hT : s.heap.IsTuple a its.toArray := p
  have hai : a ≠ it := fun z => by
   obtain ⟨o', e1, e2, _⟩ := p
   rw [z, ho] at e1; cases e1; rw [hcl] at e2; injection e2 with z2; revert z2; decide
  have hae : e ≠ a := fun z => by
   obtain ⟨o', e1, e2, _⟩ := p
   rw [<- z, he] at e1; cases e1; injection e2 with z2; revert z2; decide
  have hlt : i < its.toArray.size := by
   have := (List.getElem?_eq_some_iff.mp hu).1
   simpa using this
  have hh : X.A.in1.handled = none := I.ok.hd hc
  refine wpAny_pyNext_enum_itemD (drawsT hh it a hai its.toArray) he ⟨hi, hT⟩ hlt hne (by simp [hne, hae]) fun x' h1 tk hP1 ho1 hs1 hT1 hz1 hk1 => ?_
  have ex : x' = u := by
   have q : its[i]? = some x' := by simpa using hP1
   rw [hu] at q; exact (Option.some.inj q).symm
  subst ex
  refine ⟨_, rfl, wpAny_letOwnedTupleGo_enum ho1 fun h2 he2 hs2 => ?_⟩
  have hne0 : s.heap.objs.size ≠ e := Nat.ne_of_gt (Heap.lt_size he)
  have keep : ∀ b o, b ∉ [e, it] -> s.heap.get? b = some o -> h2.get? b = some o := fun b o hb e0 => (hs2.2 b fun z => hb (by simp [z])).trans (hk1 b o (fun z => hb (by simp [z])) (fun z => hb (by simp [z])) e0)
  refine ⟨.ref s.heap.objs.size, _, I.turnedT (h' := h2) (t' := tk + 1) (xs := [.int i, x]) hf keep (.cons ⟨tk, rfl⟩ (.cons ru .nil)) ⟨_, (hs2.2 _ hne0).trans hT1, rfl, ⟨_, rfl⟩, rfl, rfl⟩ (by show 2 <= sizeLine; decide), rfl, ⟨_, x, I.hok.fresh (Nat.le_refl _), rfl, rfl, fun ys hy => by rw [I.tuple_inj hy hq]; exact hx⟩, ⟨⟨_, by simpa using he2⟩, ?_⟩, fun b hb => ?_⟩
  ·obtain ⟨⟨o1, e1, r1⟩, _⟩ := hs1
   exact ⟨o1, (hs2.2 it (Ne.symm hne)).trans e1, r1⟩
  ·rcases List.mem_cons.mp hb with rfl | hb'
   ·rw [upd_ne (Nat.ne_of_lt (Heap.lt_size he))]; exact (hf _ hb).1
   ·have e9 := List.mem_singleton.mp hb'
    subst e9
    rw [upd_ne (Nat.ne_of_lt (Heap.lt_size ho))]; exact (hf _ hb).1
 done := by
  intro X hP hw hK hc i pins s σ H E I hf st hg
  subst hP hw hK
  obtain ⟨xs, hq, hx⟩ := hg
  obtain ⟨its, rv, p, hz⟩ := I.tuple hq
  obtain ⟨⟨old, he⟩, hi⟩ := st
  obtain ⟨o, ho, hcl, hd⟩ := id hi
  have hT : s.heap.IsTuple a its.toArray := p
  have hai : a ≠ it := fun z => by
   obtain ⟨o', e1, e2, _⟩ := p
   rw [z, ho] at e1; cases e1; rw [hcl] at e2; injection e2 with z2; revert z2; decide
  have hh : X.A.in1.handled = none := I.ok.hd hc
  have hl : its.toArray.size = i := by rw [List.size_toArray, <- rv.length, hx]
  refine wpAny_pyNext_enum_endD (drawsT hh it a hai its.toArray) he (by rw [hl]; exact ⟨hi, hT⟩) fun h1 hk => ⟨rfl, ?_⟩
  exact I.turnedN (t' := s.toks) hf fun b o hb e0 => hk b o (fun z => hb (by simp [z])) e0
 self := fun _ _ _ _ _ st h => by
  obtain ⟨⟨old, he⟩, _⟩ := st
  exact wpAny_pyIter_enum he h
section
variable {X : Cx}
noncomputable def iEnum (K : PySem.W.Frag) (ta : TA) : TI := fun σ H R => ta σ H fun vs H1 => ∃ a, vs = [.ref a] /\ (∃ xs, SqT K H1 a xs) /\ R (Ite K a) H1
theorem pi_enumT {els : List Expr} {kx} {tp : Pos} {l : Expr} {ta : TA} {p pos : Pos} (hg : Gl X "enumerate") (hm : X.mg "enumerate" = none) (ha : PA X [l] ta) (hs : starEach [l] X.env = [(false, eval l X.env)] := by rfl) :
  PI X (.Tuple els kx tp) (.Call (.Name "enumerate" p) [l] [] pos) (iEnum X.K ta) := by
 intro pins s σ H R I h
 refine Call_ (ld_blt I hg hm boot_enumerate (PyProof.Rows.callWith_type1 (thn (ha pos pins s σ H _ I h) fun us s1 ⟨vs, H1, I1, r1, q1⟩ => ?_) hs rfl))
 obtain ⟨a, rfl, ⟨xs, hq⟩, q⟩ := q1
 obtain ⟨u, rfl, ru⟩ := vals1 r1
 cases (show u = Value.ref a from ru)
 obtain ⟨its, rv, p', hz⟩ := I1.tuple hq
 refine call_enumT (show s1.heap.IsTuple a its.toArray from p') fun h' he hi hsz hk => wpAny_pyIter_enum he ?_
 have I2 : Inv X pins σ H1 { s1 with heap := h' } := I1.kept (t' := s1.toks) hk
 refine ⟨s1.heap.objs.size + 1, [s1.heap.objs.size + 1, s1.heap.objs.size], _, _, H1, rfl, I2, turn_enumT a _ _ (Nat.ne_of_gt (Nat.lt_succ_self _)), ⟨⟨_, he⟩, hi⟩, fun b hb => ?_, q⟩
 rcases List.mem_cons.mp hb with rfl | hb
 ·exact I1.fpOk (Nat.le_succ _) (I1.hok.fresh (Nat.le_succ _))
 ·rw [List.mem_singleton.mp hb]
  exact I1.fpOk (Nat.le_refl _) (I1.hok.fresh (Nat.le_refl _))
end
end L2
namespace L2
open PySem PySem.Spec PyProof.Rows
structure ZipT (h : Heap) (z TI TO i1 i2 a b : Addr) (i : Nat) : Prop where
 z : IsZip h z TI TO .none
 ti : IsPair h TI (.ref i1) (.ref i2)
 to : ∃ x y, IsPair h TO x y
 one : h.IsTupleIter i1 a i
 two : h.IsTupleIter i2 b i
structure ZipNe (z TI TO i1 i2 : Addr) : Prop where
 az : TI ≠ z
 bz : TO ≠ z
 cz : i1 ≠ z
 dz : i2 ≠ z
 ab : TI ≠ TO
 ac : TI ≠ i1
 ad : TI ≠ i2
 bc : TO ≠ i1
 bd : TO ≠ i2
 cd : i1 ≠ i2
section
variable {prog : Program} {w : World} {A : Around} {E : Value -> Shared -> Prop} {s : Shared} {z TI TO i1 i2 a b : Addr} {i : Nat} {xs ys : Array Value}
theorem pairSet {T : Addr} {p q x : Value} {k : Nat} {Q : Unit -> Shared -> Prop} (hT : IsPair s.heap T p q) (h : ∀ h', h'.get? T = some { cls := .type "tuple", data := .seq ((#[p, q] : Array Value).setIfInBounds k x) } -> Heap.SameBut T s.heap h' -> Q () { s with heap := h' }) :
  wpAny (model prog w) A (updateSeq T (·.setIfInBounds k x)) Q E s := wpAny_updateSeq_pair hT h
theorem tupNe {h : Heap} {t j : Addr} {k : Nat} {its : Array Value} {u : Addr} (ht : h.IsTuple t its) (hj : h.IsTupleIter j u k) : t ≠ j := fun e => by
 obtain ⟨o, e1, e2, _⟩ := ht
 obtain ⟨o', f1, f2, _⟩ := hj
 rw [e, f1] at e1; cases e1; rw [f2] at e2; injection e2 with z2; revert z2; decide
theorem zipT_item {x y : Value} {Q : Option Value -> Shared -> Prop} (D : ZipNe z TI TO i1 i2) (S : ZipT s.heap z TI TO i1 i2 a b i) (ha : s.heap.IsTuple a xs) (hb : s.heap.IsTuple b ys) (haz : a ≠ z /\ a ≠ TO) (hbz : b ≠ z /\ b ≠ TO) (hx : xs[i]? = some x) (hy : ys[i]? = some y)
  (q : ∀ h', IsZip h' z TI TO (rawInt s.heap.objs.size) -> IsPair h' TI (.ref i1) (.ref i2) -> IsPair h' TO x y -> h'.IsTupleIter i1 a (i + 1) -> h'.IsTupleIter i2 b (i + 1) -> IsPair h' s.heap.objs.size x y ->
   (∀ c o, c ≠ z -> c ≠ TO -> c ≠ i1 -> c ≠ i2 -> s.heap.get? c = some o -> h'.get? c = some o) -> Q (some (.ref s.heap.objs.size)) { s with heap := h' }) :
  wpAny (model prog w) A (pyNext (.ref z)) Q E s := by
 obtain ⟨hz, hti, ⟨p0, p1, hto⟩, h1, h2⟩ := S
 have ai1 := tupNe ha h1
 have ai2 := tupNe ha h2
 have bi1 := tupNe hb h1
 have bi2 := tupNe hb h2
 have hT : s.TypeIs (.ref z) "zip" := ⟨_, hz, rfl⟩
 unfold pyNext
 refine wpAny_bind (wpAny_attempt (wpAny_callSpecial?_slot (name := Str.ofString "__next__") hT F.slot_zip_next (wpAny_call_entry F.slot_zip_next hT F.entry_zip_next ?_ (F.args_zip_next_1 _))))
 show wpAny _ _ (field (.ref z) 2 >>= _) _ _ _
 refine wpAny_bind (wpAny_field hz rfl (x := .bool false) rfl ?_); show wpAny _ _ (field (.ref z) 3 >>= _) _ _ _
 refine wpAny_bind (wpAny_field hz rfl (x := .ref TI) rfl (wpAny_bind (wpAny_seqItems hti rfl ?_)))
 show wpAny _ _ (Builtin.SmallTypes.ownedTupleIsFree (.ref z) >>= _) _ _ _
 refine wpAny_bind ?_
 unfold Builtin.SmallTypes.ownedTupleIsFree
 refine wpAny_bind (wpAny_field hz rfl (x := .none) rfl (wpAny_pure ?_)); simp only [if_true]
 refine wpAny_bind (wpAny_rule (wpAny_bind (wpAny_field hz rfl (x := .ref TO) rfl (wpAny_bind (wpAny_setField_rec hz (by simp) fun g1 k1 s1 => ?_)))))
 replace k1 : IsZip g1 z TI TO .ellipsis := k1
 refine wpAny_bind ?_
 simp only [List.zipIdx_cons, List.zipIdx_nil, List.forIn_cons, List.forIn_nil]
 refine wpAny_bind (wpAny_bind (wpAny_onRaise ?_)); show wpAny _ _ (Builtin.SmallTypes.nextOf (.ref i1) >>= _) _ _ _
 refine wpAny_bind (nextT_item (h1.extBut s1.extBut D.cz) (ha.extBut s1.extBut haz.1) hx fun g2 j2 s2 => wpAny_pure ?_)
 have t2 : IsPair g2 TO p0 p1 := s2.extBut _ _ D.bc (s1.extBut _ _ D.bz hto)
 refine wpAny_bind (wpAny_seqItems t2 rfl (wpAny_bind (pairSet t2 fun g3 t3 s3 => ?_)))
 replace t3 : IsPair g3 TO x p1 := t3
 refine wpAny_bind (wpAny_letGo (wpAny_pure ?_))
 refine wpAny_bind (wpAny_bind (wpAny_onRaise ?_)); show wpAny _ _ (Builtin.SmallTypes.nextOf (.ref i2) >>= _) _ _ _
 have e3 : ∀ c o, c ≠ z -> c ≠ i1 -> c ≠ TO -> s.heap.get? c = some o -> g3.get? c = some o := fun c o c1 c2 c3 e => s3.extBut _ _ c3 (s2.extBut _ _ c2 (s1.extBut _ _ c1 e))
 have h23 : g3.IsTupleIter i2 b i := let ⟨o, ho, r⟩ := h2; ⟨o, e3 _ _ D.dz D.cd.symm D.bd.symm ho, r⟩
 have hb3 : g3.IsTuple b ys := let ⟨o, ho, r⟩ := hb; ⟨o, e3 _ _ hbz.1 bi1 hbz.2 ho, r⟩
 refine wpAny_bind (nextT_item h23 hb3 hy fun g4 j4 s4 => wpAny_pure ?_)
 have t4 : IsPair g4 TO x p1 := s4.extBut _ _ D.bd t3
 refine wpAny_bind (wpAny_seqItems t4 rfl (wpAny_bind (pairSet t4 fun g5 t5 s5 => ?_)))
 replace t5 : IsPair g5 TO x y := t5
 refine wpAny_bind (wpAny_letGo (wpAny_pure (wpAny_pure ?_)))
 refine wpAny_bind (wpAny_seqItems t5 rfl (wpAny_bind (wpAny_newTuple ?_)))
 have z5 : g5.objs.size = s.heap.objs.size := by rw [s5.1, s4.1, s3.1, s2.1, s1.1]
 have e5 : ∀ c o, c ≠ z -> c ≠ TO -> c ≠ i1 -> c ≠ i2 -> s.heap.get? c = some o -> g5.get? c = some o := fun c o c1 c2 c3 c4 e => s5.extBut _ _ c2 (s4.extBut _ _ c4 (e3 c o c1 c3 c2 e))
 have k5 : IsZip g5 z TI TO .ellipsis := s5.extBut _ _ D.bz.symm (s4.extBut _ _ D.dz.symm (s3.extBut _ _ D.bz.symm (s2.extBut _ _ D.cz.symm k1)))
 have m1 : g5.IsTupleIter i1 a (i + 1) := ((j2.extBut s3.extBut D.bc.symm).extBut s4.extBut D.cd).extBut s5.extBut D.bc.symm
 have m2 : g5.IsTupleIter i2 b (i + 1) := j4.extBut s5.extBut D.bd.symm
 have zlt : z < g5.objs.size := Heap.lt_size k5
 show wpAny _ _ (Builtin.SmallTypes.ownedTupleHandOut (.ref z) (.ref g5.objs.size) >>= _) _ _ _
 refine wpAny_bind ?_
 unfold Builtin.SmallTypes.ownedTupleHandOut
 have k6 : IsZip (g5.push { cls := .type "tuple", data := .seq #[x, y] }) z TI TO .ellipsis := Heap.get?_push_of_some _ k5
 refine wpAny_bind (wpAny_setField_rec k6 (by simp) fun g7 k7 s7 => ?_)
 replace k7 : IsZip g7 z TI TO (rawInt g5.objs.size) := k7
 refine wpAny_setField_rec k7 (by simp) fun g8 k8 s8 => ?_
 replace k8 : IsZip g8 z TI TO (rawInt g5.objs.size) := k8
 have up : ∀ c o, c ≠ z -> g5.get? c = some o -> g8.get? c = some o := fun c o c1 e => s8.extBut _ _ c1 (s7.extBut _ _ c1 (Heap.get?_push_of_some _ e))
 have t8 : IsPair g8 g5.objs.size x y := s8.extBut _ _ (Nat.ne_of_gt zlt) (s7.extBut _ _ (Nat.ne_of_gt zlt) (Heap.get?_push_size _ rfl))
 rw [z5] at k8 t8
 refine wpAny_pure ⟨_, rfl, wpAny_pure ?_⟩
 show Q (some (.ref g5.objs.size)) _
 rw [z5]
 exact q g8 k8 (up _ _ D.az (e5 _ _ D.az D.ab D.ac D.ad hti)) (up _ _ D.bz t5) (let ⟨o, ho, r⟩ := m1; ⟨o, up _ _ D.cz ho, r⟩) (let ⟨o, ho, r⟩ := m2; ⟨o, up _ _ D.dz ho, r⟩) t8 fun c o c1 c2 c3 c4 e => up c o c1 (e5 c o c1 c2 c3 c4 e)
end
end L2
namespace L2
open PySem PySem.Spec PyProof.Rows
section
variable {prog : Program} {w : World} {A : Around} {E : Value -> Shared -> Prop} {s : Shared} {z TI TO i1 i2 a b : Addr} {i : Nat} {xs ys : Array Value}
theorem zipT_end {Q : Option Value -> Shared -> Prop} (hh : A.in1.handled = none) (D : ZipNe z TI TO i1 i2) (S : ZipT s.heap z TI TO i1 i2 a b i) (ha : s.heap.IsTuple a xs) (hb : s.heap.IsTuple b ys) (haz : a ≠ z /\ a ≠ TO) (hbz : b ≠ z /\ b ≠ TO) (hend : xs[i]? = none ∨ ys[i]? = none)
  (q : ∀ h', (∀ c o, c ≠ z -> c ≠ TO -> c ≠ i1 -> c ≠ i2 -> s.heap.get? c = some o -> h'.get? c = some o) -> Q none { s with heap := h' }) :
  wpAny (model prog w) A (pyNext (.ref z)) Q E s := by
 obtain ⟨hz, hti, ⟨p0, p1, hto⟩, h1, h2⟩ := S
 have bi1 := tupNe hb h1
 have hT : s.TypeIs (.ref z) "zip" := ⟨_, hz, rfl⟩
 unfold pyNext
 refine wpAny_bind (wpAny_attempt (wpAny_callSpecial?_slot (name := Str.ofString "__next__") hT F.slot_zip_next (wpAny_call_entry F.slot_zip_next hT F.entry_zip_next ?_ (F.args_zip_next_1 _))))
 show wpAny _ _ (field (.ref z) 2 >>= _) _ _ _
 refine wpAny_bind (wpAny_field hz rfl (x := .bool false) rfl ?_); show wpAny _ _ (field (.ref z) 3 >>= _) _ _ _
 refine wpAny_bind (wpAny_field hz rfl (x := .ref TI) rfl (wpAny_bind (wpAny_seqItems hti rfl ?_)))
 show wpAny _ _ (Builtin.SmallTypes.ownedTupleIsFree (.ref z) >>= _) _ _ _
 refine wpAny_bind ?_
 unfold Builtin.SmallTypes.ownedTupleIsFree
 refine wpAny_bind (wpAny_field hz rfl (x := .none) rfl (wpAny_pure ?_)); simp only [if_true]
 refine wpAny_bind (wpAny_rule (wpAny_bind (wpAny_field hz rfl (x := .ref TO) rfl (wpAny_bind (wpAny_setField_rec hz (by simp) fun g1 k1 s1 => ?_)))))
 replace k1 : IsZip g1 z TI TO .ellipsis := k1
 refine wpAny_bind ?_
 simp only [List.zipIdx_cons, List.zipIdx_nil, List.forIn_cons, List.forIn_nil]
 have fin : ∀ (g : Heap) (e : Addr), IsZip g z TI TO .ellipsis -> (∀ c o, c ≠ z -> c ≠ TO -> c ≠ i1 -> c ≠ i2 -> s.heap.get? c = some o -> g.get? c = some o) -> (∃ o, g.get? e = some o /\ o.cls = .type "StopIteration") ->
   wpAny (model prog w) A.in1 (setField (.ref z) 0 .none) (fun _ s' => wpAny (model prog w) A (do if <- isInstance (.ref e) (.type "StopIteration") then pure none else throw (Value.ref e)) Q E s') (fun e' s' => wpAny (model prog w) A (do if <- isInstance e' (.type "StopIteration") then pure none else throw e') Q E s') { s with heap := g } := by
  rintro g e kz kk ⟨oe, f1, f2⟩
  have ez : e ≠ z := fun y => by subst y; rw [kz] at f1; cases f1; injection f2 with z2; revert z2; decide
  refine wpAny_setField_rec kz (by simp) fun g' _ s' => ?_
  refine wpAny_bind (wpAny_isInstance (T := "StopIteration") (b := true) ⟨oe, s'.extBut _ _ ez f1, f2⟩ isSubtype_stop ?_)
  exact wpAny_pure (q g' fun c o c1 c2 c3 c4 y => s'.extBut _ _ c1 (kk c o c1 c2 c3 c4 y))
 refine wpAny_bind (wpAny_bind (wpAny_onRaise ?_)); show wpAny _ _ (Builtin.SmallTypes.nextOf (.ref i1) >>= _) _ _ _
 cases hx : xs[i]? with
 | none =>
  refine wpAny_bind (nextT_end hh (h1.extBut s1.extBut D.cz) (ha.extBut s1.extBut haz.1) hx fun g2 e s2 he => ?_)
  exact fin g2 e (s2 _ _ D.cz.symm k1) (fun c o c1 _ c3 _ y => s2 _ _ c3 (s1.extBut _ _ c1 y)) he
 | some x =>
  have hy : ys[i]? = none := by rcases hend with h | h; rw [hx] at h; cases h; exact h
  refine wpAny_bind (nextT_item (h1.extBut s1.extBut D.cz) (ha.extBut s1.extBut haz.1) hx fun g2 j2 s2 => wpAny_pure ?_)
  have t2 : IsPair g2 TO p0 p1 := s2.extBut _ _ D.bc (s1.extBut _ _ D.bz hto)
  refine wpAny_bind (wpAny_seqItems t2 rfl (wpAny_bind (pairSet t2 fun g3 t3 s3 => ?_)))
  refine wpAny_bind (wpAny_letGo (wpAny_pure ?_))
  refine wpAny_bind (wpAny_bind (wpAny_onRaise ?_)); show wpAny _ _ (Builtin.SmallTypes.nextOf (.ref i2) >>= _) _ _ _
  have e3 : ∀ c o, c ≠ z -> c ≠ i1 -> c ≠ TO -> s.heap.get? c = some o -> g3.get? c = some o := fun c o c1 c2 c3 e => s3.extBut _ _ c3 (s2.extBut _ _ c2 (s1.extBut _ _ c1 e))
  have h23 : g3.IsTupleIter i2 b i := let ⟨o, ho, r⟩ := h2; ⟨o, e3 _ _ D.dz D.cd.symm D.bd.symm ho, r⟩
  have hb3 : g3.IsTuple b ys := let ⟨o, ho, r⟩ := hb; ⟨o, e3 _ _ hbz.1 bi1 hbz.2 ho, r⟩
  refine wpAny_bind (nextT_end hh h23 hb3 hy fun g4 e s4 he => ?_)
  exact fin g4 e (s4 _ _ D.dz.symm (s3.extBut _ _ D.bz.symm (s2.extBut _ _ D.cz.symm k1))) (fun c o c1 c2 c3 c4 y => s4 _ _ c4 (e3 c o c1 c3 c2 y)) he
noncomputable abbrev zT1 (h : Heap) (l1 : Addr) : Heap := h.push { cls := .type "tuple_iterator", data := .fields #[.ref l1, .int 0 0] }
noncomputable abbrev zT2 (h : Heap) (l1 l2 : Addr) : Heap := (zT1 h l1).push { cls := .type "tuple_iterator", data := .fields #[.ref l2, .int 0 0] }
noncomputable abbrev zT3 (h : Heap) (l1 l2 : Addr) : Heap := (zT2 h l1 l2).push { cls := .type "tuple", data := .seq #[.ref h.objs.size, .ref (zT1 h l1).objs.size] }
noncomputable abbrev zT4 (h : Heap) (l1 l2 : Addr) : Heap := (zT3 h l1 l2).push { cls := .type "tuple", data := .seq #[.none, .none] }
noncomputable abbrev zT5 (h : Heap) (l1 l2 : Addr) : Heap := (zT4 h l1 l2).push { cls := .type "zip", data := .fields #[.none, .bool false, .bool false, .ref (zT2 h l1 l2).objs.size, .ref (zT3 h l1 l2).objs.size] }
theorem zip_newT (l1 l2 : Addr) (xs ys : Array Value) :
  Meets (Builtin.«zip.__new__» ⟨[.type "zip", .ref l1, .ref l2], []⟩) (fun _ R s => s.heap.IsTuple l1 xs /\ s.heap.IsTuple l2 ys /\ R (.ok (.ret (.ref (zT4 s.heap l1 l2).objs.size))) { s with heap := zT5 s.heap l1 l2 }) :=
 .of_wp fun prog w A R s h => by
  obtain ⟨hp, g, d, tk, os⟩ := s; obtain ⟨hl1, hl2, h⟩ := h
  have hsub := sub_zip
  have hL1 : Heap.IsTuple (Shared.heap ⟨hp, g, d, tk, os⟩) l1 xs := hl1
  have hL2 : Heap.IsTuple (Shared.heap ⟨hp.push { cls := .type "tuple_iterator", data := .fields #[.ref l1, .int 0 0] }, g, d, tk, os⟩) l2 ys := Heap.IsTuple.push hl2 _
  wp_walk using wpAny_pyIter_tuple hL1, wpAny_pyIter_tuple hL2
  exact ⟨_, rfl, h⟩
theorem call_zipT {l1 l2 : Addr} {Q : Value -> Shared -> Prop} (hl1 : s.heap.IsTuple l1 xs) (hl2 : s.heap.IsTuple l2 ys)
  (h : ∀ h', ZipT h' (s.heap.objs.size + 4) (s.heap.objs.size + 2) (s.heap.objs.size + 3) s.heap.objs.size (s.heap.objs.size + 1) l1 l2 0 -> (∀ c o, s.heap.get? c = some o -> h'.get? c = some o) -> Q (.ref (s.heap.objs.size + 4)) { s with heap := h' }) :
  wpAny (model prog w) A (call (.type "zip") [.ref l1, .ref l2]) Q E s := by
 refine callType_new F.called_zip (by decide) (F.typeCall_zip_2 _ _) (F.newCall_zip_2 _ _) (fun obj => F.args_object_init_3 obj _ _) F.entry_zip_new (zip_newT l1 l2 xs ys) ⟨hl1, hl2, ?_⟩
 have z1 : (zT1 s.heap l1).objs.size = s.heap.objs.size + 1 := Heap.size_push ..
 have z2 : (zT2 s.heap l1 l2).objs.size = s.heap.objs.size + 2 := by rw [Heap.size_push, z1]
 have z3 : (zT3 s.heap l1 l2).objs.size = s.heap.objs.size + 3 := by rw [Heap.size_push, z2]
 have z4 : (zT4 s.heap l1 l2).objs.size = s.heap.objs.size + 4 := by rw [Heap.size_push, z3]
 have p1 : ∀ {g : Heap} {c o u}, g.get? c = some o -> (g.push u).get? c = some o := fun e => Heap.get?_push_of_some _ e
 have g5 : (zT5 s.heap l1 l2).get? (zT4 s.heap l1 l2).objs.size = some _ := Heap.get?_push_size _ rfl
 have g4 : (zT5 s.heap l1 l2).get? (zT3 s.heap l1 l2).objs.size = some _ := p1 (Heap.get?_push_size _ rfl)
 have g3 : (zT5 s.heap l1 l2).get? (zT2 s.heap l1 l2).objs.size = some _ := p1 (p1 (Heap.get?_push_size _ rfl))
 have g2 : (zT5 s.heap l1 l2).get? (zT1 s.heap l1).objs.size = some _ := p1 (p1 (p1 (Heap.get?_push_size _ rfl)))
 have g1 : (zT5 s.heap l1 l2).get? s.heap.objs.size = some _ := p1 (p1 (p1 (p1 (Heap.get?_push_size _ rfl))))
 show _ /\ _
 rw [z2, z3, z4] at g5
 rw [z1, z2] at g3
 rw [z3] at g4
 rw [z1] at g2
 rw [z4]
 exact ⟨⟨_, g5, rfl⟩, h _ ⟨g5, g3, ⟨_, _, g4⟩, ⟨_, g1, rfl, rfl⟩, ⟨_, g2, rfl, rfl⟩⟩ fun c o x => p1 (p1 (p1 (p1 (p1 x))))⟩
end
noncomputable def Itz (K : PySem.W.Frag) (a b : Addr) : It :=
 ⟨fun i H => ∃ xs ys x y, SqT K H a xs /\ SqT K H b ys /\ xs[i]? = some x /\ ys[i]? = some y, fun i H v H' => ∃ t x y, H t = none /\ v = .ref t /\ H' = upd H t (.tup [x, y]) /\ ∀ xs ys, SqT K H a xs -> SqT K H b ys -> xs[i]? = some x /\ ys[i]? = some y,
  fun i H => ∃ xs ys, SqT K H a xs /\ SqT K H b ys /\ (xs[i]? = none ∨ ys[i]? = none)⟩
theorem zipNe_of {z TI TO i1 i2 : Addr} {h : Heap} {a b : Addr} {i : Nat} (S : ZipT h z TI TO i1 i2 a b i) (h1 : TI ≠ TO) (h2 : i1 ≠ i2) : ZipNe z TI TO i1 i2 := by
 obtain ⟨hz, hti, ⟨p0, p1, hto⟩, ⟨o1, e1, c1, d1⟩, ⟨o2, e2, c2, d2⟩⟩ := S
 refine ⟨fun e => ?_, fun e => ?_, fun e => ?_, fun e => ?_, h1, fun e => ?_, fun e => ?_, fun e => ?_, fun e => ?_, h2⟩
 ·have q := (show h.get? TI = _ from hti); rw [e, show h.get? z = _ from hz] at q; injection q with q; injection q with q1; injection q1 with q2; revert q2; decide
 ·have q := (show h.get? TO = _ from hto); rw [e, show h.get? z = _ from hz] at q; injection q with q; injection q with q1; injection q1 with q2; revert q2; decide
 ·rw [e, hz] at e1; cases e1; injection c1 with q2; revert q2; decide
 ·rw [e, hz] at e2; cases e2; injection c2 with q2; revert q2; decide
 ·rw [<- e, hti] at e1; cases e1; injection c1 with q2; revert q2; decide
 ·rw [<- e, hti] at e2; cases e2; injection c2 with q2; revert q2; decide
 ·rw [<- e, hto] at e1; cases e1; injection c1 with q2; revert q2; decide
 ·rw [<- e, hto] at e2; cases e2; injection c2 with q2; revert q2; decide
theorem SqT.fpNe {X : Cx} {pins : List (Addr × Obj)} {σ : St} {H : Hp} {s : Shared} {t c : Addr} {zs : List V} (I : Inv X pins σ H s) (hq : SqT X.K H t zs) (f : FpOk X pins H c) : t ≠ c := by
 rintro rfl
 rcases hq with (h | ⟨o, h⟩) | h
 ·rw [f.1] at h; cases h
 ·rw [f.1] at h; cases h
 ·obtain ⟨o, _, _, hl, _⟩ := h
  have e := I.ok.mod.kin _ _ hl
  rcases f.2.2.2.1 with z | z
  ·exact I.ok.noex _ _ e z
  ·exact absurd (Nat.lt_of_lt_of_le (Heap.lt_size e) (Nat.le_trans I.ok.bsz z)) (Nat.lt_irrefl _)
theorem turn_zipT {P : Program} {w : World} {K : PySem.W.Frag} {els : List Expr} {kx} {tp : Pos} (a b z TI TO i1 i2 : Addr) (h1 : TI ≠ TO) (h2 : i1 ≠ i2) : Turn P w K (.Tuple els kx tp) (Itz K a b) [z, TI, TO, i1, i2] z (fun i h => ZipT h z TI TO i1 i2 a b i) where
 mem := by simp
 obj := fun i h st c hc => by
  obtain ⟨hz, hti, ⟨p0, p1, hto⟩, ⟨o1, e1, c1, d1⟩, ⟨o2, e2, c2, d2⟩⟩ := st
  simp only [List.mem_cons, List.not_mem_nil, or_false] at hc
  rcases hc with rfl | rfl | rfl | rfl | rfl
  ·exact ⟨_, hz, fun v q => by cases q⟩
  ·exact ⟨_, hti, fun v q => by cases q⟩
  ·exact ⟨_, hto, fun v q => by cases q⟩
  ·exact ⟨_, e1, fun v q => by rw [d1] at q; cases q⟩
  ·exact ⟨_, e2, fun v q => by rw [d2] at q; cases q⟩
 keep := fun i h h' st k => by
  obtain ⟨hz, hti, ⟨p0, p1, hto⟩, ⟨o1, e1, r1⟩, ⟨o2, e2, r2⟩⟩ := st
  exact ⟨k _ (by simp) _ hz, k _ (by simp) _ hti, ⟨p0, p1, k _ (by simp) _ hto⟩, ⟨o1, k _ (by simp) _ e1, r1⟩, ⟨o2, k _ (by simp) _ e2, r2⟩⟩
 item := by
  intro X hP hw hK hc i pins s σ H E I hf st hg
  subst hP hw hK
  obtain ⟨xs, ys, x, y, hqa, hqb, hx, hy⟩ := hg
  obtain ⟨its, rv, p, _⟩ := I.tuple hqa
  obtain ⟨jts, rw', p', _⟩ := I.tuple hqb
  obtain ⟨u, hu, ru⟩ := rv.get hx
  obtain ⟨v, hv, rvv⟩ := rw'.get hy
  have D := zipNe_of st h1 h2
  obtain ⟨hz, hti, ⟨p0, p1, hto⟩, hi1, hi2⟩ := id st
  have apart : ∀ {t : Addr} {zs : List V}, SqT X.K H t zs -> t ≠ z /\ t ≠ TO := fun hq => ⟨SqT.fpNe I hq (hf z (by simp)), SqT.fpNe I hq (hf TO (by simp))⟩
  refine zipT_item D st p p' (apart hqa) (apart hqb) (by simpa using hu) (by simpa using hv) fun g k1 k2 k3 k4 k5 k6 k7 => ?_
  refine ⟨_, rfl, wpAny_letOwnedTupleGo_zip k1 fun g2 l1 s2 => ?_⟩
  have hne0 : s.heap.objs.size ≠ z := Nat.ne_of_gt (Heap.lt_size hz)
  have keep : ∀ c o, c ∉ [z, TI, TO, i1, i2] -> s.heap.get? c = some o -> g2.get? c = some o := fun c o hc e => s2.extBut _ _ (fun q => hc (by simp [q])) (k7 c o (fun q => hc (by simp [q])) (fun q => hc (by simp [q])) (fun q => hc (by simp [q])) (fun q => hc (by simp [q])) e)
  refine ⟨.ref s.heap.objs.size, _, I.turnedT (h' := g2) (t' := s.toks) (xs := [x, y]) hf keep (.cons ru (.cons rvv .nil)) ⟨_, s2.extBut _ _ hne0 k6, rfl, ⟨_, rfl⟩, rfl, rfl⟩ (by show 2 <= sizeLine; decide), rfl,
   ⟨_, x, y, I.hok.fresh (Nat.le_refl _), rfl, rfl, fun as bs ha hb => ⟨by rw [I.tuple_inj ha hqa]; exact hx, by rw [I.tuple_inj hb hqb]; exact hy⟩⟩, ⟨l1, s2.extBut _ _ D.az k2, ⟨_, _, s2.extBut _ _ D.bz k3⟩, k4.extBut s2.extBut D.cz, k5.extBut s2.extBut D.dz⟩, fun c hc => ?_⟩
  have : c < s.heap.objs.size := by
   obtain ⟨o1, e1, _⟩ := hi1
   obtain ⟨o2, e2, _⟩ := hi2
   simp only [List.mem_cons, List.not_mem_nil, or_false] at hc
   rcases hc with rfl | rfl | rfl | rfl | rfl
   ·exact Heap.lt_size hz
   ·exact Heap.lt_size hti
   ·exact Heap.lt_size hto
   ·exact Heap.lt_size e1
   ·exact Heap.lt_size e2
  rw [upd_ne (Nat.ne_of_lt this)]
  exact (hf c hc).1
 done := by
  intro X hP hw hK hc i pins s σ H E I hf st hg
  subst hP hw hK
  obtain ⟨xs, ys, hqa, hqb, hx⟩ := hg
  obtain ⟨its, rv, p, _⟩ := I.tuple hqa
  obtain ⟨jts, rw', p', _⟩ := I.tuple hqb
  have D := zipNe_of st h1 h2
  have apart : ∀ {t : Addr} {zs : List V}, SqT X.K H t zs -> t ≠ z /\ t ≠ TO := fun hq => ⟨SqT.fpNe I hq (hf z (by simp)), SqT.fpNe I hq (hf TO (by simp))⟩
  refine zipT_end (I.ok.hd hc) D st p p' (apart hqa) (apart hqb) (hx.elim (fun q => .inl (by simpa using rv.none_of q)) fun q => .inr (by simpa using rw'.none_of q)) fun g k => ⟨rfl, ?_⟩
  exact I.turnedN (t' := s.toks) hf fun c o hc e => k c o (fun q => hc (by simp [q])) (fun q => hc (by simp [q])) (fun q => hc (by simp [q])) (fun q => hc (by simp [q])) e
 self := fun _ _ _ _ _ st h => wpAny_pyIter_zip st.z h
section
variable {X : Cx}
noncomputable def iZip (K : PySem.W.Frag) (ta : TA) : TI := fun σ H R => ta σ H fun vs H1 => ∃ a b, vs = [.ref a, .ref b] /\ (∃ xs, SqT K H1 a xs) /\ (∃ ys, SqT K H1 b ys) /\ R (Itz K a b) H1
theorem pi_zipT {els : List Expr} {kx} {tp : Pos} {l l' : Expr} {ta : TA} {p pos : Pos} (hg : Gl X "zip") (hm : X.mg "zip" = none) (ha : PA X [l, l'] ta) (hs : starEach [l, l'] X.env = [(false, eval l X.env), (false, eval l' X.env)] := by rfl) (hs2 : starEach [l'] X.env = [(false, eval l' X.env)] := by rfl) :
  PI X (.Tuple els kx tp) (.Call (.Name "zip" p) [l, l'] [] pos) (iZip X.K ta) := by
 intro pins s σ H R I h
 refine Call_ (ld_blt I hg hm boot_zip (PyProof.Rows.callWith_type1 (thn (ha pos pins s σ H _ I h) fun us s1 ⟨vs, H1, I1, r1, q1⟩ => ?_) (by rw [hs, hs2]) (by rw [hs2]; rfl)))
 obtain ⟨a, b, rfl, ⟨xs, hqa⟩, ⟨ys, hqb⟩, q⟩ := q1
 obtain ⟨u, v, rfl, ru, rv⟩ := vals2 r1
 cases (show u = Value.ref a from ru)
 cases (show v = Value.ref b from rv)
 obtain ⟨its, _, p1, _⟩ := I1.tuple hqa
 obtain ⟨jts, _, p2, _⟩ := I1.tuple hqb
 refine call_zipT (show s1.heap.IsTuple a its.toArray from p1) (show s1.heap.IsTuple b jts.toArray from p2) fun h' S hk => wpAny_pyIter_zip S.z ?_
 have I2 : Inv X pins σ H1 { s1 with heap := h' } := I1.kept (t' := s1.toks) hk
 refine ⟨_, _, _, _, H1, rfl, I2, turn_zipT a b _ _ _ _ _ (Nat.ne_of_lt (Nat.lt_succ_self _)) (Nat.ne_of_lt (Nat.lt_succ_self _)), S, fun c hc => ?_, q⟩
 have : s1.heap.objs.size <= c := by
  simp only [List.mem_cons, List.not_mem_nil, or_false] at hc
  rcases hc with rfl | rfl | rfl | rfl | rfl <;> first | exact Nat.le_refl _ | exact Nat.le_add_right _ _ | exact Nat.le_succ _ | exact Nat.le_succ_of_le (Nat.le_add_right _ _)
 exact I1.fpOk this (I1.hok.fresh this)
end
end L2
namespace L2
open PySem PySem.Spec PyProof.Rows
theorem fm_congr {α β : Type} {f g : α -> Option β} : ∀ {l : List α}, (∀ x ∈ l, f x = g x) -> l.filterMap f = l.filterMap g
 | [], _ => rfl
 | a :: l, h => by rw [List.filterMap_cons, List.filterMap_cons, h a List.mem_cons_self, fm_congr fun x hx => h x (List.mem_cons_of_mem _ hx)]
theorem rev_pick (its : List Value) : (List.range its.length).filterMap (fun (k : Nat) => its.toArray[its.length - 1 - k]?) = its.reverse := by
 apply List.ext_getElem?
 intro i
 have e : (List.range its.length).filterMap (fun (k : Nat) => its.toArray[its.length - 1 - k]?) = (List.range its.length).map fun k => its.getD (its.length - 1 - k) .none := by
  rw [<- List.filterMap_eq_map]
  apply fm_congr
  intro k hk
  have hk' := List.mem_range.mp hk
  have h1 : its.length - 1 - k < its.length := by (first | lia | omega)
  simp [h1]
 rw [e, List.getElem?_map]
 by_cases h : i < its.length
 ·rw [List.getElem?_range h, List.getElem?_reverse h]
  have h1 : its.length - 1 - i < its.length := by (first | lia | omega)
  simp [h1]
 ·rw [List.getElem?_eq_none (by simpa using h), List.getElem?_eq_none (by simpa using h)]
  rfl
theorem pick_rev (its : List Value) : slicePick its.toArray none none (some (-1)) = its.reverse.toArray := by
 have hb : sliceBounds none none (some (-1)) its.length = ((its.length : Int) - 1, -1, -1) := by
  unfold sliceBounds; simp
 have hr : ∀ n : Nat, sliceRange ((n : Int) - 1) (-1) (-1) = (List.range n).map fun k => n - 1 - k := by
  intro n
  unfold sliceRange
  have e1 : (if (-1 : Int) > 0 then (if (n : Int) - 1 < -1 then (-1 - ((n : Int) - 1) + -1 - 1) / -1 else 0) else if (n : Int) - 1 > -1 then ((n : Int) - 1 - -1 - -1 - 1) / - -1 else 0).toNat = n := by
   rw [if_neg (by decide)]
   by_cases h : (n : Int) - 1 > -1
   ·rw [if_pos h]
    have : ((n : Int) - 1 - -1 - -1 - 1) / - -1 = n := by
     rw [show (- -1 : Int) = 1 by decide, Int.ediv_one]; (first | lia | omega)
    rw [this]; rfl
   ·rw [if_neg h]; (first | lia | omega)
  dsimp only
  rw [e1]
  apply List.map_congr_left
  intro k hk
  have := List.mem_range.mp hk
  (first | lia | omega)
 unfold slicePick
 rw [List.size_toArray, hb]
 show (List.filterMap _ (sliceRange ((its.length : Int) - 1) (-1) (-1))).toArray = _
 rw [hr, List.filterMap_map]
 congr 1
 exact rev_pick its
section
variable {X : Cx} {e : Expr} {te : TE} {p2 pos : Pos}
noncomputable def RvR (X : Cx) (r : V -> Hp -> VK -> Prop) : Prop :=
 ∀ (pins : List (Addr × Obj)) (s : Shared) (σ : St) (H : Hp) (x : V) (v vs : Value) (sl : Addr) (Q : VK), Inv X pins σ H s -> RelV x v -> s.heap.IsSliceOf sl .none .none vs -> IsPart vs (some (-1)) -> r x H Q ->
  ∃ T id, typeLookup (.type T) "__getitem__" = pure (some (.builtin id)) /\ s.TypeIs v T /\ wpAny (model X.prog X.w) X.A (getItem v (.ref sl)) (EP X pins σ Q) X.xe s
theorem pe_rev {r : V -> Hp -> VK -> Prop} {j : Nat} {p3 p4 : Pos} (hr : RvR X r) (he : PE X e te) : PE X (.Subscript e (.Slice none none (some (.UnaryOp .USub (.Constant (.int 1) j p3) p4)) p2) pos) (tUn r te) := by
 intro pins s σ H Q I h
 have hst : PO X (some (.UnaryOp .USub (.Constant (.int 1) j p3) p4)) (tPart (tUn (rU fun i => .int (-i)) (tC (.int 1)))) := po_some (pe_un un_neg pe_int)
 refine Subscript_ (thn (he pins s σ H _ I h) fun v s1 ⟨x, H1, I1, r1, q1⟩ => ?_)
 refine wpAny_Slice (thn (po_none pins s1 σ H1 (fun o H' => o = none /\ r x H' Q) I1 ⟨rfl, q1⟩) fun vl s2 ⟨l, H2, I2, pl, el, q2⟩ => thn (po_none pins s2 σ H2 (fun o H' => o = none /\ r x H' Q) I2 ⟨rfl, q2⟩) fun vu s3 ⟨u, H3, I3, pu, eu, q3⟩ => ?_)
 subst el eu
 refine thn (hst pins s3 σ H3 (fun o H' => o = some (-1) /\ r x H' Q) I3 ⟨1, rfl, -1, rfl, rfl, q3⟩) fun vs s4 ⟨o, H4, I4, ps, eo, q4⟩ => ?_
 subst eo
 cases pl
 cases pu
 have I5 : Inv X pins σ H4 { s4 with heap := s4.heap.push { cls := .type "slice", data := .fields #[.none, .none, vs] } } := I4.kept (t' := s4.toks) fun b ob q => Heap.get?_push_of_some _ q
 obtain ⟨T, id, hT, ht, hg⟩ := hr pins { s4 with heap := s4.heap.push { cls := .type "slice", data := .fields #[.none, .none, vs] } } σ H4 x v vs s4.heap.objs.size Q I5 r1 (Heap.IsSliceOf.new ..) ps q4
 show wpAny (model X.prog X.w) X.A (subscriptTail e (.Slice none none (some (.UnaryOp .USub (.Constant (.int 1) j p3) p4)) p2) v (.ref s4.heap.objs.size)) (EP X pins σ Q) X.xe { s4 with heap := s4.heap.push { cls := .type "slice", data := .fields #[.none, .none, vs] } }
 exact tail_any (ops := [v, .ref s4.heap.objs.size]) ht hT hg (by with_unfolding_all rfl)
noncomputable def rRvL (K : PySem.W.Frag) : V -> Hp -> VK -> Prop := fun x H Q => ∃ a xs, x = .ref a /\ SqL K H a xs /\ ∀ p, H p = none -> Q (.ref p) (upd H p (.lst xs.reverse))
theorem rv_list : RvR X (rRvL X.K) := by
 intro pins s σ H x v vs sl Q I rx hs ps h
 obtain ⟨a, xs, rfl, hx, q⟩ := h
 cases rx
 obtain ⟨its, r, ht, hz⟩ := I.list hx
 have hlen := r.length
 refine ⟨"list", _, slot_list_getitem.lookup, ht.isList.typeIs, ?_⟩
 refine wpAny_getItem_list_slice ht.isList hs .none .none ps (by simp) ?_ (by rw [List.size_toArray] <;> (first | lia | omega))
 rw [pick_rev]
 refine ⟨.ref s.heap.objs.size, _, I.laid (t' := s.toks) (o := .lst xs.reverse) (fun b ob q => Heap.get?_push_of_some _ q) (Nat.le_refl _) ?_, rfl, q _ (I.hok.fresh (Nat.le_refl _))⟩
 exact ⟨by rw [List.length_reverse]; exact hz, _, 0, r.reverse, Heap.get?_push_size _ rfl⟩
theorem getItem_tuple_rev {prog : Program} {w : World} {A : Around} {E : Value -> Shared -> Prop} {s : Shared} {t sl : Addr} {its : List Value} {vs : Value} {Q : Value -> Shared -> Prop} (ht : IsTup s.heap t its.toArray) (hs : s.heap.IsSliceOf sl .none .none vs) (ps : IsPart vs (some (-1)))
  (h : Q (.ref s.heap.objs.size) { s with heap := s.heap.push { cls := .type "tuple", data := .seq its.reverse.toArray } }) (hsz : its.length <= sizeLine) : wpAny (model prog w) A (getItem (.ref t) (.ref sl)) Q E s := by
 have htake : sizeOk (.seq its.reverse.toArray) := by
  show its.reverse.toArray.size <= sizeLine
  rw [List.size_toArray, List.length_reverse]; exact hsz
 obtain ⟨os, hos, hcs, hds⟩ := id hs
 have hTs : s.TypeIs (.ref sl) "slice" := ⟨os, hos, hcs⟩
 unfold getItem
 try with_reducible refine wpAny_holding ?_
 first | refine wpAny_bind (wpAny_pure ?_) | skip
 refine wpAny_bind (wpAny_sequenceKey ht.typeIs (by decide) ?_)
 refine wpAny_bind (wpAny_callSpecial?_slot (name := Str.ofString "__getitem__") ht.typeIs PyProof.Rows.slot_tuple_getitem
  (wpAny_call_entry PyProof.Rows.slot_tuple_getitem ht.typeIs entry_tuple_getitem ?_ (args_tuple_getitem _ _)))
 show wpAny _ _ (Builtin.Tuple.tupleItemsOf (.ref t) >>= _) _ _ s
 refine wpAny_bind (tupleItemsOf_ ht ?_)
 refine wpAny_bind (wpAny_typeOf hTs ?_)
 rw [if_pos (by decide)]
 have hap : ∀ {Q' : Int × Int × Nat -> Shared -> Prop}, Q' ((its.length : Int) - 1, -1, its.length) s -> wpAny (model prog w) A.in1 (Builtin.Slice.sliceApplied (.ref sl) (pure ((its.toArray.size : Nat) : Int))) Q' E s := fun {Q'} q => by
  unfold Builtin.Slice.sliceApplied Builtin.Slice.sliceFields
  refine wpAny_bind (wpAny_bind (wpAny_field hos hds (x := .none) rfl (wpAny_bind (wpAny_field hos hds (x := .none) rfl (wpAny_bind (wpAny_field hos hds (x := vs) rfl (wpAny_pure ?_)))))))
  refine wpAny_bind (HT.slicePart_ ps ?_)
  show wpAny _ _ (if ((-1 : Int) == 0) = true then _ else _) _ _ s
  rw [if_neg (by decide)]
  refine wpAny_bind (slicePart_none (wpAny_bind (slicePart_none (wpAny_bind (wpAny_pure ?_)))))
  have e1 : Builtin.Slice.sliceAdjust none none (-1) ((its.toArray.size : Nat) : Int) = ((its.length : Int) - 1, -1) := by
   unfold Builtin.Slice.sliceAdjust; simp
  have e2 : Builtin.Slice.slicePlaces ((its.length : Int) - 1) (-1) (-1) = its.length := by
   unfold Builtin.Slice.slicePlaces
   rw [if_neg (by decide)]
   by_cases h : (its.length : Int) - 1 > -1
   ·rw [if_pos h, show (- -1 : Int) = 1 by decide, Int.ediv_one]; (first | lia | omega)
   ·rw [if_neg h]; (first | lia | omega)
  show wpAny _ _ (match Builtin.Slice.sliceAdjust none none (-1) ((its.toArray.size : Nat) : Int) with | (lo, hi) => pure (lo, (-1 : Int), Builtin.Slice.slicePlaces lo hi (-1))) _ _ s
  rw [e1]
  show wpAny _ _ (pure ((its.length : Int) - 1, (-1 : Int), Builtin.Slice.slicePlaces ((its.length : Int) - 1) (-1) (-1))) _ _ s
  rw [e2]
  exact wpAny_pure q
 refine wpAny_bind (hap ?_)
 show wpAny _ _ (if ((its.length : Int) - 1 == 0 && (-1 : Int) == 1 && its.length == its.toArray.size) = true then _ else _) _ _ s
 rw [if_neg (by simp)]
 have e3 : (List.filterMap (fun (k : Nat) => its.toArray[((its.length : Int) - 1 + (k : Int) * -1).toNat]?) (List.range its.length)) = its.reverse := by
  rw [<- rev_pick its]
  apply fm_congr
  intro k hk
  have := List.mem_range.mp hk
  have e : ((its.length : Int) - 1 + (k : Int) * -1).toNat = its.length - 1 - k := by (first | lia | omega)
  rw [e]
 rw [e3]
 first
  | exact wpAny_bind (m := Builtin.Tuple.tupleExact _) (wpAny_newObj_type (wpAny_pure ⟨_, rfl, wpAny_pure h⟩) htake)
  | exact wpAny_bind (m := Builtin.Tuple.tupleExact _) (wpAny_newObj_type (wpAny_bind (wpAny_pure (wpAny_pure ⟨_, rfl, wpAny_pure h⟩))) htake)
  | exact wpAny_bind (wpAny_bind (m := Builtin.Tuple.tupleExact _) (wpAny_newObj_type (wpAny_pure (wpAny_pure ⟨_, rfl, wpAny_pure h⟩)) htake))
  | exact wpAny_bind (wpAny_bind (m := Builtin.Tuple.tupleExact _) (wpAny_newObj_type (wpAny_pure ⟨_, rfl, wpAny_pure h⟩) htake))
noncomputable def rRvT (K : PySem.W.Frag) : V -> Hp -> VK -> Prop := fun x H Q => ∃ a xs, x = .ref a /\ SqT K H a xs /\ ∀ p, H p = none -> Q (.ref p) (upd H p (.tup xs.reverse))
theorem rv_tup : RvR X (rRvT X.K) := by
 intro pins s σ H x v vs sl Q I rx hs ps h
 obtain ⟨a, xs, rfl, hx, q⟩ := h
 cases rx
 obtain ⟨its, r, ht, hz⟩ := I.tuple hx
 have hlen := r.length
 refine ⟨"tuple", _, PyProof.Rows.slot_tuple_getitem.lookup, ht.typeIs, ?_⟩
 refine getItem_tuple_rev ht hs ps ?_ (by (first | lia | omega))
 refine ⟨.ref s.heap.objs.size, _, I.laid (t' := s.toks) (o := .tup xs.reverse) (fun b ob q => Heap.get?_push_of_some _ q) (Nat.le_refl _) ?_, rfl, q _ (I.hok.fresh (Nat.le_refl _))⟩
 exact ⟨by rw [List.length_reverse]; exact hz, _, r.reverse, PTup.new⟩
end
end L2
namespace L2
open PySem PySem.Spec PyProof.Rows
section
variable {X : Cx}
noncomputable def rRange1 : List V -> Hp -> VK -> Prop := fun xs H Q => ∃ j : Int, xs = [.int j] /\ ∀ p, H p = none -> Q (.ref p) (upd H p (.rng 0 j))
theorem call_range1 : CallR X (.type "range") rRange1 := by
 intro pins s σ H xs us Q I rs h
 obtain ⟨j, rfl, q⟩ := h
 obtain ⟨u, rfl, t, rfl⟩ := vals1 rs
 refine call_range_1 ⟨.ref s.heap.objs.size, _, I.laid (o := .rng 0 j) (fun b ob q => Heap.get?_push_of_some _ q) (Nat.le_refl _) ?_, rfl, q _ (I.hok.fresh (Nat.le_refl _))⟩
 exact ⟨_, _, _, Heap.get?_push_size _ rfl⟩
noncomputable def rListRng : List V -> Hp -> VK -> Prop := fun xs H Q => ∃ (a : Addr) (j : Int), xs = [.ref a] /\ H a = some (.rng 0 j) /\ 0 <= j /\ j <= 1000 /\ ∀ p, H p = none -> Q (.ref p) (upd H p (.lst (rangeV 0 j.toNat)))
theorem call_list_rng (hc : X.calm = true) : CallR X (.type "list") rListRng := by
 intro pins s σ H xs us Q I rs h
 obtain ⟨a, j, rfl, ha, h0, h1, q⟩ := h
 obtain ⟨u, rfl, ru⟩ := vals1 rs
 cases (show u = Value.ref a from ru)
 obtain ⟨t, u, v, ho⟩ := (show ObjOk X.prog X.w H s.heap a (.rng 0 j) from I.hok a _ ha)
 have hh : X.A.handled = none := I.ok.hd hc
 have hsz : Builtin.Range.rangeSize 0 j 1 = ((j.toNat : Nat) : Int) := by rw [rangeSize_one]; split <;> (first | lia | omega)
 refine call_list_range hh ho (small_one (by (first | lia | omega)) (by (first | lia | omega)) (by (first | lia | omega)) (by (first | lia | omega))) hsz (by (first | lia | omega)) fun h' tk acc c hk hS hi => ?_
 obtain ⟨i1, i2⟩ := hi
 refine ⟨.ref s.heap.objs.size, _, I.laid (t' := tk) (o := .lst (rangeV 0 j.toNat)) hk (Nat.le_refl _) ?_, rfl, q _ (I.hok.fresh (Nat.le_refl _))⟩
 refine ⟨by rw [rangeV_len]; exact Nat.le_trans (by (first | lia | omega) : j.toNat <= 1000) (by decide), acc.toList, c, ?_, by simpa using hS⟩
 have key : ∀ (n : Nat) (l : List Value) (k : Int), l.length = n -> (∀ (i : Nat) v, l[i]? = some v -> ∃ t, v = Value.int (k + (i : Int)) t) -> Vals ((List.range n).map fun (i : Nat) => V.int (k + (i : Int))) l := by
  intro n
  induction n with
  | zero => intro l k hl _; cases l with
   | nil => exact .nil
   | cons _ _ => cases hl
  | succ n ih =>
   intro l k hl hv
   cases l with
   | nil => cases hl
   | cons x r =>
    rw [List.range_succ_eq_map, List.map_cons, List.map_map]
    refine .cons ?_ ?_
    ·obtain ⟨t, e⟩ := hv 0 x rfl
     exact ⟨t, e⟩
    ·have := ih r (k + 1) (by simpa using hl) (fun i v e => by
      obtain ⟨t, e'⟩ := hv (i + 1) v (by simpa using e)
      exact ⟨t, by rw [e']; congr 1; push_cast; (first | lia | omega)⟩)
     have e : ((fun (i : Nat) => V.int (k + (i : Int))) ∘ Nat.succ) = fun (i : Nat) => V.int (k + 1 + (i : Int)) := by
      funext i
      show V.int (k + ((i + 1 : Nat) : Int)) = _
      congr 1; push_cast; (first | lia | omega)
     rw [e]
     exact this
 refine key _ _ 0 (by simpa using i1) fun i v e => ?_
 obtain ⟨t, e'⟩ := i2 i v (by simpa using e)
 exact ⟨t, by rw [e']; congr 1; (first | lia | omega)⟩
end
end L2
namespace L2
open PySem PySem.Spec PyProof.Rows
theorem range_all_getD (f : Nat -> Bool) : ∀ (bs : List Bool), (∀ i, i < bs.length -> f i = bs.getD i false) -> (List.range bs.length).all f = bs.all id := by
 intro bs h
 rw [Bool.eq_iff_iff, List.all_eq_true, List.all_eq_true]
 constructor
 ·intro q b hb
  obtain ⟨i, hi, e⟩ := List.getElem_of_mem hb
  have := q i (List.mem_range.mpr hi)
  rw [h i hi, List.getD_eq_getElem?_getD, List.getElem?_eq_getElem hi, e] at this
  exact this
 ·intro q i hi
  have hi' := List.mem_range.mp hi
  rw [h i hi', List.getD_eq_getElem?_getD, List.getElem?_eq_getElem hi']
  exact q _ (List.getElem_mem hi')
section
variable {X : Cx}
noncomputable def rIsi (K : PySem.W.Frag) : List V -> Hp -> VK -> Prop := fun xs H Q => ∃ x T t b, xs = [x, .ty T] /\ TyOf K H x t /\ PySem.W.kitOne K t (.type T) = some b /\ Q (.bl b) H
theorem call_isi : CallR X (.builtin "isinstance") (rIsi X.K) := by
 intro pins s σ H xs us Q I rs h
 obtain ⟨x, T, t, b, rfl, ty, e, q⟩ := h
 obtain ⟨u, c, rfl, ru, rc⟩ := vals2 rs
 cases (show c = Value.type T from rc)
 exact isinst_ok I ru ty e fun tk => ⟨.bl b, H, I.tok tk, rfl, q⟩
noncomputable def rAll : List V -> Hp -> VK -> Prop := fun xs H Q => ∃ (a : Addr) (bs : List Bool), xs = [.ref a] /\ H a = some (.lst (bs.map V.bl)) /\ Q (.bl (bs.all id)) H
theorem call_all (hc : X.calm = true) : CallR X (.builtin "all") rAll := by
 intro pins s σ H xs us Q I rs h
 obtain ⟨a, bs, rfl, ha, q⟩ := h
 obtain ⟨u, rfl, ru⟩ := vals1 rs
 cases (show u = Value.ref a from ru)
 obtain ⟨hz, its, n, rv, ho⟩ := (show ObjOk X.prog X.w H s.heap a (.lst (bs.map V.bl)) from I.hok a _ ha)
 have hl : s.heap.IsList a its.toArray := ⟨_, ho, rfl, n, rfl⟩
 have hh : X.A.in1.handled = none := I.ok.hd hc
 have hlen : its.length = bs.length := by rw [<- rv.length, List.length_map]
 have hne : a ≠ s.heap.objs.size := Nat.ne_of_lt (Heap.lt_size ho)
 have hit : ∀ (i : Nat) v, its.toArray[i]? = some v -> v = Value.bool (bs.getD i false) := fun i v e => by
  have e' : its[i]? = some v := by simpa using e
  have hi : i < bs.length := by rw [<- hlen]; exact (List.getElem?_eq_some_iff.mp e').1
  obtain ⟨u, hu, ru⟩ := rv.get (i := i) (x := V.bl bs[i]) (by rw [List.getElem?_map, List.getElem?_eq_getElem hi]; rfl)
  rw [e'] at hu; cases hu
  cases (show v = Value.bool bs[i] from ru)
  rw [List.getD_eq_getElem?_getD, List.getElem?_eq_getElem hi]
  rfl
 refine call_all_walk (wpAny_pyIter_list hl ⟨s.heap.objs.size, _, _, _, _, _, fun i => bs.getD i false, rfl, Walks.list hh _ a hne its.toArray, ⟨⟨_, Heap.get?_push_size _ rfl, rfl, rfl⟩, hl.push _⟩, ?_, fun h' tk hk => ?_⟩)
 ·intro i v s' Q' E' hP hQ
  rw [hit i v hP]
  exact wpAny_truthy_bool hQ
 ·refine ⟨.bl (bs.all id), H, I.kept (t' := tk) fun b o e => hk b o ?_ (Heap.get?_push_of_some _ e), ?_, q⟩
  ·exact fun hm => absurd (List.mem_singleton.mp hm) (Nat.ne_of_lt (Heap.lt_size e))
  ·show Value.bool _ = Value.bool _
   have hs : its.toArray.size = bs.length := by simpa using hlen
   rw [hs, range_all_getD _ bs fun i _ => rfl]
noncomputable def rInsert : V -> List V -> Hp -> VK -> Prop := fun x vs H Q => ∃ l xs i y, x = .ref l /\ vs = [.int i, y] /\ H l = some (.lst xs) /\ 0 <= i /\ i <= xs.length /\ xs.length < sizeLine /\ Q .non (upd H l (.lst (xs.take i.toNat ++ y :: xs.drop i.toNat)))
theorem mt_insert : MtM X "list.insert" rInsert := by
 intro pins s σ H x vs v us Q I rx rv h
 obtain ⟨l, xs, i, y, rfl, rfl, hH, h0, h1, hz, q⟩ := h
 cases rx
 obtain ⟨ui, uy, rfl, ri, ry⟩ := rv.two
 obtain ⟨ti, rfl⟩ := ri
 obtain ⟨z, its, n, r, hl, e⟩ := I.lstM hH
 have hfit : ¬ (!Builtin.List.listFitsIndex i) = true := by
  have hb : (i : Int) < 2 ^ 63 := Int.lt_of_le_of_lt h1 (by have := line63; (first | lia | omega))
  simp [Builtin.List.listFitsIndex]
  (first | lia | omega)
 refine call_meets F.slot_list_insert ⟨_, e, rfl⟩ F.entry_list_insert (F.args_list_insert_3 _ _ _) (AutoSeq1.list_insert_list_int_val_1 l its.toArray n i ti uy hfit (by rw [List.size_toArray]; (first | lia | omega))) ⟨e, ?_⟩
 refine ⟨.non, _, I.lset (its' := its.take i.toNat ++ uy :: its.drop i.toNat) hH e ?_ ((r.take _).append (.cons ry (r.drop _))) ?_, rfl, q⟩
 ·have hle : i.toNat <= its.length := by (first | lia | omega)
  simp only [List.size_toArray]
  rw [if_neg (by (first | lia | omega)), Nat.min_eq_left hle]
  apply Array.ext'
  simp
  rw [List.take_of_length_le (by simp)]
 ·rw [List.length_append, List.length_cons, List.length_take, List.length_drop]
  (first | lia | omega)
end
end L2
namespace L2
open PySem PySem.Spec PyProof.Rows
mutual
inductive Is (H : Hp) : V -> PyData -> Prop
 | non : Is H .non .none
 | bl (b : Bool) : Is H (.bl b) (.bool b)
 | int (i : Int) : Is H (.int i) (.int i)
 | str (x : Str) : Is H (.str x) (.str x)
 | tup {a : Addr} {vs : List V} {ds : List PyData} : H a = some (.tup vs) -> IsAll H vs ds -> Is H (.ref a) (.tuple ds)
 | lst {a : Addr} {vs : List V} {ds : List PyData} : H a = some (.lst vs) -> IsAll H vs ds -> Is H (.ref a) (.list ds)
inductive IsAll (H : Hp) : List V -> List PyData -> Prop
 | nil : IsAll H [] []
 | cons {v : V} {vs : List V} {d : PyData} {ds : List PyData} : Is H v d -> IsAll H vs ds -> IsAll H (v :: vs) (d :: ds)
end
theorem IsAll.ints {H : Hp} : ∀ ns : List Int, IsAll H (ns.map V.int) (ns.map PyData.int)
 | [] => .nil
 | n :: r => .cons (.int n) (IsAll.ints r)
theorem Is.ints {H : Hp} {a : Addr} {ns : List Int} (h : H a = some (.tup (ns.map V.int))) : Is H (.ref a) (.tuple (ns.map PyData.int)) := .tup h (IsAll.ints ns)
section
variable {X : Cx} {pins : List (Addr × Obj)} {σ : St} {H : Hp} {s : Shared}
mutual
theorem Inv.reads (I : Inv X pins σ H s) : ∀ {v : V} {d : PyData} {u : Value}, Is H v d -> RelV v u -> ∃ as, Reads s.heap u d as
 | _, _, _, .non, r => by cases (show _ = Value.none from r); exact ⟨_, .none⟩
 | _, _, _, .bl b, r => by cases (show _ = Value.bool b from r); exact ⟨_, .bool b⟩
 | _, _, _, .int i, r => by obtain ⟨t, rfl⟩ := r; exact ⟨_, .int i t⟩
 | _, _, _, .str x, r => by obtain ⟨t, rfl⟩ := r; exact ⟨_, .str x t⟩
 | _, _, _, .tup (a := a) (vs := vs) h al, r => by
  cases (show _ = Value.ref a from r)
  obtain ⟨_, its, rv, o, ho, hc, ⟨n, hd⟩, _⟩ := (show ObjOk X.prog X.w H s.heap a (.tup vs) from I.hok a _ h)
  obtain ⟨as, q⟩ := Inv.readsAll I al rv
  exact ⟨as, .tuple ho hc hd (by simpa using q)⟩
 | _, _, _, .lst (a := a) (vs := vs) h al, r => by
  cases (show _ = Value.ref a from r)
  obtain ⟨_, its, n, rv, ho⟩ := (show ObjOk X.prog X.w H s.heap a (.lst vs) from I.hok a _ h)
  obtain ⟨as, q⟩ := Inv.readsAll I al rv
  exact ⟨_, .list ho rfl rfl (by simpa using q)⟩
theorem Inv.readsAll (I : Inv X pins σ H s) : ∀ {vs : List V} {ds : List PyData} {us : List Value}, IsAll H vs ds -> Vals vs us -> ∃ as, ReadsAll s.heap us ds as
 | _, _, _, .nil, .nil => ⟨_, .nil⟩
 | _, _, _, .cons h al, .cons r rs => by
  obtain ⟨as, q⟩ := Inv.reads I h r
  obtain ⟨bs, q'⟩ := Inv.readsAll I al rs
  exact ⟨_, .cons q q'⟩
end
noncomputable def rEqD : R2 := fun x y H Q => ∃ d e, Is H x d /\ Is H y e /\ SeqAt.shaped d = true /\ SeqAt.shaped e = true /\ Q (.bl (PyData.eqv d e)) H
noncomputable def rNeD : R2 := fun x y H Q => ∃ d e, Is H x d /\ Is H y e /\ SeqAt.shaped d = true /\ SeqAt.shaped e = true /\ Q (.bl (!PyData.eqv d e)) H
theorem op_eqD (hu : X.A.units + 64 < cLine) : OpR X (compareOp .Eq) rEqD := by
 intro pins s σ H x y v u Q I rx ry h
 obtain ⟨d, e, hd, he, sd, se, q⟩ := h
 obtain ⟨as, ra⟩ := I.reads hd rx
 obtain ⟨bs, rb⟩ := I.reads he ry
 exact eq_dataH ra rb sd se hu ⟨.bl _, H, I, rfl, q⟩
theorem op_neD (hu : X.A.units + 64 < cLine) : OpR X (compareOp .NotEq) rNeD := by
 intro pins s σ H x y v u Q I rx ry h
 obtain ⟨d, e, hd, he, sd, se, q⟩ := h
 obtain ⟨as, ra⟩ := I.reads hd rx
 obtain ⟨bs, rb⟩ := I.reads he ry
 exact ne_dataH ra rb sd se hu ⟨.bl _, H, I, rfl, q⟩
end
theorem lay_ints : ∀ ns : List Int, PyData.canLayAll0 (ns.map PyData.int) = true
 | [] => rfl
 | _ :: r => by simp [PyData.canLayAll0, PyData.canLay0, lay_ints r]
theorem deep_ints : ∀ ns : List Int, PyData.depthAll (ns.map PyData.int) = 0
 | [] => rfl
 | _ :: r => by simp [PyData.depthAll, PyData.depth, deep_ints r]
theorem shaped_tints (ns : List Int) : SeqAt.shaped (.tuple (ns.map PyData.int)) = true := by
 simp [SeqAt.shaped, PyData.canLay0, PyData.depth, lay_ints, deep_ints]
theorem shaped_lints (ns : List Int) : SeqAt.shaped (.list (ns.map PyData.int)) = true := by
 simp [SeqAt.shaped, PyData.canLay0, PyData.depth, lay_ints, deep_ints]
theorem eqv_ints : ∀ ns ms : List Int, PyData.eqvAll (ns.map PyData.int) (ms.map PyData.int) = decide (ns = ms)
 | [], [] => by simp [PyData.eqvAll]
 | [], _ :: _ => by simp [PyData.eqvAll]
 | _ :: _, [] => by simp [PyData.eqvAll]
 | a :: r, b :: t => by
  simp only [List.map_cons, PyData.eqvAll, PyData.eqv, eqv_ints r t]
  by_cases h : a = b <;> by_cases h' : r = t <;> simp [h, h']
end L2
namespace L2
open PySem PySem.Spec PyProof.Rows
noncomputable def cscopeB (sc : Scope) (N : List Str) (scope : Scope) (N' : List Str) (n : Nat) (ix : List Nat) : Bool :=
 scope.kind == .function && scope.names.all (fun y => y.2 != .cell) && scope.names.all (fun y => y.2 != .local || scope.names.lookup y.1 == some .local) &&
 scope.names.all (fun y => y.2 != .free || (sc.names.lookup y.1 == some .cell || sc.names.lookup y.1 == some .free)) && scope.names.all (fun y => y.2 != .free || scope.names.lookup y.1 != some .local) &&
 N'.length == n + ix.length && (List.range ix.length).all fun j => match ix[j]?, N'[n + j]? with
  | some i, some x => N[i]? == some x && scope.names.contains (x, .free)
  | _, _ => false
theorem CompScope.of {X : Cx} {sc : Scope} {N : List Str} {scope : Scope} {N' : List Str} {n : Nat} {ix : List Nat} (h : cscopeB sc N scope N' n ix = true) (hs : X.env.scope = sc) (hN : X.N = N) : CompScope X scope N' n ix := by
 unfold cscopeB at h
 simp only [Bool.and_eq_true, List.all_eq_true] at h
 obtain ⟨⟨⟨⟨⟨⟨h1, h2⟩, h3⟩, h4⟩, h5⟩, h6⟩, h7⟩ := h
 subst hs hN
 refine ⟨eq_of_beq h1, fun y hy => by simpa using h2 y hy, fun y hy hl => ?_, fun y hy hf => ?_, fun y hy hl => ?_, eq_of_beq h6, fun j i e => ?_⟩
 ·have := h3 y hy
  rw [hl] at this
  simpa using this
 ·have := h4 y hy
  rw [hf] at this
  simpa using this
 ·have := h5 _ hy
  rw [hl] at this
  simp at this
 ·have hj : j < ix.length := (List.getElem?_eq_some_iff.mp e).1
  have := h7 j (List.mem_range.mpr hj)
  rw [e] at this
  cases hx : N'[n + j]? with
  | none => rw [hx] at this; simp at this
  | some x =>
   rw [hx] at this
   simp only [Bool.and_eq_true] at this
   exact ⟨x, rfl, eq_of_beq this.1, by simpa using this.2⟩
structure Cal (P : Program) (w : World) (K : PySem.W.Frag) (mg : Str -> Option Value) (base : Heap) (k : Nat) (x : Str) (ps : List Str) (sp : Sp) : Prop where
 ex : ∃ f fd, FnOk P w K mg base CX0 k f fd ps sp /\ mg x = some (.ref f) /\ PySem.W.keepIn K (.ref f) = true /\ Binds K fd ps []
section
variable {X : Cx} {k : Nat} {ps : List Str} {sp : Sp} {x : Str} {p pos : Pos} {e : Expr} {es : List Expr} {t : TA}
theorem pe_cal (C : Cal X.prog X.w X.K X.mg X.base k x ps sp) (hr : Room k X.A) (hg : Gl X x) (ha : PA X (e :: es) t) (hdb : (x == ("__debug__" : Str)) = false := by decide) (he : starEach (e :: es) X.env = (false, eval e X.env) :: starEach es X.env := by rfl)
  (hpl : (backTo pos (starEach es X.env)).any (·.1) = false := by rfl) : PE X (.Call (.Name x p) (e :: es) [] pos) (fun σ H Q => t σ H fun vs H1 => sp vs H1 Q E0) := by
 obtain ⟨f, fd, F, hm, hk, hb⟩ := C.ex
 exact (pe_call F hr hg hm hk hb .nil pass0 ha hdb he hpl).mono fun σ H Q q => by
  have e : (fun (vs : List V) (H1 : Hp) => sp (vs ++ []) H1 Q E0) = fun vs H1 => sp vs H1 Q E0 := by funext vs H1; rw [List.append_nil]
  show t σ H fun vs H1 => sp (vs ++ []) H1 Q E0
  rw [e]
  exact q
end
structure Top (mg : Str -> Option Value) : Prop where
 n_len : mg "len" = none
 n_tuple : mg "tuple" = none
 n_list : mg "list" = none
 n_range : mg "range" = none
 n_int : mg "int" = none
 n_bool : mg "bool" = none
 n_isinstance : mg "isinstance" = none
 n_all : mg "all" = none
 n_zip : mg "zip" = none
 n_enumerate : mg "enumerate" = none
 n_min : mg "min" = none
 n_sum : mg "sum" = none
 n_max : mg "max" = none
 n_abs : mg "abs" = none
 n_sorted : mg "sorted" = none
end L2
namespace L2
open PySem PySem.Spec PyProof.Rows
section
variable {X : Cx}
end
theorem small1 {n : Nat} (h : n <= 1000) : n < sizeLine := Nat.lt_of_le_of_lt h (by decide)
theorem mapI_len (ns : List Int) : (ns.map V.int).length = ns.length := List.length_map ..
theorem map_of_ints {f : V -> V} {g : Int -> Int} (h : ∀ n, f (.int n) = .int (g n)) (ns : List Int) : (ns.map V.int).map f = (ns.map g).map V.int := by
 rw [List.map_map, List.map_map]
 apply List.map_congr_left
 intro n _
 exact h n
theorem filter_true {α : Type} (l : List α) : l.filter (fun _ => true) = l := by simp
end L2
namespace L2
open PySem PySem.Spec PyProof.Rows
noncomputable def Hand (H : Hp) (p q : Addr) : Prop := ∃ (ns : List Int) (seed : Int), H p = some (.lst [.ref q, .int seed]) /\ H q = some (.lst (ns.map V.int)) /\ (∀ n ∈ ns, 0 <= n) /\ ns.length <= 63
noncomputable def Keep (p q : Addr) (H H' : Hp) : Prop := ∀ b o, H b = some o -> b ≠ p -> b ≠ q -> H' b = some o
theorem Keep.refl (p q : Addr) (H : Hp) : Keep p q H H := fun _ _ h _ _ => h
theorem Keep.trans {p q : Addr} {H H1 H2 : Hp} (a : Keep p q H H1) (b : Keep p q H1 H2) : Keep p q H H2 := fun c o h h1 h2 => b c o (a c o h h1 h2) h1 h2
theorem Same.keep {p q : Addr} {H H' : Hp} (s : Same H H') : Keep p q H H' := fun b o h _ _ => s b o h
theorem Hand.same {p q : Addr} {H H' : Hp} (h : Hand H p q) (s : Same H H') : Hand H' p q := by
 obtain ⟨ns, seed, h1, h2, h3, h4⟩ := h
 exact ⟨ns, seed, s _ _ h1, s _ _ h2, h3, h4⟩
theorem Hand.ne {p q : Addr} {H : Hp} (h : Hand H p q) : p ≠ q := by
 obtain ⟨ns, seed, h1, h2, _⟩ := h
 refine ne_of h1 h2 fun z => ?_
 injection z with z
 cases ns with
 | nil => cases z
 | cons a r => injection z with z _; cases z
theorem Keep.free {p q : Addr} {H H' : Hp} (k : Keep p q H H') (h : Hand H p q) {l : Addr} (hl : H' l = none) (h' : Hand H' p q) : H l = none := by
 cases e : H l with
 | none => rfl
 | some o =>
  obtain ⟨_, _, h1, h2, _⟩ := h'
  have := k l o e (fun z => by subst z; rw [h1] at hl; cases hl) (fun z => by subst z; rw [h2] at hl; cases hl)
  rw [hl] at this; cases this
noncomputable def spHand (K : PySem.W.Frag) : Sp := fun vs H Q _ => ∃ (a : Addr) (ns : List Int), vs = [.ref a] /\ SqL K H a (ns.map V.int) /\ ns.length <= 63 /\ ∀ p q H', Same H H' -> Hand H' p q -> H p = none -> H q = none -> Q (.ref p) H'
noncomputable def spPick : Sp := fun vs H Q _ => ∃ (p q : Addr) (m : Int), vs = [.ref p, .int m] /\ 0 < m /\ m < 1073741824 /\ Hand H p q /\ ∀ d H', 0 <= d -> d < m -> Hand H' p q -> Keep p q H H' -> Q (.int d) H'
noncomputable def spSize : Sp := fun vs H Q _ => ∃ (p q : Addr) (m : Int), vs = [.ref p, .int m] /\ 9 <= m /\ m < 1000 /\ Hand H p q /\ ∀ d H', 0 <= d -> d <= m -> Hand H' p q -> Keep p q H H' -> Q (.int d) H'
noncomputable def num0 (n : Nat) : List Int := (List.range n).map fun (i : Nat) => (i : Int)
noncomputable def spAny : Sp := fun vs H Q _ => ∃ (p q : Addr) (m : Nat), vs = [.ref p, .int m] /\ m <= 500 /\ Hand H p q /\ ∀ (l : Addr) (ys : List Int) (H' : Hp), ys.Perm (num0 m) -> H l = none -> H' l = some (.lst (ys.map V.int)) -> Hand H' p q -> Keep p q H H' -> Q (.ref l) H'
noncomputable def spOrder : Sp := fun vs H Q _ => ∃ (p q : Addr) (m : Nat), vs = [.ref p, .int m] /\ m <= 500 /\ Hand H p q /\ ∀ (l : Addr) (ys : List Int) (H' : Hp), ys.Perm (num0 m) -> H' l = some (.tup (ys.map V.int)) -> Hand H' p q -> Keep p q H H' -> Q (.ref l) H'
theorem upd_hand {p q l : Addr} {H : Hp} {o : HO} (h : Hand H p q) (hl : H l = none) : Hand (upd H l o) p q := h.same (same_upd hl)
theorem lset_hand {p q l : Addr} {H : Hp} {o u : HO} (h : Hand H p q) (hl : H l = some u) (hp : l ≠ p) (hq : l ≠ q) : Hand (upd H l o) p q := by
 obtain ⟨ns, seed, h1, h2, h3, h4⟩ := h
 exact ⟨ns, seed, by rw [upd_ne (Ne.symm hp)]; exact h1, by rw [upd_ne (Ne.symm hq)]; exact h2, h3, h4⟩
end L2
namespace L2
open PySem PySem.Spec PyProof.Rows
theorem PS.mono {X : Cx} {st : Stmt} {t t' : TS} (h : PS X st t) (m : ∀ D σ H, t' D σ H -> t D σ H) : PS X st t' := fun pins s σ H D I q => h pins s σ H D I (m D σ H q)
theorem rangeV_num0 (n : Nat) : rangeV 0 n = (num0 n).map V.int := by
 unfold rangeV num0
 rw [List.map_map]
 apply List.map_congr_left
 intro i _
 show V.int (0 + (i : Int)) = V.int (i : Int)
 rw [Int.zero_add]
theorem num0_mem {n : Nat} {x : Int} (h : x ∈ num0 n) : 0 <= x /\ x < n := by
 unfold num0 at h
 obtain ⟨i, hi, rfl⟩ := List.mem_map.mp h
 have := List.mem_range.mp hi
 (first | lia | omega)
theorem num0_split (c m : Nat) (h : c <= m) : num0 m = num0 c ++ (num0 (m - c)).map fun x => (c : Int) + x := by
 unfold num0
 apply List.ext_getElem?
 intro i
 by_cases hi : i < c
 ·rw [List.getElem?_append_left (by simpa using hi)]
  simp [hi, (by (first | lia | omega) : i < m)]
 ·rw [List.getElem?_append_right (by simpa using hi)]
  simp only [List.length_map, List.length_range, List.map_map, List.getElem?_map]
  by_cases hm : i < m
  ·rw [List.getElem?_range hm, List.getElem?_range (by (first | lia | omega) : i - c < m - c)]
   simp
   (first | lia | omega)
  ·rw [List.getElem?_eq_none (by simpa using hm), List.getElem?_eq_none (by simp; (first | lia | omega))]
   rfl
theorem set_swap_perm : ∀ (ys : List Int) (i j : Nat) (a b : Int), ys[i]? = some a -> ys[j]? = some b -> ((ys.set i b).set j a).Perm ys := by
 intro ys i j a b hi hj
 obtain ⟨h1, e1⟩ := List.getElem?_eq_some_iff.mp hi
 obtain ⟨h2, e2⟩ := List.getElem?_eq_some_iff.mp hj
 subst e1 e2
 exact List.set_set_perm h1 h2
theorem round_perm {row ys : List Int} {m : Nat} (hr : row.Perm (num0 m)) (hl : ys.length = m) (h : ∀ (k : Nat) (a : Int), row[k]? = some a -> ∀ b, row[(k + 1) % m]? = some b -> ys[a.toNat]? = some b) : ys.Perm (num0 m) := by
 have hrl : row.length = m := by rw [hr.length_eq]; simp [num0]
 have e1 : ys = (num0 m).map fun a => ys.getD a.toNat 0 := by
  apply List.ext_getElem?
  intro i
  unfold num0
  rw [List.map_map, List.getElem?_map]
  by_cases hi : i < m
  ·rw [List.getElem?_range hi, List.getElem?_eq_getElem (by (first | lia | omega))]
   simp [hl, hi]
  ·rw [List.getElem?_eq_none (by (first | lia | omega)), List.getElem?_eq_none (by simpa using hi)]
   rfl
 have e2 : (row.map fun a => ys.getD a.toNat 0) = row.drop 1 ++ row.take 1 := by
  apply List.ext_getElem?
  intro i
  rw [List.getElem?_map]
  by_cases hi : i < m
  ·rw [List.getElem?_eq_getElem (by (first | lia | omega) : i < row.length)]
   have hn : (i + 1) % m < row.length := by rw [hrl]; exact Nat.mod_lt _ (by (first | lia | omega))
   have := h i row[i] (List.getElem?_eq_getElem (by (first | lia | omega))) _ (List.getElem?_eq_getElem hn)
   show some (ys.getD _ 0) = _
   rw [List.getD_eq_getElem?_getD, this]
   by_cases hlast : i + 1 = m
   ·have e : (i + 1) % m = 0 := by rw [hlast, Nat.mod_self]
    rw [List.getElem?_append_right (by simp; (first | lia | omega))]
    simp only [e]
    rw [List.getElem?_take]
    simp [hrl, (by (first | lia | omega) : i - (m - 1) = 0)]
   ·have e : (i + 1) % m = i + 1 := Nat.mod_eq_of_lt (by (first | lia | omega))
    rw [List.getElem?_append_left (by simp; (first | lia | omega)), List.getElem?_drop]
    simp only [e]
    rw [Nat.add_comm 1 i, List.getElem?_eq_getElem (by (first | lia | omega) : i + 1 < row.length)]
    rfl
  ·rw [List.getElem?_eq_none (by (first | lia | omega)), List.getElem?_eq_none (by simp; (first | lia | omega))]
   rfl
 have e3 : (row.map fun a => ys.getD a.toNat 0).Perm row := by
  rw [e2]
  refine List.perm_append_comm.trans ?_
  rw [List.take_append_drop]
 rw [e1]
 exact ((hr.map _).symm.trans e3).trans hr
end L2
namespace L2
open PySem PySem.Spec PyProof.Rows
theorem kit_tt {K : PySem.W.Frag} {a b : String} {r : Bool} (h : (if (Value.type a == Value.type b) = true then some true else if PySem.W.kitMeta b = true then (fastBuiltinMro a).map (·.contains (Value.type b)) else none) = some r) : PySem.W.kitOne K (.type a) (.type b) = some r := h
theorem kit_int_tuple {K : PySem.W.Frag} : PySem.W.kitOne K (.type "int") (.type "tuple") = some false := kit_tt (by decide +kernel)
theorem kit_int_bool {K : PySem.W.Frag} : PySem.W.kitOne K (.type "int") (.type "bool") = some false := kit_tt (by decide +kernel)
theorem kit_int_int {K : PySem.W.Frag} : PySem.W.kitOne K (.type "int") (.type "int") = some true := kit_tt (by decide +kernel)
theorem kit_tuple_tuple {K : PySem.W.Frag} : PySem.W.kitOne K (.type "tuple") (.type "tuple") = some true := kit_tt (by decide +kernel)
theorem pg_pair {X : Cx} {i j : Nat} {x y : Str} {px py pt : Pos} {kt : Nat} (hc : X.calm = true) (hN : X.N.Nodup) (hi : X.N[i]? = some x) (hj : X.N[j]? = some y) (hx : Loc X.env.scope x) (hy : Loc X.env.scope y) (fx : X.fn x = true ∨ X.env.scope.names.lookup x = some .local) (fy : X.fn y = true ∨ X.env.scope.names.lookup y = some .local) :
  PG X (.Tuple [.Name x px, .Name y py] kt pt) (gTup X.K 2 (gCons (gName i) (gCons (gName j) gNil))) := pg_tup hc (pgs_cons (pg_name hN hi hx fx) (pgs_cons (pg_name hN hj hy fy) pgs_nil))
theorem pg_pairK {X : Cx} (K : PySem.W.Frag) {i j : Nat} {x y : Str} {px py pt : Pos} {kt : Nat} (hK : X.K = K) (hc : X.calm = true) (hN : X.N.Nodup) (hi : X.N[i]? = some x) (hj : X.N[j]? = some y) (hx : Loc X.env.scope x) (hy : Loc X.env.scope y) (fx : X.fn x = true ∨ X.env.scope.names.lookup x = some .local) (fy : X.fn y = true ∨ X.env.scope.names.lookup y = some .local) :
  PG X (.Tuple [.Name x px, .Name y py] kt pt) (gTup K 2 (gCons (gName i) (gCons (gName j) gNil))) := hK ▸ pg_tup hc (pgs_cons (pg_name hN hi hx fx) (pgs_cons (pg_name hN hj hy fy) pgs_nil))
theorem ix_tupK {X : Cx} (K : PySem.W.Frag) (hK : X.K = K) : IxR X (rIxT K) := hK ▸ ix_tup
theorem ix_listK {X : Cx} (K : PySem.W.Frag) (hK : X.K = K) : IxR X (rIxL K) := hK ▸ ix_list
noncomputable def Alike (H : Hp) : Nat -> V -> V -> Prop
 | 0, x, y => ∃ a : Int, x = .int a /\ y = .int a
 | n + 1, x, y => (∃ a : Int, x = .int a /\ y = .int a) ∨ ∃ a b xs ys, x = .ref a /\ y = .ref b /\ H a = some (.tup xs) /\ H b = some (.tup ys) /\ xs.length <= 1000 /\ Paired (Alike H n) xs ys
theorem Alike.sameT {H H' : Hp} (s : SameT H H') : ∀ {n : Nat} {x y : V}, Alike H n x y -> Alike H' n x y
 | 0, _, _, h => h
 | n + 1, _, _, .inl h => .inl h
 | n + 1, _, _, .inr ⟨a, b, xs, ys, e1, e2, h1, h2, h3, pr⟩ => .inr ⟨a, b, xs, ys, e1, e2, s _ _ h1, s _ _ h2, h3, Paired.mapP pr fun _ _ q => Alike.sameT s q⟩
theorem alike_ints {H : Hp} {a b : Addr} {ns : List Int} (ha : H a = some (.tup (ns.map V.int))) (hb : H b = some (.tup (ns.map V.int))) (hl : ns.length <= 1000) : Alike H 1 (.ref a) (.ref b) := by
 refine .inr ⟨a, b, _, _, rfl, rfl, ha, hb, by rw [mapI_len]; exact hl, ?_⟩
 clear ha hb hl
 induction ns with
 | nil => exact .nil
 | cons x r ih => exact .cons ⟨x, rfl, rfl⟩ ih
theorem paired_get {F : V -> V -> Prop} : ∀ {xs ys : List V}, Paired F xs ys -> ∀ {i : Nat} {x y : V}, xs[i]? = some x -> ys[i]? = some y -> F x y
 | _, _, .nil, _, _, _, h, _ => by simp at h
 | _, _, .cons r _, 0, _, _, h, h' => by simp at h h'; subst h h'; exact r
 | _, _, .cons _ t, i + 1, _, _, h, h' => paired_get t (by simpa using h) (by simpa using h')
noncomputable def spSame (n : Nat) : Sp := fun vs H Q _ => ∃ x y, vs = [x, y] /\ Alike H n x y /\ ∀ H', Same H H' -> Q (.bl true) H'
theorem lc_zip_true {K : PySem.W.Frag} {a b : Addr} {xs ys : List V} {te : TE} {σ : L2.St} {H1 : Hp} {Q : VK} (hx : SqT K H1 a xs) (hy : SqT K H1 b ys) (hxy : xs.length = ys.length) (small : xs.length <= 1000) (Fx : ∀ {H}, Same H1 H -> SqT K H a xs) (Fy : ∀ {H}, Same H1 H -> SqT K H b ys)
  (he : ∀ (i : Nat) x y, xs[i]? = some x -> ys[i]? = some y -> ∀ H, Same H1 H -> ∀ Q' : VK, (∀ H', Same H H' -> Q' (.bl true) H') -> te [some x, some y] H Q')
  (fin : ∀ acc H', H1 acc = none -> Same H1 H' -> H' acc = some (.lst ((List.replicate xs.length true).map V.bl)) -> Q (.ref acc) H') :
  LcW (Itz K a b) H1 (gTup K 2 (gCons (gName 0) (gCons (gName 1) gNil))) tNoTest te 2 [] σ Q := by
 intro acc ha
 refine ⟨fun i m H => m = xs.length - i /\ i <= xs.length /\ Same H1 H /\ H acc = some (.lst ((List.replicate i true).map V.bl)), ⟨xs.length, by simp, Nat.zero_le _, same_upd ha, upd_same⟩, ?_⟩
 rintro i m H ⟨rfl, hi, sm, hacc⟩
 by_cases hlt : i < xs.length
 ·have hlt' : i < ys.length := by (first | lia | omega)
  refine .inr ⟨⟨xs, ys, xs[i], ys[i], Fx sm, Fy sm, List.getElem?_eq_getElem hlt, List.getElem?_eq_getElem hlt'⟩, fun v H' y => ?_⟩
  obtain ⟨t, x, y, ht, rfl, rfl, hv⟩ := y
  obtain ⟨e1, e2⟩ := hv xs ys (Fx sm) (Fy sm)
  refine ⟨t, _, rfl, SqT.of upd_same, rfl, x, _, rfl, y, _, rfl, rfl, ⟨rfl, fun j v e => ?_⟩, ?_⟩
  ·match j, e with
   | 0, e => cases e
   | 1, e => cases e
   | j + 2, e => cases e
  ·unfold tNoTest
   dsimp only
   rw [if_pos rfl]
   refine he i x y e1 e2 _ (sm.trans (same_upd ht)) _ fun H4 s4 => ?_
   have h4 : H4 acc = some (.lst ((List.replicate i true).map V.bl)) := s4 _ _ (by rw [upd_ne (ne_of_none hacc ht)]; exact hacc)
   refine ⟨_, h4, small1 (by simp; (first | lia | omega)), xs.length - (i + 1), by (first | lia | omega), rfl, hlt, ?_, ?_⟩
   ·exact same_updR ((sm.trans (same_upd ht)).trans s4) ha
   ·rw [upd_same, List.replicate_succ', List.map_append]
    rfl
 ·have e : i = xs.length := by (first | lia | omega)
  subst e
  exact .inl ⟨⟨xs, ys, Fx sm, Fy sm, .inl (List.getElem?_eq_none (Nat.le_refl _))⟩, fin acc H ha sm hacc⟩
end L2
namespace L2
open PySem PySem.Spec PyProof.Rows
theorem at_getD {ys : List Int} {i : Int} (h0 : 0 <= i) (h1 : i < ys.length) : atI (ys.map V.int) i = some (.int (ys.getD i.toNat 0)) := by
 have hlt : i.toNat < ys.length := by (first | lia | omega)
 have e : ((i.toNat : Nat) : Int) = i := by (first | lia | omega)
 have := atI_nat (xs := ys.map V.int) (j := i.toNat) (v := .int (ys.getD i.toNat 0)) (by rw [List.getElem?_map, List.getD_eq_getElem?_getD, List.getElem?_eq_getElem hlt]; rfl)
 rwa [e] at this
theorem mem_rangeV {n : Nat} {x : V} (h : x ∈ rangeV 0 n) : ∃ k : Int, x = .int k /\ 0 <= k /\ k < n := by
 rw [rangeV_num0] at h
 obtain ⟨k, hk, rfl⟩ := List.mem_map.mp h
 exact ⟨k, rfl, num0_mem hk⟩
end L2
namespace L2
open PySem PySem.Spec PyProof.Rows
structure Def (K : PySem.W.Frag) (x : Str) (st : Stmt) : Prop where
 ex : ∃ (f : Addr) (oc : Value) (od an : Option Addr) (kV doc pm cdv ct : Value) (osl : Array (Option Value)), PySem.W.nsIn K mainGlobals x = some (some (.ref f)) /\
  K.lookup f = some ⟨oc, od, .func (PySem.W.fnOf x x (defArgs st) (defBody st) (defScope st) .none kV doc pm an cdv ct), osl⟩ /\ PySem.W.codeIn K cdv x = true /\ PySem.W.keepIn K (.ref f) = true
section
variable {K : PySem.W.Frag} {h : Heap} {mg : Str -> Option Value} {x : Str} {st : Stmt}
theorem Def.of {f : Addr} {oc : Value} {od an : Option Addr} {kV doc pm cdv ct : Value} {osl : Array (Option Value)} (a : PySem.W.nsIn K mainGlobals x = some (some (.ref f)))
  (l : K.lookup f = some ⟨oc, od, .func (PySem.W.fnOf x x (defArgs st) (defBody st) (defScope st) .none kV doc pm an cdv ct), osl⟩) (c : PySem.W.codeIn K cdv x = true) (k : PySem.W.keepIn K (.ref f) = true) : Def K x st :=
 ⟨f, oc, od, an, kV, doc, pm, cdv, ct, osl, a, l, c, k⟩
theorem Def.fn (D : Def K x st) (X : K.In h) (G : h.Ns mainGlobals mg) : ∃ f fd, Fun K x x st f fd /\ mg x = some (.ref f) := by
 obtain ⟨f, oc, od, an, kV, doc, pm, cdv, ct, osl, a, l, c, k⟩ := D.ex
 exact ⟨f, _, fun_mk (st := st) l c k, PySem.W.mg_of X G a⟩
end
structure TopK (K : PySem.W.Frag) : Prop where
 k_len : PySem.W.nsIn K mainGlobals "len" = some none
 k_tuple : PySem.W.nsIn K mainGlobals "tuple" = some none
 k_list : PySem.W.nsIn K mainGlobals "list" = some none
 k_range : PySem.W.nsIn K mainGlobals "range" = some none
 k_int : PySem.W.nsIn K mainGlobals "int" = some none
 k_bool : PySem.W.nsIn K mainGlobals "bool" = some none
 k_isinstance : PySem.W.nsIn K mainGlobals "isinstance" = some none
 k_all : PySem.W.nsIn K mainGlobals "all" = some none
 k_zip : PySem.W.nsIn K mainGlobals "zip" = some none
 k_enumerate : PySem.W.nsIn K mainGlobals "enumerate" = some none
 k_min : PySem.W.nsIn K mainGlobals "min" = some none
 k_sum : PySem.W.nsIn K mainGlobals "sum" = some none
 k_max : PySem.W.nsIn K mainGlobals "max" = some none
 k_abs : PySem.W.nsIn K mainGlobals "abs" = some none
 k_sorted : PySem.W.nsIn K mainGlobals "sorted" = some none
theorem TopK.top {K : PySem.W.Frag} {h : Heap} {mg : Str -> Option Value} (T : TopK K) (X : K.In h) (G : h.Ns mainGlobals mg) : Top mg :=
  ⟨PySem.W.mg_none_of X G T.k_len, PySem.W.mg_none_of X G T.k_tuple, PySem.W.mg_none_of X G T.k_list, PySem.W.mg_none_of X G T.k_range, PySem.W.mg_none_of X G T.k_int, PySem.W.mg_none_of X G T.k_bool, PySem.W.mg_none_of X G T.k_isinstance,
   PySem.W.mg_none_of X G T.k_all, PySem.W.mg_none_of X G T.k_zip, PySem.W.mg_none_of X G T.k_enumerate, PySem.W.mg_none_of X G T.k_min, PySem.W.mg_none_of X G T.k_sum, PySem.W.mg_none_of X G T.k_max, PySem.W.mg_none_of X G T.k_abs, PySem.W.mg_none_of X G T.k_sorted⟩
end L2
namespace L2
open PySem PySem.Spec PyProof.Rows
open Sem (wp)
open AutoSeq1 (wpAny_loadPart')
section
variable {prog : Program} {w : World} {A : Around} {E : Value -> Shared -> Prop} {s : Shared}
end
section
variable {X : Cx}
theorem vals_mem : ∀ {ns : List Int} {its : List Value}, Vals (ns.map V.int) its -> ∀ y ∈ its, ∃ n t, n ∈ ns /\ y = Value.int n t
 | [], _, .nil, _, h => by cases h
 | n :: ns, _, .cons r t, y, h => by
  rcases List.mem_cons.mp h with rfl | h
  ·obtain ⟨t, rfl⟩ := r
   exact ⟨n, t, by simp, rfl⟩
  ·obtain ⟨m, t', hm, rfl⟩ := vals_mem t y h
   exact ⟨m, t', by simp [hm], rfl⟩
end
end L2
namespace L2
open PySem PySem.Spec PyProof.Rows
open Sem (wp)
open AutoSeq1 (wpAny_loadPart')
section
variable {prog : Program} {w : World} {A : Around} {E : Value -> Shared -> Prop} {s : Shared}
end
section
variable {X : Cx} {pos : Pos}
end
section
variable {prog : Program} {w : World} {A : Around} {E : Value -> Shared -> Prop} {s : Shared}
end
section
variable {X : Cx}
end
end L2
namespace L2
open PySem PySem.Spec PyProof.Rows
noncomputable def atO (ns : List Int) (x : Int) : Int := ns.getD x.toNat 0
noncomputable def Ord (m : Nat) (ns : List Int) : Prop := ns.Perm (num0 m)
theorem num0_len' (n : Nat) : (num0 n).length = n := by simp [num0]
theorem num0_nodup' (n : Nat) : (num0 n).Nodup := by
 unfold num0
 refine List.Pairwise.map _ (fun a b (h : a ≠ b) => ?_) (List.nodup_range (n := n))
 show (a : Int) ≠ (b : Int)
 (first | lia | omega)
theorem mem_num0 {n : Nat} {x : Int} : x ∈ num0 n ↔ 0 <= x /\ x < n := by
 refine ⟨num0_mem, fun ⟨h0, h1⟩ => ?_⟩
 unfold num0
 exact List.mem_map.mpr ⟨x.toNat, List.mem_range.mpr (by (first | lia | omega)), by (first | lia | omega)⟩
section
variable {m : Nat} {ns ms ks : List Int} {x : Int}
theorem Ord.len (h : Ord m ns) : ns.length = m := by rw [List.Perm.length_eq h, num0_len']
theorem Ord.nodup (h : Ord m ns) : ns.Nodup := h.symm.nodup (num0_nodup' m)
theorem atO_get {i : Nat} (h : i < ns.length) : atO ns (i : Int) = ns[i] := by
 unfold atO
 rw [Int.toNat_natCast, List.getD_eq_getElem?_getD, List.getElem?_eq_getElem h]
 rfl
end
theorem for_enum {K : PySem.W.Frag} {a : Addr} {xs : List V} {g : TG} {tb : TS} {D : Ends} {σ : L2.St} {H : Hp} (Pv : Nat -> L2.St -> Hp -> Prop) (h0 : Pv 0 σ H) (hl : ∀ i σ H, i <= xs.length -> Pv i σ H -> SqT K H a xs)
  (hs : ∀ i x t σ H, xs[i]? = some x -> Pv i σ H -> H t = none -> g (.ref t) σ (upd H t (.tup [.int i, x])) fun σ2 H2 => tb { D with nx := Pv (i + 1), ct := Pv (i + 1), bk := D.nx } σ2 H2) (hd : ∀ σ H, Pv xs.length σ H -> D.nx σ H) :
  ∃ W : Nat -> Nat -> L2.St -> Hp -> Prop, (∃ m, W 0 m σ H) /\ ∀ i m σ H, W i m σ H ->
   ((Ite K a).stop i H /\ D.nx σ H) ∨ ((Ite K a).go i H /\ ∃ N : L2.St -> Hp -> Prop, (∀ σ' H', N σ' H' -> ∃ m', m' < m /\ W (i + 1) m' σ' H') /\ ∀ x H', (Ite K a).yld i H x H' -> g x σ H' fun σ2 H2 => tb { D with nx := N, ct := N, bk := D.nx } σ2 H2) := by
 refine ⟨fun i m σ H => m = xs.length - i /\ i <= xs.length /\ Pv i σ H, ⟨xs.length, by simp, Nat.zero_le _, h0⟩, ?_⟩
 rintro i m σ H ⟨rfl, hi, p⟩
 have q := hl i σ H hi p
 by_cases hlt : i < xs.length
 ·refine .inr ⟨⟨xs, xs[i], q, by simp [hlt]⟩, Pv (i + 1), fun σ' H' p' => ⟨xs.length - (i + 1), by (first | lia | omega), rfl, hlt, p'⟩, fun x H' y => ?_⟩
  obtain ⟨t, x', ht, rfl, rfl, y⟩ := y
  exact hs i x' t σ _ (y xs q) p ht
 ·have e : i = xs.length := by (first | lia | omega)
  subst e
  exact .inl ⟨⟨xs, q, rfl⟩, hd σ H p⟩
theorem ixN_of {ys : List Int} {i : Int} (h0 : 0 <= i) (h1 : i < ys.length) : ixN (ys.map V.int).length i = some i.toNat := by
 unfold ixN
 rw [mapI_len, if_pos h0, if_pos (by (first | lia | omega))]
end L2
namespace L2
open PySem PySem.Spec PyProof.Rows
noncomputable def itO (ns : List Int) (x : Int) : Nat -> Int
 | 0 => x
 | k + 1 => atO ns (itO ns x k)
noncomputable def orbO (ns : List Int) (x : Int) (k : Nat) : List Int := (List.range k).map (itO ns x)
structure IsRound (ns : List Int) (x : Int) (row : List Int) : Prop where
 ex : ∃ k, row = orbO ns x (k + 1) /\ itO ns x (k + 1) = x
 nd : row.Nodup
section
variable {m : Nat} {ns : List Int} {x y : Int}
open Classical in
noncomputable def rowO (ns : List Int) (x : Int) : List Int := if h : ∃ row, IsRound ns x row then choose h else []
structure MetO (ns : List Int) (m : Nat) (rows : List (List Int)) : Prop where
 nd : rows.flatten.Nodup
 rng : ∀ y ∈ rows.flatten, 0 <= y /\ y < m
 clo : ∀ y ∈ rows.flatten, atO ns y ∈ rows.flatten
 row : ∀ r ∈ rows, ∃ f : Int, 0 <= f /\ f < m /\ r = rowO ns f
end
end L2
namespace L2
open PySem PySem.Spec PyProof.Rows
section
variable {X : Cx}
noncomputable def rExtendT : V -> List V -> Hp -> VK -> Prop := fun x vs H Q => ∃ l b xs zs, x = .ref l /\ vs = [.ref b] /\ H l = some (.lst xs) /\ H b = some (.tup zs) /\ xs.length + zs.length <= sizeLine /\ Q .non (upd H l (.lst (xs ++ zs)))
theorem mt_extendT : MtM X "list.extend" rExtendT := by
 intro pins s σ H x vs v us Q I rx rv h
 obtain ⟨l, b, xs, zs, rfl, rfl, hH, hB, hz, q⟩ := h
 cases rx
 obtain ⟨u, rfl, ru⟩ := rv.one
 cases ru
 obtain ⟨z, its, n, r, hl, e⟩ := I.lstM hH
 obtain ⟨z2, its2, r2, ⟨cls, dd, data, sl⟩, e2, c1, ⟨n2, c2⟩, c3, c4⟩ := (show ObjOk X.prog X.w H s.heap b (.tup zs) from I.hok b _ hB)
 dsimp only at c1 c2 c3 c4
 subst c1 c2 c3 c4
 have hl2 : its2.length = zs.length := r2.length.symm
 have hsz : its.toArray.size + its2.toArray.size <= sizeLine := by rw [List.size_toArray, List.size_toArray]; (first | lia | omega)
 have hlong : ¬ (!its.toArray.isEmpty && Builtin.List.listTooLong (its.toArray.size + its2.toArray.size)) = true := by
  rw [notLongL hsz, Bool.and_false]
  exact Bool.false_ne_true
 refine call_meets F.slot_list_extend ⟨_, e, rfl⟩ F.entry_list_extend (F.args_list_extend_2 _ _)
  (AutoSeq1.list_extend_list_tuple_0 l its.toArray n b its2.toArray n2 hlong (by rw [List.size_toArray]; (first | lia | omega)) (by (first | lia | omega))) ⟨e, e2, ?_⟩
 refine ⟨.non, _, I.lset (its' := its ++ its2) hH e (by simp) (r.append r2) ?_, rfl, q⟩
 rw [List.length_append]
 (first | lia | omega)
end
section
variable {prog : Program} {w : World} {A : Around} {E : Value -> Shared -> Prop} {s : Shared}
theorem getItem_tuple_whole {t sl : Addr} {items : Array Value} {vl vu : Value} {lo hi : Option Int} {Q : Value -> Shared -> Prop} (ht : IsTup s.heap t items) (hs : s.heap.IsSliceOf sl vl vu .none) (pl : IsPart vl lo) (pu : IsPart vu hi)
  (hw : HT.sIx items.size 0 lo = 0 /\ HT.sIx items.size items.size hi = items.size) (h : Q (.ref t) s) : wpAny (model prog w) A (getItem (.ref t) (.ref sl)) Q E s := by
 obtain ⟨os, hos, hcs, hds⟩ := id hs
 have hTs : s.TypeIs (.ref sl) "slice" := ⟨os, hos, hcs⟩
 unfold getItem
 try with_reducible refine wpAny_holding ?_
 first | refine wpAny_bind (wpAny_pure ?_) | skip
 refine wpAny_bind (wpAny_sequenceKey ht.typeIs (by decide) ?_)
 refine wpAny_bind (wpAny_callSpecial?_slot (name := Str.ofString "__getitem__") ht.typeIs PyProof.Rows.slot_tuple_getitem
  (wpAny_call_entry PyProof.Rows.slot_tuple_getitem ht.typeIs entry_tuple_getitem ?_ (args_tuple_getitem _ _)))
 show wpAny _ _ (Builtin.Tuple.tupleItemsOf (.ref t) >>= _) _ _ s
 refine wpAny_bind (tupleItemsOf_ ht ?_)
 refine wpAny_bind (wpAny_typeOf hTs ?_)
 rw [if_pos (by decide)]
 refine wpAny_bind (HT.sliceApplied_gen hs pl pu ?_)
 show wpAny _ _ (if (((HT.sIx items.size 0 lo : Nat) : Int) == 0 && (1 : Int) == 1 && (HT.sIx items.size items.size hi - HT.sIx items.size 0 lo) == items.size) = true then _ else _) _ _ s
 rw [if_pos (by rw [hw.1, hw.2]; simp)]
 unfold Builtin.Tuple.tupleIsExact
 refine wpAny_bind (wpAny_bind (wpAny_typeOf ht.typeIs (wpAny_pure ?_)))
 rw [if_pos (by decide)]
 refine wpAny_bind (wpAny_rule ?_)
 exact wpAny_pure ⟨_, rfl, wpAny_pure h⟩
end
section
variable {X : Cx} {e : Expr} {te : TE} {p2 pos : Pos}
end
end L2
namespace L2
open PySem PySem.Spec PyProof.Rows
noncomputable abbrev RowsAt (H : Hp) (zs : List Addr) (rows : List (List Int)) : Prop := Paired (fun (z : Addr) (r : List Int) => H z = some (.tup (r.map V.int))) zs rows
theorem RowsAt.sameT {H H' : Hp} {zs : List Addr} {rows : List (List Int)} (h : RowsAt H zs rows) (s : SameT H H') : RowsAt H' zs rows := Paired.mapP h fun _ _ q => s _ _ q
theorem RowsAt.same {H H' : Hp} {zs : List Addr} {rows : List (List Int)} (h : RowsAt H zs rows) (s : Same H H') : RowsAt H' zs rows := h.sameT s.t
theorem RowsAt.alike {H : Hp} : ∀ {zs zs' : List Addr} {rows : List (List Int)}, RowsAt H zs rows -> RowsAt H zs' rows -> (∀ r ∈ rows, r.length <= 1000) -> Paired (Alike H 1) (zs.map V.ref) (zs'.map V.ref)
 | _, _, _, .nil, .nil, _ => .nil
 | _, _, _, .cons r t, .cons r' t', h => .cons (alike_ints r r' (h _ (by simp))) (RowsAt.alike t t' fun r hr => h r (by simp [hr]))
theorem RowsAt.data {H : Hp} : ∀ {zs : List Addr} {rows : List (List Int)}, RowsAt H zs rows -> IsAll H (zs.map V.ref) (rows.map fun r => PyData.tuple (r.map PyData.int))
 | _, _, .nil => .nil
 | _, _, .cons r t => .cons (Is.ints r) (RowsAt.data t)
theorem lay_rows : ∀ rows : List (List Int), PyData.canLayAll0 (rows.map fun r => PyData.tuple (r.map PyData.int)) = true
 | [] => rfl
 | r :: t => by
  simp only [List.map_cons, PyData.canLayAll0, PyData.canLay0, lay_ints, lay_rows t]
  rfl
theorem deep_rows : ∀ rows : List (List Int), PyData.depthAll (rows.map fun r => PyData.tuple (r.map PyData.int)) <= 1
 | [] => Nat.zero_le _
 | r :: t => by
  have := deep_rows t
  simp only [List.map_cons, PyData.depthAll, PyData.depth, deep_ints]
  (first | lia | omega)
theorem eqv_rows : ∀ rows : List (List Int), PyData.eqvAll (rows.map fun r => PyData.tuple (r.map PyData.int)) (rows.map fun r => PyData.tuple (r.map PyData.int)) = true
 | [] => rfl
 | r :: t => by
  simp [PyData.eqvAll, PyData.eqv, eqv_ints, eqv_rows t]
structure Bits (bs : List Bool) (m : Nat) (S : List Int) : Prop where
 len : bs.length = m
 bit : ∀ i, i < m -> bs[i]? = some (decide ((i : Int) ∈ S))
end L2
namespace L2
open PySem PySem.Spec PyProof.Rows
inductive Ents (P : Params) : List DictEntry -> List (Str × Addr) -> Prop
 | nil : Ents P [] []
 | cons {x : Str} {t : Tok} {f : Addr} {es : List DictEntry} {kvs : List (Str × Addr)} : Ents P es kvs -> Ents P (⟨PyData.keyHash P x, .str x t, .ref f⟩ :: es) ((x, f) :: kvs)
structure GDict (K : PySem.W.Frag) (P : Params) (C : Addr) (kvs : List (Str × Addr)) : Prop where
 ex : ∃ es n, K.lookup C = some { cls := .type "dict", data := .dict es n } /\ Ents P es.toList kvs
 nd : (kvs.map (·.1)).Nodup
section
variable {X : Cx}
end
structure CalF (P : Program) (w : World) (K : PySem.W.Frag) (mg : Str -> Option Value) (base : Heap) (k : Nat) (f : Addr) (ps : List Str) (sp : Sp) : Prop where
 ex : ∃ fd, FnOk P w K mg base CX0 k f fd ps sp /\ PySem.W.keepIn K (.ref f) = true /\ Binds K fd ps []
section
variable {X : Cx} {k : Nat} {x : Str} {p pos : Pos} {e : Expr} {es : List Expr} {t : TA} {tf : TE}
noncomputable def rSumL : List V -> Hp -> VK -> Prop := fun xs H Q => ∃ (l : Addr) (ns : List Int), xs = [.ref l] /\ H l = some (.lst (ns.map V.int)) /\ Q (.int ns.sum) H
theorem call_sumL (hc : X.calm = true) : CallR X (.builtin "sum") rSumL := by
 intro pins s σ H xs us Q I rs h
 obtain ⟨l, ns, rfl, hH, q⟩ := h
 obtain ⟨u, rfl, ru⟩ := vals1 rs
 cases (show u = Value.ref l from ru)
 obtain ⟨z, its, n, r, hl, e⟩ := I.lstM hH
 have hI := intsAre_of r
 obtain ⟨xs, hxs⟩ := hI.allInts.items
 have hnum : (numsOf its.toArray.toList) = ns := hI.numsOf
 refine sum_intListG (xs := xs) (I.ok.hd hc) (by rw [<- hxs]; exact ⟨_, e, rfl, n, rfl⟩) fun h' tk t' hk => ?_
 have hs : preSum (numAt xs) xs.size = ns.sum := by
  rw [preSum_eq, List.take_of_length_le (by simp)]
  rw [<- nums_intItems, <- hxs, hnum]
 rw [hs]
 exact ⟨.int ns.sum, H, I.kept (t' := tk) hk, ⟨_, rfl⟩, q⟩
end
end L2
namespace L2
open PySem PySem.Spec PyProof.Rows
noncomputable abbrev lc2 (elt tg iter : Expr) (ifs : List Expr) (tg2 iter2 : Expr) (ifs2 : List Expr) (scope : Scope) (pos : Pos) : Expr := .ListComp elt [⟨tg, iter, ifs, 0⟩, ⟨tg2, iter2, ifs2, 0⟩] scope pos
theorem compTurn_in (elt tg iter : Expr) (ifs : List Expr) (tg2 iter2 : Expr) (ifs2 : List Expr) (scope : Scope) (pos : Pos) (it acc : Value) (env : Env) :
  compTurn (lc2 elt tg iter ifs tg2 iter2 ifs2 scope pos) 1 it acc env = (do
   standAt iter2.pos
   match <- pyNext it with
   | none => pure (.done .next)
   | some v =>
    letOwnedTupleGo tg2 it v
    assign tg2 env v
    let mut ok := true
    for c in ifs2 do
     if ok then ok <- isTrue c env (eval c env)
    if ok then
     (do let _ <- call (.builtin "list.append") [acc, <- eval elt env])
    again (.compLoop (lc2 elt tg iter ifs tg2 iter2 ifs2 scope pos) 1 it acc env)) := by rfl
theorem compTurn_out (elt tg iter : Expr) (ifs : List Expr) (tg2 iter2 : Expr) (ifs2 : List Expr) (scope : Scope) (pos : Pos) (it acc : Value) (env : Env) :
  compTurn (lc2 elt tg iter ifs tg2 iter2 ifs2 scope pos) 0 it acc env = (do
   standAt iter.pos
   match <- pyNext it with
   | none => pure (.done .next)
   | some v =>
    letOwnedTupleGo tg it v
    assign tg env v
    let mut ok := true
    for c in ifs do
     if ok then ok <- isTrue c env (eval c env)
    if ok then
     let x <- eval iter2 env
     standAt iter2.pos
     let x <- foldedSetIterable iter2 env x
     let _ <- runOwn (.compStart (lc2 elt tg iter ifs tg2 iter2 ifs2 scope pos) 1 (<- holding [x] (pyIter x)) acc env) env
    again (.compLoop (lc2 elt tg iter ifs tg2 iter2 ifs2 scope pos) 0 it acc env)) := by rfl
section
variable {prog : Program} {w : World} {A : Around} {R : Result -> Shared -> Prop} {s : Shared} {elt tg iter tg2 iter2 : Expr} {ifs ifs2 : List Expr} {scope : Scope} {pos : Pos} {it acc : Value} {env : Env}
theorem compLoop_in (I : Nat -> Shared -> Prop)
  (turn : ∀ n s, I n s -> wpAny (model prog w) A (pyNext it) (fun r s₁ => match r with
   | none => R (.ok .next) s₁
   | some v => wpAny (model prog w) A (letOwnedTupleGo tg2 it v) (fun _ s₂ => wpAny (model prog w) A (assign tg2 env v) (fun _ s₃ =>
     wpAny (model prog w) A (forIn ifs2 true fun c r => if r = true then do let ok <- isTrue c env (eval c env); pure (ForInStep.yield ok) else pure (ForInStep.yield r)) (fun ok s₄ =>
      if ok = true then wpAny (model prog w) A (eval elt env) (fun x s₅ =>
       wpAny (model prog w) A (call (.builtin "list.append") [acc, x]) (fun _ s₆ => ∃ m, m < n /\ I m s₆) (fun _ _ => False) s₅) (fun _ _ => False) s₄
      else ∃ m, m < n /\ I m s₄) (fun _ _ => False) s₃) (fun _ _ => False) s₂) (fun _ _ => False) s₁) (fun _ _ => False) s)
  (n : Nat) (h : I n s) :
  codeAny (model prog w) A (.compLoop (lc2 elt tg iter ifs tg2 iter2 ifs2 scope pos) 1 it acc env) R s := by
 refine codeAny_loop rfl I (fun n s hI => ?_) n h
 show wpAny _ A ((compTurn (lc2 elt tg iter ifs tg2 iter2 ifs2 scope pos) 1 it acc env).onRaise (fun x => do noteFrame x env; theTreesLotGoes x)) _ _ s
 refine wpAny_noted (wpAny_noRaise ?_)
 rw [compTurn_in]
 refine wpAny_bind (wpAny_standAt (wpAny_bind (thn (turn n s hI) fun r s₁ h₁ => ?_)))
 cases r with
 | none => exact wpAny_pure h₁
 | some v =>
  refine wpAny_bind (thn h₁ fun _ s₂ h₂ => wpAny_bind (thn h₂ fun _ s₃ h₃ => wpAny_bind (thn h₃ fun ok s₄ h₄ => ?_)))
  cases ok with
  | false => exact wpAny_pure ⟨rfl, h₄⟩
  | true => exact wpAny_bind (wpAny_bind (thn h₄ fun x s₅ h₅ => wpAny_bind (thn h₅ fun _ s₆ h₆ => wpAny_pure (wpAny_pure ⟨rfl, h₆⟩))))
theorem compLoop_out (hs2 : ∀ x, foldedSetIterable iter2 env x = pure x) (I : Nat -> Shared -> Prop)
  (turn : ∀ n s, I n s -> wpAny (model prog w) A (pyNext it) (fun r s₁ => match r with
   | none => R (.ok .next) s₁
   | some v => wpAny (model prog w) A (letOwnedTupleGo tg it v) (fun _ s₂ => wpAny (model prog w) A (assign tg env v) (fun _ s₃ =>
     wpAny (model prog w) A (forIn ifs true fun c r => if r = true then do let ok <- isTrue c env (eval c env); pure (ForInStep.yield ok) else pure (ForInStep.yield r)) (fun ok s₄ =>
      if ok = true then wpAny (model prog w) A (eval iter2 env) (fun x s₅ => wpAny (model prog w) A (pyIter x) (fun it2 s₆ =>
       codeAny (model prog w) A (.compStart (lc2 elt tg iter ifs tg2 iter2 ifs2 scope pos) 1 it2 acc env) (fun r s₇ => r = .ok .next /\ ∃ m, m < n /\ I m s₇) s₆) (fun _ _ => False) s₅) (fun _ _ => False) s₄
      else ∃ m, m < n /\ I m s₄) (fun _ _ => False) s₃) (fun _ _ => False) s₂) (fun _ _ => False) s₁) (fun _ _ => False) s)
  (n : Nat) (h : I n s) :
  codeAny (model prog w) A (.compLoop (lc2 elt tg iter ifs tg2 iter2 ifs2 scope pos) 0 it acc env) R s := by
 refine codeAny_loop rfl I (fun n s hI => ?_) n h
 show wpAny _ A ((compTurn (lc2 elt tg iter ifs tg2 iter2 ifs2 scope pos) 0 it acc env).onRaise (fun x => do noteFrame x env; theTreesLotGoes x)) _ _ s
 refine wpAny_noted (wpAny_noRaise ?_)
 rw [compTurn_out]
 refine wpAny_bind (wpAny_standAt (wpAny_bind (thn (turn n s hI) fun r s₁ h₁ => ?_)))
 cases r with
 | none => exact wpAny_pure h₁
 | some v =>
  refine wpAny_bind (thn h₁ fun _ s₂ h₂ => wpAny_bind (thn h₂ fun _ s₃ h₃ => wpAny_bind (thn h₃ fun ok s₄ h₄ => ?_)))
  cases ok with
  | false => exact wpAny_pure ⟨rfl, h₄⟩
  | true =>
   refine wpAny_bind (thn h₄ fun x s₅ h₅ => wpAny_bind (wpAny_standAt (wpAny_bind (wpAny_of_eq (hs2 x) (wpAny_bind (wpAny_holding (thn h₅ fun it2 s₆ h₆ => ?_)))))))
   refine wpAny_bind (wpAny_runOwn (codeAny_mono h₆ fun r s₇ hr => ?_))
   obtain ⟨rfl, hr⟩ := hr
   exact wpAny_pure ⟨rfl, hr⟩
theorem codeAny_compStart_in
  (h0 : codeAny (model prog w) A (.compLoop (lc2 elt tg iter ifs tg2 iter2 ifs2 scope pos) 1 it acc env) R s)
  (h : wpAny (model prog w) A (pyIter it) (fun it' s' => codeAny (model prog w) A (.compLoop (lc2 elt tg iter ifs tg2 iter2 ifs2 scope pos) 1 it' acc env) R s')
   (notedBy (model prog w) A env fun x s' => R (.error x) s') s) :
  codeAny (model prog w) A (.compStart (lc2 elt tg iter ifs tg2 iter2 ifs2 scope pos) 1 it acc env) R s := by
 refine codeAny_of_tree ?_
 show wpAny _ _ ((compStart (lc2 elt tg iter ifs tg2 iter2 ifs2 scope pos) 1 it acc env).onRaise (fun x => do noteFrame x env; standAt theWindowsPlace)) _ _ s
 refine wpAny_notedAt ?_
 unfold compStart
 show wpAny _ _ (ask >>= _) _ _ s
 refine wpAny_bind (wpAny_askSetting (wpAny_ite ?_))
 split
 ·first
   | exact wpAny_bind (wpAny_pure (wpAny_pure (And.intro rfl h0)))
   | exact wpAny_pure (And.intro rfl h0)
 ·refine wpAny_bind (wpAny_rule (wpAny_bind (wpAny_standAt (wpAny_bind (wpAny_mono h (fun it' s' h' => wpAny_pure (And.intro rfl h')) fun _ _ e => e)))))
end
end L2
namespace L2
open PySem PySem.Spec PyProof.Rows
noncomputable def InW (J : It) (H1 : Hp) (g : TG) (tt : TT) (te : TE) (acc : Addr) (σ : St) (Kt : Hp -> Prop) : Prop :=
 ∃ V : Nat -> Nat -> Hp -> Prop, (∃ m, V 0 m H1) /\ ∀ i m H, V i m H ->
  (J.stop i H /\ Kt H) ∨ (J.go i H /\ ∀ x H', J.yld i H x H' -> g x σ H' fun σ2 H2 => Wk σ σ2 /\ tt σ2 H2 fun b H3 =>
   if b = true then te σ2 H3 fun v H4 => ∃ ys, H4 acc = some (.lst ys) /\ ys.length < sizeLine /\ ∃ m', m' < m /\ V (i + 1) m' (upd H4 acc (.lst (ys ++ [v])))
   else ∃ m', m' < m /\ V (i + 1) m' H3)
noncomputable def LcW2 (J : It) (H1 : Hp) (g : TG) (tt : TT) (wi2 : TI) (g2 : TG) (tt2 : TT) (te : TE) (n : Nat) (ix : List Nat) (σ : St) (Q : VK) : Prop := ∀ acc, H1 acc = none ->
 ∃ W : Nat -> Nat -> Hp -> Prop, (∃ m, W 0 m (upd H1 acc (.lst []))) /\ ∀ i m H, W i m H ->
  (J.stop i H /\ Q (.ref acc) H) ∨ (J.go i H /\ ∀ x H', J.yld i H x H' -> g x (compSt n ix σ) H' fun σ2 H2 => Wk (compSt n ix σ) σ2 /\ tt σ2 H2 fun b H3 =>
   if b = true then wi2 σ2 H3 fun J2 H4 => InW J2 H4 g2 tt2 te acc σ2 fun H5 => ∃ m', m' < m /\ W (i + 1) m' H5
   else ∃ m', m' < m /\ W (i + 1) m' H3)
noncomputable def tLc2 (wi : TI) (g : TG) (tt : TT) (wi2 : TI) (g2 : TG) (tt2 : TT) (te : TE) (n : Nat) (ix : List Nat) : TE := fun σ H Q => wi σ H fun J H1 => LcW2 J H1 g tt wi2 g2 tt2 te n ix σ Q
section
variable {X : Cx} {elt tg iter tg2 iter2 : Expr} {ifs ifs2 : List Expr} {scope : Scope} {pos : Pos} {wi wi2 : TI} {g g2 : TG} {tt tt2 : TT} {te : TE} {N' : List Str} {n : Nat} {ix : List Nat}
theorem lc_core2 {pins : List (Addr × Obj)} {σ : St} {H2 : Hp} {s2 : Shared} {cl : List (Str × Addr)} {it : Addr} {fp : List Addr} {tn : Nat -> Heap -> Prop} {J : It} {Q : VK} {R : Value -> Addr -> Result -> Shared -> Prop}
  (hc : X.calm = true) (S : CompScope X scope N' n ix)
  (hY : ∀ s₂ H₂ cl C fp, PG (X.comp s₂ H₂ N' scope cl C fp) tg g /\ PTs (X.comp s₂ H₂ N' scope cl C fp) ifs tt /\ PI (X.comp s₂ H₂ N' scope cl C fp) tg2 iter2 wi2 /\ PG (X.comp s₂ H₂ N' scope cl C fp) tg2 g2 /\ PTs (X.comp s₂ H₂ N' scope cl C fp) ifs2 tt2 /\
   PE (X.comp s₂ H₂ N' scope cl C fp) elt te)
  (hs2 : ∀ env x, foldedSetIterable iter2 env x = pure x)
  (I2 : Inv X pins σ H2 s2) (hcl1 : ∀ x c, cl.lookup x = some c -> X.env.cells.lookup x = some c) (hcl2 : ∀ y ∈ scope.names, y.2 = .free -> cl.lookup y.1 = X.env.cells.lookup y.1)
  (T : Turn X.prog X.w X.K tg J fp it tn) (st2 : tn 0 s2.heap) (f2 : ∀ b ∈ fp, FpOk X pins H2 b)
  (hW : LcW2 J H2 g tt wi2 g2 tt2 te n ix σ Q)
  (hR : ∀ acc C s' H' m, s'.heap.Ns C m -> Inv X pins σ H' s' -> H' C = none -> C ≠ X.env.locals -> (C ∈ X.ex ∨ X.s₀.heap.objs.size <= C) -> (∀ x c, X.env.cells.lookup x = some c -> c ≠ C) -> (∀ p ∈ X.pn ++ pins, p.1 ≠ C) -> C ∉ X.fs -> Q (.ref acc) H' -> R (.ref acc) C (.ok .next) s') :
  wpAny (model X.prog X.w) X.A (newList []) (fun acc s₃ => wpAny (model X.prog X.w) X.A (newFunctionEnv scope X.env.globals cl [] X.env.qual none .none (some X.env)) (fun cenv s₄ =>
   codeAny (model X.prog X.w) X.A (.compStart (lc2 elt tg iter ifs tg2 iter2 ifs2 scope pos) 0 (.ref it) acc { cenv with scope := relabel scope X.env }) (R acc cenv.locals) s₄) X.xe s₃) X.xe s2 := by
 refine wpAny_newObj_type (wpAny_newFunctionEnv S.nocell (by intro y hy; simp at hy) (fun h₁ hns₁ hsb₁ => ?_) S.kind)
 dsimp only at hns₁ hsb₁ ⊢
 generalize hH2 : s2.heap.push { cls := .type "list", dict := none, data := .seq ([] : List Value).toArray } = G at hns₁ hsb₁ ⊢
 have hC : G.objs.size = s2.heap.objs.size + 1 := by rw [<- hH2, Heap.size_push]
 have hlt : ∀ b ∈ fp, b < s2.heap.objs.size := fun b hb => by
  obtain ⟨o, e, _⟩ := T.obj _ _ st2 b hb
  exact Heap.lt_size e
 have old : ∀ b o, s2.heap.get? b = some o -> h₁.get? b = some o := fun b o e => hsb₁.extBut b o (by rw [hC]; exact Nat.ne_of_lt (Nat.lt_succ_of_lt (Heap.lt_size e))) (Heap.get?_push_of_some _ (hH2 ▸ Heap.get?_push_of_some _ e))
 have hacc : h₁.get? s2.heap.objs.size = some { cls := .type "list", dict := none, data := .seq ([] : List Value).toArray } := hsb₁.extBut _ _ (by rw [hC]; exact Nat.ne_of_lt (Nat.lt_succ_self _)) (Heap.get?_push_of_some _ (hH2 ▸ Heap.get?_push_size _ rfl))
 obtain ⟨W, ⟨m0, w0⟩, turn⟩ := hW s2.heap.objs.size (I2.hok.fresh (Nat.le_refl _))
 obtain ⟨hYg, hYt, hYi, hYg2, hYt2, hYe⟩ := hY s2 H2 cl G.objs.size fp
 have fpY : ∀ {H' : Hp}, (∀ b ∈ fp, H' b = none) -> ∀ b ∈ fp, FpOk (X.comp s2 H2 N' scope cl G.objs.size fp) [] H' b := fun {H'} hn b hb => by
  obtain ⟨_, q1, q2, q3, q4, q5⟩ := f2 b hb
  refine ⟨hn b hb, ?_, fun z => ?_, .inl hb, fun x c e => q4 x c (hcl1 x c e), fun p hp => absurd (show p ∈ ([] : List (Addr × Obj)) from hp) (by simp)⟩
  ·show b ≠ G.objs.size
   rw [hC]
   exact Nat.ne_of_lt (Nat.lt_succ_of_lt (hlt b hb))
  ·rcases List.mem_cons.mp (I2.stkSub b z) with y | y
   ·exact q1 y
   ·exact q2 y
 have loop : ∀ s₃ : Shared, s₃ = { s2 with heap := h₁, toks := s2.toks + ([] : List (Str × Value)).length } ->
   codeAny (model X.prog X.w) X.A (.compLoop (lc2 elt tg iter ifs tg2 iter2 ifs2 scope pos) 0 (.ref it) (.ref s2.heap.objs.size) (compEnvC scope cl G.objs.size X.env)) (R (.ref s2.heap.objs.size) G.objs.size) s₃ := by
  rintro s₃ rfl
  have I4 := inv_comp (tk := s2.toks + ([] : List (Str × Value)).length) I2 S hcl1 hcl2 f2 hlt (Nat.le_refl _) (by rw [hC]; exact Nat.le_succ _) (by rw [hC]; exact Nat.ne_of_gt (Nat.lt_succ_self _)) old hacc hns₁
  refine compLoop_out (fun x => hs2 _ x) (fun n' s' => ∃ i H', Inv (X.comp s2 H2 N' scope cl G.objs.size fp) [] (compSt n ix σ) H' s' /\ tn i s'.heap /\ (∀ b ∈ fp, H' b = none) /\ W i n' H') ?_ m0
   ⟨0, _, I4, T.keep _ _ _ st2 fun b hb o e => old b o e, fun b hb => ?_, w0⟩
  ·rintro n' s3 ⟨i, H3, I3, st3, fr3, w3⟩
   rcases turn i n' H3 w3 with ⟨stop, q⟩ | ⟨go, step⟩
   ·refine thn (T.done (X.comp s2 H2 N' scope cl G.objs.size fp) rfl rfl rfl hc i [] s3 _ H3 _ I3 (fpY fr3) st3 stop) fun r s4 ⟨hr, I5⟩ => ?_
    subst hr
    obtain ⟨mC, hnC, _⟩ := I5.loc
    have IX : Inv X pins σ H3 s4 := I2.call' I5.os I5.base I5.hok I5.bare fun b hb => by
     obtain ⟨_, q1, q2, q3, q4, q5⟩ := f2 b hb
     exact ⟨q3, q1, q4, q5⟩
    refine hR _ _ s4 H3 mC hnC IX I5.free ?_ (.inr ?_) (fun x c e z => ?_) (fun p hp z => ?_) (I2.nofs (by rw [hC]; exact Nat.le_succ _)) q
    ·rw [hC]
     exact Nat.ne_of_gt (Nat.lt_succ_of_lt I2.lt)
    ·rw [hC]
     exact Nat.le_succ_of_le I2.sz
    ·obtain ⟨v, q⟩ := I2.cell x c e
     rw [hC] at z
     exact absurd z (Nat.ne_of_lt (Nat.lt_succ_of_lt q.lt))
    ·rw [hC] at z
     exact absurd z (Nat.ne_of_lt (Nat.lt_succ_of_lt (Heap.lt_size (I2.pin p hp).1)))
   ·refine thn (T.item (X.comp s2 H2 N' scope cl G.objs.size fp) rfl rfl rfl hc i [] s3 _ H3 _ I3 (fpY fr3) st3 go) fun r s4 ⟨u, hr, h4⟩ => ?_
    subst hr
    refine thn h4 fun _ s5 ⟨x, H5, I5, r5, y5, st5, fr5⟩ => ?_
    have I5' := I5.pinned (fpY fr5) (T.obj _ _ st5)
    refine thn (hYg _ s5 _ H5 x u _ I5' r5 (step x H5 y5)) fun _ s6 ⟨σ6, H6, I6, wk, q6⟩ => ?_
    have back : ∀ {H' : Hp} {s' : Shared}, Inv (X.comp s2 H2 N' scope cl G.objs.size fp) ([] ++ pinsAt fp s5.heap) σ6 H' s' ->
      Inv (X.comp s2 H2 N' scope cl G.objs.size fp) [] (compSt n ix σ) H' s' /\ tn (i + 1) s'.heap /\ ∀ b ∈ fp, H' b = none := fun {H' s'} I7 => by
     refine ⟨I7.unpinned.weak wk.1 wk.2, T.keep _ _ _ st5 fun b hb o e => (I7.pin (b, o) (List.mem_append_right _ (List.mem_append_right _ (mem_pinsAt hb e)))).1, fun b hb => ?_⟩
     obtain ⟨o, e, d⟩ := T.obj _ _ st5 b hb
     exact (I7.pin (b, o) (List.mem_append_right _ (List.mem_append_right _ (mem_pinsAt hb e)))).2.1
    refine thn (hYt _ s6 σ6 H6 _ I6 q6) fun ok s7 ⟨H7, I7, q7⟩ => ?_
    cases ok with
    | false =>
     rw [if_neg Bool.false_ne_true] at q7 ⊢
     obtain ⟨m', hm, w7⟩ := q7
     obtain ⟨b1, b2, b3⟩ := back I7
     exact ⟨m', hm, i + 1, H7, b1, b2, b3, w7⟩
    | true =>
     rw [if_pos rfl] at q7 ⊢
     refine thn (hYi _ s7 σ6 H7 _ I7 q7) fun xv s8 h8 => thn h8 fun itv s9 h9 => ?_
     obtain ⟨it2, fp2, tn2, J2, H9, rfl, I9, T2, st9, f9, V, ⟨m1, v0⟩, turn2⟩ := h9
     have stat2 : ∀ {H' : Hp}, (∀ b ∈ fp2, H' b = none) -> ∀ b ∈ fp2, FpOk (X.comp s2 H2 N' scope cl G.objs.size fp) ([] ++ pinsAt fp s5.heap) H' b := fun hn b hb => ⟨hn b hb, (f9 b hb).2⟩
     have loop2 : codeAny (model X.prog X.w) X.A (.compLoop (lc2 elt tg iter ifs tg2 iter2 ifs2 scope pos) 1 (.ref it2) (.ref s2.heap.objs.size) (compEnvC scope cl G.objs.size X.env))
       (fun r s₇ => r = .ok .next /\ ∃ m, m < n' /\ ∃ i H', Inv (X.comp s2 H2 N' scope cl G.objs.size fp) [] (compSt n ix σ) H' s₇ /\ tn i s₇.heap /\ (∀ b ∈ fp, H' b = none) /\ W i m H') s9 := by
      refine compLoop_in (fun n'' s' => ∃ j H', Inv (X.comp s2 H2 N' scope cl G.objs.size fp) ([] ++ pinsAt fp s5.heap) σ6 H' s' /\ tn2 j s'.heap /\ (∀ b ∈ fp2, H' b = none) /\ V j n'' H') ?_ m1 ⟨0, H9, I9, st9, fun b hb => (f9 b hb).1, v0⟩
      rintro n'' s10 ⟨j, H10, I10, st10, fr10, v10⟩
      rcases turn2 j n'' H10 v10 with ⟨stop2, q10⟩ | ⟨go2, step2⟩
      ·refine thn (T2.done (X.comp s2 H2 N' scope cl G.objs.size fp) rfl rfl rfl hc j _ s10 _ H10 _ I10 (stat2 fr10) st10 stop2) fun r s11 ⟨hr, I11⟩ => ?_
       subst hr
       obtain ⟨m', hm, w10⟩ := q10
       obtain ⟨b1, b2, b3⟩ := back I11
       exact ⟨rfl, m', hm, i + 1, H10, b1, b2, b3, w10⟩
      ·refine thn (T2.item (X.comp s2 H2 N' scope cl G.objs.size fp) rfl rfl rfl hc j _ s10 _ H10 _ I10 (stat2 fr10) st10 go2) fun r s11 ⟨u2, hr, h11⟩ => ?_
       subst hr
       refine thn h11 fun _ s12 ⟨y, H12, I12, r12, y12, st12, fr12⟩ => ?_
       have I12' := I12.pinned (stat2 fr12) (T2.obj _ _ st12)
       refine thn (hYg2 _ s12 _ H12 y u2 _ I12' r12 (step2 y H12 y12)) fun _ s13 ⟨σ13, H13, I13, wk2, q13⟩ => ?_
       have back2 : ∀ {H' : Hp} {s' : Shared}, Inv (X.comp s2 H2 N' scope cl G.objs.size fp) (([] ++ pinsAt fp s5.heap) ++ pinsAt fp2 s12.heap) σ13 H' s' ->
         Inv (X.comp s2 H2 N' scope cl G.objs.size fp) ([] ++ pinsAt fp s5.heap) σ6 H' s' /\ tn2 (j + 1) s'.heap /\ ∀ b ∈ fp2, H' b = none := fun {H' s'} I7 => by
        refine ⟨I7.unpinned.weak wk2.1 wk2.2, T2.keep _ _ _ st12 fun b hb o e => (I7.pin (b, o) (List.mem_append_right _ (List.mem_append_right _ (mem_pinsAt hb e)))).1, fun b hb => ?_⟩
        obtain ⟨o, e, d⟩ := T2.obj _ _ st12 b hb
        exact (I7.pin (b, o) (List.mem_append_right _ (List.mem_append_right _ (mem_pinsAt hb e)))).2.1
       refine thn (hYt2 _ s13 σ13 H13 _ I13 q13) fun ok2 s14 ⟨H14, I14, q14⟩ => ?_
       cases ok2 with
       | false =>
        rw [if_neg Bool.false_ne_true] at q14 ⊢
        obtain ⟨m', hm, v14⟩ := q14
        obtain ⟨b1, b2, b3⟩ := back2 I14
        exact ⟨m', hm, j + 1, H14, b1, b2, b3, v14⟩
       | true =>
        rw [if_pos rfl] at q14 ⊢
        refine thn (hYe _ s14 σ13 H14 _ I14 q14) fun xv s15 ⟨v15, H15, I15, r15, ys, ha, hz, m', hm, w15⟩ => ?_
        refine thn (mt_append _ s15 σ13 H15 (.ref s2.heap.objs.size) [v15] (.ref s2.heap.objs.size) [xv] (fun _ H' => H' = upd H15 s2.heap.objs.size (.lst (ys ++ [v15]))) I15 rfl (.cons r15 .nil) ⟨_, ys, v15, rfl, rfl, ha, hz, rfl⟩) fun _ s16 ⟨_, H16, I16, _, e16⟩ => ?_
        subst e16
        obtain ⟨b1, b2, b3⟩ := back2 I16
        exact ⟨m', hm, j + 1, _, b1, b2, b3, w15⟩
     exact codeAny_compStart_in loop2 (T2.self _ 0 _ _ _ st9 loop2)
  ·rw [upd_ne (Nat.ne_of_lt (hlt b hb))]
   exact (f2 b hb).1
 exact codeAny_compStart_list (loop _ rfl) (T.self _ 0 _ _ _ (T.keep _ _ _ st2 fun b hb o e => old b o e) (loop _ rfl))
end
end L2
namespace L2
open PySem PySem.Spec PyProof.Rows
noncomputable def Itel (K : PySem.W.Frag) (a : Addr) : It :=
 ⟨fun i H => ∃ xs x, SqL K H a xs /\ xs[i]? = some x, fun i H v H' => ∃ t x, H t = none /\ v = .ref t /\ H' = upd H t (.tup [.int i, x]) /\ ∀ xs, SqL K H a xs -> xs[i]? = some x, fun i H => ∃ xs, SqL K H a xs /\ xs.length = i⟩
theorem turn_enumL {P : Program} {w : World} {K : PySem.W.Frag} {els : List Expr} {kx} {tp : Pos} (a e it : Addr) (hne : e ≠ it) : Turn P w K (.Tuple els kx tp) (Itel K a) [e, it] e (fun i h => (∃ old, IsEnum h e it i old) /\ h.IsListIter it a i) where
 mem := by simp
 obj := fun i h st b hb => by
  obtain ⟨⟨old, he⟩, o, ho, hc, hd⟩ := st
  rcases List.mem_cons.mp hb with rfl | hb
  ·exact ⟨_, he, fun v z => by cases z⟩
  ·rw [List.mem_singleton.mp hb]
   exact ⟨o, ho, fun v z => by rw [hd] at z; cases z⟩
 keep := fun i h h' st k => by
  obtain ⟨⟨old, he⟩, o, ho, r⟩ := st
  exact ⟨⟨old, k e (by simp) _ he⟩, o, k it (by simp) _ ho, r⟩
 item := by
  intro X hP hw hK hc i pins s σ H E I hf st hg
  subst hP hw hK
  obtain ⟨xs, x, hq, hx⟩ := hg
  obtain ⟨its, rv, p, hz⟩ := I.list hq
  obtain ⟨u, hu, ru⟩ := rv.get hx
  obtain ⟨⟨old, he⟩, hi⟩ := st
  obtain ⟨o, ho, hcl, hd⟩ := id hi
  have hT : s.heap.IsList a its.toArray := p.isList
  have hai : a ≠ it := fun z => by
   obtain ⟨o', e1, e2, _⟩ := p.isList
   rw [z, ho] at e1; cases e1; rw [hcl] at e2; injection e2 with z2; revert z2; decide
  have hae : e ≠ a := fun z => by
   obtain ⟨o', e1, e2, _⟩ := p.isList
   rw [<- z, he] at e1; cases e1; injection e2 with z2; revert z2; decide
  have hlt : i < its.toArray.size := by
   have := (List.getElem?_eq_some_iff.mp hu).1
   simpa using this
  have hh : X.A.in1.handled = none := I.ok.hd hc
  refine wpAny_pyNext_enum_itemD (Draws.list hh it a hai its.toArray) he ⟨hi, hT⟩ hlt hne (by simp [hne, hae]) fun x' h1 tk hP1 ho1 hs1 hT1 hz1 hk1 => ?_
  have ex : x' = u := by
   have q : its[i]? = some x' := by simpa using hP1
   rw [hu] at q; exact (Option.some.inj q).symm
  subst ex
  refine ⟨_, rfl, wpAny_letOwnedTupleGo_enum ho1 fun h2 he2 hs2 => ?_⟩
  have hne0 : s.heap.objs.size ≠ e := Nat.ne_of_gt (Heap.lt_size he)
  have keep : ∀ b o, b ∉ [e, it] -> s.heap.get? b = some o -> h2.get? b = some o := fun b o hb e0 => (hs2.2 b fun z => hb (by simp [z])).trans (hk1 b o (fun z => hb (by simp [z])) (fun z => hb (by simp [z])) e0)
  refine ⟨.ref s.heap.objs.size, _, I.turnedT (h' := h2) (t' := tk + 1) (xs := [.int i, x]) hf keep (.cons ⟨tk, rfl⟩ (.cons ru .nil)) ⟨_, (hs2.2 _ hne0).trans hT1, rfl, ⟨_, rfl⟩, rfl, rfl⟩ (by show 2 <= sizeLine; decide), rfl, ⟨_, x, I.hok.fresh (Nat.le_refl _), rfl, rfl, fun ys hy => by rw [I.list_inj hy hq]; exact hx⟩, ⟨⟨_, by simpa using he2⟩, ?_⟩, fun b hb => ?_⟩
  ·obtain ⟨⟨o1, e1, r1⟩, _⟩ := hs1
   exact ⟨o1, (hs2.2 it (Ne.symm hne)).trans e1, r1⟩
  ·rcases List.mem_cons.mp hb with rfl | hb'
   ·rw [upd_ne (Nat.ne_of_lt (Heap.lt_size he))]; exact (hf _ hb).1
   ·have e9 := List.mem_singleton.mp hb'
    subst e9
    rw [upd_ne (Nat.ne_of_lt (Heap.lt_size ho))]; exact (hf _ hb).1
 done := by
  intro X hP hw hK hc i pins s σ H E I hf st hg
  subst hP hw hK
  obtain ⟨xs, hq, hx⟩ := hg
  obtain ⟨its, rv, p, hz⟩ := I.list hq
  obtain ⟨⟨old, he⟩, hi⟩ := st
  obtain ⟨o, ho, hcl, hd⟩ := id hi
  have hT : s.heap.IsList a its.toArray := p.isList
  have hai : a ≠ it := fun z => by
   obtain ⟨o', e1, e2, _⟩ := p.isList
   rw [z, ho] at e1; cases e1; rw [hcl] at e2; injection e2 with z2; revert z2; decide
  have hh : X.A.in1.handled = none := I.ok.hd hc
  have hl : its.toArray.size = i := by rw [List.size_toArray, <- rv.length, hx]
  refine wpAny_pyNext_enum_endD (Draws.list hh it a hai its.toArray) he (by rw [hl]; exact ⟨hi, hT⟩) fun h1 hk => ⟨rfl, ?_⟩
  exact I.turnedN (t' := s.toks) hf fun b o hb e0 => hk b o (fun z => hb (by simp [z])) e0
 self := fun _ _ _ _ _ st h => by
  obtain ⟨⟨old, he⟩, _⟩ := st
  exact wpAny_pyIter_enum he h
section
variable {X : Cx}
noncomputable def iEnumL (K : PySem.W.Frag) (ta : TA) : TI := fun σ H R => ta σ H fun vs H1 => ∃ a, vs = [.ref a] /\ (∃ xs, SqL K H1 a xs) /\ R (Itel K a) H1
theorem pi_enumL {els : List Expr} {kx} {tp : Pos} {l : Expr} {ta : TA} {p pos : Pos} (hg : Gl X "enumerate") (hm : X.mg "enumerate" = none) (ha : PA X [l] ta) (hs : starEach [l] X.env = [(false, eval l X.env)] := by rfl) :
  PI X (.Tuple els kx tp) (.Call (.Name "enumerate" p) [l] [] pos) (iEnumL X.K ta) := by
 intro pins s σ H R I h
 refine Call_ (ld_blt I hg hm boot_enumerate (PyProof.Rows.callWith_type1 (thn (ha pos pins s σ H _ I h) fun us s1 ⟨vs, H1, I1, r1, q1⟩ => ?_) hs rfl))
 obtain ⟨a, rfl, ⟨xs, hq⟩, q⟩ := q1
 obtain ⟨u, rfl, ru⟩ := vals1 r1
 cases (show u = Value.ref a from ru)
 obtain ⟨its, rv, p', hz⟩ := I1.list hq
 refine call_enumerate_list p'.isList fun h' he hi hsz hk => wpAny_pyIter_enum he ?_
 have I2 : Inv X pins σ H1 { s1 with heap := h' } := I1.kept (t' := s1.toks) hk
 refine ⟨s1.heap.objs.size + 1, [s1.heap.objs.size + 1, s1.heap.objs.size], _, _, H1, rfl, I2, turn_enumL a _ _ (Nat.ne_of_gt (Nat.lt_succ_self _)), ⟨⟨_, he⟩, hi⟩, fun b hb => ?_, q⟩
 rcases List.mem_cons.mp hb with rfl | hb
 ·exact I1.fpOk (Nat.le_succ _) (I1.hok.fresh (Nat.le_succ _))
 ·rw [List.mem_singleton.mp hb]
  exact I1.fpOk (Nat.le_refl _) (I1.hok.fresh (Nat.le_refl _))
end
end L2
namespace L2
open PySem PySem.Spec PyProof.Rows
noncomputable def pairs2 (xs : List V) (ys : V -> List V) (p : V -> V -> Bool) : List (V × V) := xs.flatMap fun x => ((ys x).filter (p x)).map fun y => (x, y)
theorem lc2_grow {J : It} {Ok : Hp -> Prop} {xs : List V} {wi2 : TI} {tt2 : TT} {te : TE} {ix : List Nat} {σ : L2.St} {H1 : Hp} {Q : VK} (Y : Yields J Ok xs) (ys : V -> List V) (p : V -> V -> Bool) (R : V × V -> V -> Hp -> Prop)
  (small : (pairs2 xs ys p).length < sizeLine) (hR : ∀ xy v H H', SameT H H' -> R xy v H -> R xy v H') (hok : ∀ H, Same H1 H -> Ok H)
  (hin : ∀ x ∈ xs, ∀ H, Same H1 H -> ∀ Rr : It -> Hp -> Prop, (∀ J2 Ok2 H', Same H H' -> Yields J2 Ok2 (ys x) -> (∀ G, SameT H' G -> Same H1 G -> Ok2 G) -> Rr J2 H') -> wi2 (some x :: none :: ix.map fun i => σ.getD i none) H Rr)
  (ht : ∀ x ∈ xs, ∀ y ∈ ys x, ∀ H, Same H1 H -> ∀ Q' : Bool -> Hp -> Prop, Q' (p x y) H -> tt2 (some x :: some y :: ix.map fun i => σ.getD i none) H Q')
  (he : ∀ x ∈ xs, ∀ y ∈ ys x, p x y = true -> ∀ H, Same H1 H -> ∀ Q' : VK, (∀ v H', Same H H' -> R (x, y) v H' -> Q' v H') -> te (some x :: some y :: ix.map fun i => σ.getD i none) H Q')
  (fin : ∀ acc vs H', H1 acc = none -> Same H1 H' -> H' acc = some (.lst vs) -> Paired (fun xy v => R xy v H') (pairs2 xs ys p) vs -> Q (.ref acc) H') :
  LcW2 J H1 (gName 0) tNoTest wi2 (gName 1) tt2 te 2 ix σ Q := by
 intro acc ha
 refine ⟨fun i m H => m = xs.length - i /\ i <= xs.length /\ Same H1 H /\ ∃ vs, H acc = some (.lst vs) /\ Paired (fun xy v => R xy v H) (pairs2 (xs.take i) ys p) vs, ⟨xs.length, by simp, Nat.zero_le _, same_upd ha, [], upd_same, .nil⟩, ?_⟩
 rintro i m H ⟨rfl, hi, sm, vs, hacc, pr⟩
 have o := hok _ sm
 by_cases hlt : i < xs.length
 ·refine .inr ⟨Y.go i _ o hlt, fun x H' y => ?_⟩
  obtain ⟨rfl, hx⟩ := Y.yld i _ x H' o hlt y
  have hmem : x ∈ xs := List.mem_of_getElem? hx
  have htk : pairs2 (xs.take (i + 1)) ys p = pairs2 (xs.take i) ys p ++ ((ys x).filter (p x)).map fun y => (x, y) := by
   unfold pairs2
   rw [List.take_succ, hx]
   simp
  have hle : (pairs2 (xs.take (i + 1)) ys p).length <= (pairs2 xs ys p).length := by
   have e : pairs2 xs ys p = pairs2 (xs.take (i + 1)) ys p ++ pairs2 (xs.drop (i + 1)) ys p := by
    unfold pairs2
    conv => lhs; rw [<- List.take_append_drop (i + 1) xs]
    rw [List.flatMap_append]
   rw [e, List.length_append]
   (first | lia | omega)
  refine ⟨⟨rfl, fun j v e => ?_⟩, ?_⟩
  ·cases j with
   | zero => cases e
   | succ j => exact e
  ·unfold tNoTest
   dsimp only
   rw [if_pos rfl]
   refine hin x hmem _ sm _ fun J2 Ok2 H4 s4 Y2 hok2 => ?_
   refine ⟨fun j m2 G => m2 = (ys x).length - j /\ j <= (ys x).length /\ SameT H4 G /\ Same H1 G /\ ∃ us, G acc = some (.lst us) /\ Paired (fun xy v => R xy v G) (pairs2 (xs.take i) ys p ++ (((ys x).take j).filter (p x)).map fun y => (x, y)) us,
    ⟨(ys x).length, by simp, Nat.zero_le _, fun _ _ e => e, sm.trans s4, vs, s4 _ _ hacc, by simpa using Paired.mapP pr fun xy v r => hR xy v _ _ s4.t r⟩, ?_⟩
   rintro j m2 G ⟨rfl, hj, st, sm5, us, hus, pr5⟩
   have o2 := hok2 G st sm5
   by_cases hjl : j < (ys x).length
   ·refine .inr ⟨Y2.go j _ o2 hjl, fun y G' yy => ?_⟩
    obtain ⟨rfl, hy⟩ := Y2.yld j _ y G' o2 hjl yy
    have hymem : y ∈ ys x := List.mem_of_getElem? hy
    have htk2 : (ys x).take (j + 1) = (ys x).take j ++ [y] := by rw [List.take_succ, hy]; rfl
    refine ⟨⟨rfl, fun k v e => ?_⟩, ?_⟩
    ·cases k with
     | zero => exact e
     | succ k =>
      cases k with
      | zero => cases e
      | succ k => exact e
    ·refine ht x hmem y hymem _ sm5 _ ?_
     cases hp : p x y with
     | false =>
      rw [if_neg Bool.false_ne_true]
      refine ⟨(ys x).length - (j + 1), by (first | lia | omega), rfl, hjl, st, sm5, us, hus, ?_⟩
      rw [htk2, List.filter_append]
      simpa [hp] using pr5
     | true =>
      rw [if_pos rfl]
      refine he x hmem y hymem hp _ sm5 _ fun v G4 t4 r4 => ?_
      have hus4 : G4 acc = some (.lst us) := t4 _ _ hus
      have st6 : SameT G4 (upd G4 acc (.lst (us ++ [v]))) := sameT_lst hus4
      have hlen : us.length < sizeLine := by
       have e1 := Paired.length pr5
       rw [List.length_append, List.length_map] at e1
       have e2 : (((ys x).take j).filter (p x)).length <= ((ys x).filter (p x)).length := by
        conv => rhs; rw [<- List.take_append_drop j (ys x), List.filter_append, List.length_append]
        (first | lia | omega)
       rw [htk, List.length_append, List.length_map] at hle
       (first | lia | omega)
      refine ⟨us, hus4, hlen, (ys x).length - (j + 1), by (first | lia | omega), rfl, hjl, (st.trans t4.t).trans st6, same_updR (sm5.trans t4) ha, us ++ [v], upd_same, ?_⟩
      rw [htk2, List.filter_append, List.map_append, <- List.append_assoc]
      simp only [List.filter_cons, hp, if_true, List.filter_nil, List.map_cons, List.map_nil]
      exact Paired.snoc (Paired.mapP pr5 fun xy v r => hR xy v _ _ (t4.t.trans st6) r) (hR _ _ _ _ st6 r4)
   ·have e : j = (ys x).length := by (first | lia | omega)
    subst e
    refine .inl ⟨Y2.stop _ o2, xs.length - (i + 1), by (first | lia | omega), rfl, hlt, sm5, us, hus, ?_⟩
    rw [List.take_length] at pr5
    rw [htk]
    exact pr5
 ·have e : i = xs.length := by (first | lia | omega)
  subst e
  refine .inl ⟨Y.stop _ o, ?_⟩
  rw [List.take_length] at pr
  exact fin acc vs H ha sm hacc pr
end L2
namespace L2
open PySem PySem.Spec PyProof.Rows
section
variable {X : Cx}
noncomputable def rSlA : V -> Option Int -> Option Int -> Hp -> VK -> Prop := fun x lo hi H Q => ∃ a xs, x = .ref a /\ H a = some (.tup xs) /\ ∀ p H', Same H H' -> H' p = some (.tup (cutV xs lo hi)) -> Q (.ref p) H'
theorem sl_tupA : SlR X rSlA := by
 intro pins s σ H x v vl vu lo hi sl Q I rx hs pl pu h
 obtain ⟨a, xs, rfl, ha, q⟩ := h
 by_cases hw : HT.sIx xs.length 0 lo = 0 /\ HT.sIx xs.length xs.length hi = xs.length
 ·cases rx
  obtain ⟨its, r, ht, hz⟩ := I.tuple (SqT.of (K := X.K) ha)
  have hl : its.toArray.size = xs.length := by rw [List.size_toArray]; exact r.length.symm
  refine ⟨"tuple", _, PyProof.Rows.slot_tuple_getitem.lookup, ht.typeIs, ?_⟩
  refine getItem_tuple_whole ht hs pl pu (by rw [hl]; exact hw) ⟨.ref a, H, I, rfl, q a H (Same.refl H) ?_⟩
  unfold cutV
  rw [hw.1, hw.2, List.drop_zero, Nat.sub_zero, List.take_length]
  exact ha
 ·exact sl_tup pins s σ H _ v vl vu lo hi sl Q I rx hs pl pu ⟨a, xs, rfl, SqT.of ha, hw, fun p hp => q p _ (same_upd hp) upd_same⟩
end
theorem for_enumL {K : PySem.W.Frag} {a : Addr} {xs : List V} {g : TG} {tb : TS} {D : Ends} {σ : L2.St} {H : Hp} (Pv : Nat -> L2.St -> Hp -> Prop) (h0 : Pv 0 σ H) (hl : ∀ i σ H, i <= xs.length -> Pv i σ H -> SqL K H a xs)
  (hs : ∀ i x t σ H, xs[i]? = some x -> Pv i σ H -> H t = none -> g (.ref t) σ (upd H t (.tup [.int i, x])) fun σ2 H2 => tb { D with nx := Pv (i + 1), ct := Pv (i + 1), bk := D.nx } σ2 H2) (hd : ∀ σ H, Pv xs.length σ H -> D.nx σ H) :
  ∃ W : Nat -> Nat -> L2.St -> Hp -> Prop, (∃ m, W 0 m σ H) /\ ∀ i m σ H, W i m σ H ->
   ((Itel K a).stop i H /\ D.nx σ H) ∨ ((Itel K a).go i H /\ ∃ N : L2.St -> Hp -> Prop, (∀ σ' H', N σ' H' -> ∃ m', m' < m /\ W (i + 1) m' σ' H') /\ ∀ x H', (Itel K a).yld i H x H' -> g x σ H' fun σ2 H2 => tb { D with nx := N, ct := N, bk := D.nx } σ2 H2) := by
 refine ⟨fun i m σ H => m = xs.length - i /\ i <= xs.length /\ Pv i σ H, ⟨xs.length, by simp, Nat.zero_le _, h0⟩, ?_⟩
 rintro i m σ H ⟨rfl, hi, p⟩
 have q := hl i σ H hi p
 by_cases hlt : i < xs.length
 ·refine .inr ⟨⟨xs, xs[i], q, by simp [hlt]⟩, Pv (i + 1), fun σ' H' p' => ⟨xs.length - (i + 1), by (first | lia | omega), rfl, hlt, p'⟩, fun x H' y => ?_⟩
  obtain ⟨t, x', ht, rfl, rfl, y⟩ := y
  exact hs i x' t σ _ (y xs q) p ht
 ·have e : i = xs.length := by (first | lia | omega)
  subst e
  exact .inl ⟨⟨xs, q, rfl⟩, hd σ H p⟩
section
variable {X : Cx} {elt tg iter tg2 iter2 : Expr} {ifs ifs2 : List Expr} {scope : Scope} {pos : Pos} {wi wi2 : TI} {g g2 : TG} {tt tt2 : TT} {te : TE} {N' : List Str} {n : Nat} {ix : List Nat}
theorem ps_lcset2 {x : Str} {i : Nat} {pos' spos : Pos} (hsw : swapsWith (.ListComp elt [⟨tg, iter, ifs, 0⟩, ⟨tg2, iter2, ifs2, 0⟩] scope pos) (some (.Name x pos')) spos.line X.env = pure true) (hN : X.N.Nodup) (hi' : X.N[i]? = some x) (hx : X.env.scope.names.lookup x = some .local)
  (hc : X.calm = true) (S : CompScope X scope N' n ix) (hi : PI X tg iter wi)
  (hY : ∀ s₂ H₂ cl C fp, PG (X.comp s₂ H₂ N' scope cl C fp) tg g /\ PTs (X.comp s₂ H₂ N' scope cl C fp) ifs tt /\ PI (X.comp s₂ H₂ N' scope cl C fp) tg2 iter2 wi2 /\ PG (X.comp s₂ H₂ N' scope cl C fp) tg2 g2 /\ PTs (X.comp s₂ H₂ N' scope cl C fp) ifs2 tt2 /\
   PE (X.comp s₂ H₂ N' scope cl C fp) elt te)
  (hs : ∀ x, foldedSetIterable iter X.env x = pure x := by intro _; rfl) (hs2 : ∀ env x, foldedSetIterable iter2 env x = pure x := by intro _ _; rfl) :
  PS X (.Assign [.Name x pos'] (.ListComp elt [⟨tg, iter, ifs, 0⟩, ⟨tg2, iter2, ifs2, 0⟩] scope pos) spos) (tAsg (tLc2 wi g tt wi2 g2 tt2 te n ix) (gName i)) := by
 intro pins s σ H D I h
 obtain ⟨cl, hcl, hcl1, hcl2⟩ := closure_ok (env := X.env) (scope := scope) fun y hy hf => I.ok.has _ (S.free y hy hf)
 rw [exec_Assign_Name_used _ _ _ _ hsw]
 refine wpAny_bind (wpAny_standAt (wpAny_bind ?_))
 show wpAny _ _ (do let _ <- comprehension (.ListComp elt [⟨tg, iter, ifs, 0⟩, ⟨tg2, iter2, ifs2, 0⟩] scope pos) scope X.env _ (newList []) false (eval iter X.env) (some (assign (.Name x pos') X.env))) _ _ s
 refine wpAny_bind (thn (wpAny_comprehension_free (use := some (assign (.Name x pos') X.env)) (Q := fun _ s' => SP X pins D .next s') rfl hs hcl S.kind S.names (thn (hi pins s σ H _ I h) fun v s1 h1 => thn h1 fun itv s2 h2 => ?_)) fun _ s' hq => wpAny_pure (wpAny_pure hq))
 obtain ⟨it, fp, tn, J, H2, rfl, I2, T, st2, f2, hW⟩ := h2
 refine lc_core2 (Q := fun x H1 => gName i x σ H1 D.nx) (R := fun acc C => compPost (model X.prog X.w) X.A X.xe (some (assign (.Name x pos') X.env)) (fun _ s' => SP X pins D .next s') acc C) hc S hY hs2 I2 hcl1 hcl2 T st2 f2 hW ?_
 intro acc C s' H' m hn IX hf hL h1 h2 h3 h4 q
 show wpAny _ _ (assign (.Name x pos') X.env (.ref acc)) _ _ _
 obtain ⟨oC, esC, epC, hoC, hdC, rC⟩ := id hn
 have IP : Inv X (pins ++ [(C, oC)]) σ H' s' := IX.pins_of fun p hp => by
  rcases List.mem_append.mp hp with z | z
  ·exact IX.pin p (List.mem_append_right _ z)
  ·have e : p = (C, oC) := by simpa using z
   subst e
   exact ⟨hoC, hf, hL, h4, fun v z => by rw [hdC] at z; cases z⟩
 refine thn (pg_name hN hi' (.inl hx) (.inr hx) _ s' σ H' (.ref acc) (.ref acc) D.nx IP rfl q) fun _ s'' ⟨σ', H'', I'', q''⟩ => ?_
 obtain ⟨e1, e2, _⟩ := I''.pin (C, oC) (List.mem_append_right _ (List.mem_append_right _ (by simp)))
 refine ⟨m, ⟨oC, esC, epC, e1, hdC, rC⟩, fun h' sb => ⟨σ', H'', ?_, q''⟩⟩
 exact I''.unpinned.turned (t' := s''.toks) (fun b o hb e => sb.extBut b o hb e) e2 hL h1 h2 h3
end
end L2
namespace L2
open PySem PySem.Spec PyProof.Rows
noncomputable def freeO (m : Nat) (b : List Int) : List Int := (num0 m).filter fun x => decide (x ∉ b)
structure Beg (m k : Nat) (b : List Int) : Prop where
 len : b.length = k
 nd : b.Nodup
 rng : ∀ y ∈ b, 0 <= y /\ y < m
 free : (freeO m b).length + k = m
end L2
namespace L2
open PySem PySem.Spec PyProof.Rows
end L2
namespace L2
open PySem PySem.Spec PyProof.Rows
theorem neLL {H : Hp} {a b : Addr} {ns ms : List Int} {Q : VK} (ha : H a = some (.lst (ns.map V.int))) (hb : H b = some (.lst (ms.map V.int))) (e : ns = ms) (h : Q (.bl false) H) : rNeD (.ref a) (.ref b) H Q := by
 refine ⟨_, _, .lst ha (IsAll.ints ns), .lst hb (IsAll.ints ms), shaped_lints ns, shaped_lints ms, ?_⟩
 rw [show PyData.eqv (.list (ns.map PyData.int)) (.list (ms.map PyData.int)) = decide (ns = ms) from eqv_ints ns ms, decide_eq_true e]
 exact h
theorem ints_inj : ∀ {ns ms : List Int}, ns.map V.int = ms.map V.int -> ns = ms
 | [], [], _ => rfl
 | [], _ :: _, h => by cases h
 | _ :: _, [], h => by cases h
 | a :: t, b :: u, h => by
  simp only [List.map_cons, List.cons.injEq] at h
  obtain ⟨h1, h2⟩ := h
  injection h1 with h1
  rw [h1, ints_inj h2]
end L2
namespace L2
open PySem PySem.Spec PyProof.Rows
section
variable {X : Cx}
noncomputable def rMaxL : List V -> Hp -> VK -> Prop := fun xs H Q => ∃ (l : Addr) (ns : List Int), xs = [.ref l] /\ H l = some (.lst (ns.map V.int)) /\ ns ≠ [] /\ ∀ M, M ∈ ns -> (∀ a ∈ ns, a <= M) -> Q (.int M) H
theorem max_of_best {xs : Array (Int × Tok)} {ns : List Int} (hnum : xs.toList.map (·.1) = ns) (hsz : 0 < xs.size) :
  numAt xs (argBest (fun i j => decide (numAt xs i > numAt xs j)) (xs.size - 1)) ∈ ns /\ ∀ a ∈ ns, a <= numAt xs (argBest (fun i j => decide (numAt xs i > numAt xs j)) (xs.size - 1)) := by
 obtain ⟨h1, h2⟩ := argBest_gt (numAt xs) (xs.size - 1)
 subst hnum
 refine ⟨?_, fun a ha => ?_⟩
 ·rw [numAt_eq]; exact getD_mem (by rw [List.length_map, Array.length_toList]; (first | lia | omega))
 ·obtain ⟨j, hj, rfl⟩ := mem_getD ha
  rw [List.length_map, Array.length_toList] at hj
  rw [<- numAt_eq]; exact h2 j (by (first | lia | omega))
theorem call_maxL (hc : X.calm = true) : CallR X (.builtin "max") rMaxL := by
 intro pins s σ H xs us Q I rs h
 obtain ⟨l, ns, rfl, hH, hne, q⟩ := h
 obtain ⟨u, rfl, ru⟩ := vals1 rs
 cases (show u = Value.ref l from ru)
 obtain ⟨z, its, n, r, hl, e⟩ := I.lstM hH
 have hI := intsAre_of r
 obtain ⟨xs, hxs⟩ := hI.allInts.items
 have hnum : xs.toList.map (·.1) = ns := by rw [<- nums_intItems, <- hxs]; exact hI.numsOf
 have hsz : 0 < xs.size := by
  have : ns.length = xs.size := by rw [<- hnum, List.length_map, Array.length_toList]
  have := List.length_pos_iff.mpr hne
  (first | lia | omega)
 obtain ⟨b1, b2⟩ := max_of_best hnum hsz
 refine max_intList (xs := xs) (I.ok.hd hc) (by rw [<- hxs]; exact ⟨_, e, rfl, n, rfl⟩) hsz fun v h' tk hv hk => ?_
 obtain ⟨t, rfl⟩ := intItems_at hv
 exact ⟨.int _, H, I.kept (t' := tk) hk, ⟨_, rfl⟩, q _ b1 b2⟩
end
theorem lc_zip {K : PySem.W.Frag} {a b : Addr} {xs ys : List V} {tt : TT} {te : TE} {ix : List Nat} {σ : L2.St} {H1 : Hp} {Q : VK} (Fx : ∀ {H}, Same H1 H -> SqT K H a xs) (Fy : ∀ {H}, Same H1 H -> SqT K H b ys) (small : (xs.zip ys).length <= 1000) (p : V × V -> Bool) (f : V × V -> V)
  (ht : ∀ xy ∈ xs.zip ys, ∀ H, Same H1 H -> ∀ Q' : Bool -> Hp -> Prop, Q' (p xy) H -> tt (some xy.1 :: some xy.2 :: ix.map fun i => σ.getD i none) H Q')
  (he : ∀ xy ∈ xs.zip ys, p xy = true -> ∀ H, Same H1 H -> ∀ Q' : VK, Q' (f xy) H -> te (some xy.1 :: some xy.2 :: ix.map fun i => σ.getD i none) H Q')
  (fin : ∀ acc H', H1 acc = none -> Same H1 H' -> H' acc = some (.lst (((xs.zip ys).filter p).map f)) -> Q (.ref acc) H') :
  LcW (Itz K a b) H1 (gTup K 2 (gCons (gName 0) (gCons (gName 1) gNil))) tt te 2 ix σ Q := by
 intro acc ha
 refine ⟨fun i m H => m = (xs.zip ys).length - i /\ i <= (xs.zip ys).length /\ Same H1 H /\ H acc = some (.lst ((((xs.zip ys).take i).filter p).map f)), ⟨(xs.zip ys).length, by simp, Nat.zero_le _, same_upd ha, upd_same⟩, ?_⟩
 rintro i m H ⟨rfl, hi, sm, hacc⟩
 by_cases hlt : i < (xs.zip ys).length
 ·have hl2 : i < xs.length /\ i < ys.length := by rw [List.length_zip] at hlt; (first | lia | omega)
  refine .inr ⟨⟨xs, ys, xs[i], ys[i], Fx sm, Fy sm, List.getElem?_eq_getElem hl2.1, List.getElem?_eq_getElem hl2.2⟩, fun v H' y => ?_⟩
  obtain ⟨t, x, y, hn, rfl, rfl, hv⟩ := y
  obtain ⟨e1, e2⟩ := hv xs ys (Fx sm) (Fy sm)
  have ez : (xs.zip ys)[i]? = some (x, y) := by rw [List.getElem?_zip_eq_some]; exact ⟨e1, e2⟩
  have hmem : (x, y) ∈ xs.zip ys := List.mem_of_getElem? ez
  have htk : (xs.zip ys).take (i + 1) = (xs.zip ys).take i ++ [(x, y)] := by rw [List.take_succ, ez]; rfl
  refine ⟨t, _, rfl, SqT.of upd_same, rfl, x, _, rfl, y, _, rfl, rfl, ⟨rfl, fun j v e => ?_⟩, ?_⟩
  ·match j, e with
   | 0, e => cases e
   | 1, e => cases e
   | j + 2, e => exact e
  ·have sm2 := sm.trans (same_upd (o := .tup [x, y]) hn)
   have hacc2 := same_upd (o := .tup [x, y]) hn _ _ hacc
   refine ht (x, y) hmem _ sm2 _ ?_
   cases hp : p (x, y) with
   | false =>
    rw [if_neg Bool.false_ne_true]
    refine ⟨(xs.zip ys).length - (i + 1), by (first | lia | omega), rfl, hlt, sm2, ?_⟩
    rw [htk, List.filter_append]
    simpa [hp] using hacc2
   | true =>
    rw [if_pos rfl]
    refine he (x, y) hmem hp _ sm2 _ ⟨_, hacc2, small1 ?_, (xs.zip ys).length - (i + 1), by (first | lia | omega), rfl, hlt, same_updR sm2 ha, ?_⟩
    ·rw [List.length_map]
     refine Nat.le_trans (List.length_filter_le _ _) ?_
     rw [List.length_take]
     (first | lia | omega)
    ·rw [upd_same, htk, List.filter_append, List.map_append]
     simp [hp]
 ·have e : i = (xs.zip ys).length := by (first | lia | omega)
  subst e
  rw [List.take_length] at hacc
  refine .inl ⟨⟨xs, ys, Fx sm, Fy sm, ?_⟩, fin acc H ha sm hacc⟩
  rw [List.length_zip]
  rcases Nat.le_total xs.length ys.length with h | h
  ·exact .inl (List.getElem?_eq_none (by (first | lia | omega)))
  ·exact .inr (List.getElem?_eq_none (by (first | lia | omega)))
end L2
namespace L2
open PySem PySem.Spec PyProof.Rows
end L2
namespace L2
open PySem PySem.Spec PyProof.Rows
theorem ones_sum (n : Nat) : (List.replicate n (1 : Int)).sum = n := by
 induction n with
 | zero => rfl
 | succ n ih => rw [List.replicate_succ, List.sum_cons, ih]; push_cast; (first | lia | omega)
noncomputable def patO (L : List Int) (x : Int) : List Int := if L.countP (fun a => decide (a < x)) = L.length then L ++ [x] else L.set (L.countP fun a => decide (a < x)) x
noncomputable def patsO (ns : List Int) : List Int := ns.foldl patO []
noncomputable def longestO (ns : List Int) : Int := (patsO ns).length
theorem count_lt {x : Int} : ∀ {L : List Int}, L.Pairwise (· < ·) -> ∀ (j : Nat) a, L[j]? = some a -> (a < x ↔ j < L.countP fun b => decide (b < x))
 | [], _, _, _, h => by simp at h
 | b :: t, pw, j, a, h => by
  obtain ⟨p1, p2⟩ := List.pairwise_cons.mp pw
  rw [List.countP_cons]
  by_cases hb : b < x
  ·simp only [decide_eq_true hb, if_true]
   cases j with
   | zero =>
    have e : b = a := by simpa using h
    subst e
    exact ⟨fun _ => by (first | lia | omega), fun _ => hb⟩
   | succ j =>
    have := count_lt (x := x) p2 j a (by simpa using h)
    rw [this]
    (first | lia | omega)
  ·have h0 : t.countP (fun b => decide (b < x)) = 0 := List.countP_eq_zero.mpr fun c hc => by
    have := p1 c hc
    simp
    (first | lia | omega)
   simp only [decide_eq_false hb, Bool.false_eq_true, if_false, h0]
   refine ⟨fun hax => ?_, fun h => by (first | lia | omega)⟩
   cases j with
   | zero =>
    have e : b = a := by simpa using h
    subst e
    exact absurd hax hb
   | succ j =>
    have hm : a ∈ t := List.mem_of_getElem? (i := j) (by simpa using h)
    have := p1 a hm
    (first | lia | omega)
structure Heaps (ns : List Int) (L : List Int) (es : List Int) : Prop where
 inc : L.Pairwise (· < ·)
 len : es.length = ns.length
 up : ∀ (j : Nat) a, L[j]? = some a -> ∃ k : Nat, ns[k]? = some a /\ es[k]? = some ((j : Int) + 1)
 dn : ∀ (k : Nat) e, es[k]? = some e -> ∃ (j : Nat) (a b : Int), e = (j : Int) + 1 /\ L[j]? = some a /\ ns[k]? = some b /\ a <= b
theorem heaps0 : Heaps [] [] [] := ⟨by simp, rfl, fun j a h => by simp at h, fun k e h => by simp at h⟩
theorem Heaps.best {ns L es : List Int} (Z : Heaps ns L es) {x M : Int} (hM : M = 0 ∨ ∃ (k : Nat) (b : Int), ns[k]? = some b /\ b < x /\ es[k]? = some M) (hle : 0 <= M /\ ∀ (k : Nat) (b e : Int), ns[k]? = some b -> b < x -> es[k]? = some e -> e <= M) :
  M = (L.countP fun a => decide (a < x) : Nat) := by
 have up : M <= (L.countP fun a => decide (a < x) : Nat) := by
  rcases hM with rfl | ⟨k, b, h1, h2, h3⟩
  ·(first | lia | omega)
  ·obtain ⟨j, a, b', e1, e2, e3, e4⟩ := Z.dn k M h3
   rw [h1] at e3
   cases e3
   have := (count_lt (x := x) Z.inc j a e2).mp (by (first | lia | omega))
   (first | lia | omega)
 have dn : ((L.countP fun a => decide (a < x) : Nat) : Int) <= M := by
  cases hc : L.countP fun a => decide (a < x) with
  | zero => (first | lia | omega)
  | succ c =>
   have hlt : c < L.length := by
    have := List.countP_le_length (p := fun a => decide (a < x)) (l := L)
    (first | lia | omega)
   obtain ⟨k, h1, h2⟩ := Z.up c L[c] (List.getElem?_eq_getElem hlt)
   have hx : L[c] < x := (count_lt (x := x) Z.inc c _ (List.getElem?_eq_getElem hlt)).mpr (by (first | lia | omega))
   have := hle.2 k _ _ h1 hx h2
   push_cast
   (first | lia | omega)
 (first | lia | omega)
theorem pw_get {L : List Int} (h : L.Pairwise (· < ·)) {i j : Nat} {a b : Int} (hij : i < j) (hi : L[i]? = some a) (hj : L[j]? = some b) : a < b := by
 obtain ⟨l1, e1⟩ := List.getElem?_eq_some_iff.mp hi
 obtain ⟨l2, e2⟩ := List.getElem?_eq_some_iff.mp hj
 have := List.pairwise_iff_getElem.mp h i j l1 l2 hij
 (first | lia | omega)
theorem Heaps.step {ns L es : List Int} (Z : Heaps ns L es) (x : Int) : Heaps (ns ++ [x]) (patO L x) (es ++ [1 + ((L.countP fun a => decide (a < x) : Nat) : Int)]) := by
 have ln := Z.len
 have keepN : ∀ {k : Nat} {b : Int}, ns[k]? = some b -> (ns ++ [x])[k]? = some b := fun {k b} h => by
  have := (List.getElem?_eq_some_iff.mp h).1
  rw [List.getElem?_append_left this]; exact h
 have keepE : ∀ {k : Nat} {b : Int}, es[k]? = some b -> (es ++ [1 + ((L.countP fun a => decide (a < x) : Nat) : Int)])[k]? = some b := fun {k b} h => by
  have := (List.getElem?_eq_some_iff.mp h).1
  rw [List.getElem?_append_left this]; exact h
 have newN : (ns ++ [x])[ns.length]? = some x := by simp
 have newE : (es ++ [1 + ((L.countP fun a => decide (a < x) : Nat) : Int)])[ns.length]? = some (((L.countP fun a => decide (a < x) : Nat) : Int) + 1) := by
  rw [<- ln]
  simp
  (first | lia | omega)
 have dnE : ∀ (k : Nat) e, (es ++ [1 + ((L.countP fun a => decide (a < x) : Nat) : Int)])[k]? = some e -> es[k]? = some e ∨ (k = ns.length /\ e = ((L.countP fun a => decide (a < x) : Nat) : Int) + 1) := fun k e h => by
  by_cases hk : k < es.length
  ·rw [List.getElem?_append_left hk] at h
   exact .inl h
  ·have hk2 : k = es.length := by
    have := (List.getElem?_eq_some_iff.mp h).1
    rw [List.length_append] at this
    simp at this
    (first | lia | omega)
   subst hk2
   right
   refine ⟨ln, ?_⟩
   simp at h
   (first | lia | omega)
 unfold patO
 by_cases hc : L.countP (fun a => decide (a < x)) = L.length
 ·rw [if_pos hc]
  have all : ∀ a ∈ L, a < x := fun a ha => by simpa using List.countP_eq_length.mp hc a ha
  refine ⟨?_, by simp [ln], fun j a h => ?_, fun k e h => ?_⟩
  ·refine List.pairwise_append.mpr ⟨Z.inc, by simp, fun a ha b hb => ?_⟩
   rw [List.mem_singleton.mp hb]
   exact all a ha
  ·by_cases hj : j < L.length
   ·rw [List.getElem?_append_left hj] at h
    obtain ⟨k, h1, h2⟩ := Z.up j a h
    exact ⟨k, keepN h1, keepE h2⟩
   ·have hj2 : j = L.length := by
     have := (List.getElem?_eq_some_iff.mp h).1
     rw [List.length_append] at this
     simp at this
     (first | lia | omega)
    subst hj2
    have e : x = a := by simpa using h
    subst e
    exact ⟨ns.length, newN, by rw [newE, hc]⟩
  ·rcases dnE k e h with h | ⟨rfl, rfl⟩
   ·obtain ⟨j, a, b, e1, e2, e3, e4⟩ := Z.dn k e h
    have := (List.getElem?_eq_some_iff.mp e2).1
    exact ⟨j, a, b, e1, by rw [List.getElem?_append_left this]; exact e2, keepN e3, e4⟩
   ·exact ⟨L.length, x, x, by rw [hc], by simp, newN, Int.le_refl _⟩
 ·rw [if_neg hc]
  have hlt : L.countP (fun a => decide (a < x)) < L.length := by
   have := List.countP_le_length (p := fun a => decide (a < x)) (l := L)
   (first | lia | omega)
  have hge : x <= L[L.countP fun a => decide (a < x)] := by
   have h1 := count_lt (x := x) Z.inc _ _ (List.getElem?_eq_getElem hlt)
   have h2 : ¬ L[L.countP fun a => decide (a < x)] < x := fun z => Nat.lt_irrefl _ (h1.mp z)
   (first | lia | omega)
  have gset : ∀ (j : Nat) a, (L.set (L.countP fun a => decide (a < x)) x)[j]? = some a -> (j = L.countP (fun a => decide (a < x)) /\ a = x) ∨ (j ≠ L.countP (fun a => decide (a < x)) /\ L[j]? = some a) := fun j a h => by
   by_cases hj : j = L.countP fun a => decide (a < x)
   ·rw [<- hj, List.getElem?_set_self (by (first | lia | omega))] at h
    exact .inl ⟨hj, (Option.some.inj h).symm⟩
   ·rw [List.getElem?_set_ne (Ne.symm hj)] at h
    exact .inr ⟨hj, h⟩
  refine ⟨List.pairwise_iff_getElem.mpr fun i j hi hj hij => ?_, by simp [ln], fun j a h => ?_, fun k e h => ?_⟩
  ·have gi := gset i _ (List.getElem?_eq_getElem hi)
   have gj := gset j _ (List.getElem?_eq_getElem hj)
   rcases gi with ⟨i1, i2⟩ | ⟨i1, i2⟩ <;> rcases gj with ⟨j1, j2⟩ | ⟨j1, j2⟩
   ·(first | lia | omega)
   ·rw [i2]
    have := pw_get Z.inc (i := L.countP fun a => decide (a < x)) (j := j) (by (first | lia | omega)) (List.getElem?_eq_getElem hlt) j2
    (first | lia | omega)
   ·rw [j2]
    exact (count_lt (x := x) Z.inc i _ i2).mpr (by (first | lia | omega))
   ·exact pw_get Z.inc hij i2 j2
  ·rcases gset j a h with ⟨rfl, rfl⟩ | ⟨_, h⟩
   ·exact ⟨ns.length, newN, newE⟩
   ·obtain ⟨k, h1, h2⟩ := Z.up j a h
    exact ⟨k, keepN h1, keepE h2⟩
  ·rcases dnE k e h with h | ⟨rfl, rfl⟩
   ·obtain ⟨j, a, b, e1, e2, e3, e4⟩ := Z.dn k e h
    by_cases hj : j = L.countP fun a => decide (a < x)
    ·refine ⟨j, x, b, e1, by rw [<- hj, List.getElem?_set_self (by (first | lia | omega))], keepN e3, ?_⟩
     have ea : L[L.countP fun a => decide (a < x)] = a := by
      rw [hj, List.getElem?_eq_getElem hlt] at e2
      exact Option.some.inj e2
     (first | lia | omega)
    ·exact ⟨j, a, b, e1, by rw [List.getElem?_set_ne (Ne.symm hj)]; exact e2, keepN e3, e4⟩
   ·exact ⟨_, x, x, rfl, by rw [List.getElem?_set_self (by (first | lia | omega))], newN, Int.le_refl _⟩
theorem Heaps.all {ns L es : List Int} (Z : Heaps ns L es) {M : Int} (h1 : M ∈ (0 : Int) :: es) (h2 : ∀ a ∈ (0 : Int) :: es, a <= M) : M = L.length := by
 have h0 := h2 0 (by simp)
 have up : M <= L.length := by
  rcases List.mem_cons.mp h1 with rfl | h1
  ·(first | lia | omega)
  ·obtain ⟨k, hk⟩ := List.getElem?_of_mem h1
   obtain ⟨j, a, b, e1, e2, _⟩ := Z.dn k M hk
   have := (List.getElem?_eq_some_iff.mp e2).1
   (first | lia | omega)
 have dn : (L.length : Int) <= M := by
  cases hl : L.length with
  | zero => (first | lia | omega)
  | succ c =>
   obtain ⟨k, _, h⟩ := Z.up c L[c] (List.getElem?_eq_getElem (by (first | lia | omega)))
   have := h2 _ (List.mem_cons_of_mem _ (List.mem_of_getElem? h))
   push_cast
   (first | lia | omega)
 (first | lia | omega)
theorem pats_snoc (ns : List Int) (x : Int) : patsO (ns ++ [x]) = patO (patsO ns) x := by simp [patsO, List.foldl_append]
end L2
namespace L2
open PySem PySem.Spec PyProof.Rows
structure CompScopeZ (X : Cx) (scope : Scope) (N' : List Str) (n : Nat) (ix : List Nat) (z : Str) : Prop where
 kind : scope.kind = .function
 onecell : ∀ y ∈ scope.names, y.2 = .cell -> y.1 = z
 nz : ∀ y : Str, (y, NameKind.free) ∈ scope.names -> y ≠ z
 cf : ∀ (a : Addr) (cl : List (Str × Addr)), cellsFrom a scope.names cl = (z, a) :: cl
 pc : ∀ h : Heap, pushCells h scope.names = h.push { cls := .type "cell", data := .cell none }
 names : ∀ y ∈ scope.names, y.2 = .local -> scope.names.lookup y.1 = some .local
 free : ∀ y ∈ scope.names, y.2 = .free -> X.env.scope.names.lookup y.1 = some .cell ∨ X.env.scope.names.lookup y.1 = some .free
 nodup : ∀ y : Str, (y, NameKind.free) ∈ scope.names -> scope.names.lookup y = some .local -> False
 len : N'.length = n + ix.length
 at_ : ∀ (j i : Nat), ix[j]? = some i -> ∃ x, N'[n + j]? = some x /\ X.N[i]? = some x /\ (x, NameKind.free) ∈ scope.names
section
variable {X : Cx} {pins : List (Addr × Obj)} {σ : St} {H : Hp} {s : Shared}
end
section
variable {X : Cx} {elt tg iter : Expr} {ifs : List Expr} {scope : Scope} {pos : Pos} {wi : TI} {g : TG} {tt : TT} {te : TE} {N' : List Str} {n : Nat} {ix : List Nat}
end
end L2
namespace L2
open PySem PySem.Spec PyProof.Rows
mutual
inductive IsK (K : PySem.W.Frag) (H : Hp) : V -> PyData -> Prop
 | non : IsK K H .non .none
 | bl (b : Bool) : IsK K H (.bl b) (.bool b)
 | int (i : Int) : IsK K H (.int i) (.int i)
 | str (x : Str) : IsK K H (.str x) (.str x)
 | tup {a : Addr} {vs : List V} {ds : List PyData} : SqT K H a vs -> IsAllK K H vs ds -> IsK K H (.ref a) (.tuple ds)
 | lst {a : Addr} {vs : List V} {ds : List PyData} : H a = some (.lst vs) -> IsAllK K H vs ds -> IsK K H (.ref a) (.list ds)
inductive IsAllK (K : PySem.W.Frag) (H : Hp) : List V -> List PyData -> Prop
 | nil : IsAllK K H [] []
 | cons {v : V} {vs : List V} {d : PyData} {ds : List PyData} : IsK K H v d -> IsAllK K H vs ds -> IsAllK K H (v :: vs) (d :: ds)
end
section
variable {X : Cx} {pins : List (Addr × Obj)} {σ : St} {H : Hp} {s : Shared}
end
end L2
namespace L2
open PySem PySem.Spec PyProof.Rows
end L2
namespace L2
open PySem PySem.Spec PyProof.Rows
end L2
namespace L2
open PySem PySem.Spec PyProof.Rows
end L2
namespace L2
open PySem PySem.Spec PyProof.Rows
section
variable {X : Cx}
end
end L2
namespace L2
open PySem PySem.Spec PyProof.Rows
end L2
namespace L2
open PySem PySem.Spec PyProof.Rows
end L2
namespace L2
end L2
namespace L2
open PySem PySem.Spec PyProof.Rows
end L2
namespace L2
open PySem PySem.Spec PyProof.Rows
end L2
namespace L2
open PySem PySem.Spec PyProof.Rows
end L2
namespace L2
open PySem PySem.Spec PyProof.Rows
structure TopX (mg : Str -> Option Value) : Prop where
 n_str : mg "str" = none
 n_repr : mg "repr" = none
 n_divmod : mg "divmod" = none
structure TopXK (K : PySem.W.Frag) : Prop where
 k_str : PySem.W.nsIn K mainGlobals "str" = some none
 k_repr : PySem.W.nsIn K mainGlobals "repr" = some none
 k_divmod : PySem.W.nsIn K mainGlobals "divmod" = some none
end L2
namespace L2
open PySem PySem.Spec PyProof.Rows
end L2
namespace L2
open PySem PySem.Spec PyProof.Rows
end L2
namespace L2
open PySem PySem.Spec PyProof.Rows
theorem Paired.append {α β : Type} {F : α -> β -> Prop} : ∀ {l1 l2 : List α} {v1 v2 : List β}, Paired F l1 v1 -> Paired F l2 v2 -> Paired F (l1 ++ l2) (v1 ++ v2)
 | _, _, _, _, .nil, h => h
 | _, _, _, _, .cons r t, h => .cons r (Paired.append t h)
end L2
namespace L2
open PySem PySem.Spec PyProof.Rows
end L2
namespace L2
open PySem PySem.Spec PyProof.Rows
end L2
namespace L2
open PySem PySem.Spec PyProof.Rows
section
variable {κ : Type} [DecidableEq κ]
end
section
variable {P : Program} {w : World} {H : Hp} {h : Heap} {a : Addr}
end
section
variable {X : Cx} {pins : List (Addr × Obj)} {σ : St} {H : Hp} {s : Shared} {a : Addr} {y v : V} {u r : Value} {o : Option V} {A : Around} {E : Value -> Shared -> Prop}
end
section
variable {X : Cx} {pins : List (Addr × Obj)} {σ : St} {H : Hp} {s : Shared} {a : Addr} {kvs : List (Key × V)} {k : Key} {u : Value} {A : Around} {E : Value -> Shared -> Prop}
end
section
variable {X : Cx} {o i e value : Expr} {pos pos' tpos : Pos} {td ty tv : TE}
end
section
variable {X : Cx} {pos : Pos}
end
structure M1 (X : Cx) (o : Expr) (m : Str) (apos : Pos) (e : Expr) (cpos : Pos) : Prop where
 base : attributeBase o m X.env (eval o X.env) = eval o X.env
 few : ((backTo cpos (starEach [e] X.env)).all (fun x => !x.1) && (backToKw cpos (keywordEach [] X.env)).all (fun x => x.1.isSome)
  && decide (([e] : List Expr).length + ([] : List Keyword).length + (if ([] : List Keyword).isEmpty then 0 else 1) < 30)) = true
 line : (apos.endLine == cpos.line) = true
 trees : backTo cpos (starEach [e] X.env) = [(false, eval e X.env)]
structure M2 (X : Cx) (o : Expr) (m : Str) (apos : Pos) (e f : Expr) (cpos : Pos) : Prop where
 base : attributeBase o m X.env (eval o X.env) = eval o X.env
 few : ((backTo cpos (starEach [e, f] X.env)).all (fun x => !x.1) && (backToKw cpos (keywordEach [] X.env)).all (fun x => x.1.isSome)
  && decide (([e, f] : List Expr).length + ([] : List Keyword).length + (if ([] : List Keyword).isEmpty then 0 else 1) < 30)) = true
 line : (apos.endLine == cpos.line) = true
 trees : backTo cpos (starEach [e, f] X.env) = [(false, eval e X.env), (false, eval f X.env)]
section
variable {X : Cx} {pins : List (Addr × Obj)} {σ : St} {H : Hp} {s : Shared} {a : Addr} {y d : V} {u r : Value} {o : Option V} {A : Around} {E : Value -> Shared -> Prop}
end
section
variable {X : Cx} {o e f : Expr} {apos cpos : Pos} {td ty tx : TE}
end
section
variable {X : Cx} {pins : List (Addr × Obj)} {σ : St} {H : Hp} {s : Shared} {a : Addr} {kvs : List (Key × V)} {A : Around} {E : Value -> Shared -> Prop}
end
section
variable {X : Cx} {pins : List (Addr × Obj)} {σ : St} {H : Hp} {s : Shared} {a : Addr} {y : V} {u : Value} {A : Around} {E : Value -> Shared -> Prop}
end
end L2
namespace L2
open PySem PySem.Spec PyProof.Rows
noncomputable def kD : Key -> PyData
 | .inl i => .int i
 | .inr x => .str x
mutual
inductive IsY (S : Addr -> Prop) (H : Hp) : V -> PyData -> Prop
 | non : IsY S H .non .none
 | bl (b : Bool) : IsY S H (.bl b) (.bool b)
 | int (i : Int) : IsY S H (.int i) (.int i)
 | str (x : Str) : IsY S H (.str x) (.str x)
 | tup {a : Addr} {vs : List V} {ds : List PyData} : H a = some (.tup vs) -> IsAllY S H vs ds -> IsY S H (.ref a) (.tuple ds)
 | lst {a : Addr} {vs : List V} {ds : List PyData} : H a = some (.lst vs) -> S a -> IsAllY S H vs ds -> IsY S H (.ref a) (.list ds)
 | d0 {a : Addr} : H a = some (.dK []) -> IsY S H (.ref a) (.dict [])
 | d1 {a : Addr} {k : Key} {v : V} {d : PyData} : H a = some (.dK [(k, v)]) -> IsY S H v d -> IsY S H (.ref a) (.dict [(kD k, d)])
inductive IsAllY (S : Addr -> Prop) (H : Hp) : List V -> List PyData -> Prop
 | nil : IsAllY S H [] []
 | cons {v : V} {vs : List V} {d : PyData} {ds : List PyData} : IsY S H v d -> IsAllY S H vs ds -> IsAllY S H (v :: vs) (d :: ds)
end
noncomputable def tyD : PyData -> String
 | .none => "NoneType" | .bool _ => "bool" | .int _ => "int" | .str _ => "str" | .list _ => "list" | .tuple _ => "tuple" | .dict _ => "dict"
noncomputable def kinds7 : List String := ["NoneType", "bool", "int", "str", "list", "tuple", "dict"]
theorem tyD_in (d : PyData) : tyD d ∈ kinds7 := by cases d <;> simp [tyD, kinds7]
theorem IsY.ty {K : PySem.W.Frag} {S : Addr -> Prop} {H : Hp} {v : V} {d : PyData} (h : IsY S H v d) : TyOf K H v (.type (tyD d)) := by
 cases h with
 | non => exact .non
 | bl b => exact .bl b
 | int i => exact .int i
 | str x => exact .str x
 | tup e _ => exact .tup e
 | lst e _ _ => exact .lst e
 | d0 e => exact .dK e
 | d1 e _ => exact .dK e
theorem kit7 {K : PySem.W.Frag} {t : String} (h : t ∈ kinds7) :
  PySem.W.kitOne K (.type t) (.type "int") = some (t == "bool" || t == "int") /\ PySem.W.kitOne K (.type t) (.type "bool") = some (t == "bool") /\ PySem.W.kitOne K (.type t) (.type "tuple") = some (t == "tuple") := by
 have : t = "NoneType" ∨ t = "bool" ∨ t = "int" ∨ t = "str" ∨ t = "list" ∨ t = "tuple" ∨ t = "dict" := by simpa [kinds7] using h
 rcases this with rfl | rfl | rfl | rfl | rfl | rfl | rfl <;> exact ⟨kit_tt (by decide +kernel), kit_tt (by decide +kernel), kit_tt (by decide +kernel)⟩
mutual
theorem IsY.map {S S' : Addr -> Prop} {H H' : Hp} (hS : ∀ a, S a -> S' a) (ht : ∀ a xs, H a = some (.tup xs) -> H' a = some (.tup xs)) (hl : ∀ a xs, S a -> H a = some (.lst xs) -> H' a = some (.lst xs)) (hd : ∀ a xs, H a = some (.dK xs) -> H' a = some (.dK xs)) : ∀ {v : V} {d : PyData}, IsY S H v d -> IsY S' H' v d
 | _, _, .non => .non
 | _, _, .bl b => .bl b
 | _, _, .int i => .int i
 | _, _, .str x => .str x
 | _, _, .tup e al => .tup (ht _ _ e) (IsAllY.map hS ht hl hd al)
 | _, _, .lst e s al => .lst (hl _ _ s e) (hS _ s) (IsAllY.map hS ht hl hd al)
 | _, _, .d0 e => .d0 (hd _ _ e)
 | _, _, .d1 e al => .d1 (hd _ _ e) (IsY.map hS ht hl hd al)
theorem IsAllY.map {S S' : Addr -> Prop} {H H' : Hp} (hS : ∀ a, S a -> S' a) (ht : ∀ a xs, H a = some (.tup xs) -> H' a = some (.tup xs)) (hl : ∀ a xs, S a -> H a = some (.lst xs) -> H' a = some (.lst xs)) (hd : ∀ a xs, H a = some (.dK xs) -> H' a = some (.dK xs)) : ∀ {vs : List V} {ds : List PyData}, IsAllY S H vs ds -> IsAllY S' H' vs ds
 | _, _, .nil => .nil
 | _, _, .cons h t => .cons (IsY.map hS ht hl hd h) (IsAllY.map hS ht hl hd t)
end
theorem IsY.same {S : Addr -> Prop} {H H' : Hp} (s : Same H H') {v : V} {d : PyData} (h : IsY S H v d) : IsY S H' v d := IsY.map (fun _ z => z) (fun a _ => s a _) (fun a _ _ => s a _) (fun a _ => s a _) h
theorem IsAllY.same {S : Addr -> Prop} {H H' : Hp} (s : Same H H') {v : List V} {d : List PyData} (h : IsAllY S H v d) : IsAllY S H' v d := IsAllY.map (fun _ z => z) (fun a _ => s a _) (fun a _ _ => s a _) (fun a _ => s a _) h
theorem IsAllY.ints {S : Addr -> Prop} {H : Hp} : ∀ ns : List Int, IsAllY S H (ns.map V.int) (ns.map PyData.int)
 | [] => .nil
 | n :: r => .cons (.int n) (IsAllY.ints r)
theorem IsY.intT {S : Addr -> Prop} {H : Hp} {a : Addr} {ns : List Int} (h : H a = some (.tup (ns.map V.int))) : IsY S H (.ref a) (.tuple (ns.map PyData.int)) := .tup h (IsAllY.ints ns)
theorem IsAllY.len {S : Addr -> Prop} {H : Hp} : ∀ {v : List V} {d : List PyData}, IsAllY S H v d -> v.length = d.length
 | _, _, .nil => rfl
 | _, _, .cons _ t => by rw [List.length_cons, List.length_cons, IsAllY.len t]
theorem IsAllY.at {S : Addr -> Prop} {H : Hp} : ∀ {v : List V} {d : List PyData} {i : Nat} {x : V}, IsAllY S H v d -> v[i]? = some x -> ∃ e, d[i]? = some e /\ IsY S H x e
 | _, _, _, _, .nil, h => by simp at h
 | _, _, 0, _, .cons a _, h => by
  simp at h
  subst h
  exact ⟨_, rfl, a⟩
 | _, _, i + 1, _, .cons _ t, h => by
  obtain ⟨e, h1, h2⟩ := IsAllY.at (i := i) t (by simpa using h)
  exact ⟨e, by simpa using h1, h2⟩
section
variable {X : Cx} {pins : List (Addr × Obj)} {σ : St} {H : Hp} {s : Shared}
end
noncomputable def tD1 (k1 : Str) (t1 : TE) : TE := fun σ H Q => ∀ d, H d = none -> t1 σ (upd H d (.dK [])) fun v1 H1 => H1 d = some (.dK []) /\ Q (.ref d) (upd H1 d (.dK [(.inr k1, v1)]))
end L2
namespace L2
open PySem PySem.Spec PyProof.Rows
end L2
namespace L2
open PySem PySem.Spec PyProof.Rows
end L2
namespace L2
open PySem PySem.Spec PyProof.Rows
end L2
namespace L2
open PySem PySem.Spec PyProof.Rows
theorem op_isnot_bl {X : Cx} : OpR X (compareOp .IsNot) (fun x y H Q => ∃ a b, x = .bl a /\ y = .bl b /\ Q (.bl (!(a == b))) H) := by
 intro pins s σ H x y v u Q I rx ry h
 obtain ⟨a, b, rfl, rfl, q⟩ := h
 cases (show v = Value.bool a from rx)
 cases (show u = Value.bool b from ry)
 refine wpAny_pure ⟨.bl (!(a == b)), H, I, ?_, q⟩
 show Value.bool _ = Value.bool _
 cases a <;> cases b <;> rfl
end L2
namespace L2
open PySem PySem.Spec PyProof.Rows
end L2
namespace L2
open PySem PySem.Spec PyProof.Rows
end L2
namespace L2
open PySem PySem.Spec PyProof.Rows
open Classical in
noncomputable def Kn (K : PySem.W.Frag) (H : Hp) (y : V) : Prop := ∃ t : String, TyOf K H y (.type t) /\ t ∈ kinds7
theorem IsY.kn {K : PySem.W.Frag} {S : Addr -> Prop} {H : Hp} {x : V} {d : PyData} (h : IsY S H x d) : Kn K H x := ⟨_, h.ty, tyD_in d⟩
theorem tyI {K : PySem.W.Frag} {H : Hp} {y : V} {t : String} (h : TyOf K H y (.type t)) : t = "int" ↔ ∃ n : Int, y = .int n := by
 cases h <;> simp
noncomputable def isIv : V -> Bool
 | .int _ => true
 | _ => false
noncomputable def spWhA (K : PySem.W.Frag) : Sp := fun vs H Q _ => ∃ x, vs = [x] /\ Kn K H x /\ Q (.bl (isIv x)) H
theorem isIv_iff {y : V} : isIv y = true ↔ ∃ n : Int, y = .int n := by
 cases y <;> simp [isIv]
theorem lc_growB {J : It} {Ok : Hp -> Prop} {xs : List V} {te : TE} {ix : List Nat} {σ : L2.St} {H1 : Hp} {Q : VK} (Y : Yields J Ok xs) (small : xs.length < sizeLine) (g : V -> Bool) (hok : ∀ H, Same H1 H -> Ok H)
  (he : ∀ x ∈ xs, ∀ H, Same H1 H -> ∀ Q' : VK, (∀ H', Same H H' -> Q' (.bl (g x)) H') -> te (some x :: ix.map fun i => σ.getD i none) H Q')
  (fin : ∀ acc H', H1 acc = none -> Same H1 H' -> H' acc = some (.lst ((xs.map g).map V.bl)) -> Q (.ref acc) H') : LcW J H1 (gName 0) tNoTest te 1 ix σ Q := by
 refine lc_grow Y small (fun x v _ => v = .bl (g x)) (fun _ _ _ _ _ h => h) hok (fun x hx H' s' Q' q => he x hx H' s' Q' fun H2 s2 => q _ H2 s2 rfl) fun acc ys H' hacc sm hys pr => ?_
 have e : ys = (xs.map g).map V.bl := by
  clear hys he fin small Y hok
  induction pr with
  | nil => rfl
  | cons r _ ih => rw [r, ih]; rfl
 rw [e] at hys
 exact fin acc H' hacc sm hys
end L2
namespace L2
open PySem PySem.Spec PyProof.Rows
noncomputable def lit : Nat -> Expr -> Option PyData
 | 0, _ => none
 | _ + 1, .Constant .none _ _ => some .none
 | _ + 1, .Constant (.bool b) _ _ => some (.bool b)
 | _ + 1, .Constant (.int i) _ _ => some (.int i)
 | _ + 1, .Constant (.str x) _ _ => some (.str x)
 | _ + 1, .UnaryOp .USub (.Constant (.int i) _ _) _ => some (.int (-i))
 | n + 1, .Tuple es _ _ => if es.length <= 100 then (es.mapM (lit n)).map PyData.tuple else none
 | n + 1, .List es _ => if es.length <= 100 then (es.mapM (lit n)).map PyData.list else none
 | _ + 1, .Dict [] [] _ => some (.dict [])
 | _ + 1, _ => none
end L2
namespace L2
open PySem PySem.Spec PyProof.Rows
theorem lc_growI {J : It} {Ok : Hp -> Prop} {xs : List V} {te : TE} {ix : List Nat} {σ : L2.St} {H1 : Hp} {Q : VK} (Y : Yields J Ok xs) (small : xs.length < sizeLine) (bs : List Bool) (hbs : bs.length = xs.length) (hok : ∀ H, Same H1 H -> Ok H)
  (he : ∀ (i : Nat) (x : V) (b : Bool) (H : Hp), xs[i]? = some x -> bs[i]? = some b -> Same H1 H -> ∀ (QT : VK), (∀ H', Same H H' -> QT (.bl b) H') -> te (some x :: ix.map fun i => σ.getD i none) H QT)
  (fin : ∀ acc H', H1 acc = none -> Same H1 H' -> H' acc = some (.lst (bs.map V.bl)) -> Q (.ref acc) H') :
  LcW J H1 (gName 0) tNoTest te 1 ix σ Q := by
 intro acc ha
 refine ⟨fun i m H => m = xs.length - i /\ i <= xs.length /\ Same H1 H /\ H acc = some (.lst ((bs.take i).map V.bl)), ⟨xs.length, by simp, Nat.zero_le _, same_upd ha, upd_same⟩, ?_⟩
 rintro i m H ⟨rfl, hi, sm, hacc⟩
 have o := hok _ sm
 by_cases hlt : i < xs.length
 ·refine .inr ⟨Y.go i _ o hlt, fun x H' y => ?_⟩
  obtain ⟨rfl, hx⟩ := Y.yld i _ x H' o hlt y
  refine ⟨⟨rfl, fun j v e => ?_⟩, ?_⟩
  ·cases j with
   | zero => cases e
   | succ j => exact e
  ·unfold tNoTest
   dsimp only
   rw [if_pos rfl]
   have hb : bs[i]? = some bs[i] := List.getElem?_eq_getElem (by (first | lia | omega))
   refine he i x bs[i] H' hx hb sm _ (fun H4 s4 => ?_)
   have h4 := s4 _ _ hacc
   refine ⟨_, h4, by rw [List.length_map, List.length_take]; (first | lia | omega), xs.length - (i + 1), by (first | lia | omega), rfl, hlt, fun b o' hb' => ?_, ?_⟩
   ·have hba : b ≠ acc := fun e => by rw [e, ha] at hb'; cases hb'
    rw [upd_ne hba]
    exact s4 b _ (sm b _ hb')
   ·rw [upd_same, List.take_succ, hb, List.map_append]
    rfl
 ·have e : i = xs.length := by (first | lia | omega)
  subst e
  rw [<- hbs, List.take_length] at hacc
  exact .inl ⟨Y.stop _ o, fin acc H ha sm hacc⟩
noncomputable def whD : PyData -> Bool
 | .int _ => true
 | _ => false
noncomputable def wholesD : PyData -> Bool
 | .tuple ds => ds.all whD
 | _ => false
noncomputable def risL : List Int -> Bool
 | a :: b :: r => decide (a < b) && risL (b :: r)
 | _ => true
noncomputable def asI : PyData -> Int
 | .int n => n
 | _ => 0
theorem ints_of {S : Addr -> Prop} {H : Hp} : ∀ {vs : List V} {ds : List PyData}, IsAllY S H vs ds -> ds.all whD = true -> vs = (ds.map asI).map V.int
 | _, _, .nil, _ => rfl
 | _, _, .cons (d := d) h t, a => by
  rw [List.all_cons, Bool.and_eq_true] at a
  rw [ints_of t a.2]
  cases h with
  | int i => rfl
  | _ => cases a.1
noncomputable def Sz (n : Nat) (d : PyData) : Prop := d.bulk <= n
theorem bulk_lenY : ∀ ds : List PyData, ds.length <= PyData.bulkAll ds
 | [] => Nat.zero_le _
 | d :: r => by
  have := bulk_lenY r
  simp only [PyData.bulkAll, List.length_cons]; (first | lia | omega)
theorem Sz.tup {n : Nat} {ds : List PyData} (h : Sz n (.tuple ds)) : ds.length <= n /\ ∀ d ∈ ds, Sz n d := by
 have h : PyData.bulkAll ds <= n := by simpa only [Sz, PyData.bulk] using h
 induction ds with
 | nil => exact ⟨Nat.zero_le _, fun _ h => by cases h⟩
 | cons d r ih =>
  simp only [PyData.bulkAll] at h
  have := ih (by simpa only [Sz, PyData.bulk] using (by (first | lia | omega) : PyData.bulkAll r <= n)) (by (first | lia | omega))
  have hl := bulk_lenY r
  refine ⟨by rw [List.length_cons]; (first | lia | omega), fun e he => ?_⟩
  rcases List.mem_cons.mp he with rfl | he
  ·show e.bulk <= n
   (first | lia | omega)
  ·exact this.2 e he
noncomputable def spWhsD : Sp := fun vs H Q _ => ∃ S x d, vs = [x] /\ IsY S H x d /\ Sz 1000 d /\ ∀ H', Same H H' -> Q (.bl (wholesD d)) H'
noncomputable def spRisL : Sp := fun vs H Q _ => ∃ (a : Addr) (ns : List Int), vs = [.ref a] /\ H a = some (.tup (ns.map V.int)) /\ ns.length <= 1000 /\ ∀ H', Same H H' -> Q (.bl (risL ns)) H'
theorem IsY.isT {S : Addr -> Prop} {H : Hp} {x : V} {d : PyData} (h : IsY S H x d) : (∃ a vs ds, x = .ref a /\ d = .tuple ds /\ H a = some (.tup vs) /\ IsAllY S H vs ds) ∨ (tyD d ≠ "tuple" /\ ∀ ds, d ≠ .tuple ds) := by
 cases h with
 | tup e al => exact .inl ⟨_, _, _, rfl, rfl, e, al⟩
 | _ => exact .inr ⟨(by simp [tyD]), fun _ => (by intro z; cases z)⟩
theorem cut_tailY (ns : List Int) : cutV (ns.map V.int) (some 1) none = (ns.drop 1).map V.int := by
 unfold cutV
 rw [show (1 : Int) = ((1 : Nat) : Int) from rfl, HT.sIx_nat, HT.sIx_none, mapI_len]
 cases ns with
 | nil => rfl
 | cons x t =>
  rw [Nat.min_eq_left (by simp), List.map_drop, List.take_of_length_le (by simp)]
noncomputable def ltP : V × V -> Bool
 | (.int a, .int b) => decide (a < b)
 | _ => false
theorem risL_zip : ∀ ns : List Int, (((ns.map V.int).zip ((ns.drop 1).map V.int)).map ltP).all id = risL ns
 | [] => rfl
 | [_] => rfl
 | a :: b :: r => by
  have := risL_zip (b :: r)
  simp only [List.drop_succ_cons, List.drop_zero, List.map_cons, List.zip_cons_cons, List.all_cons, risL, id] at this ⊢
  rw [this]
  rfl
theorem call_len_seqKY {X : Cx} (K : PySem.W.Frag) (hK : X.K = K) : CallR X (.builtin "len") (fun xs H Q => ∃ p ys, xs = [.ref p] /\ (SqL K H p ys ∨ SqT K H p ys) /\ Q (.int ys.length) H) := hK ▸ call_len_seq
end L2
namespace Srt
open PySem PyProof.Rows
noncomputable def gallop' : Bool -> Keyed -> Array Keyed -> Nat -> Nat -> Nat -> StateT SortSt Sem (Option Nat) := sortPriv% PySem.Builtin.gallop
section
variable {M : Model} {A : Around} {E : Value -> Shared -> Prop} {s : Shared}
noncomputable def Looks (M : Model) (A : Around) (E : Value -> Shared -> Prop) (s : Shared) (st : SortSt) (left : Bool) (key : Keyed) (arr : Array Keyed) (base n : Nat) (B : Nat -> Bool) : Prop :=
 ∀ (i : Nat) (Q : Option Bool -> SortSt -> Prop), i < n -> Q (some (B i)) st -> wpS M A E s (elem' arr (base + i) >>= fun x => if left = true then lt' x key else lt' key x >>= fun o => pure (Option.map not o)) Q st
theorem wpS_gallop {st : SortSt} {left : Bool} {key : Keyed} {arr : Array Keyed} {base n hint : Nat} {B : Nat -> Bool} {Q : Option Nat -> SortSt -> Prop} (hB : Looks M A E s st left key arr base n B) (hm : ∀ i j, i <= j -> j < n -> B j = true -> B i = true) (hh : hint < n)
  (h : ∀ k, k <= n -> (∀ i, i < k -> B i = true) -> (∀ i, k <= i -> i < n -> B i = false) -> Q (some k) st) : wpS M A E s (gallop' left key arr base n hint) Q st := by
 unfold gallop'
 refine wpS_bind (hB hint _ hh ?_)
 dsimp only
 cases hb0 : B hint with
 | true =>
  rw [if_pos rfl]
  refine wpS_bind (wpS_mono (wpS_forRange (I := fun x c st' => st' = st /\ ∃ la ofs, c = (none, la, ofs) /\ la < ofs /\ la < n - hint /\ x + 1 <= ofs /\ B (hint + la) = true)
   (Q := fun c st' => st' = st /\ ∃ la ofs, c = (none, la, ofs) /\ la < ofs /\ la < n - hint /\ B (hint + la) = true /\ (n - hint <= ofs ∨ B (hint + ofs) = false)) ?step ?fin ⟨rfl, 0, 1, rfl, by (first | lia | omega), by (first | lia | omega), by (first | lia | omega), hb0⟩) ?post)
  case fin =>
   rintro c st' ⟨rfl, la, ofs, rfl, a, b, d, e⟩
   rw [Nat.max_eq_right (Nat.zero_le _)] at d
   exact ⟨rfl, la, ofs, rfl, a, b, e, .inl (by (first | lia | omega))⟩
  case step =>
   rintro x c st' _ hx ⟨rfl, la, ofs, rfl, a, b, d, e⟩
   dsimp only
   by_cases hge : ofs ≥ n - hint
   ·rw [if_pos hge]
    exact wpS_pure ⟨rfl, la, ofs, rfl, a, b, e, .inl hge⟩
   ·rw [if_neg hge]
    refine wpS_bind (hB (hint + ofs) _ (by (first | lia | omega)) ?_)
    dsimp only
    cases hb : B (hint + ofs) with
    | true =>
     rw [if_neg (by decide)]
     exact wpS_pure ⟨rfl, _, _, rfl, by (first | lia | omega), by (first | lia | omega), by (first | lia | omega), hb⟩
    | false =>
     rw [if_pos (show (!false) = true from rfl)]
     exact wpS_pure ⟨rfl, la, ofs, rfl, a, b, e, .inr hb⟩
  case post =>
   rintro c st' ⟨rfl, la, ofs, rfl, a, b, e, hor⟩
   dsimp only
   have h1 : hint + la + 1 <= hint + min ofs (n - hint) := by (first | lia | omega)
   have h2 : hint + min ofs (n - hint) <= n := by (first | lia | omega)
   have hl : ∀ i, i < hint + la + 1 -> B i = true := fun i hi => hm i (hint + la) (by (first | lia | omega)) (by (first | lia | omega)) e
   have hr : ∀ i, hint + min ofs (n - hint) <= i -> i < n -> B i = false := fun i h1 h2 => by
    rcases hor with ho | ho
    ·(first | lia | omega)
    ·cases hi2 : B i with
     | false => rfl
     | true =>
      by_cases hlt : ofs < n - hint
      ·rw [hm (hint + ofs) i (by (first | lia | omega)) h2 hi2] at ho; cases ho
      ·(first | lia | omega)
   generalize hint + la + 1 = lo0 at h1 hl ⊢
   generalize hint + min ofs (n - hint) = hi0 at h1 h2 hr ⊢
   refine wpS_bind (wpS_mono (wpS_forRange (I := fun x c st'' => st'' = st' /\ ∃ lo hi, c = (none, lo, hi) /\ lo <= hi /\ hi <= n /\ hi - lo <= n - x /\ (∀ i, i < lo -> B i = true) /\ ∀ i, hi <= i -> i < n -> B i = false)
    (Q := fun c st'' => st'' = st' /\ ∃ lo hi, c = (none, lo, hi) /\ lo = hi /\ hi <= n /\ (∀ i, i < lo -> B i = true) /\ ∀ i, hi <= i -> i < n -> B i = false) ?step ?fin ⟨rfl, lo0, hi0, rfl, h1, h2, by (first | lia | omega), hl, hr⟩) ?post)
   case fin =>
    rintro c st'' ⟨rfl, lo, hi, rfl, a, b, d, e, f⟩
    rw [Nat.max_eq_right (Nat.zero_le _)] at d
    exact ⟨rfl, lo, hi, rfl, by (first | lia | omega), b, e, f⟩
   case step =>
    rintro x c st'' _ hx ⟨rfl, lo, hi, rfl, a, b, d, e, f⟩
    dsimp only
    by_cases hge : lo ≥ hi
    ·rw [if_pos hge]
     exact wpS_pure ⟨rfl, lo, hi, rfl, by (first | lia | omega), b, e, f⟩
    ·rw [if_neg hge]
     refine wpS_bind (hB (lo + (hi - lo) / 2) _ (by (first | lia | omega)) ?_)
     dsimp only
     cases hb : B (lo + (hi - lo) / 2) with
     | true =>
      rw [if_pos rfl]
      exact wpS_pure ⟨rfl, _, _, rfl, by (first | lia | omega), b, by (first | lia | omega), fun i hi' => hm i _ (by (first | lia | omega)) (by (first | lia | omega)) hb, f⟩
     | false =>
      rw [if_neg (by decide)]
      refine wpS_pure ⟨rfl, _, _, rfl, by (first | lia | omega), by (first | lia | omega), by (first | lia | omega), e, fun i h1 h2 => ?_⟩
      cases hi2 : B i with
      | false => rfl
      | true => rw [hm _ i h1 h2 hi2] at hb; cases hb
   case post =>
    rintro c st'' ⟨rfl, lo, hi, rfl, rfl, b, e, f⟩
    dsimp only
    exact wpS_pure (h lo b e f)
 | false =>
  rw [if_neg (by decide)]
  refine wpS_bind (wpS_mono (wpS_forRange (I := fun x c st' => st' = st /\ ∃ la ofs, c = (none, la, ofs) /\ la < ofs /\ la <= hint /\ x + 1 <= ofs /\ B (hint - la) = false)
   (Q := fun c st' => st' = st /\ ∃ la ofs, c = (none, la, ofs) /\ la < ofs /\ la <= hint /\ B (hint - la) = false /\ (hint + 1 <= ofs ∨ B (hint - ofs) = true)) ?step ?fin ⟨rfl, 0, 1, rfl, by (first | lia | omega), by (first | lia | omega), by (first | lia | omega), hb0⟩) ?post)
  case fin =>
   rintro c st' ⟨rfl, la, ofs, rfl, a, b, d, e⟩
   rw [Nat.max_eq_right (Nat.zero_le _)] at d
   exact ⟨rfl, la, ofs, rfl, a, b, e, .inl (by (first | lia | omega))⟩
  case step =>
   rintro x c st' _ hx ⟨rfl, la, ofs, rfl, a, b, d, e⟩
   dsimp only
   by_cases hge : ofs ≥ hint + 1
   ·rw [if_pos hge]
    exact wpS_pure ⟨rfl, la, ofs, rfl, a, b, e, .inl hge⟩
   ·rw [if_neg hge]
    refine wpS_bind (hB (hint - ofs) _ (by (first | lia | omega)) ?_)
    dsimp only
    cases hb : B (hint - ofs) with
    | true =>
     rw [if_pos rfl]
     exact wpS_pure ⟨rfl, la, ofs, rfl, a, b, e, .inr hb⟩
    | false =>
     rw [if_neg (by decide)]
     exact wpS_pure ⟨rfl, _, _, rfl, by (first | lia | omega), by (first | lia | omega), by (first | lia | omega), hb⟩
  case post =>
   rintro c st' ⟨rfl, la, ofs, rfl, a, b, e, hor⟩
   dsimp only
   have h1 : hint + 1 - min ofs (hint + 1) <= hint - la := by (first | lia | omega)
   have h2 : hint - la <= n := by (first | lia | omega)
   have hl : ∀ i, i < hint + 1 - min ofs (hint + 1) -> B i = true := fun i hi => by
    rcases hor with ho | ho
    ·(first | lia | omega)
    ·by_cases hlt : ofs < hint + 1
     ·exact hm i (hint - ofs) (by (first | lia | omega)) (by (first | lia | omega)) ho
     ·(first | lia | omega)
   have hr : ∀ i, hint - la <= i -> i < n -> B i = false := fun i h1 h2 => by
    cases hi2 : B i with
    | false => rfl
    | true => rw [hm (hint - la) i (by (first | lia | omega)) h2 hi2] at e; cases e
   generalize hint + 1 - min ofs (hint + 1) = lo0 at h1 hl ⊢
   generalize hint - la = hi0 at h1 h2 hr ⊢
   refine wpS_bind (wpS_mono (wpS_forRange (I := fun x c st'' => st'' = st' /\ ∃ lo hi, c = (none, lo, hi) /\ lo <= hi /\ hi <= n /\ hi - lo <= n - x /\ (∀ i, i < lo -> B i = true) /\ ∀ i, hi <= i -> i < n -> B i = false)
    (Q := fun c st'' => st'' = st' /\ ∃ lo hi, c = (none, lo, hi) /\ lo = hi /\ hi <= n /\ (∀ i, i < lo -> B i = true) /\ ∀ i, hi <= i -> i < n -> B i = false) ?step ?fin ⟨rfl, lo0, hi0, rfl, h1, h2, by (first | lia | omega), hl, hr⟩) ?post)
   case fin =>
    rintro c st'' ⟨rfl, lo, hi, rfl, a, b, d, e, f⟩
    rw [Nat.max_eq_right (Nat.zero_le _)] at d
    exact ⟨rfl, lo, hi, rfl, by (first | lia | omega), b, e, f⟩
   case step =>
    rintro x c st'' _ hx ⟨rfl, lo, hi, rfl, a, b, d, e, f⟩
    dsimp only
    by_cases hge : lo ≥ hi
    ·rw [if_pos hge]
     exact wpS_pure ⟨rfl, lo, hi, rfl, by (first | lia | omega), b, e, f⟩
    ·rw [if_neg hge]
     refine wpS_bind (hB (lo + (hi - lo) / 2) _ (by (first | lia | omega)) ?_)
     dsimp only
     cases hb : B (lo + (hi - lo) / 2) with
     | true =>
      rw [if_pos rfl]
      exact wpS_pure ⟨rfl, _, _, rfl, by (first | lia | omega), b, by (first | lia | omega), fun i hi' => hm i _ (by (first | lia | omega)) (by (first | lia | omega)) hb, f⟩
     | false =>
      rw [if_neg (by decide)]
      refine wpS_pure ⟨rfl, _, _, rfl, by (first | lia | omega), by (first | lia | omega), by (first | lia | omega), e, fun i h1 h2 => ?_⟩
      cases hi2 : B i with
      | false => rfl
      | true => rw [hm _ i h1 h2 hi2] at hb; cases hb
   case post =>
    rintro c st'' ⟨rfl, lo, hi, rfl, rfl, b, e, f⟩
    dsimp only
    exact wpS_pure (h lo b e f)
end
end Srt
namespace Srt
open PySem PyProof.Rows
noncomputable def mergeLo' : Array Keyed -> Array Keyed -> StateT SortSt Sem (Array Keyed) := sortPriv% PySem.Builtin.mergeLo
noncomputable def mergeHi' : Array Keyed -> Array Keyed -> StateT SortSt Sem (Array Keyed) := sortPriv% PySem.Builtin.mergeHi
noncomputable abbrev withG (st : SortSt) (g : Nat) : SortSt := SortSt.mk' (kindOf st) (arrOf st) (pendingOf st) g (failedOf st)
end Srt
namespace Srt
open PySem PyProof.Rows
section
variable {O : KeyOrd} (kf : Keyed -> O.α)
noncomputable def Up (l : List Keyed) : Prop := l.Pairwise fun p q => O.kle (kf p) (kf q)
noncomputable def KeysUp (a : Array Keyed) : Prop := ∀ (i j : Nat) (p q : Keyed), i <= j -> a[i]? = some p -> a[j]? = some q -> O.kle (kf p) (kf q)
theorem KeysUp.up {a : Array Keyed} (h : KeysUp kf a) : Up kf a.toList := by
 refine List.pairwise_iff_getElem.mpr fun i j hi hj hij => ?_
 exact h i j _ _ (Nat.le_of_lt hij) (by rw [Array.getElem?_eq_getElem (by simpa using hi)]; simp) (by rw [Array.getElem?_eq_getElem (by simpa using hj)]; simp)
noncomputable def Res (a b r : Array Keyed) : Prop := r.toList.Perm (a.toList ++ b.toList) /\ Up kf r.toList
structure Way (a b out : Array Keyed) (ia ib : Nat) : Prop where
 perm : out.toList.Perm (a.toList.take ia ++ b.toList.take ib)
 up : Up kf out.toList
 la : ∀ p ∈ out.toList, ∀ q, a[ia]? = some q -> O.kle (kf p) (kf q)
 lb : ∀ p ∈ out.toList, ∀ q, b[ib]? = some q -> O.kle (kf p) (kf q)
theorem ext_list (a : Array Keyed) (i : Nat) : (a.extract i a.size).toList = a.toList.drop i := by
 rw [Array.toList_extract]
 simp only [List.extract]
 exact List.take_of_length_le (by simp)
theorem ext_mid (a : Array Keyed) (i k : Nat) : (a.extract i (i + k)).toList = (a.toList.drop i).take k := by
 rw [Array.toList_extract]
 simp [List.extract]
variable {kf}
theorem mem_drop_key {a : Array Keyed} (ha : KeysUp kf a) {i : Nat} {q : Keyed} (hq : q ∈ a.toList.drop i) {p : Keyed} (hp : a[i]? = some p) : O.kle (kf p) (kf q) := by
 obtain ⟨j, hj⟩ := List.getElem?_of_mem hq
 rw [List.getElem?_drop] at hj
 exact ha i (i + j) p q (by (first | lia | omega)) hp (by rw [<- hj]; simp)
theorem up_append {l m : List Keyed} (hl : Up kf l) (hm : Up kf m) (h : ∀ p ∈ l, ∀ q ∈ m, O.kle (kf p) (kf q)) : Up kf (l ++ m) := List.pairwise_append.mpr ⟨hl, hm, h⟩
theorem up_drop {a : Array Keyed} (ha : KeysUp kf a) (i : Nat) : Up kf (a.toList.drop i) := (ha.up).sublist (List.drop_sublist _ _)
theorem Way.done {a b out : Array Keyed} {ia : Nat} (ha : KeysUp kf a) (w : Way kf a b out ia b.size) : Res kf a b (out ++ a.extract ia a.size ++ b.extract b.size b.size) := by
 have e : (out ++ a.extract ia a.size ++ b.extract b.size b.size).toList = out.toList ++ a.toList.drop ia := by
  rw [Array.toList_append, Array.toList_append, ext_list, ext_list]
  simp
 refine ⟨?_, ?_⟩
 ·rw [e]
  have hp := w.perm
  rw [List.take_of_length_le (by simp : b.toList.length <= b.size)] at hp
  refine (hp.append_right _).trans ?_
  rw [List.append_assoc]
  refine (List.Perm.append_left _ List.perm_append_comm).trans ?_
  rw [<- List.append_assoc, List.take_append_drop]
 ·rw [e]
  refine up_append w.up (up_drop ha ia) fun p hp q hq => ?_
  obtain ⟨j, hj⟩ := List.getElem?_of_mem hq
  rw [List.getElem?_drop] at hj
  have hlt : ia < a.size := by
   have := (List.getElem?_eq_some_iff.mp hj).1
   simp at this
   (first | lia | omega)
  have h0 : a[ia]? = some a[ia] := Array.getElem?_eq_getElem hlt
  exact KeyOrd.kle_trans (w.la p hp _ h0) (mem_drop_key ha hq h0)
theorem Way.last {a b out : Array Keyed} {ia ib : Nat} (ha : KeysUp kf a) (hb : KeysUp kf b) (w : Way kf a b out ia ib) (h1 : ia + 1 = a.size) (hib : ib < b.size) (hl : ∀ p q, a[ia]? = some p -> q ∈ b.toList -> O.kle (kf q) (kf p)) :
  Res kf a b (out ++ b.extract ib b.size ++ a.extract ia a.size) := by
 have e : (out ++ b.extract ib b.size ++ a.extract ia a.size).toList = out.toList ++ (b.toList.drop ib ++ a.toList.drop ia) := by
  rw [Array.toList_append, Array.toList_append, ext_list, ext_list, List.append_assoc]
 have h0 : a[ia]? = some a[ia] := Array.getElem?_eq_getElem (by (first | lia | omega))
 have hb0 : b[ib]? = some b[ib] := Array.getElem?_eq_getElem hib
 refine ⟨?_, ?_⟩
 ·rw [e]
  refine (w.perm.append_right _).trans ?_
  rw [List.append_assoc]
  have p1 : (b.toList.take ib ++ (b.toList.drop ib ++ a.toList.drop ia)).Perm (a.toList.drop ia ++ b.toList) := by
   rw [<- List.append_assoc, List.take_append_drop]
   exact List.perm_append_comm
  refine (List.Perm.append_left _ p1).trans ?_
  rw [<- List.append_assoc, List.take_append_drop]
 ·rw [e]
  refine up_append w.up (up_append (up_drop hb ib) (up_drop ha ia) fun p hp q hq => ?_) fun p hp q hq => ?_
  ·have := mem_drop_key ha hq h0
   exact KeyOrd.kle_trans (hl _ p h0 (List.mem_of_mem_drop hp)) this
  ·rcases List.mem_append.mp hq with h | h
   ·exact KeyOrd.kle_trans (w.lb p hp _ hb0) (mem_drop_key hb h hb0)
   ·exact KeyOrd.kle_trans (w.la p hp _ h0) (mem_drop_key ha h h0)
theorem take_succ_at {a : Array Keyed} {i : Nat} {p : Keyed} (h : a[i]? = some p) : a.toList.take (i + 1) = a.toList.take i ++ [p] := by
 rw [List.take_succ]
 have : a.toList[i]? = some p := by rw [<- h]; simp
 rw [this]
 rfl
theorem Way.pushB {a b out : Array Keyed} {ia ib : Nat} {p : Keyed} (hb : KeysUp kf b) (w : Way kf a b out ia ib) (hp : b[ib]? = some p) (h : ∀ q, a[ia]? = some q -> O.kle (kf p) (kf q)) : Way kf a b (out.push p) ia (ib + 1) := by
 refine ⟨?_, ?_, fun x hx q hq => ?_, fun x hx q hq => ?_⟩
 ·rw [Array.toList_push, take_succ_at hp, <- List.append_assoc]
  exact w.perm.append_right _
 ·rw [Array.toList_push]
  refine up_append w.up (List.pairwise_singleton _ _) fun x hx y hy => ?_
  rw [List.mem_singleton.mp hy]
  exact w.lb x hx p hp
 ·rw [Array.toList_push] at hx
  rcases List.mem_append.mp hx with h' | h'
  ·exact w.la x h' q hq
  ·rw [List.mem_singleton.mp h']
   exact h q hq
 ·rw [Array.toList_push] at hx
  rcases List.mem_append.mp hx with h' | h'
  ·exact KeyOrd.kle_trans (w.lb x h' p hp) (hb ib (ib + 1) p q (by (first | lia | omega)) hp hq)
  ·rw [List.mem_singleton.mp h']
   exact hb ib (ib + 1) p q (by (first | lia | omega)) hp hq
theorem Way.pushA {a b out : Array Keyed} {ia ib : Nat} {p : Keyed} (ha : KeysUp kf a) (w : Way kf a b out ia ib) (hp : a[ia]? = some p) (h : ∀ q, b[ib]? = some q -> O.kle (kf p) (kf q)) : Way kf a b (out.push p) (ia + 1) ib := by
 refine ⟨?_, ?_, fun x hx q hq => ?_, fun x hx q hq => ?_⟩
 ·rw [Array.toList_push, take_succ_at hp, List.append_assoc]
  refine (w.perm.append_right _).trans ?_
  rw [List.append_assoc]
  exact List.Perm.append_left _ List.perm_append_comm
 ·rw [Array.toList_push]
  refine up_append w.up (List.pairwise_singleton _ _) fun x hx y hy => ?_
  rw [List.mem_singleton.mp hy]
  exact w.la x hx p hp
 ·rw [Array.toList_push] at hx
  rcases List.mem_append.mp hx with h' | h'
  ·exact KeyOrd.kle_trans (w.la x h' p hp) (ha ia (ia + 1) p q (by (first | lia | omega)) hp hq)
  ·rw [List.mem_singleton.mp h']
   exact ha ia (ia + 1) p q (by (first | lia | omega)) hp hq
 ·rw [Array.toList_push] at hx
  rcases List.mem_append.mp hx with h' | h'
  ·exact w.lb x h' q hq
  ·rw [List.mem_singleton.mp h']
   exact h q hq
theorem Way.manyA {a b : Array Keyed} {ia ib : Nat} (ha : KeysUp kf a) : ∀ {k : Nat} {out : Array Keyed}, Way kf a b out ia ib -> ia + k <= a.size -> (∀ i p q, i < k -> a[ia + i]? = some p -> b[ib]? = some q -> O.kle (kf p) (kf q)) -> Way kf a b (out ++ a.extract ia (ia + k)) (ia + k) ib
 | 0, out, w, _, _ => by
  have e : out ++ a.extract ia (ia + 0) = out := by simp; (first | lia | omega)
  rw [e]
  exact w
 | k + 1, out, w, hk, h => by
  have ih := Way.manyA ha (k := k) w (by (first | lia | omega)) fun i p q hi => h i p q (by (first | lia | omega))
  have h0 : a[ia + k]? = some a[ia + k] := Array.getElem?_eq_getElem (by (first | lia | omega))
  have := ih.pushA ha h0 fun q hq => h k _ q (by (first | lia | omega)) h0 hq
  have e : (out ++ a.extract ia (ia + k)).push a[ia + k] = out ++ a.extract ia (ia + (k + 1)) := by
   apply Array.ext'
   rw [Array.toList_push, Array.toList_append, Array.toList_append, ext_mid, ext_mid, List.take_succ, List.append_assoc]
   congr 1
   rw [List.getElem?_drop]
   have : a.toList[ia + k]? = some a[ia + k] := by rw [<- h0]; simp
   rw [this]
   rfl
  rw [e] at this
  exact this
theorem Way.manyB {a b : Array Keyed} {ia ib : Nat} (hb : KeysUp kf b) : ∀ {k : Nat} {out : Array Keyed}, Way kf a b out ia ib -> ib + k <= b.size -> (∀ i p q, i < k -> b[ib + i]? = some p -> a[ia]? = some q -> O.kle (kf p) (kf q)) -> Way kf a b (out ++ b.extract ib (ib + k)) ia (ib + k)
 | 0, out, w, _, _ => by
  have e : out ++ b.extract ib (ib + 0) = out := by simp; (first | lia | omega)
  rw [e]
  exact w
 | k + 1, out, w, hk, h => by
  have ih := Way.manyB hb (k := k) w (by (first | lia | omega)) fun i p q hi => h i p q (by (first | lia | omega))
  have h0 : b[ib + k]? = some b[ib + k] := Array.getElem?_eq_getElem (by (first | lia | omega))
  have := ih.pushB hb h0 fun q hq => h k _ q (by (first | lia | omega)) h0 hq
  have e : (out ++ b.extract ib (ib + k)).push b[ib + k] = out ++ b.extract ib (ib + (k + 1)) := by
   apply Array.ext'
   rw [Array.toList_push, Array.toList_append, Array.toList_append, ext_mid, ext_mid, List.take_succ, List.append_assoc]
   congr 1
   rw [List.getElem?_drop]
   have : b.toList[ib + k]? = some b[ib + k] := by rw [<- h0]; simp
   rw [this]
   rfl
  rw [e] at this
  exact this
end
end Srt
namespace Srt
open PySem PyProof.Rows
section
variable {M : Model} {A : Around} {E : Value -> Shared -> Prop} {s : Shared}
structure Cmp (M : Model) (A : Around) (E : Value -> Shared -> Prop) (s : Shared) (kd : SortKind) (O : KeyOrd) (kf : Keyed -> O.α) (okk : Keyed -> Prop) : Prop where
 lt : ∀ (x y : Keyed) (st : SortSt) (Q : Option Bool -> SortSt -> Prop), okk x -> okk y -> kindOf st = kd -> Q (some (O.blt (kf x) (kf y))) st -> wpS M A E s (lt' x y) Q st
theorem wpS_elem {arr : Array Keyed} {i : Nat} {p : Keyed} {st : SortSt} {Q : Keyed -> SortSt -> Prop} (h : arr[i]? = some p) (q : Q p st) : wpS M A E s (elem' arr i) Q st := by
 rw [elem'_eq, h]
 exact wpS_pure q
variable {O : KeyOrd} {kf : Keyed -> O.α} {okk : Keyed -> Prop} {kd : SortKind}
noncomputable def RunUp (kf : Keyed -> O.α) (a : Array Keyed) (lo hi : Nat) : Prop := ∀ (i j : Nat) (p q : Keyed), lo <= i -> i <= j -> j < hi -> a[i]? = some p -> a[j]? = some q -> O.kle (kf p) (kf q)
theorem KeysUp.run {a : Array Keyed} (h : KeysUp kf a) (lo hi : Nat) : RunUp kf a lo hi := fun i j p q _ h2 _ => h i j p q h2
theorem gallopR0 (C : Cmp M A E s kd O kf okk) {st : SortSt} (hk : kindOf st = kd) {key : Keyed} {arr : Array Keyed} {base n hint : Nat} {Q : Option Nat -> SortSt -> Prop} (ok : ∀ p ∈ arr.toList, okk p) (okq : okk key) (ha : RunUp kf arr base (base + n)) (hn : base + n <= arr.size) (hh : hint < n)
  (h : ∀ k, k <= n -> (∀ i p, i < k -> arr[base + i]? = some p -> O.kle (kf p) (kf key)) -> (∀ i p, k <= i -> i < n -> arr[base + i]? = some p -> O.klt (kf key) (kf p)) -> Q (some k) st) : wpS M A E s (gallop' false key arr base n hint) Q st := by
 have at_ : ∀ i, i < n -> ∃ p, arr[base + i]? = some p := fun i hi => ⟨arr[base + i], Array.getElem?_eq_getElem (by (first | lia | omega))⟩
 have mem : ∀ {i : Nat} {p : Keyed}, arr[i]? = some p -> p ∈ arr.toList := fun {i p} h => List.mem_of_getElem? (i := i) (by rw [<- h]; simp)
 refine wpS_gallop (B := fun i => match arr[base + i]? with | some p => !O.blt (kf key) (kf p) | none => false) (fun i Q' hi q => ?_) (fun i j hij hj hB => ?_) hh fun k hk1 h1 h2 => ?_
 ·obtain ⟨p, hp⟩ := at_ i hi
  try dsimp only at q
  rw [hp] at q
  refine wpS_bind (wpS_elem hp ?_)
  rw [if_neg (by decide)]
  refine wpS_bind (C.lt key p st _ okq (ok p (mem hp)) hk ?_)
  exact wpS_pure q
 ·obtain ⟨p, hp⟩ := at_ i (by (first | lia | omega))
  obtain ⟨p', hp'⟩ := at_ j hj
  try dsimp only at hB ⊢
  rw [hp'] at hB
  rw [hp]
  have hB : O.blt (kf key) (kf p') = false := by simpa using hB
  have := KeyOrd.kle_trans (ha (base + i) (base + j) p p' (by (first | lia | omega)) (by (first | lia | omega)) (by (first | lia | omega)) hp hp') hB
  show (!O.blt (kf key) (kf p)) = true
  rw [show O.blt (kf key) (kf p) = false from this]
  rfl
 ·refine h k hk1 (fun i p hi hp => ?_) fun i p h3 h4 hp => ?_
  ·have := h1 i hi
   try dsimp only at this
   rw [hp] at this
   show O.blt (kf key) (kf p) = false
   simpa using this
  ·have := h2 i h3 h4
   try dsimp only at this
   rw [hp] at this
   show O.blt (kf key) (kf p) = true
   simpa using this
theorem gallopL0 (C : Cmp M A E s kd O kf okk) {st : SortSt} (hk : kindOf st = kd) {key : Keyed} {arr : Array Keyed} {base n hint : Nat} {Q : Option Nat -> SortSt -> Prop} (ok : ∀ p ∈ arr.toList, okk p) (okq : okk key) (ha : RunUp kf arr base (base + n)) (hn : base + n <= arr.size) (hh : hint < n)
  (h : ∀ k, k <= n -> (∀ i p, i < k -> arr[base + i]? = some p -> O.klt (kf p) (kf key)) -> (∀ i p, k <= i -> i < n -> arr[base + i]? = some p -> O.kle (kf key) (kf p)) -> Q (some k) st) : wpS M A E s (gallop' true key arr base n hint) Q st := by
 have at_ : ∀ i, i < n -> ∃ p, arr[base + i]? = some p := fun i hi => ⟨arr[base + i], Array.getElem?_eq_getElem (by (first | lia | omega))⟩
 have mem : ∀ {i : Nat} {p : Keyed}, arr[i]? = some p -> p ∈ arr.toList := fun {i p} h => List.mem_of_getElem? (i := i) (by rw [<- h]; simp)
 refine wpS_gallop (B := fun i => match arr[base + i]? with | some p => O.blt (kf p) (kf key) | none => false) (fun i Q' hi q => ?_) (fun i j hij hj hB => ?_) hh fun k hk1 h1 h2 => ?_
 ·obtain ⟨p, hp⟩ := at_ i hi
  try dsimp only at q
  rw [hp] at q
  refine wpS_bind (wpS_elem hp ?_)
  rw [if_pos rfl]
  exact C.lt p key st _ (ok p (mem hp)) okq hk q
 ·obtain ⟨p, hp⟩ := at_ i (by (first | lia | omega))
  obtain ⟨p', hp'⟩ := at_ j hj
  try dsimp only at hB ⊢
  rw [hp'] at hB
  rw [hp]
  exact KeyOrd.klt_of_kle_of_klt (ha (base + i) (base + j) p p' (by (first | lia | omega)) (by (first | lia | omega)) (by (first | lia | omega)) hp hp') hB
 ·refine h k hk1 (fun i p hi hp => ?_) fun i p h3 h4 hp => ?_
  ·have := h1 i hi
   try dsimp only at this
   rw [hp] at this
   exact this
  ·have := h2 i h3 h4
   try dsimp only at this
   rw [hp] at this
   exact this
theorem gallopR (C : Cmp M A E s kd O kf okk) {st : SortSt} (hk : kindOf st = kd) {key : Keyed} {arr : Array Keyed} {base n hint : Nat} {Q : Option Nat -> SortSt -> Prop} (ok : ∀ p ∈ arr.toList, okk p) (okq : okk key) (ha : KeysUp kf arr) (hn : base + n <= arr.size) (hh : hint < n)
  (h : ∀ k, k <= n -> (∀ i p, i < k -> arr[base + i]? = some p -> O.kle (kf p) (kf key)) -> (∀ i p, k <= i -> i < n -> arr[base + i]? = some p -> O.klt (kf key) (kf p)) -> Q (some k) st) : wpS M A E s (gallop' false key arr base n hint) Q st := gallopR0 C hk ok okq (ha.run _ _) hn hh h
theorem gallopL (C : Cmp M A E s kd O kf okk) {st : SortSt} (hk : kindOf st = kd) {key : Keyed} {arr : Array Keyed} {base n hint : Nat} {Q : Option Nat -> SortSt -> Prop} (ok : ∀ p ∈ arr.toList, okk p) (okq : okk key) (ha : KeysUp kf arr) (hn : base + n <= arr.size) (hh : hint < n)
  (h : ∀ k, k <= n -> (∀ i p, i < k -> arr[base + i]? = some p -> O.klt (kf p) (kf key)) -> (∀ i p, k <= i -> i < n -> arr[base + i]? = some p -> O.kle (kf key) (kf p)) -> Q (some k) st) : wpS M A E s (gallop' true key arr base n hint) Q st := gallopL0 C hk ok okq (ha.run _ _) hn hh h
end
end Srt
namespace Srt
open PySem PyProof.Rows
section
variable {M : Model} {A : Around} {E : Value -> Shared -> Prop} {s : Shared}
variable {O : KeyOrd} {kf : Keyed -> O.α} {okk : Keyed -> Prop} {kd : SortKind}
theorem Way.done' {a b out : Array Keyed} {ia ib : Nat} (w : Way kf a b out ia ib) (ha : KeysUp kf a) (e : ib = b.size) : Res kf a b (out ++ a.extract ia a.size ++ b.extract ib b.size) := by
 subst e
 exact w.done ha
theorem wpS_ite_jp {τ α : Type} {c : Prop} [Decidable c] {y : Nat} {Q : α -> τ -> Prop} {st : τ} {G : Nat -> StateT τ Sem α} (k : ∀ g3, wpS M A E s (G g3) Q st) : ∀ u, wpS M A E s (if c then G u else G y) Q st := fun u => by
 split
 ·exact k _
 ·exact k _
theorem wpS_ite_jp2 {τ α : Type} {c : Prop} [Decidable c] {d e : Nat -> Prop} [∀ i, Decidable (d i)] [∀ i, Decidable (e i)] {X Y J : Array Keyed -> Nat -> StateT τ Sem α} {i0 : Nat} {o0 : Array Keyed} {P : Nat -> Array Keyed -> Prop} {C : Array Keyed -> Nat -> Prop} {Q : α -> τ -> Prop} {st : τ}
  (hX : ∀ i o, P i o -> c -> d i -> wpS M A E s (X o i) Q st) (hY : ∀ i o, P i o -> ¬ d i -> ¬ e i) (h1 : ∀ i o, P i o -> ¬ d i -> C o i) (h0 : ¬ c -> C o0 i0) (k : ∀ o i, C o i -> wpS M A E s (J o i) Q st) :
  ∀ i1 o1, P i1 o1 -> wpS M A E s (if c then if d i1 then X o1 i1 else if e i1 then Y o1 i1 else J o1 i1 else J o0 i0) Q st := fun i1 o1 hP => by
 by_cases hc : c
 ·rw [if_pos hc]
  by_cases hd : d i1
  ·rw [if_pos hd]
   exact hX i1 o1 hP hc hd
  ·rw [if_neg hd, if_neg (hY i1 o1 hP hd)]
   exact k _ _ (h1 i1 o1 hP hd)
 ·rw [if_neg hc]
  exact k _ _ (h0 hc)
theorem wpS_ite_jp3 {τ α : Type} {c : Prop} [Decidable c] {d : Nat -> Prop} [∀ i, Decidable (d i)] {X J : Array Keyed -> Nat -> StateT τ Sem α} {i0 : Nat} {o0 : Array Keyed} {P : Nat -> Array Keyed -> Prop} {C : Array Keyed -> Nat -> Prop} {Q : α -> τ -> Prop} {st : τ}
  (hX : ∀ i o, P i o -> c -> d i -> wpS M A E s (X o i) Q st) (h1 : ∀ i o, P i o -> ¬ d i -> C o i) (h0 : ¬ c -> C o0 i0) (k : ∀ o i, C o i -> wpS M A E s (J o i) Q st) :
  ∀ i1 o1, P i1 o1 -> wpS M A E s (if c then if d i1 then X o1 i1 else J o1 i1 else J o0 i0) Q st := fun i1 o1 hP => by
 by_cases hc : c
 ·rw [if_pos hc]
  by_cases hd : d i1
  ·rw [if_pos hd]
   exact hX i1 o1 hP hc hd
  ·rw [if_neg hd]
   exact k _ _ (h1 i1 o1 hP hd)
 ·rw [if_neg hc]
  exact k _ _ (h0 hc)
set_option maxHeartbeats 4000000 in
theorem wpS_mergeLo (C : Cmp M A E s kd O kf okk) {st : SortSt} (hk : kindOf st = kd) {a b : Array Keyed} {Q : Array Keyed -> SortSt -> Prop} (oka : ∀ p ∈ a.toList, okk p) (okb : ∀ p ∈ b.toList, okk p) (ha : KeysUp kf a) (hb : KeysUp kf b) (na : 0 < a.size) (nb : 0 < b.size)
  (h0 : ∀ p q, b[0]? = some p -> a[0]? = some q -> O.kle (kf p) (kf q)) (hl : ∀ p q, a[a.size - 1]? = some p -> q ∈ b.toList -> O.klt (kf q) (kf p))
  (h : ∀ r g, Res kf a b r -> Q r (withG st g)) : wpS M A E s (mergeLo' a b) Q st := by
 unfold mergeLo'
 have hb0 : b[0]? = some b[0] := Array.getElem?_eq_getElem nb
 refine wpS_bind (wpS_lift (wpAny_rule ⟨rfl, ?_⟩))
 try dsimp only
 refine wpS_bind (wpS_elem hb0 ?_)
 try dsimp only
 have hz : withG st (gallopOf st) = st := rfl
 have w0 : Way kf a b #[b[0]] 0 1 := by
  have e : Way kf a b #[] 0 0 := ⟨by simp, List.Pairwise.nil, fun p hp => by simp at hp, fun p hp => by simp at hp⟩
  exact e.pushB hb hb0 fun q hq => h0 _ q hb0 hq
 by_cases e1 : (1 == b.size) = true
 ·rw [if_pos e1]
  have e1' : 1 = b.size := by simpa using e1
  rw [e1'] at w0
  have := h _ (gallopOf st) (w0.done ha)
  rw [hz, <- e1'] at this
  rw [<- e1']
  exact wpS_pure this
 rw [if_neg e1]
 have e1' : 1 ≠ b.size := by simpa using e1
 by_cases e2 : (0 + 1 == a.size) = true
 ·rw [if_pos e2]
  have e2' : 0 + 1 = a.size := by simpa using e2
  have := h _ (gallopOf st) (w0.last ha hb e2' (by (first | lia | omega)) fun p q hp hq => KeyOrd.kle_of_klt (hl p q (by rw [<- e2']; exact hp) hq))
  rw [hz] at this
  exact wpS_pure this
 rw [if_neg e2]
 have e2' : 0 + 1 ≠ a.size := by simpa using e2
 refine wpS_bind (wpS_get ?_)
 try dsimp only
 have hlast : ∀ {out : Array Keyed} {ia ib : Nat}, Way kf a b out ia ib -> ia + 1 = a.size -> ib < b.size -> Res kf a b (out ++ b.extract ib b.size ++ a.extract ia a.size) := fun w e hi => w.last ha hb e hi fun p q hp hq => KeyOrd.kle_of_klt (hl p q (by rw [<- e]; exact hp) hq)
 have mema : ∀ {i : Nat} {p : Keyed}, a[i]? = some p -> okk p := fun {i p} h => oka p (List.mem_of_getElem? (i := i) (by rw [<- h]; simp))
 have memb : ∀ {i : Nat} {p : Keyed}, b[i]? = some p -> okk p := fun {i p} h => okb p (List.mem_of_getElem? (i := i) (by rw [<- h]; simp))
 refine wpS_bind (wpS_mono (wpS_forRange (I := fun x c st' => (∃ g0, st' = withG st g0) /\ ∃ out ia ib g, c = (none, out, ia, ib, g) /\ Way kf a b out ia ib /\ ia + 1 < a.size /\ ib < b.size /\ x + 1 <= ia + ib)
  (Q := fun c st' => (∃ g0, st' = withG st g0) /\ ∃ r, c.1 = some r /\ Res kf a b r) ?step ?fin ⟨⟨_, hz.symm⟩, _, _, _, _, rfl, w0, by (first | lia | omega), by (first | lia | omega), by (first | lia | omega)⟩) ?post)
 case fin =>
  rintro c st' ⟨_, out, ia, ib, g, rfl, w, h1, h2, h3⟩
  rw [Nat.max_eq_right (Nat.zero_le _)] at h3
  (first | lia | omega)
 case post =>
  rintro ⟨c1, c2⟩ st' ⟨⟨g0, rfl⟩, r, hc, hr⟩
  dsimp only at hc
  subst hc
  exact wpS_pure (h r g0 hr)
 case step =>
  rintro x c st' _ hx ⟨⟨g0, rfl⟩, out0, ia0, ib0, g, rfl, w00, h10, h20, h30⟩
  dsimp only
  refine wpS_bind (wpS_mono (wpS_forRange (I := fun y c st'' => st'' = withG st g0 /\ ∃ out ia ib ac bc, c = (none, out, ia, ib, ac, bc) /\ Way kf a b out ia ib /\ ia + 1 < a.size /\ ib < b.size /\ y + (ia0 + ib0) <= ia + ib)
   (Q := fun c st'' => st'' = withG st g0 /\ ((∃ r, c.1 = some r /\ Res kf a b r) ∨ ∃ out ia ib ac bc, c = (none, out, ia, ib, ac, bc) /\ Way kf a b out ia ib /\ ia + 1 < a.size /\ ib < b.size /\ ia0 + ib0 + 1 <= ia + ib)) ?step1 ?fin1 ⟨rfl, _, _, _, _, _, rfl, w00, h10, h20, by (first | lia | omega)⟩) ?post1)
  case fin1 =>
   rintro c st' ⟨rfl, out, ia, ib, ac, bc, rfl, w, h1, h2, h3⟩
   rw [Nat.max_eq_right (Nat.zero_le _)] at h3
   exact ⟨rfl, .inr ⟨_, _, _, _, _, rfl, w, h1, h2, by (first | lia | omega)⟩⟩
  case step1 =>
   rintro y c st' _ hy ⟨rfl, out, ia, ib, ac, bc, rfl, w, h1, h2, h3⟩
   dsimp only
   have hpb : b[ib]? = some b[ib] := Array.getElem?_eq_getElem h2
   have hpa : a[ia]? = some a[ia] := Array.getElem?_eq_getElem (by (first | lia | omega))
   refine wpS_bind (wpS_elem hpb ?_)
   refine wpS_bind (wpS_elem hpa ?_)
   refine wpS_bind (C.lt _ _ _ _ (memb hpb) (mema hpa) hk ?_)
   dsimp only
   cases hbl : O.blt (kf b[ib]) (kf a[ia]) with
   | true =>
    rw [if_pos rfl]
    refine wpS_bind (wpS_elem hpb ?_)
    have w' := w.pushB hb hpb fun q hq => by
     rw [hpa] at hq
     cases hq
     exact KeyOrd.kle_of_klt hbl
    by_cases e : (ib + 1 == b.size) = true
    ·rw [if_pos e]
     have e' : ib + 1 = b.size := by simpa using e
     have := (e' ▸ w' : Way kf a b _ ia b.size).done ha
     rw [<- e'] at this
     refine wpS_pure ⟨rfl, .inl ⟨_, rfl, ?_⟩⟩
     rw [<- e']
     exact this
    ·rw [if_neg e]
     have e' : ib + 1 ≠ b.size := by simpa using e
     by_cases e3 : bc + 1 ≥ g
     ·rw [if_pos e3]
      exact wpS_pure ⟨rfl, .inr ⟨_, _, _, _, _, rfl, w', h1, by (first | lia | omega), by (first | lia | omega)⟩⟩
     ·rw [if_neg e3]
      exact wpS_pure ⟨rfl, _, _, _, _, _, rfl, w', h1, by (first | lia | omega), by (first | lia | omega)⟩
   | false =>
    rw [if_neg (by decide)]
    refine wpS_bind (wpS_elem hpa ?_)
    have w' := w.pushA ha hpa fun q hq => by
     rw [hpb] at hq
     cases hq
     exact hbl
    by_cases e : (ia + 1 + 1 == a.size) = true
    ·rw [if_pos e]
     have e' : ia + 1 + 1 = a.size := by simpa using e
     exact wpS_pure ⟨rfl, .inl ⟨_, rfl, hlast w' e' h2⟩⟩
    ·rw [if_neg e]
     have e' : ia + 1 + 1 ≠ a.size := by simpa using e
     by_cases e3 : ac + 1 ≥ g
     ·rw [if_pos e3]
      exact wpS_pure ⟨rfl, .inr ⟨_, _, _, _, _, rfl, w', by (first | lia | omega), h2, by (first | lia | omega)⟩⟩
     ·rw [if_neg e3]
      exact wpS_pure ⟨rfl, _, _, _, _, _, rfl, w', by (first | lia | omega), h2, by (first | lia | omega)⟩
  case post1 =>
   rintro c st' ⟨rfl, ⟨r, hc, hr⟩ | ⟨out1, ia1, ib1, ac, bc, rfl, w1, h11, h21, h31⟩⟩
   ·obtain ⟨c1, c2⟩ := c
    dsimp only at hc
    subst hc
    exact wpS_pure ⟨⟨_, rfl⟩, _, rfl, hr⟩
   ·dsimp only
    refine wpS_bind (wpS_lift (wpAny_rule ⟨rfl, ?_⟩))
    refine wpS_bind (wpS_mono (wpS_forRange (I := fun y c st'' => (∃ g1, st'' = withG st g1) /\ ∃ out ia ib g ac bc, c = (none, out, ia, ib, g, ac, bc) /\ Way kf a b out ia ib /\ ia + 1 < a.size /\ ib < b.size /\ ia0 + ib0 + 1 <= ia + ib)
     (Q := fun c st'' => (∃ g1, st'' = withG st g1) /\ ((∃ r, c.1 = some r /\ Res kf a b r) ∨ ∃ out ia ib g ac bc, c = (none, out, ia, ib, g, ac, bc) /\ Way kf a b out ia ib /\ ia + 1 < a.size /\ ib < b.size /\ ia0 + ib0 + 1 <= ia + ib)) ?step2 ?fin2 ⟨⟨_, rfl⟩, _, _, _, _, _, _, rfl, w1, h11, h21, h31⟩) ?post2)
    case fin2 =>
     rintro c st' ⟨hg, hc⟩
     exact ⟨hg, .inr hc⟩
    case post2 =>
     rintro c st' ⟨⟨g1, rfl⟩, ⟨r, hc, hr⟩ | ⟨out2, ia2, ib2, g2, ac2, bc2, rfl, w2, h12, h22, h32⟩⟩
     ·obtain ⟨c1, c2⟩ := c
      dsimp only at hc
      subst hc
      exact wpS_pure ⟨⟨_, rfl⟩, _, rfl, hr⟩
     ·dsimp only
      refine wpS_bind (wpS_modify ?_)
      exact wpS_pure ⟨⟨_, rfl⟩, _, _, _, _, rfl, w2, h12, h22, by (first | lia | omega)⟩
    case step2 =>
     rintro y c st' _ hy ⟨⟨g1, rfl⟩, out, ia, ib, g', ac', bc', rfl, w, h1, h2, h3⟩
     dsimp only
     have hpb : b[ib]? = some b[ib] := Array.getElem?_eq_getElem h2
     generalize g' - 1 = u
     revert u
     refine wpS_ite_jp ?_
     intro g3
     refine wpS_bind (wpS_modify ?_)
     refine wpS_bind (wpS_elem hpb ?_)
     refine wpS_bind (gallopR C (st := withG st g3) hk oka (memb hpb) ha (by (first | lia | omega)) (by (first | lia | omega)) fun k hkn hle hgt => ?_)
     have kless : k < a.size - ia := by
      rcases Nat.lt_or_ge k (a.size - ia) with h' | h'
      ·exact h'
      ·exfalso
       have hz2 : a[a.size - 1]? = some a[a.size - 1] := Array.getElem?_eq_getElem (by (first | lia | omega))
       have := hle (a.size - ia - 1) a[a.size - 1] (by (first | lia | omega)) (by rw [show ia + (a.size - ia - 1) = a.size - 1 by (first | lia | omega)]; exact hz2)
       exact KeyOrd.not_klt_of_kle this (hl _ _ hz2 (List.mem_of_getElem? (i := ib) (by rw [<- hpb]; simp)))
     have wA := w.manyA ha (k := k) (by (first | lia | omega)) fun i p q hi hp hq => by
      rw [hpb] at hq
      cases hq
      exact hle i p hi hp
     have nx : ∀ q, a[ia + k]? = some q -> O.kle (kf b[ib]) (kf q) := fun q hq => KeyOrd.kle_of_klt (hgt k q (Nat.le_refl _) kless hq)
     dsimp only
     have hP : Way kf a b (out ++ a.extract ia (ia + k)) (ia + k) ib /\ (∀ q, a[ia + k]? = some q -> O.kle (kf b[ib]) (kf q)) /\ ia + k < a.size /\ ia <= ia + k := ⟨wA, nx, by (first | lia | omega), by (first | lia | omega)⟩
     have hC0 : Way kf a b out ia ib /\ (∀ q, a[ia]? = some q -> O.kle (kf b[ib]) (kf q)) ∨ k > 0 := by
      rcases Nat.eq_zero_or_pos k with z | z
      ·exact .inl ⟨w, fun q hq => KeyOrd.kle_of_klt (hgt 0 q (by (first | lia | omega)) (by (first | lia | omega)) hq)⟩
      ·exact .inr z
     clear wA nx
     revert hP
     generalize ia + k = i1
     generalize out ++ a.extract ia i1 = o1
     revert i1 o1
     refine wpS_ite_jp2 (C := fun o i => Way kf a b o i ib /\ (∀ q, a[i]? = some q -> O.kle (kf b[ib]) (kf q)) /\ i + 1 < a.size /\ ia <= i) (fun i1 o1 hP _ e4 => ?_) (fun i1 o1 hP _ => ?_) (fun i1 o1 hP e4 => ?_) (fun ek => ?_) ?_
     ·exact wpS_pure ⟨⟨_, rfl⟩, .inl ⟨_, rfl, hlast hP.1 (by simpa using e4) h2⟩⟩
     ·have := hP.2.2.1
      simp
      (first | lia | omega)
     ·have e4' : i1 + 1 ≠ a.size := by simpa using e4
      exact ⟨hP.1, hP.2.1, by have := hP.2.2.1; (first | lia | omega), hP.2.2.2⟩
     ·rcases hC0 with ⟨c1, c2⟩ | c
      ·exact ⟨c1, c2, h1, Nat.le_refl _⟩
      ·exact absurd c ek
     ·rintro o1 i1 ⟨wA, nx, hi1, hi2⟩
      refine wpS_bind (wpS_elem hpb ?_)
      have wB := wA.pushB hb hpb nx
      by_cases e5 : (ib + 1 == b.size) = true
      ·rw [if_pos e5]
       exact wpS_pure ⟨⟨_, rfl⟩, .inl ⟨_, rfl, wB.done' ha (by simpa using e5)⟩⟩
      rw [if_neg e5]
      have e5' : ib + 1 ≠ b.size := by simpa using e5
      have hpa : a[i1]? = some a[i1] := Array.getElem?_eq_getElem (by (first | lia | omega))
      obtain ⟨ax, hax⟩ : ∃ ax, ax = a[i1] := ⟨_, rfl⟩
      refine wpS_bind (wpS_elem hpa ?_)
      refine wpS_bind (gallopL C (st := withG st g3) hk okb (mema hpa) hb (by (first | lia | omega)) (by (first | lia | omega)) fun k1 hkn1 hlt1 hge1 => ?_)
      dsimp only
      have wC := wB.manyB hb (k := k1) (by (first | lia | omega)) fun i p q hi hp hq => by
       rw [hpa] at hq
       cases hq
       exact KeyOrd.kle_of_klt (hlt1 i p hi hp)
      have hC0 : (∀ q, b[ib + 1]? = some q -> O.kle (kf ax) (kf q)) ∨ k1 > 0 := by
       rcases Nat.eq_zero_or_pos k1 with z | z
       ·rw [hax]
        exact .inl fun q hq => hge1 0 q (by (first | lia | omega)) (by (first | lia | omega)) hq
       ·exact .inr z
      have hP : Way kf a b (o1.push b[ib] ++ b.extract (ib + 1) (ib + 1 + k1)) i1 (ib + 1 + k1) /\ (ib + 1 + k1 ≠ b.size -> ∀ q, b[ib + 1 + k1]? = some q -> O.kle (kf ax) (kf q)) /\ ib + 1 + k1 <= b.size /\ ib + 1 <= ib + 1 + k1 := ⟨wC, fun e6' q hq => by rw [hax]; exact hge1 k1 q (Nat.le_refl _) (by (first | lia | omega)) hq, by (first | lia | omega), by (first | lia | omega)⟩
      clear wC hlt1 hge1 hkn1
      revert hP
      generalize ib + 1 + k1 = j1
      generalize o1.push b[ib] ++ b.extract (ib + 1) j1 = o2
      revert j1 o2
      refine wpS_ite_jp3 (C := fun o j => Way kf a b o i1 j /\ (∀ q, b[j]? = some q -> O.kle (kf ax) (kf q)) /\ j < b.size /\ ib + 1 <= j) (fun j1 o2 hP _ e6 => ?_) (fun j1 o2 hP e6 => ?_) (fun ek1 => ?_) ?_
      ·exact wpS_pure ⟨⟨_, rfl⟩, .inl ⟨_, rfl, hP.1.done' ha (by simpa using e6)⟩⟩
      ·have e6' : j1 ≠ b.size := by simpa using e6
       exact ⟨hP.1, hP.2.1 e6', by have := hP.2.2.1; (first | lia | omega), hP.2.2.2⟩
      ·rcases hC0 with c1 | c
       ·exact ⟨wB, c1, by (first | lia | omega), Nat.le_refl _⟩
       ·exact absurd c ek1
      ·rintro o2 j1 ⟨wC, nx2, hj1, hj2⟩
       rw [hax] at nx2
       refine wpS_bind (wpS_elem hpa ?_)
       have wD := wC.pushA ha hpa nx2
       by_cases e7 : (i1 + 1 + 1 == a.size) = true
       ·rw [if_pos e7]
        exact wpS_pure ⟨⟨_, rfl⟩, .inl ⟨_, rfl, hlast wD (by simpa using e7) (by (first | lia | omega))⟩⟩
       rw [if_neg e7]
       have e7' : i1 + 1 + 1 ≠ a.size := by simpa using e7
       by_cases e8 : (decide (k < 7) && decide (k1 < 7)) = true
       ·rw [if_pos e8]
        exact wpS_pure ⟨⟨_, rfl⟩, .inr ⟨_, _, _, _, _, _, rfl, wD, by (first | lia | omega), by (first | lia | omega), by (first | lia | omega)⟩⟩
       ·rw [if_neg e8]
        exact wpS_pure ⟨⟨_, rfl⟩, _, _, _, _, _, _, rfl, wD, by (first | lia | omega), by (first | lia | omega), by (first | lia | omega)⟩
end
end Srt
namespace Srt
open PySem PyProof.Rows
section
variable {O : KeyOrd} (kf : Keyed -> O.α)
structure WayH (a b out : Array Keyed) (na nb : Nat) : Prop where
 perm : out.toList.reverse.Perm (a.toList.drop na ++ b.toList.drop nb)
 up : Up kf out.toList.reverse
 la : ∀ p ∈ out.toList, ∀ q ∈ a.toList.take na, O.kle (kf q) (kf p)
 lb : ∀ p ∈ out.toList, ∀ q ∈ b.toList.take nb, O.kle (kf q) (kf p)
variable {kf}
theorem ext_zero (a : Array Keyed) (i : Nat) : (a.extract 0 i).toList = a.toList.take i := by
 rw [Array.toList_extract]
 simp [List.extract]
theorem up_take {a : Array Keyed} (ha : KeysUp kf a) (i : Nat) : Up kf (a.toList.take i) := (ha.up).sublist (List.take_sublist _ _)
theorem take_le_drop {a : Array Keyed} (ha : KeysUp kf a) {i : Nat} {p q : Keyed} (hq : q ∈ a.toList.take i) (hp : p ∈ a.toList.drop i) : O.kle (kf q) (kf p) := by
 have h := ha.up
 rw [<- List.take_append_drop i a.toList] at h
 exact (List.pairwise_append.mp h).2.2 q hq p hp
theorem take_le_at {a : Array Keyed} (ha : KeysUp kf a) {i j : Nat} {p q : Keyed} (hq : q ∈ a.toList.take i) (hp : a[j]? = some p) (hij : i <= j + 1) : O.kle (kf q) (kf p) := by
 obtain ⟨m, hm⟩ := List.getElem?_of_mem hq
 have hlt : m < i := by
  have := (List.getElem?_eq_some_iff.mp hm).1
  rw [List.length_take] at this
  (first | lia | omega)
 rw [List.getElem?_take_of_lt hlt] at hm
 exact ha m j q p (by (first | lia | omega)) (by rw [<- hm]; simp) hp
theorem WayH.done {a b out : Array Keyed} {na nb : Nat} (w : WayH kf a b out na nb) (hb : KeysUp kf b) (e : na = 0) : Res kf a b (a.extract 0 na ++ b.extract 0 nb ++ out.reverse) := by
 subst e
 have e : (a.extract 0 0 ++ b.extract 0 nb ++ out.reverse).toList = b.toList.take nb ++ out.toList.reverse := by
  rw [Array.toList_append, Array.toList_append, ext_zero, ext_zero, Array.toList_reverse]
  simp
 refine ⟨?_, ?_⟩
 ·rw [e]
  refine (List.Perm.append_left _ w.perm).trans ?_
  rw [List.drop_zero, <- List.append_assoc]
  refine (List.Perm.append_right _ List.perm_append_comm).trans ?_
  rw [List.append_assoc, List.take_append_drop]
 ·rw [e]
  exact up_append (up_take hb nb) w.up fun p hp q hq => w.lb q (List.mem_reverse.mp hq) p hp
theorem WayH.first {a b out : Array Keyed} {na nb : Nat} (w : WayH kf a b out na nb) (ha : KeysUp kf a) (hb : KeysUp kf b) (h : ∀ p ∈ b.toList.take nb, ∀ q ∈ a.toList, O.kle (kf p) (kf q)) : Res kf a b (b.extract 0 nb ++ a.extract 0 na ++ out.reverse) := by
 have e : (b.extract 0 nb ++ a.extract 0 na ++ out.reverse).toList = b.toList.take nb ++ (a.toList.take na ++ out.toList.reverse) := by
  rw [Array.toList_append, Array.toList_append, ext_zero, ext_zero, Array.toList_reverse, List.append_assoc]
 refine ⟨?_, ?_⟩
 ·rw [e]
  refine (List.Perm.append_left _ (List.Perm.append_left _ w.perm)).trans ?_
  rw [<- List.append_assoc (a.toList.take na), List.take_append_drop, <- List.append_assoc]
  refine (List.Perm.append_right _ List.perm_append_comm).trans ?_
  rw [List.append_assoc, List.take_append_drop]
 ·rw [e]
  refine up_append (up_take hb nb) (up_append (up_take ha na) w.up fun p hp q hq => w.la q (List.mem_reverse.mp hq) p hp) fun p hp q hq => ?_
  rcases List.mem_append.mp hq with h' | h'
  ·exact h p hp q (List.mem_of_mem_take h')
  ·exact w.lb q (List.mem_reverse.mp h') p hp
theorem drop_mid (l : List Keyed) {i j : Nat} (h : i <= j) : (l.drop i).take (j - i) ++ l.drop j = l.drop i := by
 have := List.take_append_drop (j - i) (l.drop i)
 rw [List.drop_drop, show i + (j - i) = j by (first | lia | omega)] at this
 exact this
theorem WayH.addA {a b out out' : Array Keyed} {na na' nb : Nat} (w : WayH kf a b out na nb) (ha : KeysUp kf a) (hle : na' <= na) (e : out'.toList.reverse = (a.toList.drop na').take (na - na') ++ out.toList.reverse)
  (h : ∀ p ∈ (a.toList.drop na').take (na - na'), ∀ q ∈ b.toList.take nb, O.kle (kf q) (kf p)) : WayH kf a b out' na' nb := by
 have mid : ∀ p ∈ (a.toList.drop na').take (na - na'), p ∈ a.toList.take na := fun p hp => by
  rw [<- List.drop_take] at hp
  exact List.mem_of_mem_drop hp
 have spl : ∀ p ∈ out'.toList, p ∈ (a.toList.drop na').take (na - na') ∨ p ∈ out.toList := fun p hp => by
  have : p ∈ out'.toList.reverse := List.mem_reverse.mpr hp
  rw [e] at this
  exact (List.mem_append.mp this).imp id List.mem_reverse.mp
 refine ⟨?_, ?_, fun p hp q hq => ?_, fun p hp q hq => ?_⟩
 ·rw [e]
  refine (List.Perm.append_left _ w.perm).trans ?_
  rw [<- List.append_assoc, drop_mid _ hle]
 ·rw [e]
  refine up_append (ha.up.sublist ((List.take_sublist _ _).trans (List.drop_sublist _ _))) w.up fun p hp q hq => w.la q (List.mem_reverse.mp hq) p (mid p hp)
 ·rcases spl p hp with h' | h'
  ·exact take_le_drop ha hq (List.mem_of_mem_take h')
  ·refine w.la p h' q ?_
   rw [show na' = min na' na by (first | lia | omega), <- List.take_take] at hq
   exact List.mem_of_mem_take hq
 ·rcases spl p hp with h' | h'
  ·exact h p h' q hq
  ·exact w.lb p h' q hq
theorem WayH.flip {a b out : Array Keyed} {na nb : Nat} (w : WayH kf a b out na nb) : WayH kf b a out nb na := ⟨w.perm.trans List.perm_append_comm, w.up, w.lb, w.la⟩
theorem one_mid {a : Array Keyed} {n : Nat} {p : Keyed} (hp : a[n]? = some p) : (a.toList.drop n).take (n + 1 - n) = [p] := by
 have h1 : a.toList[n]? = some p := by rw [<- hp]; simp
 have h2 : n < a.toList.length := (List.getElem?_eq_some_iff.mp h1).1
 rw [show n + 1 - n = 1 by (first | lia | omega), List.drop_eq_getElem_cons h2, (List.getElem?_eq_some_iff.mp h1).2]
 rfl
theorem WayH.pushA {a b out : Array Keyed} {na nb : Nat} {p : Keyed} (w : WayH kf a b out na nb) (ha : KeysUp kf a) (h0 : 0 < na) (hp : a[na - 1]? = some p) (h : ∀ q ∈ b.toList.take nb, O.kle (kf q) (kf p)) : WayH kf a b (out.push p) (na - 1) nb := by
 have e := one_mid hp
 rw [show na - 1 + 1 = na by (first | lia | omega)] at e
 refine w.addA ha (by (first | lia | omega)) ?_ fun x hx q hq => ?_
 ·rw [e, Array.toList_push]
  simp
 ·rw [e] at hx
  rw [List.mem_singleton.mp hx]
  exact h q hq
theorem WayH.manyA {a b out : Array Keyed} {na n1 nb : Nat} (w : WayH kf a b out na nb) (ha : KeysUp kf a) (hle : n1 <= na) (h : ∀ i p, n1 <= i -> i < na -> a[i]? = some p -> ∀ q ∈ b.toList.take nb, O.kle (kf q) (kf p)) : WayH kf a b (out ++ (a.extract n1 na).reverse) n1 nb := by
 have e := ext_mid a n1 (na - n1)
 rw [show n1 + (na - n1) = na by (first | lia | omega)] at e
 refine w.addA ha hle ?_ fun x hx q hq => ?_
 ·rw [Array.toList_append, Array.toList_reverse, e]
  simp
 ·obtain ⟨m, hm⟩ := List.getElem?_of_mem hx
  have hlt : m < na - n1 := by
   have := (List.getElem?_eq_some_iff.mp hm).1
   rw [List.length_take] at this
   (first | lia | omega)
  rw [List.getElem?_take_of_lt hlt, List.getElem?_drop] at hm
  exact h (n1 + m) x (by (first | lia | omega)) (by (first | lia | omega)) (by rw [<- hm]; simp) q hq
end
end Srt
namespace Srt
open PySem PyProof.Rows
section
variable {M : Model} {A : Around} {E : Value -> Shared -> Prop} {s : Shared}
variable {O : KeyOrd} {kf : Keyed -> O.α} {okk : Keyed -> Prop} {kd : SortKind}
theorem at_take {a : Array Keyed} {i : Nat} {q : Keyed} (hq : q ∈ a.toList.take i) : ∃ m, m < i /\ a[m]? = some q := by
 obtain ⟨m, hm⟩ := List.getElem?_of_mem hq
 have hlt : m < i := by
  have := (List.getElem?_eq_some_iff.mp hm).1
  rw [List.length_take] at this
  (first | lia | omega)
 rw [List.getElem?_take_of_lt hlt] at hm
 exact ⟨m, hlt, by rw [<- hm]; simp⟩
set_option maxHeartbeats 4000000 in
theorem wpS_mergeHi (C : Cmp M A E s kd O kf okk) {st : SortSt} (hk : kindOf st = kd) {a b : Array Keyed} {Q : Array Keyed -> SortSt -> Prop} (oka : ∀ p ∈ a.toList, okk p) (okb : ∀ p ∈ b.toList, okk p) (ha : KeysUp kf a) (hb : KeysUp kf b) (na1 : 0 < a.size) (nb1 : 0 < b.size)
  (h0 : ∀ p q, b[0]? = some p -> a[0]? = some q -> O.klt (kf p) (kf q)) (hl : ∀ p q, a[a.size - 1]? = some p -> q ∈ b.toList -> O.klt (kf q) (kf p))
  (h : ∀ r g, Res kf a b r -> Q r (withG st g)) : wpS M A E s (mergeHi' a b) Q st := by
 unfold mergeHi'
 have hb0 : b[0]? = some b[0] := Array.getElem?_eq_getElem nb1
 have ha0 : a[0]? = some a[0] := Array.getElem?_eq_getElem na1
 have hal : a[a.size - 1]? = some a[a.size - 1] := Array.getElem?_eq_getElem (by (first | lia | omega))
 have hfirst : ∀ {out : Array Keyed} {na nb : Nat}, WayH kf a b out na nb -> nb = 1 -> Res kf a b (b.extract 0 nb ++ a.extract 0 na ++ out.reverse) := fun w e => w.first ha hb fun p hp q hq => by
  subst e
  have g1 := take_le_at hb hp hb0 (by (first | lia | omega))
  obtain ⟨m, hm⟩ := List.getElem?_of_mem hq
  exact KeyOrd.kle_trans g1 (KeyOrd.kle_trans (KeyOrd.kle_of_klt (h0 _ _ hb0 ha0)) (ha 0 m _ _ (by (first | lia | omega)) ha0 (by rw [<- hm]; simp)))
 have mema : ∀ {i : Nat} {p : Keyed}, a[i]? = some p -> okk p := fun {i p} h => oka p (List.mem_of_getElem? (i := i) (by rw [<- h]; simp))
 have memb : ∀ {i : Nat} {p : Keyed}, b[i]? = some p -> okk p := fun {i p} h => okb p (List.mem_of_getElem? (i := i) (by rw [<- h]; simp))
 have hz : withG st (gallopOf st) = st := rfl
 have w0 : WayH kf a b #[a[a.size - 1]] (a.size - 1) b.size := by
  have e : WayH kf a b #[] a.size b.size := ⟨by simp, List.Pairwise.nil, fun p hp => by simp at hp, fun p hp => by simp at hp⟩
  exact e.pushA ha na1 hal fun q hq => KeyOrd.kle_of_klt (hl _ q hal (List.mem_of_mem_take hq))
 refine wpS_bind (wpS_lift (wpAny_rule ⟨rfl, ?_⟩))
 try dsimp only
 refine wpS_bind (wpS_elem hal ?_)
 try dsimp only
 by_cases e1 : (a.size - 1 == 0) = true
 ·rw [if_pos e1]
  have := h _ (gallopOf st) (w0.done hb (by simpa using e1))
  rw [hz] at this
  exact wpS_pure this
 rw [if_neg e1]
 have e1' : a.size - 1 ≠ 0 := by simpa using e1
 by_cases e2 : (b.size == 1) = true
 ·rw [if_pos e2]
  have := h _ (gallopOf st) (hfirst w0 (by simpa using e2))
  rw [hz] at this
  exact wpS_pure this
 rw [if_neg e2]
 have e2' : b.size ≠ 1 := by simpa using e2
 refine wpS_bind (wpS_get ?_)
 try dsimp only
 refine wpS_bind (wpS_mono (wpS_forRange (I := fun x c st' => (∃ g0, st' = withG st g0) /\ ∃ out na nb g, c = (none, na, nb, out, g) /\ WayH kf a b out na nb /\ 1 <= na /\ 2 <= nb /\ na <= a.size /\ nb <= b.size /\ x + 1 + (na + nb) <= a.size + b.size)
  (Q := fun c st' => (∃ g0, st' = withG st g0) /\ ∃ r, c.1 = some r /\ Res kf a b r) ?step ?fin ⟨⟨_, hz.symm⟩, _, _, _, _, rfl, w0, by (first | lia | omega), by (first | lia | omega), by (first | lia | omega), by (first | lia | omega), by (first | lia | omega)⟩) ?post)
 case fin =>
  rintro c st' ⟨_, out, na, nb, g, rfl, w, h1, h2, h1', h2', h3⟩
  rw [Nat.max_eq_right (Nat.zero_le _)] at h3
  (first | lia | omega)
 case post =>
  rintro ⟨c1, c2⟩ st' ⟨⟨g0, rfl⟩, r, hc, hr⟩
  dsimp only at hc
  subst hc
  exact wpS_pure (h r g0 hr)
 case step =>
  rintro x c st' _ hx ⟨⟨g0, rfl⟩, out0, na0, nb0, g, rfl, w00, h10, h20, h10', h20', h30⟩
  dsimp only
  refine wpS_bind (wpS_mono (wpS_forRange (I := fun y c st'' => st'' = withG st g0 /\ ∃ out na nb ac bc, c = (none, na, nb, out, ac, bc) /\ WayH kf a b out na nb /\ 1 <= na /\ 2 <= nb /\ na <= a.size /\ nb <= b.size /\ y + (na + nb) <= na0 + nb0)
   (Q := fun c st'' => st'' = withG st g0 /\ ((∃ r, c.1 = some r /\ Res kf a b r) ∨ ∃ out na nb ac bc, c = (none, na, nb, out, ac, bc) /\ WayH kf a b out na nb /\ 1 <= na /\ 2 <= nb /\ na <= a.size /\ nb <= b.size /\ na + nb + 1 <= na0 + nb0)) ?step1 ?fin1 ⟨rfl, _, _, _, _, _, rfl, w00, h10, h20, h10', h20', by (first | lia | omega)⟩) ?post1)
  case fin1 =>
   rintro c st' ⟨rfl, out, na, nb, ac, bc, rfl, w, h1, h2, h1', h2', h3⟩
   rw [Nat.max_eq_right (Nat.zero_le _)] at h3
   exact ⟨rfl, .inr ⟨_, _, _, _, _, rfl, w, h1, h2, h1', h2', by (first | lia | omega)⟩⟩
  case step1 =>
   rintro y c st' _ hy ⟨rfl, out, na, nb, ac, bc, rfl, w, h1, h2, h1', h2', h3⟩
   dsimp only
   have hpb : b[nb - 1]? = some b[nb - 1] := Array.getElem?_eq_getElem (by (first | lia | omega))
   have hpa : a[na - 1]? = some a[na - 1] := Array.getElem?_eq_getElem (by (first | lia | omega))
   refine wpS_bind (wpS_elem hpb ?_)
   refine wpS_bind (wpS_elem hpa ?_)
   refine wpS_bind (C.lt _ _ _ _ (memb hpb) (mema hpa) hk ?_)
   dsimp only
   cases hbl : O.blt (kf b[nb - 1]) (kf a[na - 1]) with
   | true =>
    rw [if_pos rfl]
    refine wpS_bind (wpS_elem hpa ?_)
    have w' := w.pushA ha (by (first | lia | omega)) hpa fun q hq => KeyOrd.kle_trans (take_le_at hb hq hpb (by (first | lia | omega))) (KeyOrd.kle_of_klt hbl)
    by_cases e : (na - 1 == 0) = true
    ·rw [if_pos e]
     exact wpS_pure ⟨rfl, .inl ⟨_, rfl, w'.done hb (by simpa using e)⟩⟩
    ·rw [if_neg e]
     have e' : na - 1 ≠ 0 := by simpa using e
     by_cases e3 : ac + 1 ≥ g
     ·rw [if_pos e3]
      exact wpS_pure ⟨rfl, .inr ⟨_, _, _, _, _, rfl, w', by (first | lia | omega), by (first | lia | omega), by (first | lia | omega), by (first | lia | omega), by (first | lia | omega)⟩⟩
     ·rw [if_neg e3]
      exact wpS_pure ⟨rfl, _, _, _, _, _, rfl, w', by (first | lia | omega), by (first | lia | omega), by (first | lia | omega), by (first | lia | omega), by (first | lia | omega)⟩
   | false =>
    rw [if_neg (by decide)]
    refine wpS_bind (wpS_elem hpb ?_)
    have w' := (w.flip.pushA hb (by (first | lia | omega)) hpb fun q hq => KeyOrd.kle_trans (take_le_at ha hq hpa (by (first | lia | omega))) hbl).flip
    by_cases e : (nb - 1 == 1) = true
    ·rw [if_pos e]
     exact wpS_pure ⟨rfl, .inl ⟨_, rfl, hfirst w' (by simpa using e)⟩⟩
    ·rw [if_neg e]
     have e' : nb - 1 ≠ 1 := by simpa using e
     by_cases e3 : bc + 1 ≥ g
     ·rw [if_pos e3]
      exact wpS_pure ⟨rfl, .inr ⟨_, _, _, _, _, rfl, w', by (first | lia | omega), by (first | lia | omega), by (first | lia | omega), by (first | lia | omega), by (first | lia | omega)⟩⟩
     ·rw [if_neg e3]
      exact wpS_pure ⟨rfl, _, _, _, _, _, rfl, w', by (first | lia | omega), by (first | lia | omega), by (first | lia | omega), by (first | lia | omega), by (first | lia | omega)⟩
  case post1 =>
   rintro c st' ⟨rfl, ⟨r, hc, hr⟩ | ⟨out1, na1, nb1, ac, bc, rfl, w1, h11, h21, h11', h21', h31⟩⟩
   ·obtain ⟨c1, c2⟩ := c
    dsimp only at hc
    subst hc
    exact wpS_pure ⟨⟨_, rfl⟩, _, rfl, hr⟩
   ·dsimp only
    refine wpS_bind (wpS_lift (wpAny_rule ⟨rfl, ?_⟩))
    refine wpS_bind (wpS_mono (wpS_forRange (I := fun y c st'' => (∃ g1, st'' = withG st g1) /\ ∃ out na nb g ac bc, c = (none, na, nb, out, g, ac, bc) /\ WayH kf a b out na nb /\ 1 <= na /\ 2 <= nb /\ na <= a.size /\ nb <= b.size /\ na + nb + 1 <= na0 + nb0)
     (Q := fun c st'' => (∃ g1, st'' = withG st g1) /\ ((∃ r, c.1 = some r /\ Res kf a b r) ∨ ∃ out na nb g ac bc, c = (none, na, nb, out, g, ac, bc) /\ WayH kf a b out na nb /\ 1 <= na /\ 2 <= nb /\ na <= a.size /\ nb <= b.size /\ na + nb + 1 <= na0 + nb0)) ?step2 ?fin2 ⟨⟨_, rfl⟩, _, _, _, _, _, _, rfl, w1, h11, h21, h11', h21', h31⟩) ?post2)
    case fin2 =>
     rintro c st' ⟨hg, hc⟩
     exact ⟨hg, .inr hc⟩
    case post2 =>
     rintro c st' ⟨⟨g1, rfl⟩, ⟨r, hc, hr⟩ | ⟨out2, na2, nb2, g2, ac2, bc2, rfl, w2, h12, h22, h12', h22', h32⟩⟩
     ·obtain ⟨c1, c2⟩ := c
      dsimp only at hc
      subst hc
      exact wpS_pure ⟨⟨_, rfl⟩, _, rfl, hr⟩
     ·dsimp only
      refine wpS_bind (wpS_modify ?_)
      exact wpS_pure ⟨⟨_, rfl⟩, _, _, _, _, rfl, w2, h12, h22, h12', h22', by (first | lia | omega)⟩
    case step2 =>
     rintro y c st' _ hy ⟨⟨g1, rfl⟩, out, na, nb, g', ac', bc', rfl, w, h1, h2, h1', h2', h3⟩
     dsimp only
     have hpb : b[nb - 1]? = some b[nb - 1] := Array.getElem?_eq_getElem (by (first | lia | omega))
     obtain ⟨bx, hbx⟩ : ∃ bx, bx = b[nb - 1] := ⟨_, rfl⟩
     generalize g' - 1 = u
     revert u
     refine wpS_ite_jp ?_
     intro g3
     refine wpS_bind (wpS_modify ?_)
     refine wpS_bind (wpS_elem hpb ?_)
     refine wpS_bind (gallopR C (st := withG st g3) hk oka (memb hpb) ha (by (first | lia | omega)) (by (first | lia | omega)) fun at_ hkn hle hgt => ?_)
     have fA : ∀ q ∈ a.toList.take at_, O.kle (kf q) (kf b[nb - 1]) := fun q hq => by
      obtain ⟨m, hm1, hm2⟩ := at_take hq
      exact hle m q hm1 (by rw [Nat.zero_add]; exact hm2)
     dsimp only
     have wA := w.manyA ha (n1 := at_) (by (first | lia | omega)) fun i p hi1 hi2 hp q hq => by
      have g1 := hgt i p hi1 hi2 (by rw [Nat.zero_add]; exact hp)
      exact KeyOrd.kle_trans (take_le_at hb hq hpb (by (first | lia | omega))) (KeyOrd.kle_of_klt g1)
     have hP : WayH kf a b (out ++ (a.extract at_ na).reverse) at_ nb /\ (∀ q ∈ a.toList.take at_, O.kle (kf q) (kf bx)) /\ at_ <= na := ⟨wA, by rw [hbx]; exact fA, by (first | lia | omega)⟩
     have hC0 : (∀ q ∈ a.toList.take na, O.kle (kf q) (kf bx)) ∨ na - at_ > 0 := by
      rcases Nat.eq_zero_or_pos (na - at_) with z | z
      ·rw [show na = at_ by (first | lia | omega), hbx]
       exact .inl fA
      ·exact .inr z
     revert hP
     clear wA fA hle hgt hkn
     generalize hac : na - at_ = ac at hC0 ⊢
     clear hac
     generalize out ++ (a.extract at_ na).reverse = o1
     revert at_ o1
     refine wpS_ite_jp3 (C := fun o n1 => WayH kf a b o n1 nb /\ (∀ q ∈ a.toList.take n1, O.kle (kf q) (kf bx)) /\ n1 ≠ 0 /\ n1 <= na) (fun n1 o1 hP _ e4 => ?_) (fun n1 o1 hP e4 => ?_) (fun ek => ?_) ?_
     ·exact wpS_pure ⟨⟨_, rfl⟩, .inl ⟨_, rfl, hP.1.done hb (by simpa using e4)⟩⟩
     ·exact ⟨hP.1, hP.2.1, by simpa using e4, hP.2.2⟩
     ·rcases hC0 with c1 | c
      ·exact ⟨w, c1, by (first | lia | omega), Nat.le_refl _⟩
      ·exact absurd c ek
     ·rintro o1 n1 ⟨wA, fA, e4', hn1⟩
      rw [hbx] at fA
      refine wpS_bind (wpS_elem hpb ?_)
      have wB := (wA.flip.pushA hb (by (first | lia | omega)) hpb fA).flip
      by_cases e5 : (nb - 1 == 1) = true
      ·rw [if_pos e5]
       exact wpS_pure ⟨⟨_, rfl⟩, .inl ⟨_, rfl, hfirst wB (by simpa using e5)⟩⟩
      rw [if_neg e5]
      have e5' : nb - 1 ≠ 1 := by simpa using e5
      have hpa : a[n1 - 1]? = some a[n1 - 1] := Array.getElem?_eq_getElem (by (first | lia | omega))
      refine wpS_bind (wpS_elem hpa ?_)
      refine wpS_bind (gallopL C (st := withG st g3) hk okb (mema hpa) hb (by (first | lia | omega)) (by (first | lia | omega)) fun bt hbn hlt1 hge1 => ?_)
      dsimp only
      have fB : ∀ q ∈ b.toList.take bt, O.kle (kf q) (kf a[n1 - 1]) := fun q hq => by
       obtain ⟨m, hm1, hm2⟩ := at_take hq
       exact KeyOrd.kle_of_klt (hlt1 m q hm1 (by rw [Nat.zero_add]; exact hm2))
      by_cases ek1 : nb - 1 - bt > 0
      ·rw [if_pos ek1]
       have wC := (wB.flip.manyA hb (n1 := bt) (by (first | lia | omega)) fun i p hi1 hi2 hp q hq => by
        have g1 := hge1 i p hi1 hi2 (by rw [Nat.zero_add]; exact hp)
        exact KeyOrd.kle_trans (take_le_at ha hq hpa (by (first | lia | omega))) g1).flip
       by_cases e6 : (bt == 1) = true
       ·rw [if_pos e6]
        exact wpS_pure ⟨⟨_, rfl⟩, .inl ⟨_, rfl, hfirst wC (by simpa using e6)⟩⟩
       rw [if_neg e6]
       have e6' : bt ≠ 1 := by simpa using e6
       have e9 : bt ≠ 0 := fun hz9 => by
        have g1 := hge1 0 b[0] (by (first | lia | omega)) (by (first | lia | omega)) (by rw [Nat.zero_add]; exact hb0)
        exact KeyOrd.not_klt_of_kle (KeyOrd.kle_trans (ha 0 (n1 - 1) _ _ (by (first | lia | omega)) ha0 hpa) g1) (h0 _ _ hb0 ha0)
       rw [if_neg (show ¬ ((bt == 0) = true) by simpa using e9)]
       refine wpS_bind (wpS_elem hpa ?_)
       have wD := wC.pushA ha (by (first | lia | omega)) hpa fB
       by_cases e7 : (n1 - 1 == 0) = true
       ·rw [if_pos e7]
        exact wpS_pure ⟨⟨_, rfl⟩, .inl ⟨_, rfl, wD.done hb (by simpa using e7)⟩⟩
       rw [if_neg e7]
       have e7' : n1 - 1 ≠ 0 := by simpa using e7
       by_cases e8 : (decide (ac < 7) && decide (nb - 1 - bt < 7)) = true
       ·rw [if_pos e8]
        exact wpS_pure ⟨⟨_, rfl⟩, .inr ⟨_, _, _, _, _, _, rfl, wD, by (first | lia | omega), by (first | lia | omega), by (first | lia | omega), by (first | lia | omega), by (first | lia | omega)⟩⟩
       ·rw [if_neg e8]
        exact wpS_pure ⟨⟨_, rfl⟩, _, _, _, _, _, _, rfl, wD, by (first | lia | omega), by (first | lia | omega), by (first | lia | omega), by (first | lia | omega), by (first | lia | omega)⟩
      ·rw [if_neg ek1]
       have fB' : ∀ q ∈ b.toList.take (nb - 1), O.kle (kf q) (kf a[n1 - 1]) := by
        rw [show nb - 1 = bt by (first | lia | omega)]
        exact fB
       refine wpS_bind (wpS_elem hpa ?_)
       have wD := wB.pushA ha (by (first | lia | omega)) hpa fB'
       by_cases e7 : (n1 - 1 == 0) = true
       ·rw [if_pos e7]
        exact wpS_pure ⟨⟨_, rfl⟩, .inl ⟨_, rfl, wD.done hb (by simpa using e7)⟩⟩
       rw [if_neg e7]
       have e7' : n1 - 1 ≠ 0 := by simpa using e7
       by_cases e8 : (decide (ac < 7) && decide (nb - 1 - bt < 7)) = true
       ·rw [if_pos e8]
        exact wpS_pure ⟨⟨_, rfl⟩, .inr ⟨_, _, _, _, _, _, rfl, wD, by (first | lia | omega), by (first | lia | omega), by (first | lia | omega), by (first | lia | omega), by (first | lia | omega)⟩⟩
       ·rw [if_neg e8]
        exact wpS_pure ⟨⟨_, rfl⟩, _, _, _, _, _, _, rfl, wD, by (first | lia | omega), by (first | lia | omega), by (first | lia | omega), by (first | lia | omega), by (first | lia | omega)⟩
end
end Srt
namespace Srt
open PySem PyProof.Rows
noncomputable def put (m : List Keyed) (at_ : Nat) (a : Array Keyed) : Array Keyed := m.zipIdx.foldl (fun a pj => a.setIfInBounds (at_ + pj.2) pj.1) a
theorem put_go : ∀ (m : List Keyed) (k at_ : Nat) (a : Array Keyed), at_ + k + m.length <= a.size ->
  ((m.zipIdx k).foldl (fun a pj => a.setIfInBounds (at_ + pj.2) pj.1) a).toList = a.toList.take (at_ + k) ++ (m ++ a.toList.drop (at_ + k + m.length))
 | [], k, at_, a, _ => by simp
 | p :: m, k, at_, a, h => by
  rw [List.zipIdx_cons, List.foldl_cons]
  have h' : at_ + (k + 1) + m.length <= (a.setIfInBounds (at_ + k) p).size := by
   rw [Array.size_setIfInBounds]
   simp only [List.length_cons] at h
   (first | lia | omega)
  rw [put_go m (k + 1) at_ _ h', Array.toList_setIfInBounds]
  simp only [List.length_cons] at h ⊢
  have hl : at_ + k < a.toList.length := by simp; (first | lia | omega)
  have e1 : (a.toList.set (at_ + k) p).take (at_ + (k + 1)) = a.toList.take (at_ + k) ++ [p] := by
   rw [show at_ + (k + 1) = at_ + k + 1 by (first | lia | omega), List.take_succ, List.take_set_of_le (Nat.le_refl _), List.getElem?_set_self hl]
   rfl
  have e2 : (a.toList.set (at_ + k) p).drop (at_ + (k + 1) + m.length) = a.toList.drop (at_ + k + (m.length + 1)) := by
   rw [List.drop_set_of_lt (by (first | lia | omega))]
   congr 1
   (first | lia | omega)
  rw [e1, e2, List.append_assoc]
  rfl
theorem put_list {m : List Keyed} {at_ : Nat} {a : Array Keyed} (h : at_ + m.length <= a.size) : (put m at_ a).toList = a.toList.take at_ ++ (m ++ a.toList.drop (at_ + m.length)) := by
 have := put_go m 0 at_ a (by (first | lia | omega))
 rw [Nat.add_zero] at this
 exact this
end Srt
namespace Srt
open PySem PyProof.Rows
section
variable {O : KeyOrd} {kf : Keyed -> O.α}
theorem put_at {r arr : Array Keyed} {lo : Nat} (h : lo + r.size <= arr.size) (j : Nat) : (put r.toList lo arr)[j]? = if lo <= j /\ j < lo + r.size then r[j - lo]? else arr[j]? := by
 have e := put_list (m := r.toList) (at_ := lo) (a := arr) (by simpa using h)
 have g : (put r.toList lo arr)[j]? = (put r.toList lo arr).toList[j]? := by simp
 have lt : (arr.toList.take lo).length = lo := by simp; (first | lia | omega)
 have lr : r.toList.length = r.size := by simp
 rw [g, e]
 by_cases h1 : j < lo
 ·rw [if_neg (by (first | lia | omega)), List.getElem?_append_left (by rw [lt]; exact h1), List.getElem?_take_of_lt h1]
  simp
 ·rw [List.getElem?_append_right (by rw [lt]; (first | lia | omega)), lt]
  by_cases h2 : j < lo + r.size
  ·rw [if_pos ⟨by (first | lia | omega), h2⟩, List.getElem?_append_left (by rw [lr]; (first | lia | omega))]
   simp
  ·rw [if_neg (by (first | lia | omega)), List.getElem?_append_right (by rw [lr]; (first | lia | omega)), List.getElem?_drop, lr, show lo + r.size + (j - lo - r.size) = j by (first | lia | omega)]
   simp
theorem put_run {r arr : Array Keyed} {sa lo hi sb : Nat} (hsz : r.size = hi - lo) (hlo : lo <= hi) (hsa : sa <= lo) (hhi : hi <= sb) (hin : sb <= arr.size) (ur : Up kf r.toList)
  (r1 : RunUp kf arr sa lo) (r2 : RunUp kf arr hi sb)
  (pre : ∀ i p, sa <= i -> i < lo -> arr[i]? = some p -> ∀ q ∈ r.toList, O.kle (kf p) (kf q))
  (post : ∀ j q, hi <= j -> j < sb -> arr[j]? = some q -> ∀ p ∈ r.toList, O.kle (kf p) (kf q))
  (far : ∀ i j p q, sa <= i -> i < lo -> hi <= j -> j < sb -> arr[i]? = some p -> arr[j]? = some q -> O.kle (kf p) (kf q)) : RunUp kf (put r.toList lo arr) sa sb := by
 intro i j p q h1 h2 h3 hp hq
 rw [put_at (by (first | lia | omega))] at hp hq
 have mem : ∀ {m : Nat} {p : Keyed}, r[m]? = some p -> p ∈ r.toList := fun {m p} h => List.mem_of_getElem? (i := m) (by rw [<- h]; simp)
 by_cases a1 : lo <= i /\ i < lo + r.size
 ·rw [if_pos a1] at hp
  by_cases a2 : lo <= j /\ j < lo + r.size
  ·rw [if_pos a2] at hq
   by_cases hij : i = j
   ·subst hij
    rw [hp] at hq
    cases hq
    exact KeyOrd.kle_refl _
   ·have l1 : r.toList[i - lo]? = some p := by rw [<- hp]; simp
    have l2 : r.toList[j - lo]? = some q := by rw [<- hq]; simp
    obtain ⟨b1, c1⟩ := List.getElem?_eq_some_iff.mp l1
    obtain ⟨b2, c2⟩ := List.getElem?_eq_some_iff.mp l2
    have := List.pairwise_iff_getElem.mp ur (i - lo) (j - lo) b1 b2 (by (first | lia | omega))
    rw [c1, c2] at this
    exact this
  ·rw [if_neg a2] at hq
   exact post j q (by (first | lia | omega)) h3 hq p (mem hp)
 ·rw [if_neg a1] at hp
  by_cases a2 : lo <= j /\ j < lo + r.size
  ·rw [if_pos a2] at hq
   exact pre i p h1 (by (first | lia | omega)) hp q (mem hq)
  ·rw [if_neg a2] at hq
   by_cases b1 : i < lo
   ·by_cases b2 : j < lo
    ·exact r1 i j p q h1 h2 b2 hp hq
    ·exact far i j p q h1 b1 (by (first | lia | omega)) h3 hp hq
   ·exact r2 i j p q (by (first | lia | omega)) h2 h3 hp hq
end
end Srt
namespace Srt
open PySem PyProof.Rows
section
variable {O : KeyOrd} {kf : Keyed -> O.α}
theorem ext_at {a : Array Keyed} {i j m : Nat} (hj : j <= a.size) (hm : m < j - i) : (a.extract i j)[m]? = a[i + m]? := by
 rw [Array.getElem?_extract_of_lt (by (first | lia | omega))]
 exact (Array.getElem?_eq_getElem _).symm
theorem ext_mem {a : Array Keyed} {i j : Nat} (hj : j <= a.size) {q : Keyed} (h : q ∈ (a.extract i j).toList) : ∃ m, i <= m /\ m < j /\ a[m]? = some q := by
 obtain ⟨m, hm⟩ := List.getElem?_of_mem h
 have hl : m < j - i := by
  have := (List.getElem?_eq_some_iff.mp hm).1
  simp at this
  (first | lia | omega)
 have : (a.extract i j)[m]? = some q := by rw [<- hm]; exact (Array.getElem?_toList).symm
 rw [ext_at hj hl] at this
 exact ⟨i + m, by (first | lia | omega), by (first | lia | omega), this⟩
theorem ext_up {a : Array Keyed} {i j : Nat} (hj : j <= a.size) (h : RunUp kf a i j) : KeysUp kf (a.extract i j) := by
 intro m n p q hmn hp hq
 have hl : n < j - i := by
  have := (Array.getElem?_eq_some_iff.mp hq).1
  simp at this
  (first | lia | omega)
 rw [ext_at hj (by (first | lia | omega))] at hp
 rw [ext_at hj hl] at hq
 exact h _ _ p q (by (first | lia | omega)) (by (first | lia | omega)) (by (first | lia | omega)) hp hq
theorem put_perm {r arr : Array Keyed} {lo mid hi : Nat} (h1 : lo <= mid) (h2 : mid <= hi) (h3 : hi <= arr.size) (hr : r.toList.Perm ((arr.extract lo mid).toList ++ (arr.extract mid hi).toList)) : (put r.toList lo arr).Perm arr := by
 have hsz : r.toList.length = hi - lo := by
  rw [hr.length_eq]
  simp
  (first | lia | omega)
 rw [Array.perm_iff_toList_perm, put_list (by (first | lia | omega)), hsz, show lo + (hi - lo) = hi by (first | lia | omega)]
 refine (List.Perm.append_left _ (List.Perm.append_right _ hr)).trans ?_
 have e1 := ext_mid arr lo (mid - lo)
 have e2 := ext_mid arr mid (hi - mid)
 rw [show lo + (mid - lo) = mid by (first | lia | omega)] at e1
 rw [show mid + (hi - mid) = hi by (first | lia | omega)] at e2
 rw [e1, e2, List.append_assoc, drop_mid _ h2, drop_mid _ h1, List.take_append_drop]
end
end Srt
namespace Srt
open PySem PyProof.Rows
section
variable {M : Model} {A : Around} {E : Value -> Shared -> Prop} {s : Shared} {O : KeyOrd} {kf : Keyed -> O.α} {okk : Keyed -> Prop} {kd : SortKind}
noncomputable def ka (kf : Keyed -> O.α) (a : Array Keyed) (i : Nat) : O.α := kf (a[i]?.getD (.none, .none))
theorem ka_congr {a b : Array Keyed} {i j : Nat} (h : a[i]? = b[j]?) : ka kf a i = ka kf b j := by
 unfold ka
 rw [h]
theorem ka_at {a : Array Keyed} {i : Nat} {p : Keyed} (h : a[i]? = some p) : ka kf a i = kf p := by
 unfold ka
 rw [h]
 rfl
theorem ka_mir {a : Array Keyed} {i j : Nat} (hj : j <= a.size) (k : Nat) : ka kf (mirror a i j ((j - i) / 2)) k = if i <= k /\ k < j then ka kf a (i + j - 1 - k) else ka kf a k := by
 have e := getElem?_mirror_all (i := i) hj k
 by_cases c : i <= k /\ k < j
 ·rw [if_pos c] at e ⊢
  exact ka_congr e
 ·rw [if_neg c] at e ⊢
  exact ka_congr e
theorem ka_mirE {a : Array Keyed} {i j : Nat} (hj : j <= a.size) (he : ∀ k, i <= k -> k < j -> ka kf a k = ka kf a (j - 1)) (k : Nat) : ka kf (mirror a i j ((j - i) / 2)) k = ka kf a k := by
 rw [ka_mir hj]
 by_cases c : i <= k /\ k < j
 ·rw [if_pos c, he _ (by (first | lia | omega)) (by (first | lia | omega)), he k c.1 c.2]
 ·rw [if_neg c]
theorem ka_bub {a : Array Keyed} {src d : Nat} (hs : src < a.size) (hd : d <= src) (k : Nat) : ka kf (bubble a src d) k = if k = src - d then ka kf a src else if src - d < k /\ k <= src then ka kf a (k - 1) else ka kf a k := by
 have e := getElem?_bubble hs d hd k
 by_cases c : k = src - d
 ·rw [if_pos c] at e ⊢
  exact ka_congr e
 ·rw [if_neg c] at e ⊢
  by_cases c2 : src - d < k /\ k <= src
  ·rw [if_pos c2] at e ⊢
   exact ka_congr e
  ·rw [if_neg c2] at e ⊢
   exact ka_congr e
noncomputable def Sd (kf : Keyed -> O.α) (a : Array Keyed) (lo n : Nat) : Prop := ∀ i j, i <= j -> j < n -> O.kle (ka kf a (lo + i)) (ka kf a (lo + j))
noncomputable def Fd (kf : Keyed -> O.α) (a : Array Keyed) (lo n : Nat) : Prop := ∀ i j, i <= j -> j < n -> O.kle (ka kf a (lo + j)) (ka kf a (lo + i))
theorem Sd.one {a : Array Keyed} {lo : Nat} : Sd kf a lo 1 := fun i j h1 h2 => by
 have : i = j := by (first | lia | omega)
 subst this
 exact KeyOrd.kle_refl _
theorem Sd.more {a : Array Keyed} {lo n : Nat} (h : Sd kf a lo n) (h1 : 1 <= n) (e : O.kle (ka kf a (lo + n - 1)) (ka kf a (lo + n))) : Sd kf a lo (n + 1) := fun i j hij hj => by
 by_cases c : j < n
 ·exact h i j hij c
 ·have hj' : j = n := by (first | lia | omega)
  subst hj'
  by_cases ci : i = j
  ·subst ci
   exact KeyOrd.kle_refl _
  ·have := h i (j - 1) (by (first | lia | omega)) (by (first | lia | omega))
   rw [show lo + (j - 1) = lo + j - 1 by (first | lia | omega)] at this
   exact KeyOrd.kle_trans this e
theorem Fd.more {a : Array Keyed} {lo n : Nat} (h : Fd kf a lo n) (h1 : 1 <= n) (e : O.kle (ka kf a (lo + n)) (ka kf a (lo + n - 1))) : Fd kf a lo (n + 1) := fun i j hij hj => by
 by_cases c : j < n
 ·exact h i j hij c
 ·have hj' : j = n := by (first | lia | omega)
  subst hj'
  by_cases ci : i = j
  ·subst ci
   exact KeyOrd.kle_refl _
  ·have := h i (j - 1) (by (first | lia | omega)) (by (first | lia | omega))
   rw [show lo + (j - 1) = lo + j - 1 by (first | lia | omega)] at this
   exact KeyOrd.kle_trans e this
structure Wk (kd : SortKind) (a0 : Array Keyed) (lo : Nat) (pd : Array (Nat × Nat × Nat)) (st : SortSt) : Prop where
 perm : (arrOf st).Perm a0
 kind : kindOf st = kd
 failed : failedOf st = none
 pend : pendingOf st = pd
 pre : ∀ i, i < lo -> (arrOf st)[i]? = a0[i]?
variable {a0 : Array Keyed} {lo : Nat} {pd : Array (Nat × Nat × Nat)} {st : SortSt}
theorem Wk.size (B : Wk kd a0 lo pd st) : (arrOf st).size = a0.size := B.perm.size_eq
theorem Wk.mir (B : Wk kd a0 lo pd st) {i j : Nat} (h1 : lo <= i) (h2 : j <= a0.size) : Wk kd a0 lo pd (setArr st (mirror (arrOf st) i j ((j - i) / 2))) := by
 refine ⟨(mirror_perm _ _ _ _).trans B.perm, B.kind, B.failed, B.pend, fun k hk => ?_⟩
 show (mirror (arrOf st) i j ((j - i) / 2))[k]? = _
 rw [getElem?_mirror_all (by rw [B.size]; exact h2), if_neg (by (first | lia | omega))]
 exact B.pre k hk
theorem Wk.bub (B : Wk kd a0 lo pd st) {src d : Nat} (h1 : lo + d <= src) (h2 : src < a0.size) : Wk kd a0 lo pd (setArr st (bubble (arrOf st) src d)) := by
 refine ⟨(bubble_perm _ _ _).trans B.perm, B.kind, B.failed, B.pend, fun k hk => ?_⟩
 show (bubble (arrOf st) src d)[k]? = _
 rw [getElem?_bubble (by rw [B.size]; exact h2) d (by (first | lia | omega)), if_neg (by (first | lia | omega)), if_neg (by (first | lia | omega))]
 exact B.pre k hk
theorem Wk.ok (B : Wk kd a0 lo pd st) (ok : ∀ p ∈ a0.toList, okk p) {i : Nat} {p : Keyed} (h : (arrOf st)[i]? = some p) : okk p := by
 refine ok p ((Array.perm_iff_toList_perm.mp B.perm).mem_iff.mp (List.mem_of_getElem? (i := i) ?_))
 rw [<- h]
 simp
theorem ltA (C : Cmp M A E s kd O kf okk) (ok : ∀ p ∈ a0.toList, okk p) (B : Wk kd a0 lo pd st) {i j : Nat} (hi : i < a0.size) (hj : j < a0.size) {Q : Option Bool -> SortSt -> Prop} (h : Q (some (O.blt (ka kf (arrOf st) i) (ka kf (arrOf st) j))) st) : wpS M A E s (ltAt' i j) Q st := by
 obtain ⟨p1, e1⟩ : ∃ p, (arrOf st)[i]? = some p := ⟨_, Array.getElem?_eq_getElem (by rw [B.size]; exact hi)⟩
 obtain ⟨p2, e2⟩ : ∃ p, (arrOf st)[j]? = some p := ⟨_, Array.getElem?_eq_getElem (by rw [B.size]; exact hj)⟩
 rw [ka_at e1, ka_at e2] at h
 rw [ltAt'_eq]
 refine wpS_bind (wpS_get ?_)
 refine wpS_bind (wpS_elem e1 ?_)
 refine wpS_bind (wpS_elem e2 ?_)
 exact C.lt _ _ st _ (B.ok ok e1) (B.ok ok e2) B.kind h
theorem revA {i j : Nat} {Q : Unit -> SortSt -> Prop} (h : Q () (setArr st (mirror (arrOf st) i j ((j - i) / 2)))) : wpS M A E s (reverseSlice' i j) Q st := by
 rw [reverseSlice'_eq]
 exact wpS_modify h
end
end Srt
namespace Srt
open PySem PyProof.Rows
section
variable {M : Model} {A : Around} {E : Value -> Shared -> Prop} {s : Shared} {O : KeyOrd} {kf : Keyed -> O.α} {okk : Keyed -> Prop} {kd : SortKind} {a0 : Array Keyed} {lo : Nat} {pd : Array (Nat × Nat × Nat)} {st : SortSt}
theorem countA (C : Cmp M A E s kd O kf okk) (ok : ∀ p ∈ a0.toList, okk p) (B : Wk kd a0 lo pd st) {nrem : Nat} (hn : lo + nrem <= a0.size) (h1 : 1 <= nrem) {Q : Option Nat -> SortSt -> Prop}
  (h : ∀ m st', Wk kd a0 lo pd st' -> 1 <= m -> m <= nrem -> Sd kf (arrOf st') lo m -> Q (some m) st') : wpS M A E s (countRun' lo nrem) Q st := by
 unfold countRun'
 refine wpS_bind (wpS_mono (wpS_forRange (I := fun x c st' => st' = st /\ c = (none, x) /\ Sd kf (arrOf st) lo x) (Q := fun c st' => st' = st /\ ∃ n, c = (none, n) /\ 1 <= n /\ n <= nrem /\ Sd kf (arrOf st) lo n /\ (n = nrem ∨ O.klt (ka kf (arrOf st) (lo + n)) (ka kf (arrOf st) (lo + n - 1)))) ?step ?fin ⟨rfl, rfl, Sd.one⟩) ?post)
 case fin =>
  rintro c st' ⟨rfl, rfl, hs⟩
  rw [show max 1 nrem = nrem by (first | lia | omega)] at hs ⊢
  exact ⟨rfl, nrem, rfl, h1, Nat.le_refl _, hs, .inl rfl⟩
 case step =>
  rintro x c st' hx1 hx2 ⟨rfl, rfl, hs⟩
  dsimp only
  refine wpS_bind (ltA C ok B (by (first | lia | omega)) (by (first | lia | omega)) ?_)
  cases hb : O.blt (ka kf (arrOf st') (lo + x)) (ka kf (arrOf st') (lo + x - 1)) with
  | true =>
   dsimp only
   rw [if_pos rfl]
   exact wpS_pure ⟨rfl, x, rfl, hx1, by (first | lia | omega), hs, .inr hb⟩
  | false =>
   dsimp only
   rw [if_neg (by decide)]
   exact wpS_pure ⟨rfl, rfl, hs.more hx1 hb⟩
 case post =>
  rintro c st' ⟨rfl, n, rfl, hn1, hn2, hs, hor⟩
  dsimp only
  by_cases hnn : n = nrem
  ·rw [if_pos (by simpa using hnn)]
   exact wpS_pure (h n st' B hn1 hn2 hs)
  rw [if_neg (by simpa using hnn)]
  have hlt := hor.resolve_left hnn
  by_cases hgt : n > 1
  ·rw [if_pos hgt]
   refine wpS_bind (ltA C ok B (by (first | lia | omega)) (by (first | lia | omega)) ?_)
   cases hr : O.blt (ka kf (arrOf st') lo) (ka kf (arrOf st') (lo + n - 1)) with
   | true =>
    dsimp only
    rw [if_pos rfl]
    exact wpS_pure (h n st' B hn1 hn2 hs)
   | false =>
    dsimp only
    rw [if_neg (by decide)]
    refine wpS_bind (revA ?_)
    have hall : ∀ k, lo <= k -> k < lo + n -> ka kf (arrOf st') k = ka kf (arrOf st') (lo + n - 1) := fun k k1 k2 => by
     have a1 := hs 0 (k - lo) (by (first | lia | omega)) (by (first | lia | omega))
     have a2 := hs (k - lo) (n - 1) (by (first | lia | omega)) (by (first | lia | omega))
     rw [show lo + (k - lo) = k by (first | lia | omega)] at a1 a2
     rw [show lo + (n - 1) = lo + n - 1 by (first | lia | omega)] at a2
     rw [Nat.add_zero] at a1
     exact KeyOrd.kle_antisymm a2 (KeyOrd.kle_trans hr a1)
    have BB := B.mir (i := lo) (j := lo + n) (Nat.le_refl _) (by (first | lia | omega))
    have hF : Fd kf (arrOf (setArr st' (mirror (arrOf st') lo (lo + n) ((lo + n - lo) / 2)))) lo (n + 1) := by
     intro i j hij hj
     show O.kle (ka kf (mirror (arrOf st') lo (lo + n) ((lo + n - lo) / 2)) _) (ka kf (mirror (arrOf st') lo (lo + n) ((lo + n - lo) / 2)) _)
     rw [ka_mirE (by rw [B.size]; (first | lia | omega)) hall, ka_mirE (by rw [B.size]; (first | lia | omega)) hall]
     by_cases c : j < n
     ·rw [hall (lo + i) (by (first | lia | omega)) (by (first | lia | omega)), hall (lo + j) (by (first | lia | omega)) (by (first | lia | omega))]
      exact KeyOrd.kle_refl _
     ·have ej : j = n := by (first | lia | omega)
      subst ej
      by_cases ci : i = j
      ·subst ci
       exact KeyOrd.kle_refl _
      ·rw [hall (lo + i) (by (first | lia | omega)) (by (first | lia | omega))]
       exact KeyOrd.kle_of_klt hlt
    generalize setArr st' (mirror (arrOf st') lo (lo + n) ((lo + n - lo) / 2)) = st2 at BB hF ⊢
    clear hall hr
    refine wpS_bind (wpS_lift (wpAny_rule ⟨rfl, ?_⟩))
    refine wpS_bind (wpS_mono (wpS_forRange (I := fun x c st3 => ∃ neq, c = (none, x, neq) /\ Wk kd a0 lo pd st3 /\ Fd kf (arrOf st3) lo x /\ neq + 1 <= x /\ (∀ i, lo + x - (neq + 1) <= i -> i < lo + x -> ka kf (arrOf st3) i = ka kf (arrOf st3) (lo + x - 1))) (Q := fun c st3 => ∃ m neq, c = (none, m, neq) /\ Wk kd a0 lo pd st3 /\ n + 1 <= m /\ m <= nrem /\ Fd kf (arrOf st3) lo m /\ neq + 1 <= m /\ (∀ i, lo + m - (neq + 1) <= i -> i < lo + m -> ka kf (arrOf st3) i = ka kf (arrOf st3) (lo + m - 1))) ?step2 ?fin2 ⟨0, rfl, BB, hF, by (first | lia | omega), fun i _ _ => by congr 1; (first | lia | omega)⟩) ?post2)
    case fin2 =>
     rintro c st3 ⟨neq, rfl, B3, F3, hq, he⟩
     rw [show max (n + 1) nrem = nrem by (first | lia | omega)] at F3 hq he ⊢
     exact ⟨nrem, neq, rfl, B3, by (first | lia | omega), Nat.le_refl _, F3, hq, he⟩
    case step2 =>
     rintro x c st3 hx1 hx2 ⟨neq, rfl, B3, F3, hq, he⟩
     dsimp only
     have hsz : lo + x <= (arrOf st3).size := by rw [B3.size]; (first | lia | omega)
     refine wpS_bind (ltA C ok B3 (by (first | lia | omega)) (by (first | lia | omega)) ?_)
     cases hb : O.blt (ka kf (arrOf st3) (lo + x)) (ka kf (arrOf st3) (lo + x - 1)) with
     | true =>
      dsimp only
      rw [if_pos rfl]
      have F4 := F3.more (by (first | lia | omega)) (KeyOrd.kle_of_klt hb)
      by_cases hneq : neq > 0
      ·rw [if_pos hneq]
       refine wpS_bind (revA (wpS_pure ⟨0, rfl, B3.mir (by (first | lia | omega)) (by (first | lia | omega)), fun i j hij hj => ?_, by (first | lia | omega), fun i _ _ => by congr 1; (first | lia | omega)⟩))
       show O.kle (ka kf (mirror (arrOf st3) _ _ _) _) (ka kf (mirror (arrOf st3) _ _ _) _)
       rw [ka_mirE hsz he, ka_mirE hsz he]
       exact F4 i j hij hj
      ·rw [if_neg hneq]
       exact wpS_pure ⟨0, rfl, B3, F4, by (first | lia | omega), fun i _ _ => by congr 1; (first | lia | omega)⟩
     | false =>
      dsimp only
      rw [if_neg (by decide)]
      refine wpS_bind (ltA C ok B3 (by (first | lia | omega)) (by (first | lia | omega)) ?_)
      cases hb2 : O.blt (ka kf (arrOf st3) (lo + x - 1)) (ka kf (arrOf st3) (lo + x)) with
      | true =>
       dsimp only
       rw [if_pos rfl]
       exact wpS_pure ⟨x, neq, rfl, B3, by (first | lia | omega), by (first | lia | omega), F3, hq, he⟩
      | false =>
       dsimp only
       rw [if_neg (by decide)]
       have ex : ka kf (arrOf st3) (lo + x) = ka kf (arrOf st3) (lo + x - 1) := O.total _ _ hb hb2
       refine wpS_pure ⟨neq + 1, rfl, B3, F3.more (by (first | lia | omega)) hb2, by (first | lia | omega), fun i i1 i2 => ?_⟩
       rw [show lo + (x + 1) - 1 = lo + x by (first | lia | omega)]
       by_cases ci : i = lo + x
       ·rw [ci]
       ·rw [ex]
        exact he i (by (first | lia | omega)) (by (first | lia | omega))
    case post2 =>
     rintro c st3 ⟨m, neq, rfl, B3, hm1, hm2, F3, hq, he⟩
     dsimp only
     have hsz : lo + m <= (arrOf st3).size := by rw [B3.size]; (first | lia | omega)
     by_cases hneq : neq > 0
     ·rw [if_pos hneq]
      refine wpS_bind (revA ?_)
      have B4 := B3.mir (i := lo + m - (neq + 1)) (j := lo + m) (by (first | lia | omega)) (by (first | lia | omega))
      have F4 : Fd kf (arrOf (setArr st3 (mirror (arrOf st3) (lo + m - (neq + 1)) (lo + m) ((lo + m - (lo + m - (neq + 1))) / 2)))) lo m := fun i j hij hj => by
       show O.kle (ka kf (mirror (arrOf st3) _ _ _) _) (ka kf (mirror (arrOf st3) _ _ _) _)
       rw [ka_mirE hsz he, ka_mirE hsz he]
       exact F3 i j hij hj
      generalize setArr st3 (mirror (arrOf st3) (lo + m - (neq + 1)) (lo + m) ((lo + m - (lo + m - (neq + 1))) / 2)) = st4 at B4 F4 ⊢
      refine wpS_bind (revA ?_)
      have B5 := B4.mir (i := lo) (j := lo + m) (Nat.le_refl _) (by (first | lia | omega))
      have S5 : Sd kf (arrOf (setArr st4 (mirror (arrOf st4) lo (lo + m) ((lo + m - lo) / 2)))) lo m := fun i j hij hj => by
       show O.kle (ka kf (mirror (arrOf st4) _ _ _) _) (ka kf (mirror (arrOf st4) _ _ _) _)
       rw [ka_mir (by rw [B4.size]; (first | lia | omega)), ka_mir (by rw [B4.size]; (first | lia | omega)), if_pos (by (first | lia | omega)), if_pos (by (first | lia | omega)), show lo + (lo + m) - 1 - (lo + i) = lo + (m - 1 - i) by (first | lia | omega), show lo + (lo + m) - 1 - (lo + j) = lo + (m - 1 - j) by (first | lia | omega)]
       exact F4 _ _ (by (first | lia | omega)) (by (first | lia | omega))
      generalize setArr st4 (mirror (arrOf st4) lo (lo + m) ((lo + m - lo) / 2)) = st5 at B5 S5 ⊢
      refine wpS_bind (wpS_mono (wpS_forRange (I := fun x c st6 => st6 = st5 /\ c = (none, x) /\ Sd kf (arrOf st5) lo x) (Q := fun c st6 => st6 = st5 /\ ∃ k, c = (none, k) /\ 1 <= k /\ k <= nrem /\ Sd kf (arrOf st5) lo k) ?step3 ?fin3 ⟨rfl, rfl, S5⟩) ?post3)
      case fin3 =>
       rintro c st6 ⟨rfl, rfl, hs6⟩
       rw [show max m nrem = nrem by (first | lia | omega)] at hs6 ⊢
       exact ⟨rfl, nrem, rfl, by (first | lia | omega), Nat.le_refl _, hs6⟩
      case step3 =>
       rintro x c st6 hx1 hx2 ⟨rfl, rfl, hs6⟩
       dsimp only
       refine wpS_bind (ltA C ok B5 (by (first | lia | omega)) (by (first | lia | omega)) ?_)
       cases hb : O.blt (ka kf (arrOf st6) (lo + x)) (ka kf (arrOf st6) (lo + x - 1)) with
       | true =>
        dsimp only
        rw [if_pos rfl]
        exact wpS_pure ⟨rfl, x, rfl, by (first | lia | omega), by (first | lia | omega), hs6⟩
       | false =>
        dsimp only
        rw [if_neg (by decide)]
        exact wpS_pure ⟨rfl, rfl, hs6.more (by (first | lia | omega)) hb⟩
      case post3 =>
       rintro c st6 ⟨rfl, k, rfl, hk1, hk2, hs6⟩
       exact wpS_pure (h k _ B5 hk1 hk2 hs6)
     ·rw [if_neg hneq]
      have B4 := B3
      have F4 := F3
      generalize st3 = st4 at B4 F4 ⊢
      refine wpS_bind (revA ?_)
      have B5 := B4.mir (i := lo) (j := lo + m) (Nat.le_refl _) (by (first | lia | omega))
      have S5 : Sd kf (arrOf (setArr st4 (mirror (arrOf st4) lo (lo + m) ((lo + m - lo) / 2)))) lo m := fun i j hij hj => by
       show O.kle (ka kf (mirror (arrOf st4) _ _ _) _) (ka kf (mirror (arrOf st4) _ _ _) _)
       rw [ka_mir (by rw [B4.size]; (first | lia | omega)), ka_mir (by rw [B4.size]; (first | lia | omega)), if_pos (by (first | lia | omega)), if_pos (by (first | lia | omega)), show lo + (lo + m) - 1 - (lo + i) = lo + (m - 1 - i) by (first | lia | omega), show lo + (lo + m) - 1 - (lo + j) = lo + (m - 1 - j) by (first | lia | omega)]
       exact F4 _ _ (by (first | lia | omega)) (by (first | lia | omega))
      generalize setArr st4 (mirror (arrOf st4) lo (lo + m) ((lo + m - lo) / 2)) = st5 at B5 S5 ⊢
      refine wpS_bind (wpS_mono (wpS_forRange (I := fun x c st6 => st6 = st5 /\ c = (none, x) /\ Sd kf (arrOf st5) lo x) (Q := fun c st6 => st6 = st5 /\ ∃ k, c = (none, k) /\ 1 <= k /\ k <= nrem /\ Sd kf (arrOf st5) lo k) ?step3 ?fin3 ⟨rfl, rfl, S5⟩) ?post3)
      case fin3 =>
       rintro c st6 ⟨rfl, rfl, hs6⟩
       rw [show max m nrem = nrem by (first | lia | omega)] at hs6 ⊢
       exact ⟨rfl, nrem, rfl, by (first | lia | omega), Nat.le_refl _, hs6⟩
      case step3 =>
       rintro x c st6 hx1 hx2 ⟨rfl, rfl, hs6⟩
       dsimp only
       refine wpS_bind (ltA C ok B5 (by (first | lia | omega)) (by (first | lia | omega)) ?_)
       cases hb : O.blt (ka kf (arrOf st6) (lo + x)) (ka kf (arrOf st6) (lo + x - 1)) with
       | true =>
        dsimp only
        rw [if_pos rfl]
        exact wpS_pure ⟨rfl, x, rfl, by (first | lia | omega), by (first | lia | omega), hs6⟩
       | false =>
        dsimp only
        rw [if_neg (by decide)]
        exact wpS_pure ⟨rfl, rfl, hs6.more (by (first | lia | omega)) hb⟩
      case post3 =>
       rintro c st6 ⟨rfl, k, rfl, hk1, hk2, hs6⟩
       exact wpS_pure (h k _ B5 hk1 hk2 hs6)
  ·rw [if_neg hgt]
   have BB := B
   have hF : Fd kf (arrOf st') lo (n + 1) := by
    have e1 : n = 1 := by (first | lia | omega)
    subst e1
    intro i j hij hj
    by_cases ci : i = j
    ·subst ci
     exact KeyOrd.kle_refl _
    ·have ei : i = 0 := by (first | lia | omega)
     have ej : j = 1 := by (first | lia | omega)
     subst ei ej
     exact KeyOrd.kle_of_klt hlt
   generalize st' = st2 at BB hF ⊢
   refine wpS_bind (wpS_lift (wpAny_rule ⟨rfl, ?_⟩))
   refine wpS_bind (wpS_mono (wpS_forRange (I := fun x c st3 => ∃ neq, c = (none, x, neq) /\ Wk kd a0 lo pd st3 /\ Fd kf (arrOf st3) lo x /\ neq + 1 <= x /\ (∀ i, lo + x - (neq + 1) <= i -> i < lo + x -> ka kf (arrOf st3) i = ka kf (arrOf st3) (lo + x - 1))) (Q := fun c st3 => ∃ m neq, c = (none, m, neq) /\ Wk kd a0 lo pd st3 /\ n + 1 <= m /\ m <= nrem /\ Fd kf (arrOf st3) lo m /\ neq + 1 <= m /\ (∀ i, lo + m - (neq + 1) <= i -> i < lo + m -> ka kf (arrOf st3) i = ka kf (arrOf st3) (lo + m - 1))) ?step2 ?fin2 ⟨0, rfl, BB, hF, by (first | lia | omega), fun i _ _ => by congr 1; (first | lia | omega)⟩) ?post2)
   case fin2 =>
    rintro c st3 ⟨neq, rfl, B3, F3, hq, he⟩
    rw [show max (n + 1) nrem = nrem by (first | lia | omega)] at F3 hq he ⊢
    exact ⟨nrem, neq, rfl, B3, by (first | lia | omega), Nat.le_refl _, F3, hq, he⟩
   case step2 =>
    rintro x c st3 hx1 hx2 ⟨neq, rfl, B3, F3, hq, he⟩
    dsimp only
    have hsz : lo + x <= (arrOf st3).size := by rw [B3.size]; (first | lia | omega)
    refine wpS_bind (ltA C ok B3 (by (first | lia | omega)) (by (first | lia | omega)) ?_)
    cases hb : O.blt (ka kf (arrOf st3) (lo + x)) (ka kf (arrOf st3) (lo + x - 1)) with
    | true =>
     dsimp only
     rw [if_pos rfl]
     have F4 := F3.more (by (first | lia | omega)) (KeyOrd.kle_of_klt hb)
     by_cases hneq : neq > 0
     ·rw [if_pos hneq]
      refine wpS_bind (revA (wpS_pure ⟨0, rfl, B3.mir (by (first | lia | omega)) (by (first | lia | omega)), fun i j hij hj => ?_, by (first | lia | omega), fun i _ _ => by congr 1; (first | lia | omega)⟩))
      show O.kle (ka kf (mirror (arrOf st3) _ _ _) _) (ka kf (mirror (arrOf st3) _ _ _) _)
      rw [ka_mirE hsz he, ka_mirE hsz he]
      exact F4 i j hij hj
     ·rw [if_neg hneq]
      exact wpS_pure ⟨0, rfl, B3, F4, by (first | lia | omega), fun i _ _ => by congr 1; (first | lia | omega)⟩
    | false =>
     dsimp only
     rw [if_neg (by decide)]
     refine wpS_bind (ltA C ok B3 (by (first | lia | omega)) (by (first | lia | omega)) ?_)
     cases hb2 : O.blt (ka kf (arrOf st3) (lo + x - 1)) (ka kf (arrOf st3) (lo + x)) with
     | true =>
      dsimp only
      rw [if_pos rfl]
      exact wpS_pure ⟨x, neq, rfl, B3, by (first | lia | omega), by (first | lia | omega), F3, hq, he⟩
     | false =>
      dsimp only
      rw [if_neg (by decide)]
      have ex : ka kf (arrOf st3) (lo + x) = ka kf (arrOf st3) (lo + x - 1) := O.total _ _ hb hb2
      refine wpS_pure ⟨neq + 1, rfl, B3, F3.more (by (first | lia | omega)) hb2, by (first | lia | omega), fun i i1 i2 => ?_⟩
      rw [show lo + (x + 1) - 1 = lo + x by (first | lia | omega)]
      by_cases ci : i = lo + x
      ·rw [ci]
      ·rw [ex]
       exact he i (by (first | lia | omega)) (by (first | lia | omega))
   case post2 =>
    rintro c st3 ⟨m, neq, rfl, B3, hm1, hm2, F3, hq, he⟩
    dsimp only
    have hsz : lo + m <= (arrOf st3).size := by rw [B3.size]; (first | lia | omega)
    by_cases hneq : neq > 0
    ·rw [if_pos hneq]
     refine wpS_bind (revA ?_)
     have B4 := B3.mir (i := lo + m - (neq + 1)) (j := lo + m) (by (first | lia | omega)) (by (first | lia | omega))
     have F4 : Fd kf (arrOf (setArr st3 (mirror (arrOf st3) (lo + m - (neq + 1)) (lo + m) ((lo + m - (lo + m - (neq + 1))) / 2)))) lo m := fun i j hij hj => by
      show O.kle (ka kf (mirror (arrOf st3) _ _ _) _) (ka kf (mirror (arrOf st3) _ _ _) _)
      rw [ka_mirE hsz he, ka_mirE hsz he]
      exact F3 i j hij hj
     generalize setArr st3 (mirror (arrOf st3) (lo + m - (neq + 1)) (lo + m) ((lo + m - (lo + m - (neq + 1))) / 2)) = st4 at B4 F4 ⊢
     refine wpS_bind (revA ?_)
     have B5 := B4.mir (i := lo) (j := lo + m) (Nat.le_refl _) (by (first | lia | omega))
     have S5 : Sd kf (arrOf (setArr st4 (mirror (arrOf st4) lo (lo + m) ((lo + m - lo) / 2)))) lo m := fun i j hij hj => by
      show O.kle (ka kf (mirror (arrOf st4) _ _ _) _) (ka kf (mirror (arrOf st4) _ _ _) _)
      rw [ka_mir (by rw [B4.size]; (first | lia | omega)), ka_mir (by rw [B4.size]; (first | lia | omega)), if_pos (by (first | lia | omega)), if_pos (by (first | lia | omega)), show lo + (lo + m) - 1 - (lo + i) = lo + (m - 1 - i) by (first | lia | omega), show lo + (lo + m) - 1 - (lo + j) = lo + (m - 1 - j) by (first | lia | omega)]
      exact F4 _ _ (by (first | lia | omega)) (by (first | lia | omega))
     generalize setArr st4 (mirror (arrOf st4) lo (lo + m) ((lo + m - lo) / 2)) = st5 at B5 S5 ⊢
     refine wpS_bind (wpS_mono (wpS_forRange (I := fun x c st6 => st6 = st5 /\ c = (none, x) /\ Sd kf (arrOf st5) lo x) (Q := fun c st6 => st6 = st5 /\ ∃ k, c = (none, k) /\ 1 <= k /\ k <= nrem /\ Sd kf (arrOf st5) lo k) ?step3 ?fin3 ⟨rfl, rfl, S5⟩) ?post3)
     case fin3 =>
      rintro c st6 ⟨rfl, rfl, hs6⟩
      rw [show max m nrem = nrem by (first | lia | omega)] at hs6 ⊢
      exact ⟨rfl, nrem, rfl, by (first | lia | omega), Nat.le_refl _, hs6⟩
     case step3 =>
      rintro x c st6 hx1 hx2 ⟨rfl, rfl, hs6⟩
      dsimp only
      refine wpS_bind (ltA C ok B5 (by (first | lia | omega)) (by (first | lia | omega)) ?_)
      cases hb : O.blt (ka kf (arrOf st6) (lo + x)) (ka kf (arrOf st6) (lo + x - 1)) with
      | true =>
       dsimp only
       rw [if_pos rfl]
       exact wpS_pure ⟨rfl, x, rfl, by (first | lia | omega), by (first | lia | omega), hs6⟩
      | false =>
       dsimp only
       rw [if_neg (by decide)]
       exact wpS_pure ⟨rfl, rfl, hs6.more (by (first | lia | omega)) hb⟩
     case post3 =>
      rintro c st6 ⟨rfl, k, rfl, hk1, hk2, hs6⟩
      exact wpS_pure (h k _ B5 hk1 hk2 hs6)
    ·rw [if_neg hneq]
     have B4 := B3
     have F4 := F3
     generalize st3 = st4 at B4 F4 ⊢
     refine wpS_bind (revA ?_)
     have B5 := B4.mir (i := lo) (j := lo + m) (Nat.le_refl _) (by (first | lia | omega))
     have S5 : Sd kf (arrOf (setArr st4 (mirror (arrOf st4) lo (lo + m) ((lo + m - lo) / 2)))) lo m := fun i j hij hj => by
      show O.kle (ka kf (mirror (arrOf st4) _ _ _) _) (ka kf (mirror (arrOf st4) _ _ _) _)
      rw [ka_mir (by rw [B4.size]; (first | lia | omega)), ka_mir (by rw [B4.size]; (first | lia | omega)), if_pos (by (first | lia | omega)), if_pos (by (first | lia | omega)), show lo + (lo + m) - 1 - (lo + i) = lo + (m - 1 - i) by (first | lia | omega), show lo + (lo + m) - 1 - (lo + j) = lo + (m - 1 - j) by (first | lia | omega)]
      exact F4 _ _ (by (first | lia | omega)) (by (first | lia | omega))
     generalize setArr st4 (mirror (arrOf st4) lo (lo + m) ((lo + m - lo) / 2)) = st5 at B5 S5 ⊢
     refine wpS_bind (wpS_mono (wpS_forRange (I := fun x c st6 => st6 = st5 /\ c = (none, x) /\ Sd kf (arrOf st5) lo x) (Q := fun c st6 => st6 = st5 /\ ∃ k, c = (none, k) /\ 1 <= k /\ k <= nrem /\ Sd kf (arrOf st5) lo k) ?step3 ?fin3 ⟨rfl, rfl, S5⟩) ?post3)
     case fin3 =>
      rintro c st6 ⟨rfl, rfl, hs6⟩
      rw [show max m nrem = nrem by (first | lia | omega)] at hs6 ⊢
      exact ⟨rfl, nrem, rfl, by (first | lia | omega), Nat.le_refl _, hs6⟩
     case step3 =>
      rintro x c st6 hx1 hx2 ⟨rfl, rfl, hs6⟩
      dsimp only
      refine wpS_bind (ltA C ok B5 (by (first | lia | omega)) (by (first | lia | omega)) ?_)
      cases hb : O.blt (ka kf (arrOf st6) (lo + x)) (ka kf (arrOf st6) (lo + x - 1)) with
      | true =>
       dsimp only
       rw [if_pos rfl]
       exact wpS_pure ⟨rfl, x, rfl, by (first | lia | omega), by (first | lia | omega), hs6⟩
      | false =>
       dsimp only
       rw [if_neg (by decide)]
       exact wpS_pure ⟨rfl, rfl, hs6.more (by (first | lia | omega)) hb⟩
     case post3 =>
      rintro c st6 ⟨rfl, k, rfl, hk1, hk2, hs6⟩
      exact wpS_pure (h k _ B5 hk1 hk2 hs6)
end
end Srt
namespace Srt
open PySem PyProof.Rows
section
variable {M : Model} {A : Around} {E : Value -> Shared -> Prop} {s : Shared} {O : KeyOrd} {kf : Keyed -> O.α} {okk : Keyed -> Prop} {kd : SortKind} {a0 : Array Keyed} {lo : Nat} {pd : Array (Nat × Nat × Nat)} {st : SortSt}
theorem binA (C : Cmp M A E s kd O kf okk) (ok : ∀ p ∈ a0.toList, okk p) (B : Wk kd a0 lo pd st) {n m : Nat} (hn : lo + n <= a0.size) (hm : m <= n) (hs : Sd kf (arrOf st) lo m) {Q : Bool -> SortSt -> Prop}
  (h : ∀ st', Wk kd a0 lo pd st' -> Sd kf (arrOf st') lo n -> Q true st') : wpS M A E s (binarySort' lo n m) Q st := by
 unfold binarySort'
 refine wpS_bind (wpS_mono (wpS_forRange (I := fun k c st' => c = (none, ()) /\ Wk kd a0 lo pd st' /\ Sd kf (arrOf st') lo (min k n)) (Q := fun c st' => c = (none, ()) /\ Wk kd a0 lo pd st' /\ Sd kf (arrOf st') lo n) ?step ?fin ⟨rfl, B, ?init⟩) ?post)
 case post =>
  rintro c st' ⟨rfl, B', hs'⟩
  exact wpS_pure (h st' B' hs')
 case init =>
  intro i j hij hj
  by_cases c : m = 0
  ·have e : i = j := by (first | lia | omega)
   subst e
   exact KeyOrd.kle_refl _
  ·exact hs i j hij (by (first | lia | omega))
 case fin =>
  rintro c st' ⟨hc, B', hs'⟩
  rw [show min (max (max m 1) n) n = n by (first | lia | omega)] at hs'
  exact ⟨hc, B', hs'⟩
 case step =>
  rintro k c st' hk1 hk2 ⟨rfl, B', hs'⟩
  rw [show min k n = k by (first | lia | omega)] at hs'
  refine wpS_bind (wpS_mono (wpS_forRange (I := fun x c st2 => st2 = st' /\ ∃ l r, c = (none, l, r) /\ l <= r /\ r <= k /\ r - l <= k - x /\ (∀ i, i < l -> O.kle (ka kf (arrOf st') (lo + i)) (ka kf (arrOf st') (lo + k))) /\ (∀ i, r <= i -> i < k -> O.klt (ka kf (arrOf st') (lo + k)) (ka kf (arrOf st') (lo + i))))
   (Q := fun c st2 => st2 = st' /\ ∃ l r, c = (none, l, r) /\ l <= k /\ (∀ i, i < l -> O.kle (ka kf (arrOf st') (lo + i)) (ka kf (arrOf st') (lo + k))) /\ (∀ i, l <= i -> i < k -> O.klt (ka kf (arrOf st') (lo + k)) (ka kf (arrOf st') (lo + i)))) ?st2 ?fi2 ⟨rfl, 0, k, rfl, by (first | lia | omega), by (first | lia | omega), by (first | lia | omega), fun i hi => by (first | lia | omega), fun i i1 i2 => by (first | lia | omega)⟩) ?po2)
  case fi2 =>
   rintro c st2 ⟨rfl, l, r, rfl, h1, h2, h3, h4, h5⟩
   have e : l = r := by (first | lia | omega)
   subst e
   exact ⟨rfl, l, l, rfl, h2, h4, h5⟩
  case st2 =>
   rintro x c st2 _ hx ⟨rfl, l, r, rfl, h1, h2, h3, h4, h5⟩
   dsimp only
   by_cases hge : l ≥ r
   ·rw [if_pos hge]
    have e : l = r := by (first | lia | omega)
    subst e
    exact wpS_pure ⟨rfl, l, l, rfl, h2, h4, h5⟩
   ·rw [if_neg hge]
    refine wpS_bind (ltA C ok B' (by (first | lia | omega)) (by (first | lia | omega)) ?_)
    cases hb : O.blt (ka kf (arrOf st2) (lo + k)) (ka kf (arrOf st2) (lo + (l + r) / 2)) with
    | true =>
     dsimp only
     rw [if_pos rfl]
     exact wpS_pure ⟨rfl, l, (l + r) / 2, rfl, by (first | lia | omega), by (first | lia | omega), by (first | lia | omega), h4, fun i i1 i2 => KeyOrd.klt_of_klt_of_kle hb (hs' _ _ i1 i2)⟩
    | false =>
     dsimp only
     rw [if_neg (by decide)]
     exact wpS_pure ⟨rfl, (l + r) / 2 + 1, r, rfl, by (first | lia | omega), by (first | lia | omega), by (first | lia | omega), fun i i1 => KeyOrd.kle_trans (hs' i ((l + r) / 2) (by (first | lia | omega)) (by (first | lia | omega))) hb, h5⟩
  case po2 =>
   rintro c st2 ⟨rfl, l, r, rfl, h1, h2, h3⟩
   dsimp only
   have hz : lo + k < (arrOf st2).size := by rw [B'.size]; (first | lia | omega)
   refine wpS_bind (show wpS M A E s (moveDown' (lo + k) (lo + l)) _ st2 from ?_)
   rw [moveDown'_eq]
   refine wpS_modify (wpS_pure ⟨rfl, B'.bub (by (first | lia | omega)) (by (first | lia | omega)), ?_⟩)
   rw [show min (k + 1) n = k + 1 by (first | lia | omega)]
   intro i j hij hj
   show O.kle (ka kf (bubble (arrOf st2) (lo + k) (lo + k - (lo + l))) (lo + i)) (ka kf (bubble (arrOf st2) (lo + k) (lo + k - (lo + l))) (lo + j))
   rw [ka_bub hz (by (first | lia | omega)), ka_bub hz (by (first | lia | omega)), show lo + k - (lo + k - (lo + l)) = lo + l by (first | lia | omega)]
   by_cases ci : i < l
   ·rw [if_neg (by (first | lia | omega)), if_neg (by (first | lia | omega))]
    by_cases cj : j < l
    ·rw [if_neg (by (first | lia | omega)), if_neg (by (first | lia | omega))]
     exact hs' i j hij (by (first | lia | omega))
    ·by_cases ej : j = l
     ·rw [if_pos (by (first | lia | omega))]
      exact h2 i ci
     ·rw [if_neg (by (first | lia | omega)), if_pos (by (first | lia | omega)), show lo + j - 1 = lo + (j - 1) by (first | lia | omega)]
      exact hs' i (j - 1) (by (first | lia | omega)) (by (first | lia | omega))
   ·by_cases ei : i = l
    ·rw [if_pos (by (first | lia | omega))]
     by_cases ej : j = l
     ·rw [if_pos (by (first | lia | omega))]
      exact KeyOrd.kle_refl _
     ·rw [if_neg (by (first | lia | omega)), if_pos (by (first | lia | omega)), show lo + j - 1 = lo + (j - 1) by (first | lia | omega)]
      exact KeyOrd.kle_of_klt (h3 (j - 1) (by (first | lia | omega)) (by (first | lia | omega)))
    ·rw [if_neg (by (first | lia | omega)), if_pos (by (first | lia | omega)), if_neg (by (first | lia | omega)), if_pos (by (first | lia | omega)), show lo + j - 1 = lo + (j - 1) by (first | lia | omega), show lo + i - 1 = lo + (i - 1) by (first | lia | omega)]
     exact hs' (i - 1) (j - 1) (by (first | lia | omega)) (by (first | lia | omega))
end
end Srt
namespace Srt
open PySem PyProof.Rows
noncomputable def mergeAt' : Nat -> StateT SortSt Sem Bool := sortPriv% PySem.Builtin.mergeAt
section
variable {M : Model} {A : Around} {E : Value -> Shared -> Prop} {s : Shared} {O : KeyOrd} {kf : Keyed -> O.α} {okk : Keyed -> Prop} {kd : SortKind} {st : SortSt}
theorem RunUp.join {a : Array Keyed} {x y z : Nat} (r1 : RunUp kf a x y) (r2 : RunUp kf a y z) (h : ∀ i j p q, x <= i -> i < y -> y <= j -> j < z -> a[i]? = some p -> a[j]? = some q -> O.kle (kf p) (kf q)) : RunUp kf a x z := fun i j p q h1 h2 h3 hp hq => by
 by_cases c1 : j < y
 ·exact r1 i j p q h1 h2 c1 hp hq
 ·by_cases c2 : i < y
  ·exact h i j p q h1 c2 (by (first | lia | omega)) h3 hp hq
  ·exact r2 i j p q (by (first | lia | omega)) h2 h3 hp hq
theorem RunUp.sub {a : Array Keyed} {x y x' y' : Nat} (r : RunUp kf a x y) (h1 : x <= x') (h2 : y' <= y) : RunUp kf a x' y' := fun i j p q a1 a2 a3 hp hq => r i j p q (by (first | lia | omega)) a2 (by (first | lia | omega)) hp hq
theorem mergeA (C : Cmp M A E s kd O kf okk) (ok : ∀ p ∈ (arrOf st).toList, okk p) (hk : kindOf st = kd) (hf : failedOf st = none) {i sa na pw sb nb z : Nat} (h1 : (pendingOf st)[i]? = some (sa, na, pw)) (h2 : (pendingOf st)[i + 1]? = some (sb, nb, z)) (e : sb = sa + na) (hna : 0 < na) (hnb : 0 < nb) (hz : sb + nb <= (arrOf st).size)
  (r1 : RunUp kf (arrOf st) sa sb) (r2 : RunUp kf (arrOf st) sb (sb + nb)) {Q : Bool -> SortSt -> Prop}
  (h : ∀ st', (arrOf st').Perm (arrOf st) -> kindOf st' = kd -> failedOf st' = none -> pendingOf st' = ((pendingOf st).setIfInBounds i (sa, na + nb, pw)).eraseIdxIfInBounds (i + 1) -> RunUp kf (arrOf st') sa (sb + nb) -> (∀ j, j < sa ∨ sb + nb <= j -> (arrOf st')[j]? = (arrOf st)[j]?) -> Q true st') : wpS M A E s (mergeAt' i) Q st := by
 unfold mergeAt'
 refine wpS_bind (wpS_get ?_)
 simp only [h1, h2]
 refine wpS_bind (wpS_modify (f := fun _ => _) ?_)
 have mem : ∀ {j : Nat} {p : Keyed}, (arrOf st)[j]? = some p -> okk p := fun {j p} g => ok p (List.mem_of_getElem? (i := j) (by rw [<- g]; simp))
 have at_ : ∀ j, j < (arrOf st).size -> ∃ p, (arrOf st)[j]? = some p := fun j hj => ⟨_, Array.getElem?_eq_getElem hj⟩
 obtain ⟨pb, hpb⟩ := at_ sb (by (first | lia | omega))
 have hq : ∀ st', arrOf st' = arrOf st -> kindOf st' = kd -> failedOf st' = none -> pendingOf st' = ((pendingOf st).setIfInBounds i (sa, na + nb, pw)).eraseIdxIfInBounds (i + 1) -> RunUp kf (arrOf st) sa (sb + nb) -> Q true st' := fun st' e1 e2 e3 e4 e5 => h st' (by rw [e1]) e2 e3 e4 (by rw [e1]; exact e5) (fun j _ => by rw [e1])
 refine wpS_bind (wpS_elem (arr := arrOf st) hpb ?_)
 have hk' : kindOf (setPending st (((pendingOf st).setIfInBounds i (sa, na + nb, pw)).eraseIdxIfInBounds (i + 1))) = kd := hk
 refine wpS_bind (gallopR0 (st := setPending st (((pendingOf st).setIfInBounds i (sa, na + nb, pw)).eraseIdxIfInBounds (i + 1))) C hk' ok (mem hpb) (r1.sub (Nat.le_refl _) (by (first | lia | omega))) (show sa + na <= (arrOf st).size by (first | lia | omega)) hna fun k hk1 g1 g2 => ?_)
 dsimp only
 by_cases c0 : na - k = 0
 ·rw [if_pos (by simpa using c0)]
  refine wpS_pure (hq _ rfl hk hf rfl (r1.join r2 fun x y p q x1 x2 y1 y2 hp hq => ?_))
  have a1 := g1 (x - sa) p (by (first | lia | omega)) (by rw [show sa + (x - sa) = x by (first | lia | omega)]; exact hp)
  exact KeyOrd.kle_trans a1 (r2 sb y pb q (Nat.le_refl _) y1 y2 hpb hq)
 rw [if_neg (by simpa using c0)]
 obtain ⟨pl, hpl⟩ := at_ (sa + k + (na - k) - 1) (by (first | lia | omega))
 refine wpS_bind (wpS_elem (arr := arrOf st) hpl ?_)
 refine wpS_bind (gallopL0 (st := setPending st (((pendingOf st).setIfInBounds i (sa, na + nb, pw)).eraseIdxIfInBounds (i + 1))) C hk' ok (mem hpl) r2 hz (by (first | lia | omega)) fun k2 hk2 g3 g4 => ?_)
 dsimp only
 by_cases c1 : k2 = 0
 ·rw [if_pos (by simpa using c1)]
  refine wpS_pure (hq _ rfl hk hf rfl (r1.join r2 fun x y p q x1 x2 y1 y2 hp hq => ?_))
  have a1 := g4 (y - sb) q (by (first | lia | omega)) (by (first | lia | omega)) (by rw [show sb + (y - sb) = y by (first | lia | omega)]; exact hq)
  exact KeyOrd.kle_trans (r1 x _ p pl x1 (by (first | lia | omega)) (by (first | lia | omega)) hp hpl) a1
 rw [if_neg (by simpa using c1)]
 have X1 : KeysUp kf ((arrOf st).extract (sa + k) sb) := ext_up (by (first | lia | omega)) (r1.sub (by (first | lia | omega)) (Nat.le_refl _))
 have X2 : KeysUp kf ((arrOf st).extract sb (sb + k2)) := ext_up (by (first | lia | omega)) (r2.sub (Nat.le_refl _) (by (first | lia | omega)))
 have z1 : ((arrOf st).extract (sa + k) sb).size = na - k := by rw [Array.size_extract]; (first | lia | omega)
 have z2 : ((arrOf st).extract sb (sb + k2)).size = k2 := by rw [Array.size_extract]; (first | lia | omega)
 have o1 : ∀ p ∈ ((arrOf st).extract (sa + k) sb).toList, okk p := fun p hp => by
  obtain ⟨m, _, _, g⟩ := ext_mem (by (first | lia | omega)) hp
  exact mem g
 have o2 : ∀ p ∈ ((arrOf st).extract sb (sb + k2)).toList, okk p := fun p hp => by
  obtain ⟨m, _, _, g⟩ := ext_mem (by (first | lia | omega)) hp
  exact mem g
 have f0 : ∀ p q, ((arrOf st).extract sb (sb + k2))[0]? = some p -> ((arrOf st).extract (sa + k) sb)[0]? = some q -> O.klt (kf p) (kf q) := fun p q hp hq => by
  rw [ext_at (by (first | lia | omega)) (by (first | lia | omega)), Nat.add_zero] at hp hq
  rw [hpb] at hp
  cases hp
  exact g2 k q (Nat.le_refl _) (by (first | lia | omega)) hq
 have fl : ∀ p q, ((arrOf st).extract (sa + k) sb)[((arrOf st).extract (sa + k) sb).size - 1]? = some p -> q ∈ ((arrOf st).extract sb (sb + k2)).toList -> O.klt (kf q) (kf p) := fun p q hp hq => by
  rw [z1, ext_at (by (first | lia | omega)) (by (first | lia | omega)), show sa + k + (na - k - 1) = sa + k + (na - k) - 1 by (first | lia | omega), hpl] at hp
  cases hp
  obtain ⟨m, m1, m2, g⟩ := ext_mem (by (first | lia | omega)) hq
  exact g3 (m - sb) q (by (first | lia | omega)) (by rw [show sb + (m - sb) = m by (first | lia | omega)]; exact g)
 have fin : ∀ (r : Array Keyed) (g : Nat), Res kf ((arrOf st).extract (sa + k) sb) ((arrOf st).extract sb (sb + k2)) r -> ∀ st', arrOf st' = put r.toList (sa + k) (arrOf st) -> kindOf st' = kd -> failedOf st' = none -> pendingOf st' = ((pendingOf st).setIfInBounds i (sa, na + nb, pw)).eraseIdxIfInBounds (i + 1) -> Q true st' := fun r g R st' e1 e2 e3 e4 => by
  have rsz : r.size = (sb + k2) - (sa + k) := by
   have := R.1.length_eq
   rw [List.length_append, Array.length_toList, Array.length_toList, Array.length_toList, z1, z2] at this
   (first | lia | omega)
  have rmem : ∀ q ∈ r.toList, ∃ m, sa + k <= m /\ m < sb + k2 /\ (arrOf st)[m]? = some q := fun q hq => by
   rcases List.mem_append.mp (R.1.mem_iff.mp hq) with g | g
   ·obtain ⟨m, m1, m2, m3⟩ := ext_mem (by (first | lia | omega)) g
    exact ⟨m, m1, by (first | lia | omega), m3⟩
   ·obtain ⟨m, m1, m2, m3⟩ := ext_mem (by (first | lia | omega)) g
    exact ⟨m, by (first | lia | omega), m2, m3⟩
  refine h st' ?_ e2 e3 e4 ?_ fun j hj => ?_
  ·rw [e1]
   exact put_perm (by (first | lia | omega)) (by (first | lia | omega)) (by (first | lia | omega)) R.1
  ·rw [e1]
   refine put_run rsz (by (first | lia | omega)) (by (first | lia | omega)) (by (first | lia | omega)) (by (first | lia | omega)) R.2 (r1.sub (Nat.le_refl _) (by (first | lia | omega))) (r2.sub (by (first | lia | omega)) (Nat.le_refl _)) ?_ ?_ ?_
   ·intro x p x1 x2 hp q hq
    obtain ⟨m, m1, m2, m3⟩ := rmem q hq
    by_cases cm : m < sb
    ·exact r1 x m p q x1 (by (first | lia | omega)) cm hp m3
    ·have a1 := g1 (x - sa) p (by (first | lia | omega)) (by rw [show sa + (x - sa) = x by (first | lia | omega)]; exact hp)
     exact KeyOrd.kle_trans a1 (r2 sb m pb q (Nat.le_refl _) (by (first | lia | omega)) (by (first | lia | omega)) hpb m3)
   ·intro y q y1 y2 hq p hp
    obtain ⟨m, m1, m2, m3⟩ := rmem p hp
    by_cases cm : m < sb
    ·have a1 := g4 (y - sb) q (by (first | lia | omega)) (by (first | lia | omega)) (by rw [show sb + (y - sb) = y by (first | lia | omega)]; exact hq)
     exact KeyOrd.kle_trans (r1 m _ p pl (by (first | lia | omega)) (by (first | lia | omega)) (by (first | lia | omega)) m3 hpl) a1
    ·exact r2 m y p q (by (first | lia | omega)) (by (first | lia | omega)) y2 m3 hq
   ·intro x y p q x1 x2 y1 y2 hp hq
    have a1 := g1 (x - sa) p (by (first | lia | omega)) (by rw [show sa + (x - sa) = x by (first | lia | omega)]; exact hp)
    exact KeyOrd.kle_trans a1 (r2 sb y pb q (Nat.le_refl _) (by (first | lia | omega)) y2 hpb hq)
  ·rw [e1, put_at (by (first | lia | omega)), if_neg (by (first | lia | omega))]
 by_cases c2 : na - k <= k2
 ·rw [if_pos c2]
  refine wpS_bind (wpS_mergeLo (st := setPending st (((pendingOf st).setIfInBounds i (sa, na + nb, pw)).eraseIdxIfInBounds (i + 1))) C hk' o1 o2 X1 X2 (show 0 < ((arrOf st).extract (sa + k) sb).size by (first | lia | omega)) (show 0 < ((arrOf st).extract sb (sb + k2)).size by (first | lia | omega)) (fun p q hp hq => KeyOrd.kle_of_klt (f0 p q hp hq)) fl fun r g R => ?_)
  refine wpS_bind (wpS_modify (wpS_bind (wpS_get ?_)))
  have e : Option.isNone (failedOf st) = true := by rw [hf]; rfl
  refine wpS_pure ?_
  dsimp only
  rw [e]
  exact fin r g R _ rfl hk hf rfl
 ·rw [if_neg c2]
  refine wpS_bind (wpS_mergeHi (st := setPending st (((pendingOf st).setIfInBounds i (sa, na + nb, pw)).eraseIdxIfInBounds (i + 1))) C hk' o1 o2 X1 X2 (show 0 < ((arrOf st).extract (sa + k) sb).size by (first | lia | omega)) (show 0 < ((arrOf st).extract sb (sb + k2)).size by (first | lia | omega)) f0 fl fun r g R => ?_)
  refine wpS_bind (wpS_modify (wpS_bind (wpS_get ?_)))
  have e : Option.isNone (failedOf st) = true := by rw [hf]; rfl
  refine wpS_pure ?_
  dsimp only
  rw [e]
  exact fin r g R _ rfl hk hf rfl
end
end Srt
namespace Srt
open PySem PyProof.Rows
noncomputable def Ch : Nat -> List (Nat × Nat × Nat) -> Nat -> Prop
 | s, [], e => s = e
 | s, x :: r, e => x.1 = s /\ 1 <= x.2.1 /\ Ch (s + x.2.1) r e
theorem Ch.append {l m : List (Nat × Nat × Nat)} : ∀ {s e : Nat}, Ch s (l ++ m) e -> ∃ k, Ch s l k /\ Ch k m e := by
 induction l with
 | nil => exact fun {s e} h => ⟨s, rfl, h⟩
 | cons x l ih =>
  intro s e h
  obtain ⟨h1, h2, h3⟩ := h
  obtain ⟨k, a, b⟩ := ih h3
  exact ⟨k, ⟨h1, h2, a⟩, b⟩
theorem Ch.app {l m : List (Nat × Nat × Nat)} : ∀ {s k e : Nat}, Ch s l k -> Ch k m e -> Ch s (l ++ m) e := by
 induction l with
 | nil =>
  intro s k e h g
  cases (show s = k from h)
  exact g
 | cons x l ih => exact fun {s k e} h g => ⟨h.1, h.2.1, ih h.2.2 g⟩
theorem Ch.len {l : List (Nat × Nat × Nat)} : ∀ {s e : Nat}, Ch s l e -> s + l.length <= e := by
 induction l with
 | nil => exact fun {s e} h => by cases (show s = e from h); exact Nat.le_refl _
 | cons x l ih =>
  intro s e h
  have := ih h.2.2
  have := h.2.1
  rw [List.length_cons]
  (first | lia | omega)
theorem Ch.mem {l : List (Nat × Nat × Nat)} : ∀ {s e : Nat}, Ch s l e -> ∀ x ∈ l, s <= x.1 /\ 1 <= x.2.1 /\ x.1 + x.2.1 <= e := by
 induction l with
 | nil => exact fun _ x hx => by cases hx
 | cons y l ih =>
  intro s e h x hx
  have hl := h.2.2.len
  have h1 := h.1
  have h2 := h.2.1
  rcases List.mem_cons.mp hx with rfl | hx
  ·exact ⟨by (first | lia | omega), h2, by (first | lia | omega)⟩
  ·have := ih h.2.2 x hx
   exact ⟨by (first | lia | omega), this.2.1, this.2.2⟩
section
variable {M : Model} {A : Around} {E : Value -> Shared -> Prop} {s : Shared} {O : KeyOrd} {kf : Keyed -> O.α} {okk : Keyed -> Prop} {kd : SortKind} {a0 : Array Keyed} {lo : Nat} {st : SortSt}
structure Stk (kf : Keyed -> O.α) (kd : SortKind) (a0 : Array Keyed) (lo : Nat) (st : SortSt) : Prop where
 perm : (arrOf st).Perm a0
 kind : kindOf st = kd
 failed : failedOf st = none
 ch : Ch 0 (pendingOf st).toList lo
 runs : ∀ x ∈ (pendingOf st).toList, RunUp kf (arrOf st) x.1 (x.1 + x.2.1)
theorem RunUp.of_eq {a b : Array Keyed} {x y : Nat} (r : RunUp kf a x y) (h : ∀ j, x <= j -> j < y -> b[j]? = a[j]?) : RunUp kf b x y := fun i j p q h1 h2 h3 hp hq => r i j p q h1 h2 h3 (by rw [<- h i h1 (by (first | lia | omega))]; exact hp) (by rw [<- h j (by (first | lia | omega)) h3]; exact hq)
theorem mergeS (C : Cmp M A E s kd O kf okk) (ok : ∀ p ∈ a0.toList, okk p) (S : Stk kf kd a0 lo st) (hlo : lo <= a0.size) {i : Nat} (hi : i + 1 < (pendingOf st).size) {Q : Bool -> SortSt -> Prop} (h : ∀ st', Stk kf kd a0 lo st' -> (pendingOf st').size + 1 = (pendingOf st).size -> (∀ j, lo <= j -> (arrOf st')[j]? = (arrOf st)[j]?) -> Q true st') : wpS M A E s (mergeAt' i) Q st := by
 have hl : i + 1 < (pendingOf st).toList.length := by simpa using hi
 obtain ⟨⟨sa, na, pw⟩, h1⟩ : ∃ x, (pendingOf st).toList[i]? = some x := ⟨_, List.getElem?_eq_getElem (by (first | lia | omega))⟩
 obtain ⟨⟨sb, nb, z⟩, h2⟩ : ∃ x, (pendingOf st).toList[i + 1]? = some x := ⟨_, List.getElem?_eq_getElem hl⟩
 have split : (pendingOf st).toList = (pendingOf st).toList.take i ++ ((sa, na, pw) :: (sb, nb, z) :: (pendingOf st).toList.drop (i + 2)) := by
  obtain ⟨g1, e1⟩ := List.getElem?_eq_some_iff.mp h1
  obtain ⟨g2, e2⟩ := List.getElem?_eq_some_iff.mp h2
  rw [<- e1, <- e2, List.getElem_cons_drop, List.getElem_cons_drop, List.take_append_drop]
 have hlen : ((pendingOf st).toList.take i).length = i := by rw [List.length_take]; (first | lia | omega)
 have C0 := S.ch
 rw [split] at C0
 obtain ⟨k, c1, c2⟩ := C0.append
 obtain ⟨e1, n1, c3⟩ := c2
 obtain ⟨e2, n2, c4⟩ := c3
 dsimp only at e1 n1 e2 n2 c4
 have l4 := c4.len
 have m1 : (sa, na, pw) ∈ (pendingOf st).toList := List.mem_of_getElem? h1
 have m2 : (sb, nb, z) ∈ (pendingOf st).toList := List.mem_of_getElem? h2
 have sz := S.perm.size_eq
 refine mergeA C (fun p hp => ok p ((Array.perm_iff_toList_perm.mp S.perm).mem_iff.mp hp)) S.kind S.failed (i := i) (sa := sa) (na := na) (pw := pw) (sb := sb) (nb := nb) (z := z) (by rw [<- h1]; simp) (by rw [<- h2]; simp) (by (first | lia | omega)) n1 n2 (by (first | lia | omega)) ?_ (S.runs _ m2) fun st' p1 p2 p3 p4 p5 p6 => ?_
 ·have := S.runs _ m1
  dsimp only at this
  rw [show sb = sa + na by (first | lia | omega)]
  exact this
 ·have newl : (pendingOf st').toList = (pendingOf st).toList.take i ++ ((sa, na + nb, pw) :: (pendingOf st).toList.drop (i + 2)) := by
   rw [p4, Array.toList_eraseIdxIfInBounds, Array.toList_setIfInBounds]
   conv => lhs; rw [split]
   rw [List.set_append_right _ _ (by (first | lia | omega)), hlen, Nat.sub_self, List.set_cons_zero, List.eraseIdx_append_of_length_le (by (first | lia | omega)), hlen, show i + 1 - i = 1 by (first | lia | omega)]
   rfl
  have d1 := c1.mem
  have d4 := c4.mem
  refine h st' ⟨p1.trans S.perm, p2, p3, ?_, fun x hx => ?_⟩ ?_ fun j hj => p6 j (.inr (by (first | lia | omega)))
  ·rw [newl]
   exact c1.app ⟨e1, by show 1 <= na + nb; (first | lia | omega), by show Ch (k + (na + nb)) _ lo; rw [show k + (na + nb) = k + na + nb by (first | lia | omega)]; exact c4⟩
  ·rw [newl] at hx
   rcases List.mem_append.mp hx with hx | hx
   ·have := d1 x hx
    exact (S.runs x (by rw [split]; exact List.mem_append_left _ hx)).of_eq fun j j1 j2 => p6 j (.inl (by (first | lia | omega)))
   ·rcases List.mem_cons.mp hx with rfl | hx
    ·show RunUp kf (arrOf st') sa (sa + (na + nb))
     rw [show sa + (na + nb) = sb + nb by (first | lia | omega)]
     exact p5
    ·have := d4 x hx
     exact (S.runs x (by rw [split]; exact List.mem_append_right _ (List.mem_cons_of_mem _ (List.mem_cons_of_mem _ hx)))).of_eq fun j j1 j2 => p6 j (.inr (by (first | lia | omega)))
  ·have a1 : (pendingOf st').size = (pendingOf st').toList.length := by simp
   have a2 : (pendingOf st).size = (pendingOf st).toList.length := by simp
   rw [a1, a2, newl, List.length_append, List.length_cons, hlen, List.length_drop]
   (first | lia | omega)
end
end Srt
namespace Srt
open PySem PyProof.Rows
section
variable {M : Model} {A : Around} {E : Value -> Shared -> Prop} {s : Shared} {O : KeyOrd} {kf : Keyed -> O.α} {okk : Keyed -> Prop} {kd : SortKind} {a0 : Array Keyed} {lo : Nat} {st : SortSt}
theorem Sd.run {a : Array Keyed} {lo n : Nat} (h : Sd kf a lo n) : RunUp kf a lo (lo + n) := fun i j p q h1 h2 h3 hp hq => by
 have := h (i - lo) (j - lo) (by (first | lia | omega)) (by (first | lia | omega))
 rw [show lo + (i - lo) = i by (first | lia | omega), show lo + (j - lo) = j by (first | lia | omega), ka_at hp, ka_at hq] at this
 exact this
theorem ite_lt {c : Prop} [Decidable c] {a b n : Nat} (h1 : a + 1 < n) (h2 : b + 1 < n) : (if c then a else b) + 1 < n := by
 by_cases g : c
 ·rw [if_pos g]; exact h1
 ·rw [if_neg g]; exact h2
theorem Stk.wk (S : Stk kf kd a0 lo st) : Wk kd (arrOf st) lo (pendingOf st) st := ⟨Array.Perm.refl _, S.kind, S.failed, rfl, fun _ _ => rfl⟩
theorem Stk.more (S : Stk kf kd a0 lo st) {st1 : SortSt} (B : Wk kd (arrOf st) lo (pendingOf st) st1) : Stk kf kd a0 lo st1 := by
 refine ⟨B.perm.trans S.perm, B.kind, B.failed, by rw [B.pend]; exact S.ch, fun x hx => ?_⟩
 rw [B.pend] at hx
 have := S.ch.mem x hx
 exact (S.runs x hx).of_eq fun j _ j2 => B.pre j (by (first | lia | omega))
theorem Stk.push (S : Stk kf kd a0 lo st) {n : Nat} (h1 : 1 <= n) (r : RunUp kf (arrOf st) lo (lo + n)) : Stk kf kd a0 (lo + n) (setPending st ((pendingOf st).push (lo, n, 0))) := by
 have e : (pendingOf (setPending st ((pendingOf st).push (lo, n, 0)))).toList = (pendingOf st).toList ++ [(lo, n, 0)] := Array.toList_push
 refine ⟨S.perm, S.kind, S.failed, ?_, fun x hx => ?_⟩
 ·rw [e]
  exact S.ch.app ⟨rfl, h1, rfl⟩
 ·rw [e] at hx
  rcases List.mem_append.mp hx with hx | hx
  ·exact S.runs x hx
  ·rw [List.mem_singleton.mp hx]
   exact r
theorem Ch.modify {f : Nat × Nat × Nat -> Nat × Nat × Nat} (hf : ∀ x, (f x).1 = x.1 /\ (f x).2.1 = x.2.1) : ∀ {l : List (Nat × Nat × Nat)} {k s e : Nat}, Ch s l e -> Ch s (l.modify k f) e
 | [], k, s, e, h => by
  rw [List.modify_nil]
  exact h
 | x :: l, 0, s, e, h => by
  rw [List.modify_zero_cons]
  exact ⟨by rw [(hf x).1]; exact h.1, by rw [(hf x).2]; exact h.2.1, by rw [(hf x).2]; exact h.2.2⟩
 | x :: l, k + 1, s, e, h => by
  rw [List.modify_succ_cons]
  exact ⟨h.1, h.2.1, Ch.modify hf h.2.2⟩
theorem mem_modify {f : Nat × Nat × Nat -> Nat × Nat × Nat} {l : List (Nat × Nat × Nat)} {k : Nat} {x : Nat × Nat × Nat} (h : x ∈ l.modify k f) : x ∈ l ∨ ∃ y ∈ l, x = f y := by
 obtain ⟨j, hj⟩ := List.getElem?_of_mem h
 rw [List.getElem?_modify] at hj
 cases e : l[j]? with
 | none => rw [e] at hj; cases hj
 | some y =>
  rw [e] at hj
  have hj : some (if k = j then f y else y) = some x := hj
  have hy : y ∈ l := List.mem_of_getElem? e
  by_cases c : k = j
  ·rw [if_pos c] at hj
   cases hj
   exact .inr ⟨y, hy, rfl⟩
  ·rw [if_neg c] at hj
   cases hj
   exact .inl hy
theorem Stk.power (S : Stk kf kd a0 lo st) {k pw : Nat} {f : Nat × Nat × Nat -> Nat × Nat × Nat} (hf : ∀ x, (f x).1 = x.1 /\ (f x).2.1 = x.2.1) : Stk kf kd a0 lo (setPending st ((pendingOf st).modify k f)) := by
 have e : (pendingOf (setPending st ((pendingOf st).modify k f))).toList = (pendingOf st).toList.modify k f := Array.toList_modify
 refine ⟨S.perm, S.kind, S.failed, ?_, fun x hx => ?_⟩
 ·rw [e]
  exact S.ch.modify hf
 ·rw [e] at hx
  rcases mem_modify hx with hx | ⟨y, hy, rfl⟩
  ·exact S.runs x hx
  ·rw [(hf y).1, (hf y).2]
   exact S.runs y hy
theorem sortAll (C : Cmp M A E s kd O kf okk) (ok : ∀ p ∈ a0.toList, okk p) (ha : arrOf st = a0) (hk : kindOf st = kd) (hf : failedOf st = none) (hp : pendingOf st = #[]) {Q : Unit -> SortSt -> Prop} (h : ∀ st', (arrOf st').Perm a0 -> failedOf st' = none -> RunUp kf (arrOf st') 0 a0.size -> Q () st') : wpS M A E s sortRuns' Q st := by
 unfold sortRuns'
 refine wpS_bind (wpS_get ?_)
 have S0 : Stk kf kd a0 0 st := ⟨by rw [ha], hk, hf, by rw [hp]; rfl, fun x hx => by rw [hp] at hx; cases hx⟩
 have esz : (sortPriv% PySem.Builtin.SortState.a) st = a0 := ha
 try dsimp only
 rw [esz]
 generalize (sortPriv% PySem.Builtin.minRun) a0.size a0.size 0 = mr
 refine wpS_bind (wpS_mono (wpS_forRange (I := fun x c st1 => ∃ lo, c = (none, lo) /\ Stk kf kd a0 lo st1 /\ x <= lo /\ lo <= a0.size) (Q := fun c st1 => c = (none, a0.size) /\ Stk kf kd a0 a0.size st1) ?step ?fin ⟨0, rfl, S0, Nat.le_refl _, Nat.zero_le _⟩) ?post)
 case fin =>
  rintro c st1 ⟨lo, rfl, S1, h1, h2⟩
  rw [Nat.max_eq_right (Nat.zero_le _)] at h1
  have e : lo = a0.size := by (first | lia | omega)
  subst e
  exact ⟨rfl, S1⟩
 case step =>
  rintro x c st1 _ hx ⟨lo, rfl, S1, h1, h2⟩
  try dsimp only
  by_cases hge : lo ≥ a0.size
  ·rw [if_pos hge]
   have e : lo = a0.size := by (first | lia | omega)
   subst e
   exact wpS_pure ⟨rfl, S1⟩
  rw [if_neg hge]
  have z1 := S1.perm.size_eq
  have ok1 : ∀ p ∈ (arrOf st1).toList, okk p := fun p hp => ok p ((Array.perm_iff_toList_perm.mp S1.perm).mem_iff.mp hp)
  refine wpS_bind (countA C ok1 S1.wk (by (first | lia | omega)) (by (first | lia | omega)) fun m st2 B2 m1 m2 hs2 => ?_)
  try dsimp only
  by_cases hmr : m < mr
  ·rw [if_pos hmr]
   refine wpS_bind (wpS_lift (wpAny_rule ⟨rfl, ?_⟩))
   refine wpS_bind (binA C ok1 B2 (n := min (a0.size - lo) mr) (by (first | lia | omega)) (by (first | lia | omega)) hs2 fun st3 B3 hs3 => ?_)
   try dsimp only
   rw [if_neg (by decide)]
   have n1 : 1 <= min (a0.size - lo) mr := by (first | lia | omega)
   have n2 : lo + min (a0.size - lo) mr <= a0.size := by (first | lia | omega)
   generalize min (a0.size - lo) mr = n at n1 n2 hs3 ⊢
   have S3 := S1.more B3
   have r3 := hs3.run
   clear hs3 B3
   refine wpS_bind (wpS_get ?_)
   try dsimp only
   cases hb : ((sortPriv% PySem.Builtin.SortState.pending) st3).back? with
   | none =>
    try dsimp only
    exact wpS_bind (wpS_modify (wpS_pure ⟨lo + n, rfl, S3.push n1 r3, by (first | lia | omega), n2⟩))
   | some y =>
    obtain ⟨s1, k1, w1⟩ := y
    try dsimp only
    generalize (sortPriv% PySem.Builtin.power) a0.size (2 * s1 + k1) (2 * s1 + k1 + k1 + n) a0.size = pw
    refine wpS_bind (wpS_mono (wpS_forRange (I := fun _ c st4 => c = (none, ()) /\ Stk kf kd a0 lo st4 /\ RunUp kf (arrOf st4) lo (lo + n)) (Q := fun c st4 => c = (none, ()) /\ Stk kf kd a0 lo st4 /\ RunUp kf (arrOf st4) lo (lo + n)) ?st4 (fun _ _ g => g) ⟨rfl, S3, r3⟩) ?po4)
    case st4 =>
     rintro x4 c st4 _ _ ⟨rfl, S4, r4⟩
     try dsimp only
     refine wpS_bind (wpS_get ?_)
     try dsimp only
     cases hz : (if ((sortPriv% PySem.Builtin.SortState.pending) st4).size > 1 then ((sortPriv% PySem.Builtin.SortState.pending) st4)[((sortPriv% PySem.Builtin.SortState.pending) st4).size - 2]? else none) with
     | none =>
      try dsimp only
      exact wpS_pure ⟨rfl, S4, r4⟩
     | some y4 =>
      obtain ⟨s5, k5, w5⟩ := y4
      try dsimp only
      have h4 : (pendingOf st4).size > 1 := by
       by_cases c4 : (pendingOf st4).size > 1
       ·exact c4
       ·rw [if_neg c4] at hz
        cases hz
      by_cases c5 : w5 <= pw
      ·rw [if_pos c5]
       exact wpS_pure ⟨rfl, S4, r4⟩
      ·rw [if_neg c5]
       refine wpS_bind (mergeS C ok S4 h2 (i := (pendingOf st4).size - 2) (by (first | lia | omega)) fun st5 S5 _ e5 => ?_)
       try dsimp only
       rw [if_neg (by decide)]
       exact wpS_pure ⟨rfl, S5, r4.of_eq fun j j1 _ => e5 j j1⟩
    case po4 =>
     rintro c st4 ⟨rfl, S4, r4⟩
     try dsimp only
     refine wpS_bind (wpS_modify ?_)
     have S5 := S4.power (k := (pendingOf st4).size - 1) (pw := pw) (f := fun x => (x.1, x.2.1, pw)) (fun _ => ⟨rfl, rfl⟩)
     exact wpS_bind (wpS_modify (wpS_pure ⟨lo + n, rfl, S5.push n1 r4, by (first | lia | omega), n2⟩))
  ·rw [if_neg hmr]
   have n1 : 1 <= m := m1
   have n2 : lo + m <= a0.size := by (first | lia | omega)
   have B3 := B2
   have hs3 := hs2
   generalize m = n at n1 n2 hs3 ⊢
   generalize st2 = st3 at B3 hs3 ⊢
   have S3 := S1.more B3
   have r3 := hs3.run
   clear hs3 B3
   refine wpS_bind (wpS_get ?_)
   try dsimp only
   cases hb : ((sortPriv% PySem.Builtin.SortState.pending) st3).back? with
   | none =>
    try dsimp only
    exact wpS_bind (wpS_modify (wpS_pure ⟨lo + n, rfl, S3.push n1 r3, by (first | lia | omega), n2⟩))
   | some y =>
    obtain ⟨s1, k1, w1⟩ := y
    try dsimp only
    generalize (sortPriv% PySem.Builtin.power) a0.size (2 * s1 + k1) (2 * s1 + k1 + k1 + n) a0.size = pw
    refine wpS_bind (wpS_mono (wpS_forRange (I := fun _ c st4 => c = (none, ()) /\ Stk kf kd a0 lo st4 /\ RunUp kf (arrOf st4) lo (lo + n)) (Q := fun c st4 => c = (none, ()) /\ Stk kf kd a0 lo st4 /\ RunUp kf (arrOf st4) lo (lo + n)) ?st4 (fun _ _ g => g) ⟨rfl, S3, r3⟩) ?po4)
    case st4 =>
     rintro x4 c st4 _ _ ⟨rfl, S4, r4⟩
     try dsimp only
     refine wpS_bind (wpS_get ?_)
     try dsimp only
     cases hz : (if ((sortPriv% PySem.Builtin.SortState.pending) st4).size > 1 then ((sortPriv% PySem.Builtin.SortState.pending) st4)[((sortPriv% PySem.Builtin.SortState.pending) st4).size - 2]? else none) with
     | none =>
      try dsimp only
      exact wpS_pure ⟨rfl, S4, r4⟩
     | some y4 =>
      obtain ⟨s5, k5, w5⟩ := y4
      try dsimp only
      have h4 : (pendingOf st4).size > 1 := by
       by_cases c4 : (pendingOf st4).size > 1
       ·exact c4
       ·rw [if_neg c4] at hz
        cases hz
      by_cases c5 : w5 <= pw
      ·rw [if_pos c5]
       exact wpS_pure ⟨rfl, S4, r4⟩
      ·rw [if_neg c5]
       refine wpS_bind (mergeS C ok S4 h2 (i := (pendingOf st4).size - 2) (by (first | lia | omega)) fun st5 S5 _ e5 => ?_)
       try dsimp only
       rw [if_neg (by decide)]
       exact wpS_pure ⟨rfl, S5, r4.of_eq fun j j1 _ => e5 j j1⟩
    case po4 =>
     rintro c st4 ⟨rfl, S4, r4⟩
     try dsimp only
     refine wpS_bind (wpS_modify ?_)
     have S5 := S4.power (k := (pendingOf st4).size - 1) (pw := pw) (f := fun x => (x.1, x.2.1, pw)) (fun _ => ⟨rfl, rfl⟩)
     exact wpS_bind (wpS_modify (wpS_pure ⟨lo + n, rfl, S5.push n1 r4, by (first | lia | omega), n2⟩))
 case post =>
  rintro c st1 ⟨rfl, S1⟩
  try dsimp only
  have l1 := S1.ch.len
  rw [Nat.zero_add, Array.length_toList] at l1
  refine wpS_bind (wpS_mono (wpS_forRange (I := fun x c st2 => c = (none, ()) /\ Stk kf kd a0 a0.size st2 /\ ((pendingOf st2).size + x <= a0.size ∨ (pendingOf st2).size <= 1)) (Q := fun c st2 => c = (none, ()) /\ Stk kf kd a0 a0.size st2 /\ (pendingOf st2).size <= 1) ?st2 ?fi2 ⟨rfl, S1, .inl (by (first | lia | omega))⟩) ?po2)
  case fi2 =>
   rintro c st2 ⟨rfl, S2, hor⟩
   rw [Nat.max_eq_right (Nat.zero_le _)] at hor
   exact ⟨rfl, S2, by (first | lia | omega)⟩
  case st2 =>
   rintro x c st2 _ hx ⟨rfl, S2, hor⟩
   try dsimp only
   refine wpS_bind (wpS_get ?_)
   try dsimp only
   by_cases h1 : (pendingOf st2).size <= 1
   ·rw [if_pos h1]
    exact wpS_pure ⟨rfl, S2, h1⟩
   rw [if_neg h1]
   have h2 : 2 <= (pendingOf st2).size := by (first | lia | omega)
   refine wpS_bind (show wpS M A E s (mergeAt' _) _ st2 from mergeS C ok S2 (Nat.le_refl _) ?_ fun st3 S3 e3 _ => ?_)
   ·exact ite_lt (show (pendingOf st2).size - 2 - 1 + 1 < (pendingOf st2).size by (first | lia | omega)) (show (pendingOf st2).size - 2 + 1 < (pendingOf st2).size by (first | lia | omega))
   try dsimp only
   rw [if_neg (by decide)]
   exact wpS_pure ⟨rfl, S3, by (first | lia | omega)⟩
  case po2 =>
   rintro c st2 ⟨rfl, S2, hor⟩
   try dsimp only
   refine wpS_pure (h st2 S2.perm S2.failed ?_)
   have c2 := S2.ch
   have r2 := S2.runs
   have l2 : (pendingOf st2).toList.length <= 1 := by rw [Array.length_toList]; exact hor
   match e : (pendingOf st2).toList with
   | [] =>
    rw [e] at c2
    have : 0 = a0.size := c2
    intro i j p q _ _ hj
    (first | lia | omega)
   | [y] =>
    rw [e] at c2 r2
    obtain ⟨e1, _, e2⟩ := c2
    have := r2 y (List.mem_singleton.mpr rfl)
    have e3 : 0 + y.2.1 = a0.size := e2
    rw [e1, e3] at this
    exact this
   | _ :: _ :: _ =>
    rw [e] at l2
    simp at l2
end
end Srt
namespace Srt
open PySem PyProof.Rows
noncomputable def hS (h : Heap) (a : Addr) (vs : List Value) : Heap := ((h.update a (Obj.mapSeq fun _ => (#[] : Array Value))).push (seqObj "tuple" vs.toArray 0)).push (seqObj "list" #[] 0)
section
variable {prog : Program} {w : World} {A : Around} {E : Value -> Shared -> Prop} {s : Shared} {O : KeyOrd} {kf : Keyed -> O.α} {okk : Keyed -> Prop} {kd : SortKind}
theorem listSortA {a : Addr} {vs : List Value} {n : Nat} {P : PySem.Fin -> Shared -> Prop} (ho : s.heap.get? a = some (seqObj "list" vs.toArray n)) (hln : vs.length <= sizeLine)
  (hkk : 2 <= vs.length -> ∀ Q : SortKind -> Shared -> Prop, Q kd { s with heap := hS s.heap a vs } -> wpAny (model prog w) A (keyKind' vs.toArray) Q E { s with heap := hS s.heap a vs })
  (C : Cmp (model prog w) A E { s with heap := hS s.heap a vs } kd O kf okk) (ok : ∀ p ∈ (pairsOf vs).toList, okk p)
  (h : ∀ st' : SortSt, (arrOf st').Perm (pairsOf vs) -> RunUp kf (arrOf st') 0 vs.length -> P (.done (.ret .none)) { s with heap := sortedHeap s.heap a vs ((arrOf st').map (·.2)) }) :
  wpAny (model prog w) A (Builtin.«list.sort» ⟨[.ref a], []⟩) P E s := by
 rw [list_sort_plain]
 have ha : a < s.heap.objs.size := Heap.lt_size ho
 have zz : vs.toArray.size = vs.length := by simp
 refine wpAny_bind (listItems_at ho rfl (wpAny_bind (listUpdate_at ho rfl ?_ (by rw [zz]; exact hln) (Nat.zero_le _))))
 obtain ⟨e1, ho1⟩ : ∃ e, (s.heap.update a (Obj.mapSeq fun _ => (#[] : Array Value))).get? a = some (seqObj "list" #[] e) := ⟨_, get?_update_seq ho fun _ => #[]⟩
 refine wpAny_bind (seqEpoch_at ho1 rfl (wpAny_bind (wpAny_newTuple ?_ (by simpa using hln))))
 refine wpAny_bind (wpAny_newList ?_ (Nat.zero_le _))
 refine wpAny_holding ?_
 have ho6 : (hS s.heap a vs).get? a = some (seqObj "list" #[] e1) := by
  unfold hS
  rw [Heap.get?_push_ne _ _ _ (by rw [size_push', Heap.size_update]; exact Nat.ne_of_lt (Nat.lt_succ_of_lt ha)), Heap.get?_push_ne _ _ _ (by rw [Heap.size_update]; exact Nat.ne_of_lt ha)]
  exact ho1
 show wpAny (model prog w) A _ P E { s with heap := hS s.heap a vs }
 dsimp only
 by_cases c : vs.toArray.size < 2
 ·rw [if_pos c, if_pos c]
  refine wpAny_bind (wpAny_pure ?_)
  rw [StateT.run_pure]
  refine wpAny_bind (wpAny_pure ?_)
  dsimp only
  refine wpAny_bind (seqEpoch_at ho6 rfl (wpAny_bind (listUpdate_at ho6 rfl ?_ (Nat.zero_le _) ?_)))
  ·simp only [bne_self_eq_false, Bool.false_eq_true, if_false]
   refine wpAny_pure (h (SortSt.mk' general' (vs.toArray.zip vs.toArray) #[] 7 none) (Array.Perm.refl _) fun i j p q h1 h2 h3 hp hq => ?_)
   have e : i = j := by (first | lia | omega)
   subst e
   rw [hp] at hq
   cases hq
   exact KeyOrd.kle_refl _
  ·rw [Array.size_map]
   show (pairsOf vs).size <= _
   rw [pairsOf_size]
   (first | lia | omega)
 ·rw [if_neg c, if_neg c]
  refine wpAny_bind (hkk (by (first | lia | omega)) _ ?_)
  refine wpAny_bind (wpAny_mono (sortAll (a0 := pairsOf vs) (st := SortSt.mk' kd (vs.toArray.zip vs.toArray) #[] 7 none) (Q := fun _ st' => (arrOf st').Perm (pairsOf vs) /\ failedOf st' = none /\ RunUp kf (arrOf st') 0 (pairsOf vs).size) C ok rfl rfl rfl rfl fun st' a1 a2 a3 => ⟨a1, a2, a3⟩) ?_ fun _ _ e => e)
  rintro ⟨⟨⟩, st'⟩ s' ⟨rfl, hp, hf, hs⟩
  dsimp only
  have zp : ((arrOf st').map (·.2)).size = vs.length := (Array.size_map ..).trans (hp.size_eq.trans (pairsOf_size _))
  refine wpAny_bind (seqEpoch_at ho6 rfl (wpAny_bind (listUpdate_at ho6 rfl ?_ (Nat.zero_le _) (by show ((arrOf st').map (·.2)).size <= _; (first | lia | omega)))))
  rw [hf]
  simp only [bne_self_eq_false, Bool.false_eq_true, if_false]
  rw [pairsOf_size] at hs
  exact wpAny_pure (h st' hp hs)
noncomputable def hC (h : Heap) (vs : List Value) : Heap := ((h.push (seqObj "list" #[] 0)).update h.objs.size (Obj.mapSeq (· ++ vs.toArray))).push (seqObj "list" vs.toArray 0)
theorem hC_at (h : Heap) (vs : List Value) : (hC h vs).get? (h.objs.size + 1) = some (seqObj "list" vs.toArray 0) := by
 have e : ((h.push (seqObj "list" #[] 0)).update h.objs.size (Obj.mapSeq (· ++ vs.toArray))).objs.size = h.objs.size + 1 := by rw [Heap.size_update, size_push']
 unfold hC
 rw [<- e]
 exact Heap.get?_push_size _ rfl
theorem hC_old {h : Heap} {vs : List Value} {b : Addr} {o : Obj} (e : h.get? b = some o) : (hC h vs).get? b = some o := by
 have hlt : b < h.objs.size := Heap.lt_size e
 unfold hC
 rw [Heap.get?_push_ne _ _ _ (by rw [Heap.size_update, size_push']; exact Nat.ne_of_lt (Nat.lt_succ_of_lt hlt)), Heap.get?_update_ne _ _ _ _ (Nat.ne_of_lt hlt), Heap.get?_push_ne _ _ _ (Nat.ne_of_lt hlt)]
 exact e
theorem hS_old {h : Heap} {a : Addr} {vs : List Value} {b : Addr} {o : Obj} (hb : b ≠ a) (e : h.get? b = some o) : (hS h a vs).get? b = some o := by
 have hlt : b < h.objs.size := Heap.lt_size e
 unfold hS
 rw [Heap.get?_push_ne _ _ _ (by rw [size_push', Heap.size_update]; exact Nat.ne_of_lt (Nat.lt_succ_of_lt hlt)), Heap.get?_push_ne _ _ _ (by rw [Heap.size_update]; exact Nat.ne_of_lt hlt), Heap.get?_update_ne _ _ _ _ hb]
 exact e
theorem sortedA {l : Addr} {vs : List Value} {Q : Value -> Shared -> Prop} (hl : s.heap.IsList l vs.toArray) (hln : vs.length <= sizeLine)
  (hkk : 2 <= vs.length -> ∀ (A' : Around) (E' : Value -> Shared -> Prop) (h' : Heap) (Q : SortKind -> Shared -> Prop), (∀ b o, s.heap.get? b = some o -> h'.get? b = some o) -> Q kd { s with heap := h' } -> wpAny (model prog w) A' (keyKind' vs.toArray) Q E' { s with heap := h' })
  (C : ∀ (A' : Around) (E' : Value -> Shared -> Prop) (h' : Heap), (∀ b o, s.heap.get? b = some o -> h'.get? b = some o) -> Cmp (model prog w) A' E' { s with heap := h' } kd O kf okk) (ok : ∀ p ∈ (pairsOf vs).toList, okk p)
  (h : ∀ st' : SortSt, (arrOf st').Perm (pairsOf vs) -> RunUp kf (arrOf st') 0 vs.length -> Q (.ref (s.heap.objs.size + 1)) { s with heap := sortedAll s.heap vs ((arrOf st').map (·.2)) }) :
  wpAny (model prog w) A (call (.builtin "sorted") [.ref l]) Q E s := by
 refine Calls.call_function_entry kind_sorted plain_sorted entry_sorted (args_sorted1 _) ?_
 unfold Builtin.«sorted»
 refine wpAny_bind (m := checkCount "sorted" 1 1 _) (wpAny_pure ?_)
 refine wpAny_bind (collect_list hl ?_ hln)
 refine wpAny_bind (wpAny_newList ?_ hln)
 have e : ((s.heap.push (seqObj "list" #[] 0)).update s.heap.objs.size (Obj.mapSeq (· ++ vs.toArray))).objs.size = s.heap.objs.size + 1 := by rw [Heap.size_update, size_push']
 show wpAny _ _ _ _ _ { s with heap := hC s.heap vs }
 rw [e]
 have hk : ∀ b o, s.heap.get? b = some o -> (hS (hC s.heap vs) (s.heap.objs.size + 1) vs).get? b = some o := fun b o g => hS_old (Nat.ne_of_lt (Nat.lt_succ_of_lt (Heap.lt_size g))) (hC_old g)
 refine wpAny_bind (wpAny_holding (wpAny_call_entry slot_list_sort ⟨_, hC_at s.heap vs, rfl⟩ entry_list_sort (listSortA (s := { s with heap := hC s.heap vs }) (hC_at s.heap vs) hln (fun h2 Q' q => hkk h2 _ _ _ Q' hk q) (C _ _ _ hk) ok fun st' a1 a2 => ⟨_, rfl, ?_⟩) (args_list_sort _)))
 exact wpAny_pure ⟨_, rfl, h st' a1 a2⟩
end
noncomputable def intO : KeyOrd where
 α := Int
 blt := fun a b => decide (a < b)
 irrefl := fun a => decide_eq_false (Int.lt_irrefl a)
 trans := fun a b c h1 h2 => decide_eq_true (Int.lt_trans (of_decide_eq_true h1) (of_decide_eq_true h2))
 negTrans := fun a b c h => by
  have := of_decide_eq_true h
  by_cases g : a < b
  ·exact .inl (decide_eq_true g)
  ·exact .inr (decide_eq_true (by (first | lia | omega)))
 total := fun a b h1 h2 => by
  have := of_decide_eq_false h1
  have := of_decide_eq_false h2
  (first | lia | omega)
noncomputable def isI (p : Keyed) : Prop := ∃ n t, p.1 = .int n t
theorem cmpI {prog : Program} {w : World} {A : Around} {E : Value -> Shared -> Prop} {s : Shared} : Cmp (model prog w) A E s oneType' intO (fun p => numOf p.1) isI := by
 refine ⟨fun x y st Q hx hy hk q => ?_⟩
 obtain ⟨⟨a, t, ea⟩, ⟨b, u, eb⟩⟩ := And.intro hx hy
 obtain ⟨x1, x2⟩ := x
 obtain ⟨y1, y2⟩ := y
 dsimp only at ea eb
 subst ea eb
 rw [lt'_eq]
 refine wpS_bind (wpS_get ?_)
 rw [hk, keyLt'_oneType]
 refine wpS_bind (wpS_lift (wpAny_attempt (oneLt_int ⟨rfl, ?_⟩)))
 exact wpS_pure q
end Srt
namespace L2
open PySem PySem.Spec PyProof.Rows
section
variable {X : Cx}
theorem run_sorted {xs : Array Keyed} {n : Nat} (h : Srt.RunUp (O := Srt.intO) (fun p => numOf p.1) xs 0 n) (hn : n <= xs.size) : SortedTo xs n := fun i j hij hj => by
 have e1 : xs[i]? = some (xs[i]'(by (first | lia | omega))) := Array.getElem?_eq_getElem (by (first | lia | omega))
 have e2 : xs[j]? = some (xs[j]'(by (first | lia | omega))) := Array.getElem?_eq_getElem (by (first | lia | omega))
 have g := h i j _ _ (Nat.zero_le _) hij hj e1 e2
 have g2 : ¬ numOf (xs[j]'(by (first | lia | omega))).1 < numOf (xs[i]'(by (first | lia | omega))).1 := of_decide_eq_false g
 unfold K
 rw [e1, e2]
 show numOf _ <= numOf _
 (first | lia | omega)
noncomputable def rSortedN : List V -> Hp -> VK -> Prop := fun xs H Q => ∃ (l : Addr) (ns : List Int), xs = [.ref l] /\ H l = some (.lst (ns.map V.int)) /\
 ∀ p (ns' : List Int), ns'.Perm ns -> ns'.Pairwise (· <= ·) -> H p = none -> Q (.ref p) (upd H p (.lst (ns'.map V.int)))
theorem call_sortedN : CallR X (.builtin "sorted") rSortedN := by
 intro pins s σ H xs us Q I rs h
 obtain ⟨l, ns, rfl, hH, q⟩ := h
 obtain ⟨u, rfl, ru⟩ := vals1 rs
 cases (show u = Value.ref l from ru)
 obtain ⟨z, its, n, r, hl, e⟩ := I.lstM hH
 have hln : its.length = ns.length := by rw [<- r.length, mapI_len]
 have hI := intsAre_of r
 have hz : its.length <= sizeLine := by
  rw [hln, <- mapI_len ns]
  exact z
 refine Srt.sortedA (l := l) (vs := its) (kd := oneType') (O := Srt.intO) (kf := fun p => numOf p.1) (okk := Srt.isI) ⟨_, e, rfl, n, rfl⟩ hz (fun h2 A' E' h' Q' _ q' => ?_) (fun A' E' h' _ => Srt.cmpI) (fun p hp => hI.intKeys p hp) fun st' a1 a2 => ?_
 ·obtain ⟨v1, v2, rest, rfl⟩ : ∃ v1 v2 rest, its = v1 :: v2 :: rest := by
   match its, h2 with
   | v1 :: v2 :: rest, _ => exact ⟨v1, v2, rest, rfl⟩
  rw [keyKind_ints hI]
  exact wpAny_pure q'
 ·have zs : (arrOf st').size = its.length := a1.size_eq.trans (pairsOf_size _)
  have hs : SortedTo (arrOf st') (pairsOf its).size := by
   rw [pairsOf_size]
   exact run_sorted a2 (by (first | lia | omega))
  obtain ⟨ns', b1, b2, b3⟩ := sorted_out hI a1 hs
  generalize (arrOf st').map (·.2) = out at b1
  obtain ⟨c, hc⟩ := sortedAll_at s.heap its out
  have hk : ∀ b o, s.heap.get? b = some o -> (sortedAll s.heap its out).get? b = some o := fun b o hb => sortedAll_old hb
  have hf : H (s.heap.objs.size + 1) = none := I.hok.fresh (Nat.le_succ _)
  refine ⟨.ref (s.heap.objs.size + 1), _, I.laid (t' := s.toks) (o := .lst (ns'.map V.int)) hk (Nat.le_succ _) ?_, rfl, q _ ns' b2 b3 hf⟩
  refine ⟨?_, out.toList, c, vals_ints b1, by simpa using hc⟩
  rw [mapI_len, b2.length_eq, <- mapI_len ns]
  exact z
end
end L2
namespace L2
open PySem PySem.Spec PyProof.Rows
structure PEw (X : Cx) (e : Expr) (t : TE) : Prop where
 h : PE X e t
structure PAw (X : Cx) (e : List Expr) (t : TA) : Prop where
 h : PA X e t
structure PTw (X : Cx) (e : Expr) (t : TT) : Prop where
 h : PT X e t
structure PWw (X : Cx) (e : Expr) (t : TT) : Prop where
 h : PW X e t
structure PSw (X : Cx) (e : Stmt) (t : TS) : Prop where
 h : PS X e t
structure PSsw (X : Cx) (e : List Stmt) (t : TS) : Prop where
 h : PSs X e t
end L2
namespace Wr
open PySem PySem.Spec PyProof.Rows L2
end Wr
namespace L2
open PySem PySem.Spec PyProof.Rows
end L2
namespace L2
open PySem PySem.Spec PyProof.Rows
theorem lc_zipGV {K : PySem.W.Frag} {a b : Addr} {xs ys : List V} {te : TE} {ix : List Nat} {σ : L2.St} {H1 : Hp} {Q : VK} (Fx : ∀ {H}, Same H1 H -> SqT K H a xs) (Fy : ∀ {H}, Same H1 H -> SqT K H b ys) (small : (xs.zip ys).length <= 1000) (R : Nat -> V -> Hp -> Prop) (hR : ∀ i v H H', SameT H H' -> R i v H -> R i v H')
  (he : ∀ (i : Nat) (x y : V), xs[i]? = some x -> ys[i]? = some y -> ∀ H, Same H1 H -> ∀ Q' : VK, (∀ w H', Same H H' -> R i w H' -> Q' w H') -> te (some x :: some y :: ix.map fun i => σ.getD i none) H Q')
  (fin : ∀ acc vs H', H1 acc = none -> Same H1 H' -> H' acc = some (.lst vs) -> vs.length = (xs.zip ys).length -> (∀ i v, vs[i]? = some v -> R i v H') -> Q (.ref acc) H') :
  LcW (Itz K a b) H1 (gTup K 2 (gCons (gName 0) (gCons (gName 1) gNil))) tNoTest te 2 ix σ Q := by
 intro acc ha
 refine ⟨fun i m H => m = (xs.zip ys).length - i /\ i <= (xs.zip ys).length /\ Same H1 H /\ ∃ vs, H acc = some (.lst vs) /\ vs.length = i /\ ∀ j v, vs[j]? = some v -> R j v H, ⟨(xs.zip ys).length, by simp, Nat.zero_le _, same_upd ha, [], upd_same, rfl, fun _ _ h => by simp at h⟩, ?_⟩
 rintro i m H ⟨rfl, hi, sm, vs, hacc, hl, hv0⟩
 by_cases hlt : i < (xs.zip ys).length
 ·have hl2 : i < xs.length /\ i < ys.length := by rw [List.length_zip] at hlt; (first | lia | omega)
  refine .inr ⟨⟨xs, ys, xs[i], ys[i], Fx sm, Fy sm, List.getElem?_eq_getElem hl2.1, List.getElem?_eq_getElem hl2.2⟩, fun v H' y => ?_⟩
  obtain ⟨t, x, y, hn, rfl, rfl, hv⟩ := y
  obtain ⟨e1, e2⟩ := hv xs ys (Fx sm) (Fy sm)
  refine ⟨t, _, rfl, SqT.of upd_same, rfl, x, _, rfl, y, _, rfl, rfl, ⟨rfl, fun j v e => ?_⟩, ?_⟩
  ·match j, e with
   | 0, e => cases e
   | 1, e => cases e
   | j + 2, e => exact e
  ·have st := same_upd (o := .tup [x, y]) hn
   have sm2 := sm.trans st
   have hacc2 := st _ _ hacc
   unfold tNoTest
   dsimp only
   rw [if_pos rfl]
   refine he i x y e1 e2 _ sm2 _ fun w H4 s4 r4 => ?_
   have h4 := s4 _ _ hacc2
   refine ⟨vs, h4, small1 (by (first | lia | omega)), (xs.zip ys).length - (i + 1), by (first | lia | omega), rfl, hlt, same_updR (sm2.trans s4) ha, vs ++ [w], upd_same, by simp; (first | lia | omega), fun j v hj => ?_⟩
   have st2 : SameT H4 (upd H4 acc (.lst (vs ++ [w]))) := sameT_lst h4
   by_cases hj' : j < vs.length
   ·rw [List.getElem?_append_left hj'] at hj
    exact hR _ _ _ _ ((st.trans s4).t.trans st2) (hv0 j v hj)
   ·rw [List.getElem?_append_right (by (first | lia | omega))] at hj
    have : j - vs.length = 0 := by
     rcases Nat.eq_zero_or_pos (j - vs.length) with h | h
     ·exact h
     ·rw [List.getElem?_eq_none (by show 1 <= _; (first | lia | omega))] at hj; cases hj
    rw [this] at hj
    cases hj
    rw [show j = i by (first | lia | omega)]
    exact hR _ _ _ _ st2 r4
 ·have e : i = (xs.zip ys).length := by (first | lia | omega)
  subst e
  refine .inl ⟨⟨xs, ys, Fx sm, Fy sm, ?_⟩, fin acc vs H ha sm hacc hl hv0⟩
  rw [List.length_zip]
  rcases Nat.le_total xs.length ys.length with h | h
  ·exact .inl (List.getElem?_eq_none (by (first | lia | omega)))
  ·exact .inr (List.getElem?_eq_none (by (first | lia | omega)))
noncomputable def rowT : PyData -> Bool
 | .tuple es => es.all whD && (decide (0 < es.length) && risL (es.map asI))
 | _ => false
noncomputable def numsD : PyData -> List Int
 | .tuple es => es.map asI
 | _ => []
noncomputable def ltL : List Int -> List Int -> Bool
 | a :: r, b :: t => decide (a < b) && ltL r t
 | _, _ => true
noncomputable def aboveL (a b : List Int) : Bool := decide (b.length <= a.length) && ltL a b
noncomputable def prsL : List (List Int) -> Bool
 | a :: b :: r => aboveL a b && prsL (b :: r)
 | _ => true
noncomputable def permL (ns : List Int) : Bool := decide (ns.Perm (num0 ns.length))
noncomputable def tabD : PyData -> Bool
 | .tuple rs => rs.all rowT && (prsL (rs.map numsD) && permL (rs.map numsD).flatten)
 | _ => false
noncomputable def spRowT : Sp := fun vs H Q _ => ∃ S x d, vs = [x] /\ IsY S H x d /\ Sz 1000 d /\ ∀ H', Same H H' -> Q (.bl (rowT d)) H'
noncomputable def spAboveT : Sp := fun vs H Q _ => ∃ (a b : Addr) (ns ms : List Int), vs = [.ref a, .ref b] /\ H a = some (.tup (ns.map V.int)) /\ H b = some (.tup (ms.map V.int)) /\ ns.length <= 1000 /\ ms.length <= 1000 /\ ∀ H', Same H H' -> Q (.bl (aboveL ns ms)) H'
noncomputable def spTabD : Sp := fun vs H Q _ => ∃ S x d, vs = [x] /\ IsY S H x d /\ Sz 1000 d /\ ∀ H', Same H H' -> Q (.bl (tabD d)) H'
theorem ltL_zip : ∀ ns ms : List Int, (((ns.map V.int).zip (ms.map V.int)).map ltP).all id = ltL ns ms
 | [], _ => by simp [ltL]
 | _ :: _, [] => by simp [ltL]
 | a :: r, b :: t => by
  have := ltL_zip r t
  simp only [List.map_cons, List.zip_cons_cons, List.all_cons, ltL, id] at this ⊢
  rw [this]
  rfl
theorem row_at {S : Addr -> Prop} {H : Hp} {x : V} {d : PyData} (y : IsY S H x d) (h : rowT d = true) : ∃ c, x = .ref c /\ H c = some (.tup ((numsD d).map V.int)) := by
 cases y with
 | tup e al =>
  rename_i a vs es
  have h1 : es.all whD = true := by
   have : (es.all whD && _) = true := h
   rw [Bool.and_eq_true] at this
   exact this.1
  refine ⟨a, rfl, ?_⟩
  rw [e, ints_of al h1]
  rfl
 | _ => cases h
theorem Sz.nums {n : Nat} {d : PyData} (h : Sz n d) : (numsD d).length <= n := by
 cases d with
 | tuple es =>
  show (es.map asI).length <= n
  rw [List.length_map]
  exact h.tup.1
 | _ => exact Nat.zero_le _
theorem flat_le : ∀ {n : Nat} {ds : List PyData}, PyData.bulkAll ds <= n -> (ds.map numsD).flatten.length <= n
 | _, [], _ => Nat.zero_le _
 | n, d :: r, h => by
  simp only [PyData.bulkAll] at h
  have ih := flat_le (n := n - (1 + d.bulk)) (ds := r) (by (first | lia | omega))
  have h2 : (numsD d).length <= d.bulk := Sz.nums (Nat.le_refl _)
  rw [List.map_cons, List.flatten_cons, List.length_append]
  (first | lia | omega)
theorem num0_upT (n : Nat) : (num0 n).Pairwise (· <= ·) := by
 unfold num0
 rw [List.pairwise_map]
 refine List.pairwise_lt_range.imp fun h => ?_
 exact Int.ofNat_le.mpr (Nat.le_of_lt h)
theorem perm_sorted {ns ns' : List Int} (hp : ns'.Perm ns) (hs : ns'.Pairwise (· <= ·)) : decide (ns' = num0 ns.length) = permL ns := by
 unfold permL
 by_cases c : ns.Perm (num0 ns.length)
 ·rw [decide_eq_true c]
  refine decide_eq_true ?_
  exact List.Perm.eq_of_pairwise (le := (· <= ·)) (fun a b _ _ h1 h2 => Int.le_antisymm h1 h2) hs (num0_upT _) (hp.trans c)
 ·rw [decide_eq_false c]
  refine decide_eq_false fun e => c ?_
  rw [<- e]
  exact hp.symm
noncomputable def preT (ds : List PyData) : Bool := ds.all rowT && prsL (ds.map numsD)
theorem prs_snoc : ∀ (l : List (List Int)) (b : List Int), prsL (l ++ [b]) = (prsL l && (match l.getLast? with | some a => aboveL a b | none => true))
 | [], b => rfl
 | [a], b => by simp [prsL]
 | a :: c :: l, b => by
  have ih := prs_snoc (c :: l) b
  show (aboveL a c && prsL ((c :: l) ++ [b])) = ((aboveL a c && prsL (c :: l)) && _)
  rw [ih, Bool.and_assoc]
  rfl
theorem pre_snoc (ds : List PyData) (d : PyData) : preT (ds ++ [d]) = (preT ds && (rowT d && (match (ds.map numsD).getLast? with | some a => aboveL a (numsD d) | none => true))) := by
 unfold preT
 rw [List.all_append, List.map_append, List.map_singleton, prs_snoc]
 simp only [List.all_cons, List.all_nil, Bool.and_true]
 cases ds.all rowT <;> cases rowT d <;> cases prsL (ds.map numsD) <;> simp
theorem pre_step {ds : List PyData} {j : Nat} {d : PyData} (h : ds[j]? = some d) : preT (ds.take (j + 1)) = (preT (ds.take j) && (rowT d && (match ((ds.take j).map numsD).getLast? with | some a => aboveL a (numsD d) | none => true))) := by
 rw [List.take_succ, h]
 exact pre_snoc _ _
theorem pre_false {ds : List PyData} {k : Nat} (h : preT (ds.take k) = false) : preT ds = false := by
 have g : ∀ m, preT (ds.take (k + m)) = false := by
  intro m
  induction m with
  | zero => exact h
  | succ m ih =>
   by_cases c : k + m < ds.length
   ·rw [show k + (m + 1) = k + m + 1 by (first | lia | omega), pre_step (List.getElem?_eq_getElem c), ih]
    rfl
   ·rw [List.take_of_length_le (by (first | lia | omega))] at ih ⊢
    exact ih
 have := g ds.length
 rw [List.take_of_length_le (by (first | lia | omega))] at this
 exact this
theorem tab_pre (ds : List PyData) : tabD (.tuple ds) = (preT ds && permL (ds.map numsD).flatten) := by
 show (_ && (_ && _)) = _
 unfold preT
 rw [Bool.and_assoc]
end L2
namespace L2
open PySem PySem.Spec PyProof.Rows
end L2
namespace L2
open PySem PySem.Spec PyProof.Rows
theorem atO_left {a b : List Int} {x : Int} (h0 : 0 <= x) (h1 : x < a.length) : atO (a ++ b) x = atO a x := by
 obtain ⟨k, rfl⟩ : ∃ k : Nat, x = (k : Int) := ⟨x.toNat, by (first | lia | omega)⟩
 rw [atO_get (by rw [List.length_append]; (first | lia | omega)), atO_get (by (first | lia | omega)), List.getElem_append_left]
theorem atO_right {a b : List Int} {x : Int} (h0 : 0 <= x) (h1 : x < b.length) : atO (a ++ b) (a.length + x) = atO b x := by
 obtain ⟨k, rfl⟩ : ∃ k : Nat, x = (k : Int) := ⟨x.toNat, by (first | lia | omega)⟩
 rw [show (a.length : Int) + (k : Int) = ((a.length + k : Nat) : Int) by (first | lia | omega), atO_get (by rw [List.length_append]; (first | lia | omega)), atO_get (by (first | lia | omega)), List.getElem_append_right (by (first | lia | omega))]
 congr 1
 (first | lia | omega)
end L2
namespace L2
open PySem PySem.Spec PyProof.Rows
end L2
namespace L2
open PySem PySem.Spec PyProof.Rows
noncomputable def Chn (ns ks : List Int) : Prop := ks.Pairwise (fun a b => b < a /\ atO ns b < atO ns a) /\ ∀ k ∈ ks, 0 <= k /\ k < ns.length
structure Pat (ns L : List Int) : Prop where
 inc : L.Pairwise (· < ·)
 up : ∀ (j : Nat) a, L[j]? = some a -> ∃ k ks, Chn ns (k :: ks) /\ ks.length = j /\ atO ns k = a
 dn : ∀ k ks, Chn ns (k :: ks) -> ∃ a, L[ks.length]? = some a /\ a <= atO ns k
theorem pw_mem {α : Type} {R S : α -> α -> Prop} : ∀ {l : List α}, l.Pairwise R -> (∀ a ∈ l, ∀ b ∈ l, R a b -> S a b) -> l.Pairwise S
 | [], _, _ => .nil
 | a :: t, h, f => by
  rw [List.pairwise_cons] at h ⊢
  exact ⟨fun b hb => f a List.mem_cons_self b (List.mem_cons_of_mem _ hb) (h.1 b hb), pw_mem h.2 fun x hx y hy => f x (List.mem_cons_of_mem _ hx) y (List.mem_cons_of_mem _ hy)⟩
theorem Chn.more {ns ks : List Int} (x : Int) (h : Chn ns ks) : Chn (ns ++ [x]) ks := by
 refine ⟨pw_mem h.1 fun a ha b hb r => ?_, fun k hk => ?_⟩
 ·have h1 := h.2 a ha
  have h2 := h.2 b hb
  rw [atO_left h1.1 h1.2, atO_left h2.1 h2.2]
  exact r
 ·have := h.2 k hk
  rw [List.length_append]
  simp
  (first | lia | omega)
theorem Chn.less {ns ks : List Int} {x : Int} (h : Chn (ns ++ [x]) ks) (hk : ∀ k ∈ ks, k < ns.length) : Chn ns ks := by
 refine ⟨pw_mem h.1 fun a ha b hb r => ?_, fun k k1 => ⟨(h.2 k k1).1, hk k k1⟩⟩
 rw [atO_left (h.2 a ha).1 (hk a ha), atO_left (h.2 b hb).1 (hk b hb)] at r
 exact r
theorem pat_get (L : List Int) (x : Int) (j : Nat) : (patO L x)[j]? = if j = L.countP (fun a => decide (a < x)) then some x else L[j]? := by
 have hc : L.countP (fun a => decide (a < x)) <= L.length := List.countP_le_length
 unfold patO
 by_cases c : L.countP (fun a => decide (a < x)) = L.length
 ·rw [if_pos c, c]
  by_cases d : j = L.length
  ·rw [if_pos d, d, List.getElem?_append_right (Nat.le_refl _), Nat.sub_self]
   rfl
  ·rw [if_neg d]
   by_cases e : j < L.length
   ·rw [List.getElem?_append_left e]
   ·rw [List.getElem?_eq_none (by simp; (first | lia | omega)), List.getElem?_eq_none (by (first | lia | omega))]
 ·rw [if_neg c]
  by_cases d : j = L.countP (fun a => decide (a < x))
  ·rw [if_pos d, d, List.getElem?_set_self (by (first | lia | omega))]
  ·rw [if_neg d, List.getElem?_set_ne (Ne.symm d)]
theorem snoc_ind {P : List Int -> Prop} (h0 : P []) (hs : ∀ l x, P l -> P (l ++ [x])) (l : List Int) : P l := by
 have : ∀ r : List Int, P r.reverse := by
  intro r
  induction r with
  | nil => exact h0
  | cons a t ih => rw [List.reverse_cons]; exact hs _ _ ih
 have := this l.reverse
 rwa [List.reverse_reverse] at this
theorem heaps_ex (ns : List Int) : ∃ es, Heaps ns (patsO ns) es := by
 refine snoc_ind (P := fun ns => ∃ es, Heaps ns (patsO ns) es) ⟨[], heaps0⟩ (fun ns x ih => ?_) ns
 ·obtain ⟨es, Z⟩ := ih
  exact ⟨_, pats_snoc ns x ▸ Z.step x⟩
theorem atO_end (ns : List Int) (x : Int) : atO (ns ++ [x]) (ns.length : Int) = x := by
 have := atO_right (a := ns) (b := [x]) (x := 0) (by decide) (by simp)
 rw [Int.add_zero] at this
 rw [this]
 rfl
theorem Pat.step {ns L : List Int} (Z : Pat ns L) (x : Int) (hi : (patO L x).Pairwise (· < ·)) : Pat (ns ++ [x]) (patO L x) := by
 have hc : L.countP (fun a => decide (a < x)) <= L.length := List.countP_le_length
 have cl := fun (j : Nat) (a : Int) => count_lt (x := x) Z.inc j a
 refine ⟨hi, fun j a hj => ?_, fun k ks hk => ?_⟩
 ·rw [pat_get] at hj
  generalize L.countP (fun a => decide (a < x)) = c at hj hc cl
  by_cases d : j = c
  ·rw [if_pos d] at hj
   injection hj with hj
   subst hj
   cases j with
   | zero =>
    refine ⟨ns.length, [], ⟨List.pairwise_singleton _ _, fun k hk => ?_⟩, rfl, atO_end _ _⟩
    rw [List.mem_singleton.mp hk, List.length_append]
    simp
    (first | lia | omega)
   | succ j =>
    have hl : j < L.length := by (first | lia | omega)
    have hb := (cl j L[j] (List.getElem?_eq_getElem hl)).mpr (by (first | lia | omega))
    obtain ⟨k, ks, h1, h2, h3⟩ := Z.up j L[j] (List.getElem?_eq_getElem hl)
    refine ⟨ns.length, k :: ks, ⟨?_, fun e he => ?_⟩, by rw [List.length_cons, h2], atO_end _ _⟩
    ·rw [List.pairwise_cons]
     refine ⟨fun e he => ?_, (h1.more x).1⟩
     have r := h1.2 e he
     rw [atO_end, atO_left r.1 r.2]
     refine ⟨r.2, ?_⟩
     rcases List.mem_cons.mp he with rfl | he
     ·(first | lia | omega)
     ·have := (List.pairwise_cons.mp h1.1).1 e he
      (first | lia | omega)
    ·rcases List.mem_cons.mp he with rfl | he
     ·rw [List.length_append]; simp; (first | lia | omega)
     ·exact (h1.more x).2 e he
  ·rw [if_neg d] at hj
   obtain ⟨k, ks, h1, h2, h3⟩ := Z.up j a hj
   have r := h1.2 k List.mem_cons_self
   exact ⟨k, ks, h1.more x, h2, by rw [atO_left r.1 r.2]; exact h3⟩
 ·rw [pat_get]
  generalize L.countP (fun a => decide (a < x)) = c at hc cl
  have rk := hk.2 k List.mem_cons_self
  rw [List.length_append, List.length_singleton] at rk
  have pk := List.pairwise_cons.mp hk.1
  by_cases e : k = ns.length
  ·subst e
   rw [atO_end]
   have hks : ∀ q ∈ ks, q < ns.length := fun q hq => (pk.1 q hq).1
   by_cases d : ks.length = c
   ·exact ⟨x, if_pos d, Int.le_refl _⟩
   ·rw [if_neg d]
    cases ks with
    | nil =>
     have h0 : 0 < c := by
      have : ¬ (0 = c) := d
      (first | lia | omega)
     have hl : 0 < L.length := by (first | lia | omega)
     exact ⟨L[0], List.getElem?_eq_getElem hl, Int.le_of_lt ((cl 0 L[0] (List.getElem?_eq_getElem hl)).mpr h0)⟩
    | cons k2 ks2 =>
     have hch : Chn ns (k2 :: ks2) := Chn.less ⟨pk.2, fun q hq => hk.2 q (List.mem_cons_of_mem _ hq)⟩ hks
     obtain ⟨a, g1, g2⟩ := Z.dn k2 ks2 hch
     have r2 := hch.2 k2 List.mem_cons_self
     have lt := (pk.1 k2 List.mem_cons_self).2
     rw [atO_end, atO_left r2.1 r2.2] at lt
     have h1 := (cl _ a g1).mp (by (first | lia | omega))
     rw [List.length_cons] at d ⊢
     have hl : ks2.length + 1 < L.length := by (first | lia | omega)
     exact ⟨L[ks2.length + 1], List.getElem?_eq_getElem hl, Int.le_of_lt ((cl _ _ (List.getElem?_eq_getElem hl)).mpr (by (first | lia | omega)))⟩
  ·have hall : ∀ q ∈ k :: ks, q < ns.length := fun q hq => by
    rcases List.mem_cons.mp hq with rfl | hq
    ·(first | lia | omega)
    ·have := (pk.1 q hq).1
     (first | lia | omega)
   have hch := hk.less hall
   obtain ⟨a, g1, g2⟩ := Z.dn k ks hch
   rw [atO_left rk.1 (hall k List.mem_cons_self)]
   by_cases d : ks.length = c
   ·refine ⟨x, if_pos d, ?_⟩
    have := (cl _ a g1)
    have : ¬ a < x := fun z => by have := this.mp z; (first | lia | omega)
    (first | lia | omega)
   ·exact ⟨a, by rw [if_neg d]; exact g1, g2⟩
theorem pat_all (ns : List Int) : Pat ns (patsO ns) := by
 refine snoc_ind (P := fun ns => Pat ns (patsO ns)) ?_ (fun ns x ih => ?_) ns
 ·exact ⟨.nil, fun j a h => by simp [patsO] at h, fun k ks h => by have := h.2 k List.mem_cons_self; simp at this; (first | lia | omega)⟩
 ·have := ih.step x (by
   obtain ⟨es, Z⟩ := heaps_ex (ns ++ [x])
   rw [<- pats_snoc]
   exact Z.inc)
  rw [<- pats_snoc] at this
  exact this
theorem chn_le {ns ks : List Int} (h : Chn ns ks) : (ks.length : Int) <= longestO ns := by
 unfold longestO
 cases ks with
 | nil => simp
 | cons k ks =>
  obtain ⟨a, g, _⟩ := (pat_all ns).dn k ks h
  have := (List.getElem?_eq_some_iff.mp g).1
  rw [List.length_cons]
  (first | lia | omega)
theorem chn_ex (ns : List Int) : ∃ ks, Chn ns ks /\ (ks.length : Int) = longestO ns := by
 unfold longestO
 by_cases h : (patsO ns).length = 0
 ·exact ⟨[], ⟨.nil, fun _ h => by cases h⟩, by rw [h]; rfl⟩
 ·have hl : (patsO ns).length - 1 < (patsO ns).length := by (first | lia | omega)
  obtain ⟨k, ks, h1, h2, _⟩ := (pat_all ns).up _ _ (List.getElem?_eq_getElem hl)
  exact ⟨k :: ks, h1, by rw [List.length_cons, h2]; (first | lia | omega)⟩
end L2
namespace L2
open PySem PySem.Spec PyProof.Rows
end L2
namespace L2
open PySem PySem.Spec PyProof.Rows
noncomputable def cntL (r : List Int) (x : Int) : Nat := r.countP fun a => decide (a < x)
noncomputable def putR : List (List Int) -> Int -> List (List Int) × Nat
 | [], x => ([[x]], 0)
 | r :: R, x => if cntL r x = r.length then ((r ++ [x]) :: R, 0) else (r.set (cntL r x) x :: (putR R (r.getD (cntL r x) 0)).1, (putR R (r.getD (cntL r x) 0)).2 + 1)
noncomputable def addAt : List (List Int) -> Nat -> Int -> List (List Int)
 | [], _, p => [[p]]
 | s :: Q, 0, p => (s ++ [p]) :: Q
 | s :: Q, k + 1, p => s :: addAt Q k p
noncomputable abbrev Inc (r : List Int) : Prop := r.Pairwise (· < ·)
noncomputable def Ab (r s : List Int) : Prop := s.length <= r.length /\ ∀ j, j < s.length -> r.getD j 0 < s.getD j 0
noncomputable def hdAb (r : List Int) (R : List (List Int)) : Prop := ∀ s, R.head? = some s -> Ab r s
noncomputable def Tab : List (List Int) -> Prop
 | [] => True
 | r :: R => Inc r /\ r ≠ [] /\ hdAb r R /\ Tab R
theorem cntCons (a : Int) (t : List Int) (x : Int) : cntL (a :: t) x = cntL t x + (if a < x then 1 else 0) := by
 unfold cntL
 rw [List.countP_cons]
 simp
theorem cntLe (r : List Int) (x : Int) : cntL r x <= r.length := List.countP_le_length
theorem cntLt {x : Int} : ∀ {r : List Int}, Inc r -> ∀ {j : Nat}, j < r.length -> (r.getD j 0 < x ↔ j < cntL r x)
 | [], _, _, h => by cases h
 | a :: t, hi, j, hj => by
  obtain ⟨h1, h2⟩ := List.pairwise_cons.mp hi
  rw [cntCons]
  by_cases c : a < x
  ·rw [if_pos c]
   cases j with
   | zero => simp; exact c
   | succ j =>
    have := cntLt h2 (x := x) (j := j) (by simpa using hj)
    show t.getD j 0 < x ↔ _
    rw [this]
    (first | lia | omega)
  ·rw [if_neg c]
   have h0 : cntL t x = 0 := by
    unfold cntL
    rw [List.countP_eq_zero]
    intro b hb
    have := h1 b hb
    simp
    (first | lia | omega)
   rw [h0]
   cases j with
   | zero => simp; (first | lia | omega)
   | succ j =>
    have hj' : j < t.length := by simpa using hj
    have := h1 (t.getD j 0) (by rw [List.getD_eq_getElem?_getD, List.getElem?_eq_getElem hj']; exact List.getElem_mem hj')
    show t.getD j 0 < x ↔ _
    (first | lia | omega)
theorem incIff {r : List Int} : Inc r ↔ ∀ i j, i < j -> j < r.length -> r.getD i 0 < r.getD j 0 := by
 unfold Inc
 rw [List.pairwise_iff_getElem]
 constructor
 ·intro h i j hij hj
  have := h i j (by (first | lia | omega)) hj hij
  rw [List.getD_eq_getElem?_getD, List.getD_eq_getElem?_getD, List.getElem?_eq_getElem hj, List.getElem?_eq_getElem (by (first | lia | omega) : i < r.length)]
  exact this
 ·intro h i j hi hj hij
  have := h i j hij hj
  rw [List.getD_eq_getElem?_getD, List.getD_eq_getElem?_getD, List.getElem?_eq_getElem hj, List.getElem?_eq_getElem hi] at this
  exact this
theorem gdSet {r : List Int} {c j : Nat} {x : Int} (hc : c < r.length) : (r.set c x).getD j 0 = if j = c then x else r.getD j 0 := by
 rw [List.getD_eq_getElem?_getD, List.getD_eq_getElem?_getD]
 by_cases e : j = c
 ·rw [if_pos e, e, List.getElem?_set_self hc]
  rfl
 ·rw [if_neg e, List.getElem?_set_ne (Ne.symm e)]
theorem gdApp {r : List Int} {j : Nat} {x : Int} : (r ++ [x]).getD j 0 = if j < r.length then r.getD j 0 else if j = r.length then x else 0 := by
 rw [List.getD_eq_getElem?_getD, List.getD_eq_getElem?_getD]
 split
 ·rw [List.getElem?_append_left (by assumption)]
 ·rw [List.getElem?_append_right (by (first | lia | omega))]
  split
  ·rename_i e
   rw [e, Nat.sub_self]
   rfl
  ·rw [List.getElem?_eq_none (by simp; (first | lia | omega))]
   rfl
theorem memD {r : List Int} {j : Nat} (h : j < r.length) : r.getD j 0 ∈ r := by
 rw [List.getD_eq_getElem?_getD, List.getElem?_eq_getElem h]
 exact List.getElem_mem h
theorem cntGt {r : List Int} {x : Int} (hi : Inc r) (hx : x ∉ r) (hc : cntL r x < r.length) : x < r.getD (cntL r x) 0 := by
 have h1 := cntLt hi (x := x) hc
 have h2 := memD hc
 have h3 : r.getD (cntL r x) 0 ≠ x := fun e => hx (e ▸ h2)
 have h4 : ¬ r.getD (cntL r x) 0 < x := fun z => by have := h1.mp z; (first | lia | omega)
 (first | lia | omega)
theorem incSet {r : List Int} {x : Int} (hi : Inc r) (hx : x ∉ r) (hc : cntL r x < r.length) : Inc (r.set (cntL r x) x) := by
 rw [incIff]
 intro i j hij hj
 rw [List.length_set] at hj
 have h := incIff.mp hi i j hij hj
 rw [gdSet hc, gdSet hc]
 by_cases e1 : i = cntL r x
 ·rw [if_pos e1, if_neg (by (first | lia | omega))]
  have := cntGt hi hx hc
  rw [<- e1] at this
  (first | lia | omega)
 ·rw [if_neg e1]
  by_cases e2 : j = cntL r x
  ·rw [if_pos e2]
   exact (cntLt hi (x := x) (by (first | lia | omega))).mpr (by (first | lia | omega))
  ·rw [if_neg e2]
   exact h
theorem incApp {r : List Int} {x : Int} (hi : Inc r) (hc : cntL r x = r.length) : Inc (r ++ [x]) := by
 refine List.pairwise_append.mpr ⟨hi, List.pairwise_singleton _ _, fun a ha b hb => ?_⟩
 rw [List.mem_singleton.mp hb]
 unfold cntL at hc
 rw [List.countP_eq_length] at hc
 exact of_decide_eq_true (hc a ha)
theorem ab_app {r s : List Int} {x : Int} (h : Ab r s) : Ab (r ++ [x]) s := by
 obtain ⟨h1, h2⟩ := h
 refine ⟨by rw [List.length_append]; (first | lia | omega), fun j hj => ?_⟩
 rw [gdApp, if_pos (by (first | lia | omega))]
 exact h2 j hj
theorem put_ab {r : List Int} {R : List (List Int)} {x : Int} (hi : Inc r) (hx : x ∉ r) (hc : cntL r x < r.length) (hR : hdAb r R) (hT : Tab R) : hdAb (r.set (cntL r x) x) (putR R (r.getD (cntL r x) 0)).1 := by
 have hy := cntGt hi hx hc
 generalize hc' : cntL r x = c at *
 generalize hy' : r.getD c 0 = y at *
 intro s' hs'
 have low : ∀ j, j <= c -> (r.set c x).getD j 0 < y := fun j hj => by
  rw [gdSet hc]
  by_cases e : j = c
  ·rw [if_pos e]; exact hy
  ·rw [if_neg e, <- hy']
   exact incIff.mp hi j c (by (first | lia | omega)) hc
 have leq : ∀ j, (r.set c x).getD j 0 <= r.getD j 0 := fun j => by
  rw [gdSet hc]
  by_cases e : j = c
  ·rw [if_pos e, e, hy']; (first | lia | omega)
  ·rw [if_neg e]; exact Int.le_refl _
 cases R with
 | nil =>
  cases hs'
  refine ⟨by rw [List.length_set]; show 1 <= _; (first | lia | omega), fun j hj => ?_⟩
  have : j = 0 := by simp at hj; exact hj
  subst this
  exact low 0 (Nat.zero_le _)
 | cons s R =>
  obtain ⟨ab1, ab2⟩ := hR s rfl
  have hsI : Inc s := hT.1
  have hle : cntL s y <= c := by
   refine Nat.not_lt.mp fun z => ?_
   have hcs : c < s.length := Nat.lt_of_lt_of_le z (cntLe s y)
   have h1 := (cntLt hsI (x := y) hcs).mpr z
   have h2 := ab2 c hcs
   rw [hy'] at h2
   (first | lia | omega)
  unfold putR at hs'
  by_cases e : cntL s y = s.length
  ·rw [if_pos e] at hs'
   cases hs'
   refine ⟨by rw [List.length_append, List.length_set]; show _ + 1 <= _; (first | lia | omega), fun j hj => ?_⟩
   rw [List.length_append] at hj
   have hj : j < s.length + 1 := hj
   rw [gdApp]
   by_cases e2 : j < s.length
   ·rw [if_pos e2]
    have := leq j
    have := ab2 j e2
    (first | lia | omega)
   ·rw [if_neg e2, if_pos (by (first | lia | omega))]
    exact low j (by (first | lia | omega))
  ·rw [if_neg e] at hs'
   cases hs'
   have hcs : cntL s y < s.length := by have := cntLe s y; (first | lia | omega)
   refine ⟨by rw [List.length_set, List.length_set]; exact ab1, fun j hj => ?_⟩
   rw [List.length_set] at hj
   rw [gdSet (r := s) hcs]
   by_cases e2 : j = cntL s y
   ·rw [if_pos e2]
    exact low j (by (first | lia | omega))
   ·rw [if_neg e2]
    have := leq j
    have := ab2 j hj
    (first | lia | omega)
theorem setPerm {r : List Int} {c : Nat} {x : Int} (hc : c < r.length) : (r.getD c 0 :: r.set c x).Perm (x :: r) := by
 have e : r.getD c 0 = r[c] := by rw [List.getD_eq_getElem?_getD, List.getElem?_eq_getElem hc]; rfl
 rw [e, List.set_eq_take_append_cons_drop, if_pos hc]
 have e2 : r = r.take c ++ r[c] :: r.drop (c + 1) := by
  rw [<- List.drop_eq_getElem_cons hc, List.take_append_drop]
 refine (List.Perm.cons _ List.perm_middle).trans ?_
 refine (List.Perm.swap _ _ _).trans (List.Perm.cons _ ?_)
 conv => rhs; rw [e2]
 exact List.perm_middle.symm
theorem put_tab : ∀ (R : List (List Int)) (x : Int), Tab R -> R.flatten.Nodup -> x ∉ R.flatten -> Tab (putR R x).1 /\ (putR R x).1.flatten.Perm (x :: R.flatten)
 | [], x, _, _, _ => ⟨⟨List.pairwise_singleton _ _, by simp, (fun s h => by cases h), trivial⟩, .refl _⟩
 | r :: R, x, hT, nd, hx => by
  obtain ⟨hi, hne, hA, hTR⟩ := hT
  rw [List.flatten_cons] at nd hx
  have hxr : x ∉ r := fun z => hx (List.mem_append_left _ z)
  have nd' := List.nodup_append.mp nd
  unfold putR
  by_cases e : cntL r x = r.length
  ·rw [if_pos e]
   refine ⟨⟨incApp hi e, by simp, fun s hs => ab_app (hA s hs), hTR⟩, ?_⟩
   rw [List.flatten_cons, List.flatten_cons, List.append_assoc]
   exact List.perm_middle
  ·rw [if_neg e]
   have hc : cntL r x < r.length := by have := cntLe r x; (first | lia | omega)
   have hyr := memD hc
   have hyF : r.getD (cntL r x) 0 ∉ R.flatten := fun z => nd'.2.2 _ hyr _ z rfl
   obtain ⟨i1, i2⟩ := put_tab R (r.getD (cntL r x) 0) hTR nd'.2.1 hyF
   refine ⟨⟨incSet hi hxr hc, ?_, put_ab hi hxr hc hA hTR, i1⟩, ?_⟩
   ·intro z
    have := congrArg List.length z
    rw [List.length_set] at this
    simp at this
    exact hne this
   ·rw [List.flatten_cons, List.flatten_cons]
    refine (List.Perm.append_left _ i2).trans ?_
    refine List.perm_middle.trans ?_
    show ((r.getD (cntL r x) 0 :: r.set (cntL r x) x) ++ R.flatten).Perm ((x :: r) ++ R.flatten)
    exact (setPerm hc).append_right _
theorem put_len : ∀ (R : List (List Int)) (x : Int), (putR R x).1.map List.length = (addAt R (putR R x).2 0).map List.length /\ (putR R x).2 <= R.length
 | [], x => ⟨rfl, Nat.le_refl _⟩
 | r :: R, x => by
  obtain ⟨h1, h2⟩ := put_len R (r.getD (cntL r x) 0)
  unfold putR
  split
  ·exact ⟨by simp [addAt], Nat.zero_le _⟩
  ·refine ⟨?_, by simp only [List.length_cons]; (first | lia | omega)⟩
   show List.map List.length (_ :: _) = List.map List.length (r :: addAt R _ 0)
   rw [List.map_cons, List.map_cons, h1, List.length_set]
theorem add_len : ∀ (Q P : List (List Int)) (k : Nat) (p q : Int), Q.map List.length = P.map List.length -> (addAt Q k p).map List.length = (addAt P k q).map List.length
 | [], [], _, _, _, _ => rfl
 | [], _ :: _, _, _, _, h => by cases h
 | _ :: _, [], _, _, _, h => by cases h
 | s :: Q, r :: P, 0, p, q, h => by
  rw [List.map_cons, List.map_cons] at h
  injection h with h1 h2
  show List.map List.length ((s ++ [p]) :: Q) = List.map List.length ((r ++ [q]) :: P)
  rw [List.map_cons, List.map_cons, h2, List.length_append, List.length_append, h1]
  rfl
 | s :: Q, r :: P, k + 1, p, q, h => by
  rw [List.map_cons, List.map_cons] at h
  injection h with h1 h2
  show List.map List.length (s :: addAt Q k p) = List.map List.length (r :: addAt P k q)
  rw [List.map_cons, List.map_cons, h1, add_len Q P k p q h2]
theorem add_perm : ∀ (Q : List (List Int)) (k : Nat) (p : Int), k <= Q.length -> (addAt Q k p).flatten.Perm (p :: Q.flatten)
 | [], _, p, _ => .refl _
 | s :: Q, 0, p, _ => by
  show ((s ++ [p]) ++ Q.flatten).Perm (p :: (s ++ Q.flatten))
  rw [List.append_assoc]
  exact List.perm_middle
 | s :: Q, k + 1, p, h => by
  show (s ++ (addAt Q k p).flatten).Perm (p :: (s ++ Q.flatten))
  refine (List.Perm.append_left _ (add_perm Q k p (by simpa using h))).trans ?_
  exact List.perm_middle
theorem add_tab : ∀ (Q P : List (List Int)) (k : Nat) (p : Int), Tab Q -> (∀ y ∈ Q.flatten, y < p) -> Tab P -> (addAt Q k p).map List.length = P.map List.length -> Tab (addAt Q k p)
 | [], _, _, p, _, _, _, _ => ⟨List.pairwise_singleton _ _, by simp, (fun s h => by cases h), trivial⟩
 | s :: Q, P, 0, p, hT, hp, _, _ => by
  obtain ⟨hi, hne, hA, hTQ⟩ := hT
  refine ⟨List.pairwise_append.mpr ⟨hi, List.pairwise_singleton _ _, fun a ha b hb => ?_⟩, by simp, fun s hs => ab_app (hA s hs), hTQ⟩
  rw [List.mem_singleton.mp hb]
  exact hp a (by rw [List.flatten_cons]; exact List.mem_append_left _ ha)
 | s :: Q, P, k + 1, p, hT, hp, hP, hl => by
  obtain ⟨hi, hne, hA, hTQ⟩ := hT
  have hpQ : ∀ y ∈ Q.flatten, y < p := fun y hy => hp y (by rw [List.flatten_cons]; exact List.mem_append_right _ hy)
  have hps : ∀ y ∈ s, y < p := fun y hy => hp y (by rw [List.flatten_cons]; exact List.mem_append_left _ hy)
  have hl' : List.map List.length (s :: addAt Q k p) = P.map List.length := hl
  cases P with
  | nil => cases hl'
  | cons r P =>
   rw [List.map_cons, List.map_cons] at hl'
   injection hl' with l1 l2
   obtain ⟨_, _, pA, pT⟩ := hP
   have ih := add_tab Q P k p hTQ hpQ pT l2
   refine ⟨hi, hne, fun s' hs' => ?_, ih⟩
   have hlen : s'.length <= s.length := by
    cases P with
    | nil =>
     rw [List.map_nil] at l2
     have := List.map_eq_nil_iff.mp l2
     rw [this] at hs'
     cases hs'
    | cons r2 P =>
     have h1 := (pA r2 rfl).1
     cases hq : addAt Q k p with
     | nil => rw [hq] at hs'; cases hs'
     | cons a b =>
      rw [hq] at hs' l2
      cases hs'
      rw [List.map_cons, List.map_cons] at l2
      injection l2 with l3 l4
      (first | lia | omega)
   refine ⟨hlen, fun j hj => ?_⟩
   cases Q with
   | nil =>
    cases hs'
    have hj0 : j = 0 := by simp at hj; exact hj
    subst hj0
    exact hps _ (memD (by simp at hlen; (first | lia | omega)))
   | cons s2 Q =>
    cases k with
    | zero =>
     cases hs'
     rw [gdApp]
     by_cases e : j < s2.length
     ·rw [if_pos e]
      exact (hA s2 rfl).2 j e
     ·rw [List.length_append] at hj
      have hj : j < s2.length + 1 := hj
      rw [if_neg e, if_pos (by (first | lia | omega))]
      exact hps _ (memD (by rw [List.length_append] at hlen; have hlen : s2.length + 1 <= s.length := hlen; (first | lia | omega)))
    | succ k =>
     have e : s' = s2 := (Option.some.inj hs').symm
     subst e
     exact (hA _ rfl).2 j hj
end L2
namespace L2
open PySem PySem.Spec PyProof.Rows
noncomputable def Dc (l : List Int) (k : Nat) : Prop := ∃ s : List Int, s.Sublist l /\ s.Pairwise (fun a b => b < a) /\ s.length = k
noncomputable def KE (l l' : List Int) : Prop := ∀ a b k, Dc (a ++ l ++ b) k ↔ Dc (a ++ l' ++ b) k
theorem KE.refl (l : List Int) : KE l l := fun _ _ _ => Iff.rfl
theorem KE.symm {l l' : List Int} (h : KE l l') : KE l' l := fun a b k => (h a b k).symm
theorem KE.trans {l l' l'' : List Int} (h : KE l l') (h' : KE l' l'') : KE l l'' := fun a b k => (h a b k).trans (h' a b k)
theorem KE.ctx {l l' : List Int} (u v : List Int) (h : KE l l') : KE (u ++ l ++ v) (u ++ l' ++ v) := fun a b k => by
 have := h (a ++ u) (v ++ b) k
 simpa [List.append_assoc] using this
theorem KE.cons {l l' : List Int} (x : Int) (h : KE l l') : KE (x :: l) (x :: l') := by
 have := KE.ctx [x] [] h
 simpa using this
theorem KE.app {l l' : List Int} (v : List Int) (h : KE l l') : KE (l ++ v) (l' ++ v) := by
 have := KE.ctx [] v h
 simpa using this
theorem KE.pre {l l' : List Int} (u : List Int) (h : KE l l') : KE (u ++ l) (u ++ l') := by
 have := KE.ctx u [] h
 simpa using this
theorem dc_of {a b l' s1 s2 s3 t2 : List Int} (h1 : s1.Sublist a) (h3 : s3.Sublist b) (hp : (s1 ++ s2 ++ s3).Pairwise fun a b => b < a) (ht : t2.Sublist l') (hpt : t2.Pairwise fun a b => b < a) (hlen : t2.length = s2.length) (hle : ∀ v ∈ t2, (∃ u ∈ s2, v <= u) /\ ∃ u ∈ s2, u <= v) : Dc (a ++ l' ++ b) (s1 ++ s2 ++ s3).length := by
 refine ⟨s1 ++ t2 ++ s3, (h1.append ht).append h3, ?_, by simp [hlen]⟩
 rw [List.append_assoc] at hp ⊢
 obtain ⟨p1, p2, p3⟩ := List.pairwise_append.mp hp
 obtain ⟨q1, q2, q3⟩ := List.pairwise_append.mp p2
 refine List.pairwise_append.mpr ⟨p1, List.pairwise_append.mpr ⟨hpt, q2, fun x hx y hy => ?_⟩, fun x hx y hy => ?_⟩
 ·obtain ⟨_, u, hu, huv⟩ := hle x hx
  have := q3 u hu y hy
  (first | lia | omega)
 ·rcases List.mem_append.mp hy with hy | hy
  ·obtain ⟨⟨u, hu, huv⟩, _⟩ := hle y hy
   have := p3 x hx u (List.mem_append_left _ hu)
   (first | lia | omega)
  ·exact p3 x hx y (List.mem_append_right _ hy)
theorem dc_mid {l l' : List Int} (h : ∀ s2 : List Int, s2.Sublist l -> s2.Pairwise (fun a b => b < a) -> ∃ t2 : List Int, t2.Sublist l' /\ t2.Pairwise (fun a b => b < a) /\ t2.length = s2.length /\ ∀ v ∈ t2, (∃ u ∈ s2, v <= u) /\ ∃ u ∈ s2, u <= v) {a b : List Int} {k : Nat} (hd : Dc (a ++ l ++ b) k) : Dc (a ++ l' ++ b) k := by
 obtain ⟨s, hs, hp, rfl⟩ := hd
 obtain ⟨s12, s3, rfl, h12, h3⟩ := List.sublist_append_iff.mp hs
 obtain ⟨s1, s2, rfl, h1, h2⟩ := List.sublist_append_iff.mp h12
 have hp2 : s2.Pairwise fun a b => b < a := (List.pairwise_append.mp (List.pairwise_append.mp hp).1).2.1
 obtain ⟨t2, ht, hpt, hl, hle⟩ := h s2 h2 hp2
 exact dc_of h1 h3 hp ht hpt hl hle
theorem selfLe (s : List Int) : ∀ v ∈ s, (∃ u ∈ s, v <= u) /\ ∃ u ∈ s, u <= v := fun v hv => ⟨⟨v, hv, Int.le_refl _⟩, ⟨v, hv, Int.le_refl _⟩⟩
theorem subl3 {p q r : Int} {s : List Int} (h : s.Sublist [p, q, r]) : s = [] ∨ s = [p] ∨ s = [q] ∨ s = [r] ∨ s = [p, q] ∨ s = [p, r] ∨ s = [q, r] ∨ s = [p, q, r] := by
 cases h with
 | cons _ h =>
  cases h with
  | cons _ h =>
   cases h with
   | cons _ h => cases h; simp
   | cons_cons _ h => cases h; simp
  | cons_cons _ h =>
   cases h with
   | cons _ h => cases h; simp
   | cons_cons _ h => cases h; simp
 | cons_cons _ h =>
  cases h with
  | cons _ h =>
   cases h with
   | cons _ h => cases h; simp
   | cons_cons _ h => cases h; simp
  | cons_cons _ h =>
   cases h with
   | cons _ h => cases h; simp
   | cons_cons _ h => cases h; simp
theorem knuth1 {x y z : Int} (h1 : x < y) (h2 : y < z) : KE [y, x, z] [y, z, x] := fun a b k => by
 constructor
 ·refine dc_mid fun s hs hp => ?_
  rcases subl3 hs with rfl | rfl | rfl | rfl | rfl | rfl | rfl | rfl
  ·exact ⟨[], by simp, hp, rfl, selfLe _⟩
  ·exact ⟨[y], by simp, hp, rfl, selfLe _⟩
  ·exact ⟨[x], by simp, hp, rfl, selfLe _⟩
  ·exact ⟨[z], by simp, hp, rfl, selfLe _⟩
  ·exact ⟨[y, x], by simp, hp, rfl, selfLe _⟩
  ·simp at hp; (first | lia | omega)
  ·simp at hp; (first | lia | omega)
  ·simp at hp; (first | lia | omega)
 ·refine dc_mid fun s hs hp => ?_
  rcases subl3 hs with rfl | rfl | rfl | rfl | rfl | rfl | rfl | rfl
  ·exact ⟨[], by simp, hp, rfl, selfLe _⟩
  ·exact ⟨[y], by simp, hp, rfl, selfLe _⟩
  ·exact ⟨[z], by simp, hp, rfl, selfLe _⟩
  ·exact ⟨[x], by simp, hp, rfl, selfLe _⟩
  ·simp at hp; (first | lia | omega)
  ·exact ⟨[y, x], by simp, hp, rfl, selfLe _⟩
  ·refine ⟨[y, x], by simp, by simp; (first | lia | omega), rfl, fun v hv => ?_⟩
   rcases List.mem_cons.mp hv with rfl | hv
   ·exact ⟨⟨z, by simp, by (first | lia | omega)⟩, ⟨x, by simp, by (first | lia | omega)⟩⟩
   ·rw [List.mem_singleton.mp hv]
    exact ⟨⟨z, by simp, by (first | lia | omega)⟩, ⟨x, by simp, Int.le_refl _⟩⟩
  ·simp at hp; (first | lia | omega)
theorem knuth2 {x y z : Int} (h1 : x < y) (h2 : y < z) : KE [x, z, y] [z, x, y] := fun a b k => by
 constructor
 ·refine dc_mid fun s hs hp => ?_
  rcases subl3 hs with rfl | rfl | rfl | rfl | rfl | rfl | rfl | rfl
  ·exact ⟨[], by simp, hp, rfl, selfLe _⟩
  ·exact ⟨[x], by simp, hp, rfl, selfLe _⟩
  ·exact ⟨[z], by simp, hp, rfl, selfLe _⟩
  ·exact ⟨[y], by simp, hp, rfl, selfLe _⟩
  ·simp at hp; (first | lia | omega)
  ·simp at hp; (first | lia | omega)
  ·exact ⟨[z, y], by simp, hp, rfl, selfLe _⟩
  ·simp at hp; (first | lia | omega)
 ·refine dc_mid fun s hs hp => ?_
  rcases subl3 hs with rfl | rfl | rfl | rfl | rfl | rfl | rfl | rfl
  ·exact ⟨[], by simp, hp, rfl, selfLe _⟩
  ·exact ⟨[z], by simp, hp, rfl, selfLe _⟩
  ·exact ⟨[x], by simp, hp, rfl, selfLe _⟩
  ·exact ⟨[y], by simp, hp, rfl, selfLe _⟩
  ·refine ⟨[z, y], by simp, by simp; (first | lia | omega), rfl, fun v hv => ?_⟩
   rcases List.mem_cons.mp hv with rfl | hv
   ·exact ⟨⟨v, by simp, Int.le_refl _⟩, ⟨x, by simp, by (first | lia | omega)⟩⟩
   ·rw [List.mem_singleton.mp hv]
    exact ⟨⟨z, by simp, by (first | lia | omega)⟩, ⟨x, by simp, by (first | lia | omega)⟩⟩
  ·exact ⟨[z, y], by simp, hp, rfl, selfLe _⟩
  ·simp at hp; (first | lia | omega)
  ·simp at hp; (first | lia | omega)
theorem ke_right {x : Int} : ∀ (y : Int) (v : List Int), Inc (y :: v) -> x < y -> KE (y :: v ++ [x]) (y :: x :: v)
 | _, [], _, _ => KE.refl _
 | y, z :: v, hi, hx => by
  obtain ⟨h1, h2⟩ := List.pairwise_cons.mp hi
  have hyz := h1 z List.mem_cons_self
  have ih := ke_right (x := x) z v h2 (by (first | lia | omega))
  refine (KE.cons y ih).trans ?_
  have := KE.app v (knuth1 hx hyz)
  exact this.symm
theorem ke_left {x y : Int} : ∀ (u : List Int), Inc (u ++ [x]) -> x < y -> KE (u ++ [y, x]) (y :: (u ++ [x]))
 | [], _, _ => KE.refl _
 | a :: u, hi, hx => by
  obtain ⟨h1, h2⟩ := List.pairwise_cons.mp hi
  have ih := ke_left u h2 hx
  refine (KE.cons a ih).trans ?_
  cases hb : u ++ [x] with
  | nil => simp at hb
  | cons b w =>
   have hab : a < b := h1 b (by show b ∈ u ++ [x]; rw [hb]; exact List.mem_cons_self)
   have hby : b < y := by
    have hbm : b ∈ u ++ [x] := by rw [hb]; exact List.mem_cons_self
    rcases List.mem_append.mp hbm with z | z
    ·have := (List.pairwise_append.mp h2).2.2 b z x (by simp)
     (first | lia | omega)
    ·rw [List.mem_singleton.mp z]
     exact hx
   have := KE.app w (knuth2 hab hby)
   show KE (a :: y :: b :: w) (y :: (a :: u ++ [x]))
   rw [List.cons_append, hb]
   exact this
theorem ke_row {r : List Int} {x : Int} (hi : Inc r) (hx : x ∉ r) (hc : cntL r x < r.length) : KE (r ++ [x]) (r.getD (cntL r x) 0 :: r.set (cntL r x) x) := by
 have hi' := incSet hi hx hc
 have hy := cntGt hi hx hc
 have e : r.getD (cntL r x) 0 = r[cntL r x] := by rw [List.getD_eq_getElem?_getD, List.getElem?_eq_getElem hc]; rfl
 rw [e] at hy ⊢
 rw [List.set_eq_take_append_cons_drop, if_pos hc] at hi' ⊢
 have e2 : r = r.take (cntL r x) ++ r[cntL r x] :: r.drop (cntL r x + 1) := by
  rw [<- List.drop_eq_getElem_cons hc, List.take_append_drop]
 generalize r.take (cntL r x) = u at *
 generalize r.drop (cntL r x + 1) = v at *
 generalize r[cntL r x] = y at *
 rw [e2]
 rw [e2] at hi
 have h1 := ke_right (x := x) y v ((List.pairwise_append.mp hi).2.1) hy
 have h2 : KE (u ++ (y :: v ++ [x])) (u ++ (y :: x :: v)) := KE.pre u h1
 have hux : Inc (u ++ [x]) := hi'.sublist (by
  have : u ++ x :: v = (u ++ [x]) ++ v := by simp
  rw [this]
  exact List.sublist_append_left _ _)
 have h3 := KE.app v (ke_left u hux hy)
 have h2' : KE (u ++ y :: v ++ [x]) (u ++ [y, x] ++ v) := by simpa using h2
 refine h2'.trans ?_
 simpa using h3
noncomputable def rdW : List (List Int) -> List Int
 | [] => []
 | r :: R => rdW R ++ r
theorem ke_put : ∀ (R : List (List Int)) (x : Int), Tab R -> R.flatten.Nodup -> x ∉ R.flatten -> KE (rdW R ++ [x]) (rdW (putR R x).1)
 | [], x, _, _, _ => KE.refl _
 | r :: R, x, hT, nd, hx => by
  obtain ⟨hi, hne, hA, hTR⟩ := hT
  rw [List.flatten_cons] at nd hx
  have hxr : x ∉ r := fun z => hx (List.mem_append_left _ z)
  have nd' := List.nodup_append.mp nd
  unfold putR
  by_cases e : cntL r x = r.length
  ·rw [if_pos e]
   show KE (rdW R ++ r ++ [x]) (rdW R ++ (r ++ [x]))
   rw [List.append_assoc]
   exact KE.refl _
  ·rw [if_neg e]
   have hc : cntL r x < r.length := by have := cntLe r x; (first | lia | omega)
   have hyr := memD hc
   have hyF : r.getD (cntL r x) 0 ∉ R.flatten := fun z => nd'.2.2 _ hyr _ z rfl
   have ih := ke_put R (r.getD (cntL r x) 0) hTR nd'.2.1 hyF
   show KE (rdW R ++ r ++ [x]) (rdW (putR R (r.getD (cntL r x) 0)).1 ++ r.set (cntL r x) x)
   rw [List.append_assoc]
   refine (KE.pre _ (ke_row hi hxr hc)).trans ?_
   have := KE.app (r.set (cntL r x) x) ih
   simpa using this
theorem rd_most : ∀ {R : List (List Int)} {k : Nat}, Tab R -> Dc (rdW R) k -> k <= R.length
 | [], k, _, h => by
  obtain ⟨s, hs, _, rfl⟩ := h
  have : s = [] := List.sublist_nil.mp hs
  rw [this]
  exact Nat.le_refl _
 | r :: R, k, hT, h => by
  obtain ⟨s, hs, hp, rfl⟩ := h
  obtain ⟨s1, s2, rfl, h1, h2⟩ := List.sublist_append_iff.mp (show s.Sublist (rdW R ++ r) from hs)
  obtain ⟨p1, p2, _⟩ := List.pairwise_append.mp hp
  have i1 := rd_most hT.2.2.2 ⟨s1, h1, p1, rfl⟩
  have i2 : s2.length <= 1 := by
   have hi2 : Inc s2 := hT.1.sublist h2
   match s2, hi2, p2 with
   | [], _, _ => exact Nat.zero_le _
   | [_], _, _ => exact Nat.le_refl _
   | a :: b :: t, hi2, p2 =>
    have g1 := (List.pairwise_cons.mp hi2).1 b List.mem_cons_self
    have g2 := (List.pairwise_cons.mp p2).1 b List.mem_cons_self
    (first | lia | omega)
  rw [List.length_append, List.length_cons]
  (first | lia | omega)
theorem rd_col : ∀ {R : List (List Int)}, Tab R -> ∃ s : List Int, s.Sublist (rdW R) /\ s.Pairwise (fun a b => b < a) /\ s.length = R.length /\ ∀ r, R.head? = some r -> ∀ y ∈ s, r.getD 0 0 <= y
 | [], _ => ⟨[], List.Sublist.refl _, .nil, rfl, (fun r h => by cases h)⟩
 | r :: R, hT => by
  obtain ⟨hi, hne, hA, hTR⟩ := hT
  obtain ⟨s, hs, hp, hl, hh⟩ := rd_col hTR
  have hr0 : 0 < r.length := List.length_pos_iff.mpr hne
  have low : ∀ y ∈ s, r.getD 0 0 < y := fun y hy => by
   cases R with
   | nil =>
    have : s = [] := List.eq_nil_of_length_eq_zero hl
    rw [this] at hy
    cases hy
   | cons r2 R =>
    have h1 := hh r2 rfl y hy
    have h2 := (hA r2 rfl).2 0 (List.length_pos_iff.mpr hTR.2.1)
    (first | lia | omega)
  refine ⟨s ++ [r.getD 0 0], hs.append (List.singleton_sublist.mpr (memD hr0)), List.pairwise_append.mpr ⟨hp, List.pairwise_singleton _ _, fun a ha b hb => ?_⟩, by rw [List.length_append, hl]; rfl, fun r' h' y hy => ?_⟩
  ·rw [List.mem_singleton.mp hb]
   exact low a ha
  ·cases h'
   rcases List.mem_append.mp hy with z | z
   ·exact Int.le_of_lt (low y z)
   ·rw [List.mem_singleton.mp z]
    exact Int.le_refl _
theorem ic_chn {l s : List Int} (hs : s.Sublist l) (hp : s.Pairwise (· < ·)) : (s.length : Int) <= longestO l := by
 obtain ⟨is, e, hi⟩ := List.sublist_eq_map_getElem hs
 have hc : Chn l ((is.map fun i : Fin l.length => ((i.val : Nat) : Int)).reverse) := by
  refine ⟨?_, fun k hk => ?_⟩
  ·rw [List.pairwise_reverse, List.pairwise_map]
   rw [e, List.pairwise_map] at hp
   refine (List.Pairwise.and hi hp).imp fun {a b} h => ?_
   obtain ⟨h1, h2⟩ := h
   refine ⟨by have : a.val < b.val := h1; (first | lia | omega), ?_⟩
   rw [atO_get a.isLt, atO_get b.isLt]
   exact h2
  ·obtain ⟨i, _, rfl⟩ := List.mem_map.mp (List.mem_reverse.mp hk)
   have := i.isLt
   (first | lia | omega)
 have := chn_le hc
 rw [List.length_reverse, List.length_map] at this
 rw [e, List.length_map]
 exact this
theorem ic_ex (l : List Int) : ∃ s : List Int, s.Sublist l /\ s.Pairwise (· < ·) /\ (s.length : Int) = longestO l := by
 obtain ⟨ks, ⟨h1, h2⟩, h3⟩ := chn_ex l
 have : ∃ is : List (Fin l.length), is.map (fun i : Fin l.length => ((i.val : Nat) : Int)) = ks.reverse := by
  have : ∀ q : List Int, (∀ k ∈ q, 0 <= k /\ k < l.length) -> ∃ is : List (Fin l.length), is.map (fun i : Fin l.length => ((i.val : Nat) : Int)) = q := by
   intro q
   induction q with
   | nil => exact fun _ => ⟨[], rfl⟩
   | cons k q ih =>
    intro h
    obtain ⟨is, e⟩ := ih fun k hk => h k (List.mem_cons_of_mem _ hk)
    have hk := h k List.mem_cons_self
    refine ⟨⟨k.toNat, by (first | lia | omega)⟩ :: is, ?_⟩
    rw [List.map_cons, e]
    congr 1
    show ((k.toNat : Nat) : Int) = k
    (first | lia | omega)
  exact this _ fun k hk => h2 k (List.mem_reverse.mp hk)
 obtain ⟨is, e⟩ := this
 have h1' := List.pairwise_reverse.mpr h1
 have hp : is.Pairwise fun a b => a.val < b.val /\ l[a.val] < l[b.val] := by
  have : (is.map (fun i : Fin l.length => ((i.val : Nat) : Int))).Pairwise (fun a b => a < b /\ atO l a < atO l b) := by
   rw [e]
   exact List.pairwise_reverse.mpr h1
  rw [List.pairwise_map] at this
  refine this.imp fun {a b} h => ?_
  obtain ⟨g1, g2⟩ := h
  rw [atO_get a.isLt, atO_get b.isLt] at g2
  exact ⟨by (first | lia | omega), g2⟩
 refine ⟨is.map fun i => l[i.val], List.map_getElem_sublist (hp.imp fun h => h.1), ?_, ?_⟩
 ·rw [List.pairwise_map]
  exact hp.imp fun h => h.2
 ·have := congrArg List.length e
  rw [List.length_map, List.length_reverse] at this
  rw [List.length_map, this]
  exact h3
theorem long_rev {l : List Int} {R : List (List Int)} (hT : Tab R) (hK : ∀ k, Dc l k ↔ Dc (rdW R) k) : longestO l.reverse = (R.length : Int) := by
 have h1 : (R.length : Int) <= longestO l.reverse := by
  obtain ⟨s, hs, hp, hl, _⟩ := rd_col hT
  obtain ⟨s', hs', hp', hl'⟩ := (hK R.length).mpr ⟨s, hs, hp, hl⟩
  have := ic_chn (List.Sublist.reverse hs') (by rw [List.pairwise_reverse]; exact hp')
  rw [List.length_reverse, hl'] at this
  exact this
 obtain ⟨s, hs, hp, hl⟩ := ic_ex l.reverse
 have hs' : s.reverse.Sublist l := by
  have := List.Sublist.reverse hs
  rwa [List.reverse_reverse] at this
 have h2 := rd_most hT ((hK _).mp ⟨s.reverse, hs', List.pairwise_reverse.mpr hp, rfl⟩)
 rw [List.length_reverse] at h2
 (first | lia | omega)
end L2
namespace L2
open PySem PySem.Spec PyProof.Rows
noncomputable def tabI (ns : List Int) : Nat -> List (List Int) × List (List Int)
 | 0 => ([], [])
 | i + 1 => ((putR (tabI ns i).1 (atO ns i)).1, addAt (tabI ns i).2 (putR (tabI ns i).1 (atO ns i)).2 i)
structure TabsI (ns : List Int) (i : Nat) : Prop where
 tp : Tab (tabI ns i).1
 pp : (tabI ns i).1.flatten.Perm (ns.take i)
 ke : KE (ns.take i) (rdW (tabI ns i).1)
 hd : (tabI ns i).1.headD [] = patsO (ns.take i)
 tq : Tab (tabI ns i).2
 qp : (tabI ns i).2.flatten.Perm (num0 i)
 ln : (tabI ns i).2.map List.length = (tabI ns i).1.map List.length
theorem put_hd (R : List (List Int)) (x : Int) : (putR R x).1.headD [] = patO (R.headD []) x := by
 cases R with
 | nil => rfl
 | cons r R =>
  unfold putR patO
  show (if cntL r x = r.length then _ else _ : List (List Int) × Nat).1.headD [] = if cntL r x = r.length then _ else _
  split <;> rfl
theorem tabs_all {m : Nat} {ns : List Int} (ho : Ord m ns) : ∀ i, i <= m -> TabsI ns i
 | 0, _ => ⟨trivial, .refl _, KE.refl _, rfl, trivial, .refl _, rfl⟩
 | i + 1, hi => by
  have T := tabs_all ho i (by (first | lia | omega))
  have ln := ho.len
  have hil : i < ns.length := by (first | lia | omega)
  have nd := ho.nodup
  have hx : ns[i]? = some (atO ns i) := by rw [List.getElem?_eq_getElem hil, atO_get hil]
  have htk : ns.take (i + 1) = ns.take i ++ [atO ns i] := by rw [List.take_succ, hx]; rfl
  have ndt : (ns.take (i + 1)).Nodup := nd.sublist (List.take_sublist _ _)
  rw [htk, List.nodup_append] at ndt
  have ndF : (tabI ns i).1.flatten.Nodup := T.pp.nodup_iff.mpr ndt.1
  have hxF : atO ns i ∉ (tabI ns i).1.flatten := fun z => ndt.2.2 _ (T.pp.mem_iff.mp z) _ (by simp) rfl
  obtain ⟨t1, t2⟩ := put_tab _ _ T.tp ndF hxF
  obtain ⟨l1, l2⟩ := put_len (tabI ns i).1 (atO ns i)
  have hlen : (tabI ns i).2.length = (tabI ns i).1.length := by
   have := congrArg List.length T.ln
   simpa using this
  have al : (addAt (tabI ns i).2 (putR (tabI ns i).1 (atO ns i)).2 i).map List.length = (putR (tabI ns i).1 (atO ns i)).1.map List.length := by
   rw [l1]
   exact add_len _ _ _ _ _ T.ln
  have hbelow : ∀ y ∈ (tabI ns i).2.flatten, y < (i : Int) := fun y hy => (num0_mem (T.qp.mem_iff.mp hy)).2
  refine ⟨t1, ?_, ?_, ?_, add_tab _ _ _ _ T.tq hbelow t1 al, ?_, al⟩
  ·rw [htk]
   refine t2.trans ?_
   refine (List.Perm.cons _ T.pp).trans ?_
   exact (List.perm_append_comm (l₁ := [atO ns i]) (l₂ := ns.take i))
  ·rw [htk]
   exact (KE.app _ T.ke).trans (ke_put _ _ T.tp ndF hxF)
  ·rw [htk, pats_snoc, <- T.hd]
   exact put_hd _ _
  ·refine (add_perm _ _ _ (by (first | lia | omega))).trans ?_
   refine (List.Perm.cons _ T.qp).trans ?_
   have e : num0 (i + 1) = num0 i ++ [(i : Int)] := by
    unfold num0
    rw [List.range_succ, List.map_append]
    rfl
   rw [e]
   exact (List.perm_append_comm (l₁ := [(i : Int)]) (l₂ := num0 i))
theorem tabs_long {m : Nat} {ns : List Int} (ho : Ord m ns) : longestO ns.reverse = ((tabI ns m).1.length : Int) /\ longestO ns = (((tabI ns m).1.headD []).length : Int) := by
 have T := tabs_all ho m (Nat.le_refl _)
 have e : ns.take m = ns := List.take_of_length_le (by rw [ho.len]; exact Nat.le_refl _)
 have hk := T.ke
 have hh := T.hd
 rw [e] at hk hh
 refine ⟨long_rev T.tp fun k => ?_, by rw [hh]; rfl⟩
 have := hk [] [] k
 simpa using this
noncomputable def tupI (l : List Int) : PyData := .tuple (l.map PyData.int)
theorem nums_tup (l : List Int) : numsD (tupI l) = l := by
 show (l.map PyData.int).map asI = l
 rw [List.map_map]
 exact List.map_id l
theorem inc_risL : ∀ {r : List Int}, Inc r -> risL r = true
 | [], _ => rfl
 | [_], _ => rfl
 | a :: b :: t, h => by
  obtain ⟨h1, h2⟩ := List.pairwise_cons.mp h
  show (decide (a < b) && risL (b :: t)) = true
  rw [decide_eq_true (h1 b List.mem_cons_self), inc_risL h2]
  rfl
theorem ltL_ab : ∀ {a b : List Int}, (∀ j, j < b.length -> a.getD j 0 < b.getD j 0) -> b.length <= a.length -> ltL a b = true
 | [], _, _, _ => by unfold ltL; rfl
 | _ :: _, [], _, _ => rfl
 | x :: a, y :: b, h, hl => by
  show (decide (x < y) && ltL a b) = true
  have h0 := h 0 (by simp)
  rw [decide_eq_true (show x < y from h0), ltL_ab (fun j hj => h (j + 1) (by simpa using hj)) (by simpa using hl)]
  rfl
theorem tab_prs : ∀ {R : List (List Int)}, Tab R -> prsL R = true
 | [], _ => rfl
 | [_], _ => rfl
 | a :: b :: R, h => by
  obtain ⟨_, _, hA, hT⟩ := h
  obtain ⟨h1, h2⟩ := hA b rfl
  show (aboveL a b && prsL (b :: R)) = true
  rw [tab_prs hT]
  unfold aboveL
  rw [decide_eq_true h1, ltL_ab h2 h1]
  rfl
theorem tabRowsI : ∀ {R : List (List Int)}, Tab R -> ∀ r ∈ R, Inc r /\ r ≠ []
 | [], _, _, h => by cases h
 | a :: R, hT, r, hr => by
  obtain ⟨h1, h2, _, h4⟩ := hT
  rcases List.mem_cons.mp hr with rfl | hr
  ·exact ⟨h1, h2⟩
  ·exact tabRowsI h4 r hr
theorem tab_tabD {R : List (List Int)} {m : Nat} (hT : Tab R) (hp : R.flatten.Perm (num0 m)) : tabD (.tuple (R.map tupI)) = true := by
 have e : (R.map tupI).map numsD = R := by
  rw [List.map_map]
  have : (numsD ∘ tupI) = id := funext nums_tup
  rw [this, List.map_id]
 show ((R.map tupI).all rowT && (prsL ((R.map tupI).map numsD) && permL ((R.map tupI).map numsD).flatten)) = true
 rw [e, tab_prs hT]
 have h1 : (R.map tupI).all rowT = true := by
  rw [List.all_eq_true]
  intro d hd
  obtain ⟨r, hr, rfl⟩ := List.mem_map.mp hd
  obtain ⟨g1, g2⟩ := tabRowsI hT r hr
  show ((r.map PyData.int).all whD && (decide (0 < (r.map PyData.int).length) && risL ((r.map PyData.int).map asI))) = true
  have e2 : (r.map PyData.int).map asI = r := nums_tup r
  rw [e2, inc_risL g1, List.length_map, decide_eq_true (List.length_pos_iff.mpr g2)]
  have : (r.map PyData.int).all whD = true := by
   rw [List.all_eq_true]
   intro d hd
   obtain ⟨n, _, rfl⟩ := List.mem_map.mp hd
   rfl
  rw [this]
  rfl
 have h2 : permL R.flatten = true := by
  unfold permL
  have : R.flatten.length = m := by rw [hp.length_eq, num0_len']
  rw [this]
  exact decide_eq_true hp
 rw [h1, h2]
 rfl
end L2
namespace L2
open PySem PySem.Spec PyProof.Rows
theorem flat_ge : ∀ {R : List (List Int)}, (∀ r ∈ R, r ≠ []) -> R.length <= R.flatten.length
 | [], _ => Nat.le_refl _
 | r :: R, h => by
  have h1 := List.length_pos_iff.mpr (h r List.mem_cons_self)
  have h2 := flat_ge fun r hr => h r (List.mem_cons_of_mem _ hr)
  rw [List.flatten_cons, List.length_append, List.length_cons]
  (first | lia | omega)
theorem tabs_bnd {ns : List Int} {i : Nat} (T : TabsI ns i) (hi : i <= 60) : (tabI ns i).1.length <= 60 /\ (tabI ns i).2.length <= 60 /\ (∀ r ∈ (tabI ns i).1, r.length <= 60) /\ (∀ r ∈ (tabI ns i).2, r.length <= 60) := by
 have f1 : (tabI ns i).1.flatten.length <= 60 := by
  rw [T.pp.length_eq, List.length_take]
  (first | lia | omega)
 have f2 : (tabI ns i).2.flatten.length <= 60 := by
  rw [T.qp.length_eq, num0_len']
  exact hi
 have g1 := flat_ge fun r hr => (tabRowsI T.tp r hr).2
 have g2 := flat_ge fun r hr => (tabRowsI T.tq r hr).2
 exact ⟨by (first | lia | omega), by (first | lia | omega), fun r hr => Nat.le_trans (List.sublist_flatten_of_mem hr).length_le f1, fun r hr => Nat.le_trans (List.sublist_flatten_of_mem hr).length_le f2⟩
end L2
namespace L2
open PySem PySem.Spec PyProof.Rows
theorem call_tupK {X : Cx} (K : PySem.W.Frag) (hK : X.K = K) : CallR X (.type "tuple") (fun xs H Q => ∃ p ys, xs = [.ref p] /\ ((SqL K H p ys /\ ∀ l, H l = none -> Q (.ref l) (upd H l (.tup ys))) ∨ (SqT K H p ys /\ Q (.ref p) H))) := hK ▸ call_tuple_of
noncomputable abbrev LsAt (H : Hp) (zs : List Addr) (F : List (List Int)) : Prop := Paired (fun z (f : List Int) => H z = some (.lst (f.map V.int))) zs F
theorem prd_get {α β : Type} {R : α -> β -> Prop} : ∀ {l : List α} {m : List β}, Paired R l m -> ∀ {i : Nat} {z : α}, l[i]? = some z -> ∃ r, m[i]? = some r /\ R z r
 | _, _, .nil, i, z, h => by simp at h
 | _, _, .cons r t, i, z, h => by
  cases i with
  | zero =>
   cases h
   exact ⟨_, rfl, r⟩
  | succ i => exact prd_get t h
theorem LsAt.setAt {H : Hp} : ∀ {zs : List Addr} {F : List (List Int)} {c : Nat} {z : Addr} {f : List Int}, LsAt H zs F -> zs.Nodup -> zs[c]? = some z -> LsAt (upd H z (.lst (f.map V.int))) zs (F.set c f)
 | _, _, _, _, _, .nil, _, h => by simp at h
 | _ :: zs, _, c, z, f, .cons (a := y) (b := g) r t, nd, h => by
  obtain ⟨n1, n2⟩ := List.nodup_cons.mp nd
  cases c with
  | zero =>
   have : y = z := by simpa using h
   subst this
   refine .cons upd_same ?_
   have : ∀ {ys : List Addr} {G : List (List Int)}, LsAt H ys G -> y ∉ ys -> LsAt (upd H y (.lst (f.map V.int))) ys G := by
    intro ys G hh
    induction hh with
    | nil => exact fun _ => .nil
    | cons r' _ ih =>
     intro hn
     refine .cons ?_ (ih fun z => hn (List.mem_cons_of_mem _ z))
     rw [upd_ne (fun z => hn (by rw [z]; exact List.mem_cons_self))]
     exact r'
   exact this t n1
  | succ c =>
   have hz : zs[c]? = some z := by simpa using h
   refine .cons ?_ (LsAt.setAt t n2 hz)
   rw [upd_ne (fun e => n1 (by rw [e]; exact List.mem_of_getElem? hz))]
   exact r
theorem LsAt.off {H : Hp} {z : Addr} {o : HO} : ∀ {ys : List Addr} {G : List (List Int)}, LsAt H ys G -> z ∉ ys -> LsAt (upd H z o) ys G
 | _, _, .nil, _ => .nil
 | _, _, .cons r t, hn => by
  refine .cons ?_ (LsAt.off t fun h => hn (List.mem_cons_of_mem _ h))
  rw [upd_ne (fun e => hn (by rw [e]; exact List.mem_cons_self))]
  exact r
theorem LsAt.same {H H' : Hp} {zs : List Addr} {F : List (List Int)} (h : LsAt H zs F) (s : Same H H') : LsAt H' zs F := Paired.mapP h fun _ _ e => s _ _ e
noncomputable def RTup (H0 : Hp) (x v : V) (H : Hp) : Prop := ∃ (z t : Addr) (f : List Int), x = .ref z /\ v = .ref t /\ H0 z = some (.lst (f.map V.int)) /\ H t = some (.tup (f.map V.int))
theorem rtup_rows {H0 H : Hp} : ∀ {zs : List Addr} {F : List (List Int)} {ys : List V}, LsAt H0 zs F -> Paired (fun x v => RTup H0 x v H) (zs.map V.ref) ys -> ∃ ts : List Addr, ys = ts.map V.ref /\ RowsAt H ts F
 | _, _, _, .nil, .nil => ⟨[], rfl, .nil⟩
 | _, _, _, .cons r t, .cons q u => by
  obtain ⟨z, t', f, e1, e2, e3, e4⟩ := q
  obtain ⟨ts, g1, g2⟩ := rtup_rows t u
  cases e1
  rw [r] at e3
  have := ints_inj (HO.lst.inj (Option.some.inj e3))
  subst this
  exact ⟨t' :: ts, by rw [e2, g1]; rfl, .cons e4 g2⟩
noncomputable def Bmp (R : List (List Int)) (x : Int) (i : Nat) (R1 : List (List Int)) (y : Int) : Prop := R1.length = i /\ putR R x = (R1 ++ (putR (R.drop i) y).1, i + (putR (R.drop i) y).2)
theorem bmp_0 (R : List (List Int)) (x : Int) : Bmp R x 0 [] x := ⟨rfl, by simp⟩
theorem drop_at {R : List (List Int)} {i : Nat} {r : List Int} (h : R[i]? = some r) : R.drop i = r :: R.drop (i + 1) := by
 obtain ⟨hl, e⟩ := List.getElem?_eq_some_iff.mp h
 rw [List.drop_eq_getElem_cons hl, e]
theorem Bmp.step {R R1 : List (List Int)} {x y : Int} {i : Nat} {r : List Int} (h : Bmp R x i R1 y) (hr : R[i]? = some r) (hc : ¬ cntL r y = r.length) : Bmp R x (i + 1) (R1 ++ [r.set (cntL r y) y]) (r.getD (cntL r y) 0) := by
 obtain ⟨h1, h2⟩ := h
 refine ⟨by rw [List.length_append, h1]; rfl, ?_⟩
 rw [h2, drop_at hr]
 show (R1 ++ (if cntL r y = r.length then _ else _ : List (List Int) × Nat).1, i + (if cntL r y = r.length then _ else _ : List (List Int) × Nat).2) = _
 rw [if_neg hc]
 refine Prod.ext ?_ ?_
 ·simp
 ·show i + (_ + 1) = i + 1 + _
  (first | lia | omega)
theorem Bmp.fin {R R1 : List (List Int)} {x y : Int} {i : Nat} {r : List Int} (h : Bmp R x i R1 y) (hr : R[i]? = some r) (hc : cntL r y = r.length) : putR R x = (R1 ++ (r ++ [y]) :: R.drop (i + 1), i) := by
 obtain ⟨h1, h2⟩ := h
 rw [h2, drop_at hr]
 show (R1 ++ (if cntL r y = r.length then _ else _ : List (List Int) × Nat).1, i + (if cntL r y = r.length then _ else _ : List (List Int) × Nat).2) = _
 rw [if_pos hc]
 rfl
theorem Bmp.last {R R1 : List (List Int)} {x y : Int} (h : Bmp R x R.length R1 y) : putR R x = (R1 ++ [[y]], R.length) := by
 obtain ⟨h1, h2⟩ := h
 rw [h2, List.drop_length]
 rfl
noncomputable def Frm (H G : Hp) (p : Addr) (zs : List Addr) : Prop := ∀ b o, H b = some o -> b ≠ p -> b ∉ zs -> G b = some o
theorem Frm.same {H G G' : Hp} {p : Addr} {zs : List Addr} (h : Frm H G p zs) (s : Same G G') : Frm H G' p zs := fun b o e h1 h2 => s _ _ (h b o e h1 h2)
theorem Frm.upd {H G : Hp} {p z : Addr} {zs : List Addr} {o : HO} (h : Frm H G p zs) (hz : z ∈ zs) : Frm H (upd G z o) p zs := fun b o' e h1 h2 => by
 rw [upd_ne (fun e' => h2 (by rw [e']; exact hz))]
 exact h b o' e h1 h2
theorem Frm.updP {H G : Hp} {p : Addr} {zs : List Addr} {o : HO} (h : Frm H G p zs) : Frm H (L2.upd G p o) p zs := fun b o' e h1 h2 => by
 rw [upd_ne h1]
 exact h b o' e h1 h2
noncomputable def spPutIn : Sp := fun vs H Q _ => ∃ (p : Addr) (zs : List Addr) (R : List (List Int)) (x : Int), vs = [.ref p, .int x] /\ H p = some (.lst (zs.map V.ref)) /\ LsAt H zs R /\ zs.Nodup /\ p ∉ zs /\ R.length <= 100 /\ (∀ r ∈ R, r.length <= 100) /\
 ∀ zs' H', Frm H H' p zs -> H' p = some (.lst (zs'.map V.ref)) -> LsAt H' zs' (putR R x).1 -> zs'.Nodup -> p ∉ zs' -> (∀ z ∈ zs', z ∈ zs ∨ H z = none) -> Q (.int ((putR R x).2 : Nat)) H'
noncomputable def spAsT : Sp := fun vs H Q _ => ∃ (p : Addr) (zs : List Addr) (R : List (List Int)), vs = [.ref p] /\ H p = some (.lst (zs.map V.ref)) /\ LsAt H zs R /\ R.length <= 100 /\ ∀ q ys H', Same H H' -> H' q = some (.tup (ys.map V.ref)) -> RowsAt H' ys R -> Q (.ref q) H'
noncomputable def spTabs : Sp := fun vs H Q _ => ∃ (a : Addr) (ns : List Int) (m : Nat), vs = [.ref a] /\ H a = some (.tup (ns.map V.int)) /\ Ord m ns /\ m <= 60 /\ ∀ t q1 q2 ys1 ys2 H', Same H H' -> H' t = some (.tup [.ref q1, .ref q2]) -> H' q1 = some (.tup (ys1.map V.ref)) -> RowsAt H' ys1 (tabI ns m).1 -> H' q2 = some (.tup (ys2.map V.ref)) -> RowsAt H' ys2 (tabI ns m).2 -> Q (.ref t) H'
theorem set_mid {R1 R2 : List (List Int)} {r f : List Int} {i : Nat} (h : R1.length = i) : (R1 ++ r :: R2).set i f = R1 ++ f :: R2 := by
 subst h
 simp
theorem LsAt.at {H : Hp} {zs : List Addr} {F : List (List Int)} {i : Nat} {f : List Int} (h : LsAt H zs F) (hf : F[i]? = some f) : ∃ z, zs[i]? = some z /\ H z = some (.lst (f.map V.int)) := by
 have hl := Paired.length h
 have hi : i < zs.length := by
  have := (List.getElem?_eq_some_iff.mp hf).1
  (first | lia | omega)
 obtain ⟨f', e1, e2⟩ := prd_get h (List.getElem?_eq_getElem hi)
 rw [hf] at e1
 cases e1
 exact ⟨_, List.getElem?_eq_getElem hi, e2⟩
end L2
namespace Srt
open PySem PyProof.Rows
noncomputable def tupI (h : Heap) : Value -> List Int
 | .ref a => match h.get? a with
  | some o => match o.data with
   | .seq xs _ => xs.toList.map numOf
   | _ => []
  | none => []
 | _ => []
section
variable {prog : Program} {w : World} {A : Around} {E : Value -> Shared -> Prop} {s : Shared}
end
end Srt
namespace L2
open PySem PySem.Spec PyProof.Rows
section
variable {prog : Program} {w : World} {A : Around} {E : Value -> Shared -> Prop} {s : Shared} {d it v : Addr} {es : Array DictEntry} {ep : Nat}
end
end L2
namespace L2
open PySem PySem.Spec PyProof.Rows
section
variable {X : Cx} {pins : List (Addr × Obj)} {σ : St} {H : Hp} {s : Shared} {a : Addr} {kvs : List (List Key × V)} {ob : Obj}
end
section
variable {X : Cx}
end
end L2
namespace L2
open PySem PySem.Spec PyProof.Rows
section
variable {prog : Program} {w : World} {A : Around} {E : Value -> Shared -> Prop} {s : Shared} {d it v : Addr} {es : Array DictEntry} {ep : Nat}
end
end L2
namespace Srt
open PySem PyProof.Rows
end Srt
namespace L2
open PySem PySem.Spec PyProof.Rows
section
variable {X : Cx}
end
end L2
namespace L2
open PySem PySem.Spec PyProof.Rows
end L2
namespace L2
open PySem PySem.Spec PyProof.Rows
structure TopY (mg : Str -> Option Value) : Prop where
 n_any : mg "any" = none
structure TopYK (K : PySem.W.Frag) : Prop where
 k_any : PySem.W.nsIn K mainGlobals "any" = some none
theorem TopYK.top {K : PySem.W.Frag} {h : Heap} {mg : Str -> Option Value} (T : TopYK K) (X : K.In h) (G : h.Ns mainGlobals mg) : TopY mg := ⟨PySem.W.mg_none_of X G T.k_any⟩
theorem range_any_getD (f : Nat -> Bool) (bs : List Bool) (h : ∀ i, i < bs.length -> f i = bs.getD i false) : (List.range bs.length).any f = bs.any id := by
 rw [Bool.eq_iff_iff, List.any_eq_true, List.any_eq_true]
 constructor
 ·rintro ⟨i, hi, e⟩
  have hi := List.mem_range.mp hi
  rw [h i hi, List.getD_eq_getElem?_getD, List.getElem?_eq_getElem hi] at e
  exact ⟨_, List.getElem_mem hi, e⟩
 ·rintro ⟨b, hb, e⟩
  obtain ⟨i, hi, e'⟩ := List.getElem_of_mem hb
  refine ⟨i, List.mem_range.mpr hi, ?_⟩
  rw [h i hi, List.getD_eq_getElem?_getD, List.getElem?_eq_getElem hi, e']
  exact e
noncomputable def rAny : List V -> Hp -> VK -> Prop := fun xs H Q => ∃ (a : Addr) (bs : List Bool), xs = [.ref a] /\ H a = some (.lst (bs.map V.bl)) /\ Q (.bl (bs.any id)) H
theorem call_any {X : Cx} (hc : X.calm = true) : CallR X (.builtin "any") rAny := by
 intro pins s σ H xs us Q I rs h
 obtain ⟨a, bs, rfl, ha, q⟩ := h
 obtain ⟨u, rfl, ru⟩ := vals1 rs
 cases (show u = Value.ref a from ru)
 obtain ⟨hz, its, n, rv, ho⟩ := (show ObjOk X.prog X.w H s.heap a (.lst (bs.map V.bl)) from I.hok a _ ha)
 have hl : s.heap.IsList a its.toArray := ⟨_, ho, rfl, n, rfl⟩
 have hh : X.A.in1.handled = none := I.ok.hd hc
 have hlen : its.length = bs.length := by rw [<- rv.length, List.length_map]
 have hne : a ≠ s.heap.objs.size := Nat.ne_of_lt (Heap.lt_size ho)
 have hit : ∀ (i : Nat) v, its.toArray[i]? = some v -> v = Value.bool (bs.getD i false) := fun i v e => by
  have e' : its[i]? = some v := by simpa using e
  have hi : i < bs.length := by rw [<- hlen]; exact (List.getElem?_eq_some_iff.mp e').1
  obtain ⟨u, hu, ru⟩ := rv.get (i := i) (x := V.bl bs[i]) (by rw [List.getElem?_map, List.getElem?_eq_getElem hi]; rfl)
  rw [e'] at hu; cases hu
  cases (show v = Value.bool bs[i] from ru)
  rw [List.getD_eq_getElem?_getD, List.getElem?_eq_getElem hi]
  rfl
 refine call_any_walk (wpAny_pyIter_list hl ⟨s.heap.objs.size, _, _, _, _, _, fun i => bs.getD i false, rfl, Walks.list hh _ a hne its.toArray, ⟨⟨_, Heap.get?_push_size _ rfl, rfl, rfl⟩, hl.push _⟩, ?_, fun h' tk hk => ?_⟩)
 ·intro i v s' Q' E' hP hQ
  rw [hit i v hP]
  exact wpAny_truthy_bool hQ
 ·refine ⟨.bl (bs.any id), H, I.kept (t' := tk) fun b o e => hk b o ?_ (Heap.get?_push_of_some _ e), ?_, q⟩
  ·exact fun hm => absurd (List.mem_singleton.mp hm) (Nat.ne_of_lt (Heap.lt_size e))
  ·show Value.bool _ = Value.bool _
   have hs : its.toArray.size = bs.length := by simpa using hlen
   rw [hs, range_any_getD _ bs fun i _ => rfl]
end L2
namespace L2
open PySem PySem.Spec PyProof.Rows
end L2
namespace L2
open PySem PySem.Spec PyProof.Rows
section
variable {X : Cx} {tg : Expr}
end
section
variable {X : Cx}
noncomputable def rLIndex : V -> List V -> Hp -> VK -> Prop := fun x vs H Q => ∃ (a : Addr) (ns : List Int) (n : Int), x = .ref a /\ vs = [.int n] /\ H a = some (.lst (ns.map V.int)) /\ n ∈ ns /\ ns.length <= 100000 /\ Q (.int (ns.idxOf n)) H
theorem mt_lindex : MtM X "list.index" rLIndex := by
 intro pins s σ H x vs v us Q I rx rv h
 obtain ⟨a, ns, n, rfl, rfl, hH, hn, hlen, q⟩ := h
 cases rx
 obtain ⟨u, rfl, t, rfl⟩ := vals1 rv
 obtain ⟨z, its, c, r, hl, e⟩ := I.lstM hH
 have hlr := r.length
 rw [mapI_len] at hlr
 have hidx : ns.idxOf n < ns.length := List.idxOf_lt_length_of_mem hn
 obtain ⟨y0, hy0, ry0⟩ := r.get (i := ns.idxOf n) (x := .int n) (by rw [List.getElem?_map, List.getElem?_eq_getElem hidx, List.getElem_idxOf hidx]; rfl)
 refine call_meets PySem.F.slot_list_index ⟨_, e, rfl⟩ PySem.F.entry_list_index (PySem.F.args_list_index_2 _ _)
  (SeqAt.list_indexAt a its.toArray c none #[] (.int n t) (fun y => match y with | .int m _ => m == n | _ => false) (ns.idxOf n) (by rw [List.size_toArray]; (first | lia | omega)) (by (first | lia | omega)) ?_ ?_) ⟨e, ?_, ⟨.int (ns.idxOf n), H, I.tok _, ⟨_, rfl⟩, q⟩⟩
 ·obtain ⟨t', rfl⟩ := ry0
  have : its.toArray[ns.idxOf n]'(by rw [List.size_toArray]; (first | lia | omega)) = Value.int n t' := by
   have := (List.getElem?_eq_some_iff.mp hy0).2
   simpa using this
  rw [this]
  simp
 ·intro i hm hi
  have hil : i < ns.length := by (first | lia | omega)
  obtain ⟨y1, hy1, ry1⟩ := r.get (i := i) (x := .int ns[i]) (by rw [List.getElem?_map, List.getElem?_eq_getElem hil]; rfl)
  obtain ⟨t2, e2⟩ := ry1
  have hne : ns[i] ≠ n := by
   have := List.not_of_lt_findIdx (p := (· == n)) (xs := ns) (i := i) (by simpa [List.idxOf] using hi)
   simpa using this
  have : its.toArray[i]'hm = Value.int ns[i] t2 := by
   have := (List.getElem?_eq_some_iff.mp hy1).2
   rw [<- e2]
   simpa using this
  rw [this]
  simp [hne]
 ·intro y hy
  obtain ⟨m, t', _, rfl⟩ := vals_mem r y (by simpa using hy)
  exact (MeetsSeq.EqGives.int m n t' t).at _ _
end
end L2
namespace L2
open PySem PySem.Spec PyProof.Rows
section
variable {X : Cx}
noncomputable def rMinL : List V -> Hp -> VK -> Prop := fun xs H Q => ∃ (l : Addr) (ns : List Int), xs = [.ref l] /\ H l = some (.lst (ns.map V.int)) /\ ns ≠ [] /\ ∀ M, M ∈ ns -> (∀ a ∈ ns, M <= a) -> Q (.int M) H
theorem min_of_bestL {xs : Array (Int × Tok)} {ns : List Int} (hnum : xs.toList.map (·.1) = ns) (hsz : 0 < xs.size) :
  numAt xs (argBest (fun i j => decide (numAt xs i < numAt xs j)) (xs.size - 1)) ∈ ns /\ ∀ a ∈ ns, numAt xs (argBest (fun i j => decide (numAt xs i < numAt xs j)) (xs.size - 1)) <= a := by
 obtain ⟨h1, h2⟩ := argBest_lt (numAt xs) (xs.size - 1)
 subst hnum
 refine ⟨?_, fun a ha => ?_⟩
 ·rw [numAt_eq]; exact getD_mem (by rw [List.length_map, Array.length_toList]; (first | lia | omega))
 ·obtain ⟨j, hj, rfl⟩ := mem_getD ha
  rw [List.length_map, Array.length_toList] at hj
  rw [<- numAt_eq]; exact h2 j (by (first | lia | omega))
theorem call_minL (hc : X.calm = true) : CallR X (.builtin "min") rMinL := by
 intro pins s σ H xs us Q I rs h
 obtain ⟨l, ns, rfl, hH, hne, q⟩ := h
 obtain ⟨u, rfl, ru⟩ := vals1 rs
 cases (show u = Value.ref l from ru)
 obtain ⟨z, its, n, r, hl, e⟩ := I.lstM hH
 have hI := intsAre_of r
 obtain ⟨xs, hxs⟩ := hI.allInts.items
 have hnum : xs.toList.map (·.1) = ns := by rw [<- nums_intItems, <- hxs]; exact hI.numsOf
 have hsz : 0 < xs.size := by
  have : ns.length = xs.size := by rw [<- hnum, List.length_map, Array.length_toList]
  have := List.length_pos_iff.mpr hne
  (first | lia | omega)
 obtain ⟨b1, b2⟩ := min_of_bestL hnum hsz
 refine min_intList (xs := xs) (I.ok.hd hc) (by rw [<- hxs]; exact ⟨_, e, rfl, n, rfl⟩) hsz fun v h' tk hv hk => ?_
 obtain ⟨t, rfl⟩ := intItems_at hv
 exact ⟨.int _, H, I.kept (t' := tk) hk, ⟨_, rfl⟩, q _ b1 b2⟩
end
end L2
namespace K60
open PySem PySem.Spec PyProof.Rows L2
noncomputable def top (i : Nat) : Stmt := PySem.Challenge.pw_shuffletold_k60_tables_by_numbers_put_in.main.body.getD i (.Pass ⟨0, 0, 0, 0⟩)
end K60
namespace L2
open PySem PySem.Spec PyProof.Rows
noncomputable def spCnt (f : List Int -> Int) : Sp := fun vs H Q _ => ∃ (a : Addr) (ns : List Int) (m : Nat), vs = [.ref a] /\ H a = some (.tup (ns.map V.int)) /\ Ord m ns /\ m <= 60 /\ ∀ H', Same H H' -> Q (.int (f ns)) H'
end L2
namespace K60
open PySem PySem.Spec PyProof.Rows L2
section
variable {P : Program} {w : World} {K : PySem.W.Frag} {mg : Str -> Option Value} {base : Heap}
end
end K60
namespace L2
open PySem PySem.Spec PyProof.Rows
theorem ends_list {i : Nat} {ns es : List Int} {n : Int} : (((rangeV 0 i).filter fun v => match v with | .int k => decide (atO ns k < n) | _ => false).map fun v => match v with | .int k => V.int (atO es k) | v => v) =
  (((num0 i).filter fun k => decide (atO ns k < n)).map fun k => atO es k).map V.int := by
 rw [rangeV_num0, List.filter_map, List.map_map, List.map_map]
 rfl
end L2
namespace K60
open PySem PySem.Spec PyProof.Rows L2
noncomputable abbrev s__law_longest : Stmt := top 19
section
variable {P : Program} {w : World} {K : PySem.W.Frag} {mg : Str -> Option Value} {base : Heap}
theorem sc__law_longest : FnScope ["_law_order_here", "_law_ends", "_law_place", "_law_number"] ["_law_order_here"] (defScope s__law_longest) := ⟨rfl, rfl, rfl, by decide +kernel, rfl, by decide +kernel, by decide +kernel⟩
theorem ok__law_longest {f : Addr} {fd : FuncData} (F : Fun K "_law_longest" "_law_longest" s__law_longest f fd) (T : Top mg) : FnOk P w K mg base CX0 1 f fd ["_law_order_here"] (spCnt longestO) := by
 refine F.ok sc__law_longest (fun vs H Q E h => ?_) (fun cdv A outer s H vs Q E hr h => ?_)
 ·obtain ⟨a, ns, m, rfl, _⟩ := h
  rfl
 ·obtain ⟨a, ns, m, rfl, ha, ho, hm, k⟩ := h
  have ln := ho.len
  refine ⟨_, (pss_cons (ps_set (i := 1) sc__law_longest.nd rfl (Or.inr rfl) (pe_lst pa_nil))
   (pss_cons (ps_for PassesOwn.never rfl (pi_enumT rfl T.n_enumerate (pa_cons (pv 0) pa_nil)) (pg_pair (i := 2) (j := 3) rfl sc__law_longest.nd rfl rfl (Or.inl rfl) (Or.inr rfl) (Or.inl rfl) (Or.inl rfl))
    (pss_one (ps_expr (pe_bm PySem.F.plainAttrs_list PySem.F.slot_list_append PySem.F.type_list_append mt_append (pv 1) (pa_cons (pe_op op_add pe_int (pe_callB (call_maxL rfl) (by rfl) T.n_max boot_max (pa_cons (pe_op op_cat (pe_lst (pa_cons pe_int pa_nil)) (pe_lc (N' := ["_law_k", "_law_ends", "_law_number", "_law_order_here"]) (n := 1) (ix := [1, 3, 0]) rfl (CompScope.of (sc := defScope s__law_longest) (N := ["_law_order_here", "_law_ends", "_law_place", "_law_number"]) (by decide +kernel) rfl rfl) (pi_range1 rfl T.n_range (pa_cons (pv 2) pa_nil)) (fun _ _ _ _ _ => ⟨(pg_name (i := 0) (show (["_law_k", "_law_ends", "_law_number", "_law_order_here"] : List Str).Nodup by decide +kernel) rfl (Or.inl rfl)), (pts_one (pt_cmpR op_lt (pe_ix (ix_tupK K rfl) (pv 3) (pv 0) (fun _ _ => rfl)) (pv 2) (nomark _))), (pe_ix (ix_listK K rfl) (pv 1) (pv 0) (fun _ _ => rfl))⟩))) pa_nil))) pa_nil)))))
   (pss_one (ps_ret (pe_callB (call_maxL rfl) (by rfl) T.n_max boot_max (pa_cons (pe_op op_cat (pe_lst (pa_cons pe_int pa_nil)) (pv 1)) pa_nil)))))), ?_⟩
  refine ⟨Nat.zero_le _, fun l hl => ?_⟩
  have s1 := same_upd (o := .lst []) hl
  refine ⟨_, rfl, a, rfl, ⟨_, SqT.of (s1 _ _ ha)⟩, for_enum (K := K) (xs := ns.map V.int) (fun i σ H2 => ∃ (es : List Int) (c2 c3 : Option V), σ = [some (.ref a), some (.ref l), c2, c3] /\ Same H H2 /\ H2 l = some (.lst (es.map V.int)) /\ Heaps (ns.take i) (patsO (ns.take i)) es) ?_ ?_ ?_ ?_⟩
  ·exact ⟨[], none, none, rfl, s1, upd_same, heaps0⟩
  ·rintro i σ H2 _ ⟨es, c2, c3, rfl, sm, _⟩
   exact SqT.of (sm _ _ ha)
  ·rintro i x t σ H2 hx ⟨es, c2, c3, rfl, sm, hl2, Z⟩ ht
   have hi : i < ns.length := by
    have := (List.getElem?_eq_some_iff.mp hx).1
    rwa [mapI_len] at this
   rw [List.getElem?_map] at hx
   obtain ⟨n, hn, rfl⟩ : ∃ n, ns[i]? = some n /\ V.int n = x := by
    cases e : ns[i]? with
    | none => rw [e] at hx; cases hx
    | some n => rw [e] at hx; exact ⟨n, rfl, Option.some.inj hx⟩
   have htk : ns.take (i + 1) = ns.take i ++ [n] := by rw [List.take_succ, hn]; rfl
   have le : es.length = i := by rw [Z.len, List.length_take]; (first | lia | omega)
   have st := same_upd (o := .tup [.int (i : Int), .int n]) ht
   refine ⟨t, _, rfl, SqT.of upd_same, rfl, _, _, rfl, _, _, rfl, rfl, ?_⟩
   refine ⟨_, rfl, .inl ⟨rfl, _, SqL.of (st _ _ hl2)⟩, ?_⟩
   refine ⟨by show 1 <= sizeLine; decide, fun l1 hl1 => ?_⟩
   have u1 := same_upd (o := .lst [.int 0]) hl1
   refine ⟨_, rfl, _, rfl, by (first | lia | omega), by (first | lia | omega), ?_⟩
   refine lc_pure (yields_range (lo := 0) (n := i)) (small1 (by rw [rangeV_len]; (first | lia | omega))) (fun v => match v with | .int k => decide (atO ns k < n) | _ => false) (fun v => match v with | .int k => V.int (atO es k) | v => v) (fun _ _ => trivial) (fun x hx H' s' Q' q => ?_) (fun x hx _ H' s' Q' q => ?_) fun acc hacc => ?_
   ·obtain ⟨z, rfl, z0, z1⟩ := mem_rangeV hx
    exact ⟨_, rfl, _, rfl, a, _, _, _, rfl, rfl, SqT.of (s' _ _ (u1 _ _ (st _ _ (sm _ _ ha)))), at_getD z0 (by (first | lia | omega)), _, rfl, _, _, rfl, rfl, _, rfl, q⟩
   ·obtain ⟨z, rfl, z0, z1⟩ := mem_rangeV hx
    exact ⟨_, rfl, _, rfl, l, _, _, _, rfl, rfl, SqL.of (s' _ _ (u1 _ _ (st _ _ hl2))), at_getD z0 (by (first | lia | omega)), q⟩
   ·rw [ends_list]
    have u2 := same_upd (o := .lst ((((num0 i).filter fun k => decide (atO ns k < n)).map fun k => atO es k).map V.int)) hacc
    refine ⟨l1, acc, _, _, rfl, rfl, u2 _ _ upd_same, upd_same, ?_, fun l2 hl2' => ?_⟩
    ·rw [mapI_len, List.length_map]
     refine Nat.le_trans (Nat.add_le_add_left (List.length_filter_le _ _) _) ?_
     rw [num0_len']
     exact Nat.le_trans (by show 1 + i <= 1000; (first | lia | omega)) (by decide)
    have u3 := same_upd (o := .lst ([V.int 0] ++ (((num0 i).filter fun k => decide (atO ns k < n)).map fun k => atO es k).map V.int)) hl2'
    refine ⟨l2, 0 :: ((num0 i).filter fun k => decide (atO ns k < n)).map fun k => atO es k, rfl, upd_same, by simp, fun M hM1 hM2 => ?_⟩
    have hM : M = ((patsO (ns.take i)).countP fun a => decide (a < n) : Nat) := by
     refine Z.best ?_ ⟨hM2 0 (by simp), fun k b e hb hbn he => ?_⟩
     ·rcases List.mem_cons.mp hM1 with h | h
      ·exact .inl h
      ·obtain ⟨z, hz, rfl⟩ := List.mem_map.mp h
       obtain ⟨hz1, hz2⟩ := List.mem_filter.mp hz
       obtain ⟨z0, z1⟩ := num0_mem hz1
       obtain ⟨j, rfl⟩ : ∃ j : Nat, z = (j : Int) := ⟨z.toNat, by (first | lia | omega)⟩
       have hj : j < ns.length := by (first | lia | omega)
       right
       refine ⟨j, atO ns j, ?_, by simpa using hz2, ?_⟩
       ·rw [List.getElem?_take, if_pos (by (first | lia | omega)), List.getElem?_eq_getElem hj, atO_get hj]
       ·rw [List.getElem?_eq_getElem (by (first | lia | omega) : j < es.length), atO_get (by (first | lia | omega))]
     ·have hk : k < i := by
       have := (List.getElem?_eq_some_iff.mp he).1
       (first | lia | omega)
      rw [List.getElem?_take, if_pos hk] at hb
      obtain ⟨l1, e1⟩ := List.getElem?_eq_some_iff.mp hb
      obtain ⟨l2, e2⟩ := List.getElem?_eq_some_iff.mp he
      refine hM2 e (List.mem_cons_of_mem _ (List.mem_map.mpr ⟨(k : Int), List.mem_filter.mpr ⟨mem_num0.mpr ⟨by (first | lia | omega), by (first | lia | omega)⟩, ?_⟩, ?_⟩))
      ·rw [atO_get l1, e1]
       simpa using hbn
      ·rw [atO_get l2, e2]
    subst hM
    have uA := ((st.trans u1).trans u2).trans u3
    have hlA := uA _ _ hl2
    refine ⟨_, _, rfl, rfl, l, _, _, rfl, rfl, hlA, small1 (by rw [mapI_len]; (first | lia | omega)), ?_⟩
    refine ⟨es ++ [1 + (((patsO (ns.take i)).countP fun a => decide (a < n) : Nat) : Int)], _, _, rfl, same_updR (sm.trans uA) hl, ?_, ?_⟩
    ·rw [upd_same, List.map_append]
     rfl
    ·rw [htk, pats_snoc]
     exact Z.step n
  ·rintro σ H2 ⟨es, c2, c3, rfl, sm, hl2, Z⟩
   rw [mapI_len, List.take_length] at Z
   refine ⟨by show 1 <= sizeLine; decide, fun l1 hl1 => ?_⟩
   have u1 := same_upd (o := .lst [.int 0]) hl1
   refine ⟨_, rfl, l1, l, _, _, rfl, rfl, upd_same, u1 _ _ hl2, ?_, fun l2 hl2' => ?_⟩
   ·rw [mapI_len, Z.len, ln]
    exact Nat.le_trans (by show 1 + m <= 1000; (first | lia | omega)) (by decide)
   have u2 := same_upd (o := .lst ([V.int 0] ++ es.map V.int)) hl2'
   refine ⟨l2, 0 :: es, rfl, upd_same, by simp, fun M hM1 hM2 => ?_⟩
   have hM := Z.all hM1 hM2
   subst hM
   exact k _ ((sm.trans u1).trans u2)
end
end K60
namespace K60
open PySem PySem.Spec PyProof.Rows L2
noncomputable abbrev s__law_hand : Stmt := top 12
noncomputable abbrev s__law_pick : Stmt := top 13
noncomputable abbrev s__law_size : Stmt := top 14
noncomputable abbrev s__law_any : Stmt := top 15
noncomputable abbrev s__law_order : Stmt := top 16
section
variable {P : Program} {w : World} {K : PySem.W.Frag} {mg : Str -> Option Value} {base : Heap}
theorem sc__law_hand : FnScope ["_law_script", "_law_seed", "_law_cell"] ["_law_script"] (defScope s__law_hand) := ⟨rfl, rfl, rfl, by decide +kernel, rfl, by decide +kernel, by decide +kernel⟩
theorem ok__law_hand {f : Addr} {fd : FuncData} (F : Fun K "_law_hand" "_law_hand" s__law_hand f fd) : FnOk P w K mg base CX0 1 f fd ["_law_script"] (spHand K) := by
 refine F.ok sc__law_hand (fun vs H Q E h => ?_) (fun cdv A outer s H vs Q E hr h => ?_)
 ·obtain ⟨a, ns, rfl, _⟩ := h
  rfl
 ·obtain ⟨a, ns, rfl, hS, hl, k⟩ := h
  refine ⟨_, (pss_cons (ps_set (i := 1) sc__law_hand.nd rfl (Or.inl rfl) pe_int)
   (pss_cons (ps_for PassesOwn.never rfl (pi_list (pe_slice sl_list (pv 0) po_none (po_some pe_int))) (pg_name (i := 2) sc__law_hand.nd rfl (Or.inl rfl))
    (pss_one (ps_set (i := 1) sc__law_hand.nd rfl (Or.inl rfl) (pe_op op_mod (pe_op op_add (pe_op op_add (pe_op op_mul (pv 1) pe_int) (pe_op op_mod (pv 2) pe_int)) pe_int) pe_int))))
   (pss_one (ps_ret (pe_lst (pa_cons (pe_lc (N' := ["_law_cell"]) (n := 1) (ix := []) rfl (CompScope.of (sc := defScope s__law_hand) (N := ["_law_script", "_law_seed", "_law_cell"]) (by decide +kernel) rfl rfl) (pi_list (pe_slice sl_list (pv 0) po_none (po_some pe_int))) (fun _ _ _ _ _ => ⟨(pg_name (i := 0) (show (["_law_cell"] : List Str).Nodup by decide +kernel) rfl (Or.inl rfl)), (pts_one (pt_cmpR op_ge (pv 0) (pe_op op_pow pe_int pe_int) (nomark _))), (pv 0)⟩)) (pa_cons (pv 1) pa_nil))))))), ?_⟩
  have hcut : ∃ ms : List Int, cutV (ns.map V.int) none (some 63) = ms.map V.int /\ ms.length <= 63 := by
   refine ⟨(ns.drop (HT.sIx (ns.map V.int).length 0 none)).take (HT.sIx (ns.map V.int).length (ns.map V.int).length (some 63) - HT.sIx (ns.map V.int).length 0 none), ?_, ?_⟩
   ·unfold cutV
    rw [List.map_take, List.map_drop]
   ·rw [List.length_take, List.length_drop]; (first | lia | omega)
  obtain ⟨ms, ecut, hms⟩ := hcut
  refine ⟨_, rfl, 63, rfl, a, _, rfl, hS, fun p hp => ⟨p, rfl, ⟨_, SqL.of upd_same⟩, ?_⟩⟩
  have sS : ∀ {H' : Hp}, Same H H' -> SqL K H' a (ns.map V.int) := fun s' => s'.seq hS
  refine for_list (K := K) (a := p) (xs := ms.map V.int) (fun i σ H2 => ∃ (seed : Int) (c : Option V), σ = [some (.ref a), some (.int seed), c] /\ H2 = upd H p (.lst (ms.map V.int))) ⟨19, none, rfl, by rw [ecut]⟩ (fun i σ H2 _ h => by obtain ⟨_, _, _, rfl⟩ := h; exact SqL.of upd_same) ?_ ?_
  ·rintro i y σ H2 hi ⟨seed, c, rfl, rfl⟩
   obtain ⟨z, _, rfl⟩ := List.mem_map.mp (List.mem_of_getElem? hi)
   refine ⟨_, rfl, _, _, rfl, rfl, .inr ⟨by decide, by decide⟩, _, rfl, _, _, rfl, rfl, (by show (0 : Int) < 2305843009213693951; decide), _, _, rfl, rfl, _, _, rfl, rfl, _, _, rfl, rfl, (by show (0 : Int) < 2305843009213693951; decide), ?_⟩
   exact ⟨_, _, rfl, rfl⟩
  ·rintro σ H2 ⟨seed, c, rfl, rfl⟩
   refine ⟨_, rfl, 63, rfl, a, _, rfl, sS (same_upd hp), fun p' hp' => ⟨p', rfl, ⟨_, SqL.of upd_same⟩, ?_⟩⟩
   rw [ecut]
   refine lc_pure (yields_list (xs := ms.map V.int)) (small1 (by rw [mapI_len]; (first | lia | omega))) (fun v => match v with | .int n => decide (10 ^ (18 : Int).toNat <= n) | _ => false) id (fun H' s' => SqL.of (s' _ _ upd_same)) (fun x hx H' s' Q' q => ?_) (fun x hx _ H' s' Q' q => ?_) fun acc hacc => ?_
   ·obtain ⟨n, _, rfl⟩ := List.mem_map.mp hx
    exact ⟨_, rfl, _, _, rfl, rfl, ⟨by decide, by decide, by decide⟩, _, _, rfl, rfl, _, rfl, q⟩
   ·exact ⟨_, rfl, q⟩
   ·refine ⟨_, rfl, (by show 2 <= sizeLine; decide), fun r hr' => ?_⟩
    have nacc : r ≠ acc := fun z => by rw [z, upd_same] at hr'; cases hr'
    have hacc1 : H acc = none := by
     rw [upd_ne (fun z => by rw [z, upd_same] at hacc; cases hacc)] at hacc
     rw [upd_ne (fun z => by rw [z, upd_same] at hacc; cases hacc)] at hacc
     exact hacc
    have hr1 : H r = none := by
     rw [upd_ne nacc] at hr'
     rw [upd_ne (fun z => by rw [z, upd_same] at hr'; cases hr')] at hr'
     rw [upd_ne (fun z => by rw [z, upd_same] at hr'; cases hr')] at hr'
     exact hr'
    refine k r acc _ ?_ ?_ hr1 hacc1
    ·exact (((same_upd hp).trans (same_upd hp')).trans (same_upd hacc)).trans (same_upd hr')
    ·refine ⟨(ms.filter fun n => decide (10 ^ (18 : Int).toNat <= n)), seed, upd_same, ?_, fun n hn => ?_, ?_⟩
     ·rw [upd_ne (Ne.symm nacc), upd_same, List.map_id, List.filter_map]
      rfl
     ·have := (List.mem_filter.mp hn).2
      have := of_decide_eq_true this
      have e : (10 : Int) ^ (18 : Int).toNat = 1000000000000000000 := by decide
      (first | lia | omega)
     ·exact Nat.le_trans (List.length_filter_le _ _) hms
end
end K60
namespace K60
open PySem PySem.Spec PyProof.Rows L2
section
variable {P : Program} {w : World} {K : PySem.W.Frag} {mg : Str -> Option Value} {base : Heap}
theorem sc__law_pick : FnScope ["_law_hand_here", "_law_many", "_law_digit", "_law_mixed"] ["_law_hand_here", "_law_many"] (defScope s__law_pick) := ⟨rfl, rfl, rfl, by decide +kernel, rfl, by decide +kernel, by decide +kernel⟩
theorem ixN_nat {n j : Nat} (h : j < n) : ixN n (j : Int) = some j := by
 unfold ixN
 rw [if_pos (by (first | lia | omega)), if_pos (by (first | lia | omega))]
 rfl
theorem neNil {H : Hp} {q e : Addr} {ns : List Int} {Q : VK} (hq : H q = some (.lst (ns.map V.int))) (he : H e = none) (h : Q (.bl (!ns.isEmpty)) (upd H e (.lst []))) : rNeD (.ref q) (.ref e) (upd H e (.lst [])) Q := by
 refine ⟨_, _, .lst (by rw [upd_ne (ne_of_none hq he)]; exact hq) (IsAll.ints ns), .lst upd_same .nil, shaped_lints ns, shaped_lints [], ?_⟩
 have e1 : PyData.eqv (.list (ns.map PyData.int)) (.list []) = ns.isEmpty := by
  show PyData.eqvAll (ns.map PyData.int) [] = _
  cases ns with
  | nil => simp [PyData.eqvAll]
  | cons a r => simp [PyData.eqvAll]
 rw [e1]
 exact h
theorem ok__law_pick {f : Addr} {fd : FuncData} (F : Fun K "_law_pick" "_law_pick" s__law_pick f fd) : FnOk P w K mg base CX0 1 f fd ["_law_hand_here", "_law_many"] spPick := by
 refine F.ok sc__law_pick (fun vs H Q E h => ?_) (fun cdv A outer s H vs Q E hr h => ?_)
 ·obtain ⟨p, q, m, rfl, _⟩ := h
  rfl
 ·obtain ⟨p, q, m, rfl, hm0, hm1, hh, k⟩ := h
  have hu : _ := hr.units
  refine ⟨_, (pss_cons (ps_while PassesOwn.never (PW.pt (pw_and (pt_cmpR (op_neD hu) (pe_ix ix_list (pv 0) pe_int (fun _ _ => rfl)) (pe_lst pa_nil) (nomark _)) (pw_and1 (pt_cmpR op_eq (pe_ix ix_list (pe_ix ix_list (pv 0) pe_int (fun _ _ => rfl)) pe_int (fun _ _ => rfl)) pe_int (nomark _)))))
    (pss_one (ps_expr (pe_bm PySem.F.plainAttrs_list PySem.F.slot_list_pop PySem.F.type_list_pop mt_popAt (pe_ix ix_list (pv 0) pe_int (fun _ _ => rfl)) (pa_cons pe_int pa_nil)))))
   (pss_cons (ps_if (pt_cmpR (op_neD hu) (pe_ix ix_list (pv 0) pe_int (fun _ _ => rfl)) (pe_lst pa_nil) (nomark _))
    (pss_cons (ps_set (i := 2) sc__law_pick.nd rfl (Or.inl rfl) (pe_op op_mod (pe_ix ix_list (pe_ix ix_list (pv 0) pe_int (fun _ _ => rfl)) pe_int (fun _ _ => rfl)) (pv 1)))
    (pss_cons (ps_asg (pe_op op_fdiv (pe_ix ix_list (pe_ix ix_list (pv 0) pe_int (fun _ _ => rfl)) pe_int (fun _ _ => rfl)) (pv 1)) (pg_sub (pe_ix ix_list (pv 0) pe_int (fun _ _ => rfl)) pe_int set_list))
    (pss_one (ps_ret (pv 2)))))
    pss_nil)
   (pss_cons (ps_asg (pe_op op_mod (pe_op op_add (pe_op op_mul (pe_ix ix_list (pv 0) pe_int (fun _ _ => rfl)) pe_int) pe_int) pe_int) (pg_sub (pv 0) pe_int set_list))
   (pss_cons (ps_set (i := 3) sc__law_pick.nd rfl (Or.inl rfl) (pe_op op_fdiv (pe_ix ix_list (pv 0) pe_int (fun _ _ => rfl)) pe_int))
   (pss_one (ps_ret (pe_op op_mod (pe_op op_fdiv (pe_op op_mod (pe_op op_mul (pv 3) (pe_op op_add (pe_op op_mod (pv 3) pe_int) pe_int)) pe_int) pe_int) (pv 1)))))))), ?_⟩
  refine ⟨fun n σ H1 => ∃ (ns : List Int) (seed : Int), n = ns.length /\ σ = [some (.ref p), some (.int m), none, none] /\ H1 p = some (.lst [.ref q, .int seed]) /\ H1 q = some (.lst (ns.map V.int)) /\ (∀ n ∈ ns, 0 <= n) /\ ns.length <= 63 /\ Keep p q H H1, ?_, ?_⟩
  ·obtain ⟨ns, seed, h1, h2, h3, h4⟩ := hh
   exact ⟨_, ns, seed, rfl, rfl, h1, h2, h3, h4, Keep.refl _ _ _⟩
  rintro n σ H1 ⟨ns, seed, rfl, rfl, hp, hq, hn, hlen, kp⟩
  refine ⟨_, rfl, p, _, 0, _, rfl, rfl, SqL.of hp, atI_nat (j := 0) rfl, Nat.zero_le _, fun e he => neNil hq he ⟨_, rfl, ?_⟩⟩
  have hnpq : p ≠ q := Hand.ne ⟨ns, seed, hp, hq, hn, hlen⟩
  have hp1 : (upd H1 e (.lst [])) p = some (.lst [.ref q, .int seed]) := by rw [upd_ne (ne_of_none hp he)]; exact hp
  have hq1 : (upd H1 e (.lst [])) q = some (.lst (ns.map V.int)) := by rw [upd_ne (ne_of_none hq he)]; exact hq
  have kp1 : Keep p q H (upd H1 e (.lst [])) := kp.trans (same_upd he).keep
  cases ns with
  | nil =>
   refine iteF ?_
   refine iteF ?_
   refine ⟨_, rfl, p, _, 0, _, rfl, rfl, SqL.of hp1, atI_nat (j := 0) rfl, Nat.zero_le _, fun e' he' => neNil hq1 he' ⟨_, rfl, ?_⟩⟩
   have hp3 : (upd (upd H1 e (.lst [])) e' (.lst [])) p = some (.lst [.ref q, .int seed]) := by rw [upd_ne (ne_of_none hp1 he')]; exact hp1
   have hq3 : (upd (upd H1 e (.lst [])) e' (.lst [])) q = some (.lst (([] : List Int).map V.int)) := by rw [upd_ne (ne_of_none hq1 he')]; exact hq1
   have kp3 : Keep p q H (upd (upd H1 e (.lst [])) e' (.lst [])) := kp1.trans (same_upd he').keep
   refine iteF ?_
   refine ⟨_, rfl, p, _, 1, _, rfl, rfl, SqL.of hp3, atI_nat (j := 1) rfl, _, _, rfl, rfl, .inr ⟨by decide, by decide⟩, _, _, rfl, rfl, _, _, rfl, rfl, (by show (0 : Int) < 2305843009213693951; decide), _, rfl, p, _, 1, 1, rfl, rfl, hp3, rfl, ?_⟩
   refine ⟨_, rfl, p, _, 1, _, rfl, rfl, SqL.of upd_same, atI_nat (j := 1) rfl, _, _, rfl, rfl, ⟨by decide, by decide⟩, ?_⟩
   refine ⟨_, rfl, _, rfl, _, _, rfl, rfl, (by show (0 : Int) < 8191; decide), _, _, rfl, rfl, _, _, rfl, rfl, .inr ?_, _, _, rfl, rfl, (by show (0 : Int) < 2305843009213693921; decide), _, _, rfl, rfl, ⟨by decide, by decide⟩, _, rfl, _, _, rfl, rfl, hm0, ?_⟩
   ·have h1 := Int.emod_nonneg ((seed * 3935559000370003 + 2691343689449507) % 2305843009213693951 / 65537) (by decide : (8191 : Int) ≠ 0)
    have h2 := Int.emod_lt_of_pos ((seed * 3935559000370003 + 2691343689449507) % 2305843009213693951 / 65537) (by decide : (0 : Int) < 8191)
    exact ⟨by (first | lia | omega), by (first | lia | omega)⟩
   ·refine k _ _ (Int.emod_nonneg _ (by (first | lia | omega))) (Int.emod_lt_of_pos _ hm0) ⟨[], _, upd_same, by rw [upd_ne (Ne.symm hnpq)]; exact hq3, hn, by simp⟩ ?_
    exact kp3.trans fun b o hb h1 _ => by rw [upd_ne h1]; exact hb
  | cons x r =>
   refine iteT ?_
   refine ⟨_, rfl, p, _, 0, _, rfl, rfl, SqL.of hp1, atI_nat (j := 0) rfl, q, _, 0, _, rfl, rfl, SqL.of hq1, atI_nat (j := 0) rfl, rfl, _, rfl, ?_⟩
   refine ite2 (fun hz => ?_) (fun hz => ?_)
   ·refine ⟨fun σ' H' => ∃ (ns : List Int) (seed : Int), ns.length < (x :: r).length /\ σ' = [some (.ref p), some (.int m), none, none] /\ H' p = some (.lst [.ref q, .int seed]) /\ H' q = some (.lst (ns.map V.int)) /\ (∀ n ∈ ns, 0 <= n) /\ ns.length <= 63 /\ Keep p q H H', ?_, ?_⟩
    ·rintro σ' H' ⟨ns', seed', hlt, h1, h2, h3, h4, h5, h6⟩
     exact ⟨_, hlt, ns', seed', rfl, h1, h2, h3, h4, h5, h6⟩
    ·refine ⟨_, rfl, p, _, 0, _, rfl, rfl, SqL.of hp1, atI_nat (j := 0) rfl, .inl ⟨rfl, _, SqL.of hq1⟩, q, _, 0, 0, _, rfl, rfl, hq1, by decide, by decide, (by simp [seqIndex?]), rfl, ?_⟩
     refine ⟨r, seed, by simp, rfl, by rw [upd_ne hnpq]; exact hp1, by rw [upd_same]; rfl, fun y hy => hn y (List.mem_cons_of_mem _ hy), by have : (x :: r).length = r.length + 1 := rfl; (first | lia | omega), ?_⟩
     exact kp1.trans fun b o hb _ h2 => by rw [upd_ne h2]; exact hb
   ·refine ⟨_, rfl, p, _, 0, _, rfl, rfl, SqL.of hp1, atI_nat (j := 0) rfl, Nat.zero_le _, fun e' he' => neNil hq1 he' ⟨_, rfl, ?_⟩⟩
    have hp3 : (upd (upd H1 e (.lst [])) e' (.lst [])) p = some (.lst [.ref q, .int seed]) := by rw [upd_ne (ne_of_none hp1 he')]; exact hp1
    have hq3 : (upd (upd H1 e (.lst [])) e' (.lst [])) q = some (.lst ((x :: r).map V.int)) := by rw [upd_ne (ne_of_none hq1 he')]; exact hq1
    have kp3 : Keep p q H (upd (upd H1 e (.lst [])) e' (.lst [])) := kp1.trans (same_upd he').keep
    refine iteT ?_
    have hx0 : 0 <= x := hn x List.mem_cons_self
    refine ⟨_, rfl, p, _, 0, _, rfl, rfl, SqL.of hp3, atI_nat (j := 0) rfl, q, _, 0, _, rfl, rfl, SqL.of hq3, atI_nat (j := 0) rfl, _, rfl, _, _, rfl, rfl, hm0, ?_⟩
    refine ⟨_, rfl, p, _, 0, _, rfl, rfl, SqL.of hp3, atI_nat (j := 0) rfl, q, _, 0, _, rfl, rfl, SqL.of hq3, atI_nat (j := 0) rfl, _, rfl, _, _, rfl, rfl, ⟨hm0, hm1⟩, _, rfl, p, _, 0, _, rfl, rfl, SqL.of hp3, atI_nat (j := 0) rfl, q, _, 0, 0, rfl, rfl, hq3, ixN_nat (j := 0) (by simp), ?_⟩
    refine ⟨_, rfl, ?_⟩
    refine k _ _ (Int.emod_nonneg _ (by (first | lia | omega))) (Int.emod_lt_of_pos _ hm0) ⟨(x / m) :: r, seed, by rw [upd_ne hnpq]; exact hp3, by rw [upd_same]; rfl, fun y hy => ?_, by simpa using hlen⟩ ?_
    ·rcases List.mem_cons.mp hy with rfl | hy
     ·exact Int.ediv_nonneg hx0 (by (first | lia | omega))
     ·exact hn y (List.mem_cons_of_mem _ hy)
    ·exact kp3.trans fun b o hb _ h2 => by rw [upd_ne h2]; exact hb
end
end K60
namespace K60
open PySem PySem.Spec PyProof.Rows L2
noncomputable abbrev s_as_table : Stmt := top 9
noncomputable abbrev s_put_in : Stmt := top 10
section
variable {P : Program} {w : World} {K : PySem.W.Frag} {mg : Str -> Option Value} {base : Heap}
theorem sc_as_table : FnScope ["rows"] ["rows"] (defScope s_as_table) := ⟨rfl, rfl, rfl, by decide +kernel, rfl, by decide +kernel, by decide +kernel⟩
theorem ok_as_table {f : Addr} {fd : FuncData} (F : Fun K "as_table" "as_table" s_as_table f fd) (T : Top mg) : FnOk P w K mg base CX0 1 f fd ["rows"] spAsT := by
 refine F.ok sc_as_table (fun vs H Q E h => ?_) (fun cdv A outer s H vs Q E hr h => ?_)
 ·obtain ⟨p, zs, R, rfl, _⟩ := h
  rfl
 ·obtain ⟨p, zs, R, rfl, hp, LA, hl, k⟩ := h
  have hzl := Paired.length LA
  refine ⟨_, (pss_one (ps_ret (pe_callTy call_tuple_of (by rfl) T.n_tuple boot_tuple (pa_cons (pe_lc (N' := ["row"]) (n := 1) (ix := []) rfl (CompScope.of (sc := defScope s_as_table) (N := ["rows"]) (by decide +kernel) rfl rfl) (pi_list (pv 0)) (fun _ _ _ _ _ => ⟨(pg_name (i := 0) (show (["row"] : List Str).Nodup by decide +kernel) rfl (Or.inl rfl)), pts_nil, (pe_callTy (call_tupK K rfl) (by rfl) T.n_tuple boot_tuple (pa_cons (pv 0) pa_nil))⟩)) pa_nil)))), ?_⟩
  refine ⟨_, rfl, p, rfl, ⟨_, SqL.of hp⟩, ?_⟩
  refine lc_grow (yields_list (xs := zs.map V.ref)) (small1 (by rw [List.length_map]; (first | lia | omega))) (fun x v G => RTup H x v G) (fun x v G G' st h => ?_) (fun G s' => SqL.of (s' _ _ hp)) (fun x hx G s' Q' q' => ?_) fun acc vs G hacc sG hG PV => ?_
  ·obtain ⟨z, t, f, e1, e2, e3, e4⟩ := h
   exact ⟨z, t, f, e1, e2, e3, st _ _ e4⟩
  ·obtain ⟨z, hz, rfl⟩ := List.mem_map.mp hx
   obtain ⟨j, hj⟩ := List.getElem?_of_mem hz
   obtain ⟨r, hr1, hr2⟩ := prd_get LA hj
   refine ⟨_, rfl, z, _, rfl, .inl ⟨SqL.of (s' _ _ hr2), fun l hl' => ?_⟩⟩
   exact q' _ _ (same_upd hl') ⟨z, l, r, rfl, rfl, hr2, upd_same⟩
  ·obtain ⟨ts, rfl, RT⟩ := rtup_rows LA PV
   refine ⟨acc, _, rfl, .inl ⟨SqL.of hG, fun l hl' => ?_⟩⟩
   exact k l ts _ (sG.trans (same_upd hl')) upd_same (RT.same (same_upd hl'))
theorem sc_put_in : FnScope ["rows", "number", "going", "at", "row", "column"] ["rows", "number"] (defScope s_put_in) := ⟨rfl, rfl, rfl, by decide +kernel, rfl, by decide +kernel, by decide +kernel⟩
set_option maxHeartbeats 4000000 in
theorem ok_put_in {f : Addr} {fd : FuncData} (F : Fun K "put_in" "put_in" s_put_in f fd) (T : Top mg) : FnOk P w K mg base CX0 1 f fd ["rows", "number"] spPutIn := by
 refine F.ok sc_put_in (fun vs H Q E h => ?_) (fun cdv A outer s H vs Q E hr h => ?_)
 ·obtain ⟨p, zs, R, x, rfl, _⟩ := h
  rfl
 ·obtain ⟨p, zs, R, x, rfl, hp, LA, nd, hpz, hl, hrl, k⟩ := h
  have hzl := Paired.length LA
  refine ⟨_, (pss_cons (ps_set (i := 2) sc_put_in.nd rfl (Or.inr rfl) (pv 1))
   (pss_cons (ps_for PassesOwn.never rfl (pi_enumL rfl T.n_enumerate (pa_cons (pv 0) pa_nil)) (pg_pair (i := 3) (j := 4) rfl sc_put_in.nd rfl rfl (Or.inl rfl) (Or.inl rfl) (Or.inl rfl) (Or.inl rfl))
    (pss_cons (ps_set (i := 5) sc_put_in.nd rfl (Or.inl rfl) (pe_callB (call_sumL rfl) (by rfl) T.n_sum boot_sum (pa_cons (pe_lc (N' := ["standing", "going"]) (n := 1) (ix := [2]) rfl (CompScope.of (sc := defScope s_put_in) (N := ["rows", "number", "going", "at", "row", "column"]) (by decide +kernel) rfl rfl) (pi_list (pv 4)) (fun _ _ _ _ _ => ⟨(pg_name (i := 0) (show (["standing", "going"] : List Str).Nodup by decide +kernel) rfl (Or.inl rfl)), (pts_one (pt_cmpR op_lt (pv 0) (pv 1) (nomark _))), pe_int⟩)) pa_nil)))
    (pss_cons (ps_if (pt_cmpR op_eq (pv 5) (pe_callB call_len_seq (by rfl) T.n_len PySem.boot_len (pa_cons (pv 4) pa_nil)) (nomark _))
     (pss_cons (ps_expr (pe_bm PySem.F.plainAttrs_list PySem.F.slot_list_append PySem.F.type_list_append mt_append (pv 4) (pa_cons (pv 2) pa_nil)))
     (pss_one (ps_ret (pv 3))))
     pss_nil)
    (pss_one (ps_asg (pe_tup (pa_cons (pv 2) (pa_cons (pe_ix ix_list (pv 4) (pv 5) (fun _ _ => rfl)) pa_nil))) (pg_tup rfl (pgs_cons (pg_sub (pv 4) (pv 5) set_list) (pgs_cons (pg_name (i := 2) sc_put_in.nd rfl (Or.inr rfl) (Or.inl rfl)) pgs_nil))))))))
   (pss_cons (ps_expr (pe_bm PySem.F.plainAttrs_list PySem.F.slot_list_append PySem.F.type_list_append mt_append (pv 0) (pa_cons (pe_lst (pa_cons (pv 2) pa_nil)) pa_nil)))
   (pss_one (ps_ret (pe_op op_sub (pe_callB call_len_seq (by rfl) T.n_len PySem.boot_len (pa_cons (pv 0) pa_nil)) pe_int)))))), ?_⟩
  refine ⟨_, rfl, _, rfl, p, rfl, ⟨_, SqL.of hp⟩, ?_⟩
  refine for_enumL (K := K) (xs := zs.map V.ref) (fun i σ G => ∃ (R1 : List (List Int)) (y : Int) (c3 c4 c5 : Option V), σ = [some (.ref p), some (.int x), some (.int y), c3, c4, c5] /\ Frm H G p zs /\ G p = some (.lst (zs.map V.ref)) /\ LsAt G zs (R1 ++ R.drop i) /\ Bmp R x i R1 y) ⟨[], x, _, _, _, rfl, (fun b o e _ _ => e), hp, LA, bmp_0 R x⟩ ?_ ?_ ?_
  ·rintro i σ G _ ⟨R1, y, c3, c4, c5, rfl, _, hG, _⟩
   exact SqL.of hG
  ·rintro i v t σ G hi ⟨R1, y, c3, c4, c5, rfl, fr, hG, LG, bm⟩ ht
   obtain ⟨z, hz, rfl⟩ : ∃ z, zs[i]? = some z /\ V.ref z = v := by
    rw [List.getElem?_map] at hi
    cases e : zs[i]? with
    | none => rw [e] at hi; cases hi
    | some z => rw [e] at hi; exact ⟨z, rfl, Option.some.inj hi⟩
   obtain ⟨r, hr1, _⟩ := prd_get LA hz
   have hrle := hrl r (List.mem_of_getElem? hr1)
   have hb1 := bm.1
   have hRi : (R1 ++ R.drop i)[i]? = some r := by
    rw [List.getElem?_append_right (by (first | lia | omega)), hb1, Nat.sub_self, drop_at hr1]
    rfl
   obtain ⟨r', e1, hzG⟩ := prd_get LG hz
   rw [hRi] at e1
   cases e1
   have st := same_upd (o := .tup [.int (i : Int), .ref z]) ht
   refine ⟨t, _, rfl, SqT.of upd_same, rfl, _, _, rfl, _, _, rfl, rfl, ?_⟩
   have fr1 := fr.same st
   have hG1 := st _ _ hG
   have LG1 := LG.same st
   have hz1 := st _ _ hzG
   have ln1 : ∀ b, upd G t (.tup [.int (i : Int), .ref z]) b = none -> G b = none := fun b hb => st.free hb
   clear st
   generalize upd G t (.tup [.int (i : Int), .ref z]) = G1 at fr1 hG1 LG1 hz1 ⊢
   refine ⟨_, rfl, z, rfl, ⟨_, SqL.of hz1⟩, ?_⟩
   refine lc_pure (yields_list (xs := r.map V.int)) (small1 (by rw [mapI_len]; (first | lia | omega))) (fun v => match v with | .int b => decide (b < y) | _ => false) (fun _ => .int 1) (fun H' s' => SqL.of (s' _ _ hz1)) (fun x hx H' s' Q' q => ?_) (fun x hx _ H' s' Q' q => by exact q) fun acc hacc => ?_
   ·obtain ⟨b, _, rfl⟩ := List.mem_map.mp hx
    exact ⟨_, rfl, _, rfl, _, _, rfl, rfl, _, rfl, q⟩
   ·have e1 : ((r.map V.int).filter fun v => match v with | .int b => decide (b < y) | _ => false).map (fun _ => V.int 1) = (List.replicate (cntL r y) (1 : Int)).map V.int := by
     rw [List.map_replicate, List.eq_replicate_iff]
     refine ⟨?_, fun b hb => by obtain ⟨c, _, rfl⟩ := List.mem_map.mp hb; rfl⟩
     unfold cntL
     rw [List.length_map, List.filter_map, List.length_map, List.countP_eq_length_filter]
     rfl
    refine ⟨acc, _, rfl, by rw [upd_same, e1], ?_⟩
    rw [ones_sum]
    have s2 := same_upd (o := .lst (((r.map V.int).filter fun v => match v with | .int b => decide (b < y) | _ => false).map fun _ => V.int 1)) hacc
    have fr2 := fr1.same s2
    have hG2 := s2 _ _ hG1
    have LG2 := LG1.same s2
    have hz2 := s2 _ _ hz1
    clear s2
    generalize upd G1 acc (.lst (((r.map V.int).filter fun v => match v with | .int b => decide (b < y) | _ => false).map fun _ => V.int 1)) = G2 at fr2 hG2 LG2 hz2 ⊢
    refine ⟨_, rfl, _, rfl, z, _, rfl, .inl (SqL.of hz2), rfl, _, rfl, ite2 (fun hc => ?_) (fun hc => ?_)⟩
    ·have hc' : cntL r y = r.length := by
      rw [mapI_len, dec_int] at hc
      have := eq_of_beq hc
      (first | lia | omega)
     refine ⟨_, rfl, .inl ⟨rfl, _, SqL.of hz2⟩, _, rfl, z, _, _, rfl, rfl, hz2, small1 (by rw [mapI_len]; (first | lia | omega)), ?_⟩
     have hf := bm.fin hr1 hc'
     have hzm : z ∈ zs := List.mem_of_getElem? hz
     have ez : r.map V.int ++ [V.int y] = (r ++ [y]).map V.int := by rw [List.map_append]; rfl
     rw [ez]
     refine ⟨_, rfl, ?_⟩
     have hk := k zs (upd G2 z (.lst ((r ++ [y]).map V.int))) (fr2.upd hzm) (by rw [upd_ne (show p ≠ z from fun e => hpz (by rw [e]; exact hzm))]; exact hG2) ?_ nd hpz (fun z hz => .inl hz)
     ·rw [hf] at hk
      exact hk
     ·rw [hf]
      have := LsAt.setAt (f := r ++ [y]) LG2 nd hz
      rw [drop_at hr1, set_mid hb1] at this
      exact this
    ·have hc' : ¬ cntL r y = r.length := fun z => hc (by rw [mapI_len, dec_int, z]; simp)
     have hlt : cntL r y < r.length := by
      have := cntLe r y
      (first | lia | omega)
     have hzm : z ∈ zs := List.mem_of_getElem? hz
     have hat : atI (r.map V.int) ((cntL r y : Nat) : Int) = some (.int (r.getD (cntL r y) 0)) := by
      refine atI_nat ?_
      rw [List.getElem?_map, List.getElem?_eq_getElem hlt, List.getD_eq_getElem?_getD, List.getElem?_eq_getElem hlt]
      rfl
     refine ⟨_, rfl, _, rfl, _, rfl, z, _, _, _, rfl, rfl, SqL.of hz2, hat, by show 2 <= sizeLine; decide, fun t2 ht2 => ?_⟩
     have s3 := same_upd (o := .tup [.int y, .int (r.getD (cntL r y) 0)]) ht2
     have fr3 := fr2.same s3
     have hG3 := s3 _ _ hG2
     have LG3 := LG2.same s3
     have hz3 := s3 _ _ hz2
     refine ⟨t2, _, rfl, SqT.of upd_same, rfl, ?_⟩
     clear s3
     generalize upd G2 t2 (.tup [.int y, .int (r.getD (cntL r y) 0)]) = G3 at fr3 hG3 LG3 hz3 ⊢
     refine ⟨_, _, rfl, _, rfl, _, rfl, z, _, _, _, rfl, rfl, hz3, ixN_of (by (first | lia | omega)) (by (first | lia | omega)), _, _, rfl, rfl, ?_⟩
     rw [Int.toNat_natCast, <- List.map_set]
     refine ⟨R1 ++ [r.set (cntL r y) y], r.getD (cntL r y) 0, _, _, _, rfl, fr3.upd hzm, by rw [upd_ne (show p ≠ z from fun e => hpz (by rw [e]; exact hzm))]; exact hG3, ?_, bm.step hr1 hc'⟩
     have := LsAt.setAt (f := r.set (cntL r y) y) LG3 nd hz
     rw [drop_at hr1, set_mid hb1] at this
     rw [List.append_assoc]
     exact this
  ·rintro σ G ⟨R1, y, c3, c4, c5, rfl, fr, hG, LG, bm⟩
   rw [List.length_map, hzl] at bm LG
   have hf := bm.last
   rw [List.drop_length, List.append_nil] at LG
   refine ⟨_, rfl, .inl ⟨rfl, _, SqL.of hG⟩, _, rfl, by show 1 <= sizeLine; decide, fun l hl' => ?_⟩
   have u1 := same_upd (o := .lst [.int y]) hl'
   have pl : p ≠ l := ne_of_none hG hl'
   have lz : l ∉ zs := fun hm => by
    obtain ⟨j, hj⟩ := List.getElem?_of_mem hm
    obtain ⟨r', _, e2⟩ := prd_get LG hj
    rw [hl'] at e2
    cases e2
   have hl0 : H l = none := by
    cases e : H l with
    | none => rfl
    | some o =>
     rw [fr l o e (Ne.symm pl) lz] at hl'
     cases hl'
   refine ⟨p, _, _, rfl, rfl, u1 _ _ hG, small1 (by rw [List.length_map]; (first | lia | omega)), ?_⟩
   have hG2 := @upd_same (upd G l (.lst [.int y])) p (.lst (zs.map V.ref ++ [.ref l]))
   have ez : zs.map V.ref ++ [V.ref l] = (zs ++ [l]).map V.ref := by rw [List.map_append]; rfl
   rw [ez] at hG2 ⊢
   refine ⟨_, rfl, p, _, rfl, .inl (SqL.of hG2), _, _, rfl, rfl, ?_⟩
   have hk := k (zs ++ [l]) (upd (upd G l (.lst [.int y])) p (.lst ((zs ++ [l]).map V.ref))) ((fr.same u1).updP) hG2 ?_ (List.nodup_append.mpr ⟨nd, by simp, fun a h1 b h2 e => lz (by rw [<- List.mem_singleton.mp h2, <- e]; exact h1)⟩) (fun h => ?_) (fun z hz => ?_)
   ·rw [hf] at hk
    have e2 : ((((zs ++ [l]).map V.ref).length : Int) - 1) = ((R.length : Nat) : Int) := by
     rw [List.length_map, List.length_append, hzl]
     show ((R.length + 1 : Nat) : Int) - 1 = _
     (first | lia | omega)
    show Q (V.int ((((zs ++ [l]).map V.ref).length : Int) - 1)) _
    rw [e2]
    exact hk
   ·rw [hf]
    exact Paired.append (LsAt.off (LG.same u1) hpz) (.cons (by rw [upd_ne (Ne.symm pl), upd_same]; rfl) .nil)
   ·rcases List.mem_append.mp h with h | h
    ·exact hpz h
    ·exact pl (List.mem_singleton.mp h)
   ·rcases List.mem_append.mp hz with h | h
    ·exact .inl h
    ·rw [List.mem_singleton.mp h]
     exact .inr hl0
end
end K60
namespace L2
open PySem PySem.Spec PyProof.Rows
structure TwoT (H G : Hp) (p1 p2 : Addr) (zs1 zs2 : List Addr) (P Q : List (List Int)) : Prop where
 sm : Same H G
 h1 : G p1 = some (.lst (zs1.map V.ref))
 h2 : G p2 = some (.lst (zs2.map V.ref))
 l1 : LsAt G zs1 P
 l2 : LsAt G zs2 Q
 n1 : zs1.Nodup
 n2 : zs2.Nodup
 d : ∀ z ∈ zs1, z ∉ zs2
 p11 : p1 ∉ zs1
 p12 : p1 ∉ zs2
 p21 : p2 ∉ zs1
 p22 : p2 ∉ zs2
 pp : p1 ≠ p2
 q1 : H p1 = none
 q2 : H p2 = none
 z1 : ∀ z ∈ zs1, H z = none
 z2 : ∀ z ∈ zs2, H z = none
theorem TwoT.swap {H G : Hp} {p1 p2 : Addr} {zs1 zs2 : List Addr} {P Q : List (List Int)} (t : TwoT H G p1 p2 zs1 zs2 P Q) : TwoT H G p2 p1 zs2 zs1 Q P :=
 ⟨t.sm, t.h2, t.h1, t.l2, t.l1, t.n2, t.n1, fun z h2 h1 => t.d z h1 h2, t.p22, t.p21, t.p12, t.p11, Ne.symm t.pp, t.q2, t.q1, t.z2, t.z1⟩
theorem TwoT.same {H G G' : Hp} {p1 p2 : Addr} {zs1 zs2 : List Addr} {P Q : List (List Int)} (t : TwoT H G p1 p2 zs1 zs2 P Q) (s : Same G G') : TwoT H G' p1 p2 zs1 zs2 P Q :=
 ⟨t.sm.trans s, s _ _ t.h1, s _ _ t.h2, t.l1.same s, t.l2.same s, t.n1, t.n2, t.d, t.p11, t.p12, t.p21, t.p22, t.pp, t.q1, t.q2, t.z1, t.z2⟩
theorem LsAt.there {H : Hp} {zs : List Addr} {F : List (List Int)} (h : LsAt H zs F) {z : Addr} (hz : z ∈ zs) : ∃ f : List Int, H z = some (.lst (f.map V.int)) := by
 obtain ⟨j, hj⟩ := List.getElem?_of_mem hz
 obtain ⟨f, _, e⟩ := prd_get h hj
 exact ⟨f, e⟩
theorem LsAt.frm {H G : Hp} {zs : List Addr} {F : List (List Int)} (h : LsAt H zs F) (k : ∀ z ∈ zs, ∀ o, H z = some o -> G z = some o) : LsAt G zs F := by
 induction h with
 | nil => exact .nil
 | cons h1 h2 ih => exact .cons (k _ List.mem_cons_self _ h1) (ih fun z hz => k z (List.mem_cons_of_mem _ hz))
theorem TwoT.put {H G G' : Hp} {p1 p2 : Addr} {zs1 zs2 zs' : List Addr} {P Q P' : List (List Int)} (t : TwoT H G p1 p2 zs1 zs2 P Q) (fr : Frm G G' p1 zs1) (h1 : G' p1 = some (.lst (zs'.map V.ref))) (l1 : LsAt G' zs' P') (nd : zs'.Nodup) (hp : p1 ∉ zs') (hz : ∀ z ∈ zs', z ∈ zs1 ∨ G z = none) : TwoT H G' p1 p2 zs' zs2 P' Q := by
 have sm : Same H G' := fun b o e => fr b o (t.sm b o e) (fun z => by rw [z, t.q1] at e; cases e) fun z => by rw [t.z1 b z] at e; cases e
 refine ⟨sm, h1, fr _ _ t.h2 (Ne.symm t.pp) t.p21, l1, t.l2.frm fun z hz2 o e => fr z o e (fun e' => t.p12 (e' ▸ hz2)) fun h => t.d z h hz2, nd, t.n2, fun z hz1 hz2 => ?_, hp, t.p12, fun h => ?_, t.p22, t.pp, t.q1, t.q2, fun z h => ?_, t.z2⟩
 ·rcases hz z hz1 with h | h
  ·exact t.d z h hz2
  ·obtain ⟨f, e⟩ := t.l2.there hz2
   rw [h] at e
   cases e
 ·rcases hz p2 h with h | h
  ·exact t.p21 h
  ·rw [t.h2] at h
   cases h
 ·rcases hz z h with h | h
  ·exact t.z1 z h
  ·exact t.sm.free h
theorem TwoT.set1 {H G : Hp} {p1 p2 : Addr} {zs1 zs2 : List Addr} {P Q : List (List Int)} {i : Nat} {z : Addr} {f : List Int} (t : TwoT H G p1 p2 zs1 zs2 P Q) (hz : zs1[i]? = some z) : TwoT H (upd G z (.lst (f.map V.int))) p1 p2 zs1 zs2 (P.set i f) Q := by
 have hm : z ∈ zs1 := List.mem_of_getElem? hz
 have e1 : p1 ≠ z := fun e => t.p11 (by rw [e]; exact hm)
 have e2 : p2 ≠ z := fun e => t.p21 (by rw [e]; exact hm)
 exact ⟨same_updR t.sm (t.z1 z hm), by rw [upd_ne e1]; exact t.h1, by rw [upd_ne e2]; exact t.h2, LsAt.setAt t.l1 t.n1 hz, LsAt.off t.l2 (t.d z hm), t.n1, t.n2, t.d, t.p11, t.p12, t.p21, t.p22, t.pp, t.q1, t.q2, t.z1, t.z2⟩
theorem TwoT.app1 {H G : Hp} {p1 p2 : Addr} {zs1 zs2 : List Addr} {P Q : List (List Int)} {l : Addr} {f : List Int} (t : TwoT H G p1 p2 zs1 zs2 P Q) (hl : G l = none) : TwoT H (upd (upd G l (.lst (f.map V.int))) p1 (.lst ((zs1 ++ [l]).map V.ref))) p1 p2 (zs1 ++ [l]) zs2 (P ++ [f]) Q := by
 have u := same_upd (o := .lst (f.map V.int)) hl
 have pl : p1 ≠ l := ne_of_none t.h1 hl
 have pl2 : p2 ≠ l := ne_of_none t.h2 hl
 have lz1 : l ∉ zs1 := fun h => by
  obtain ⟨f, e⟩ := t.l1.there h
  rw [hl] at e
  cases e
 have lz2 : l ∉ zs2 := fun h => by
  obtain ⟨f, e⟩ := t.l2.there h
  rw [hl] at e
  cases e
 refine ⟨same_updR (t.sm.trans u) t.q1, upd_same, by rw [upd_ne (Ne.symm t.pp)]; exact u _ _ t.h2, Paired.append (LsAt.off (t.l1.same u) t.p11) (.cons (by rw [upd_ne (Ne.symm pl), upd_same]) .nil), LsAt.off (t.l2.same u) t.p12, List.nodup_append.mpr ⟨t.n1, by simp, fun a h1 b h2 e => lz1 (by rw [<- List.mem_singleton.mp h2, <- e]; exact h1)⟩, t.n2, fun z h => ?_, fun h => ?_, t.p12, fun h => ?_, t.p22, t.pp, t.q1, t.q2, fun z h => ?_, t.z2⟩
 ·rcases List.mem_append.mp h with h | h
  ·exact t.d z h
  ·rw [List.mem_singleton.mp h]
   exact lz2
 ·rcases List.mem_append.mp h with h | h
  ·exact t.p11 h
  ·exact pl (List.mem_singleton.mp h)
 ·rcases List.mem_append.mp h with h | h
  ·exact t.p21 h
  ·exact pl2 (List.mem_singleton.mp h)
 ·rcases List.mem_append.mp h with h | h
  ·exact t.z1 z h
  ·rw [List.mem_singleton.mp h]
   exact t.sm.free hl
theorem add_last : ∀ (Q : List (List Int)) (p : Int), addAt Q Q.length p = Q ++ [[p]]
 | [], _ => rfl
 | s :: Q, p => by
  show s :: addAt Q Q.length p = _
  rw [add_last Q p]
  rfl
theorem add_set : ∀ (Q : List (List Int)) (k : Nat) (p : Int) {q : List Int}, Q[k]? = some q -> addAt Q k p = Q.set k (q ++ [p])
 | [], _, _, _, h => by cases h
 | s :: Q, 0, p, q, h => by cases h; rfl
 | s :: Q, k + 1, p, q, h => by
  show s :: addAt Q k p = s :: Q.set k (q ++ [p])
  rw [add_set Q k p h]
end L2
namespace K60
open PySem PySem.Spec PyProof.Rows L2
noncomputable abbrev s_tables : Stmt := top 8
section
variable {P : Program} {w : World} {K : PySem.W.Frag} {mg : Str -> Option Value} {base : Heap}
theorem sc_tables : FnScope ["order", "one", "other", "place", "number", "at"] ["order"] (defScope s_tables) := ⟨rfl, rfl, rfl, by decide +kernel, rfl, by decide +kernel, by decide +kernel⟩
set_option maxHeartbeats 4000000 in
theorem ok_tables {f : Addr} {fd : FuncData} (F : Fun K "tables" "tables" s_tables f fd) (T : Top mg) (Cput_in : Cal P w K mg base 1 "put_in" ["rows", "number"] spPutIn) (Cas_table : Cal P w K mg base 1 "as_table" ["rows"] spAsT) : FnOk P w K mg base CX0 2 f fd ["order"] spTabs := by
 refine F.ok sc_tables (fun vs H Q E h => ?_) (fun cdv A outer s H vs Q E hr h => ?_)
 ·obtain ⟨a, ns, m, rfl, _⟩ := h
  rfl
 ·obtain ⟨a, ns, m, rfl, ha, ho, hm, k⟩ := h
  have ln := ho.len
  have bnd : ∀ i, i <= m -> (tabI ns i).1.length <= 60 /\ (tabI ns i).2.length <= 60 /\ (∀ r ∈ (tabI ns i).1, r.length <= 60) /\ (∀ r ∈ (tabI ns i).2, r.length <= 60) := fun i hi => tabs_bnd (tabs_all ho i hi) (by (first | lia | omega))
  refine ⟨_, (pss_cons (ps_set (i := 1) sc_tables.nd rfl (Or.inl rfl) (pe_lst pa_nil))
   (pss_cons (ps_set (i := 2) sc_tables.nd rfl (Or.inl rfl) (pe_lst pa_nil))
   (pss_cons (ps_for PassesOwn.never rfl (pi_enumT rfl T.n_enumerate (pa_cons (pv 0) pa_nil)) (pg_pair (i := 3) (j := 4) rfl sc_tables.nd rfl rfl (Or.inl rfl) (Or.inl rfl) (Or.inl rfl) (Or.inl rfl))
    (pss_cons (ps_set (i := 5) sc_tables.nd rfl (Or.inl rfl) (pe_cal Cput_in (hr.mono (by decide)) rfl (pa_cons (pv 1) (pa_cons (pv 4) pa_nil))))
    (pss_cons (ps_if (pt_cmpR op_eq (pv 5) (pe_callB call_len_seq (by rfl) T.n_len PySem.boot_len (pa_cons (pv 2) pa_nil)) (nomark _))
     (pss_one (ps_expr (pe_bm PySem.F.plainAttrs_list PySem.F.slot_list_append PySem.F.type_list_append mt_append (pv 2) (pa_cons (pe_lst pa_nil) pa_nil))))
     pss_nil)
    (pss_one (ps_expr (pe_bm PySem.F.plainAttrs_list PySem.F.slot_list_append PySem.F.type_list_append mt_append (pe_ix ix_list (pv 2) (pv 5) (fun _ _ => rfl)) (pa_cons (pv 3) pa_nil)))))))
   (pss_one (ps_ret (pe_tup (pa_cons (pe_cal Cas_table (hr.mono (by decide)) rfl (pa_cons (pv 1) pa_nil)) (pa_cons (pe_cal Cas_table (hr.mono (by decide)) rfl (pa_cons (pv 2) pa_nil)) pa_nil)))))))), ?_⟩
  refine ⟨Nat.zero_le _, fun p1 hp1 => ?_⟩
  have s1 := same_upd (o := .lst []) hp1
  refine ⟨Nat.zero_le _, fun p2 hp2 => ?_⟩
  have s2 := same_upd (o := .lst []) hp2
  have S := s1.trans s2
  have p12 : p1 ≠ p2 := fun e => by
   rw [<- e, upd_same] at hp2
   cases hp2
  have T0 : TwoT H (upd (upd H p1 (.lst [])) p2 (.lst [])) p1 p2 [] [] [] [] :=
   ⟨S, by rw [upd_ne p12, upd_same]; rfl, by rw [upd_same]; rfl, .nil, .nil, .nil, .nil, (fun _ h => by cases h), (fun h => by cases h), (fun h => by cases h), (fun h => by cases h), (fun h => by cases h), p12, hp1, s1.free hp2, (fun _ h => by cases h), (fun _ h => by cases h)⟩
  refine ⟨_, rfl, a, rfl, ⟨_, SqT.of (S _ _ ha)⟩, ?_⟩
  refine for_enum (K := K) (xs := ns.map V.int) (fun i σ G => ∃ (zs1 zs2 : List Addr) (c3 c4 c5 : Option V), σ = [some (.ref a), some (.ref p1), some (.ref p2), c3, c4, c5] /\ TwoT H G p1 p2 zs1 zs2 (tabI ns i).1 (tabI ns i).2) ⟨[], [], _, _, _, rfl, T0⟩ ?_ ?_ ?_
  ·rintro i σ G _ ⟨zs1, zs2, c3, c4, c5, rfl, t⟩
   exact SqT.of (t.sm _ _ ha)
  ·rintro i x t0 σ G hi ⟨zs1, zs2, c3, c4, c5, rfl, t⟩ ht0
   obtain ⟨n, hn, rfl⟩ : ∃ n, ns[i]? = some n /\ V.int n = x := by
    rw [List.getElem?_map] at hi
    cases e : ns[i]? with
    | none => rw [e] at hi; cases hi
    | some z => rw [e] at hi; exact ⟨z, rfl, Option.some.inj hi⟩
   have hil : i < ns.length := (List.getElem?_eq_some_iff.mp hn).1
   have hat : atO ns i = n := by
    rw [atO_get hil]
    exact (List.getElem?_eq_some_iff.mp hn).2
   obtain ⟨b1, b2, b3, b4⟩ := bnd i (by (first | lia | omega))
   have hk2 := (put_len (tabI ns i).1 n).2
   have hlen : (tabI ns i).2.length = (tabI ns i).1.length := by
    have := congrArg List.length (tabs_all ho i (by (first | lia | omega))).ln
    simpa using this
   have t := t.same (same_upd (o := .tup [.int (i : Int), .int n]) ht0)
   refine ⟨t0, _, rfl, SqT.of upd_same, rfl, _, _, rfl, _, _, rfl, rfl, ?_⟩
   generalize upd G t0 (.tup [.int (i : Int), .int n]) = G1 at t ⊢
   refine ⟨_, rfl, _, rfl, p1, zs1, (tabI ns i).1, n, rfl, t.h1, t.l1, t.n1, t.p11, by (first | lia | omega), fun r hr => by have := b3 r hr; (first | lia | omega), fun zs' G2 fr h1 l1 nd hp hz => ?_⟩
   have t2 := t.put fr h1 l1 nd hp hz
   have hzl := Paired.length t2.l2
   refine ⟨_, rfl, _, rfl, p2, _, rfl, .inl (SqL.of t2.h2), rfl, _, rfl, ite2 (fun hc => ?_) (fun hc => ?_)⟩
   ·have hc' : (putR (tabI ns i).1 n).2 = (tabI ns i).2.length := by
     rw [List.length_map, dec_int] at hc
     have := eq_of_beq hc
     (first | lia | omega)
    refine ⟨_, rfl, .inl ⟨rfl, _, SqL.of t2.h2⟩, Nat.zero_le _, fun l hl => ?_⟩
    refine ⟨p2, _, _, rfl, rfl, same_upd hl _ _ t2.h2, small1 (by rw [List.length_map]; (first | lia | omega)), ?_⟩
    have t3 := (t2.swap.app1 (f := []) hl).swap
    have ez : zs2.map V.ref ++ [V.ref l] = (zs2 ++ [l]).map V.ref := by rw [List.map_append]; rfl
    rw [ez]
    have hzi : (zs2 ++ [l])[(putR (tabI ns i).1 n).2]? = some l := by rw [hc', <- hzl]; simp
    have t3 : TwoT H (upd (upd G2 l (.lst [])) p2 (.lst ((zs2 ++ [l]).map V.ref))) p1 p2 zs' (zs2 ++ [l]) (putR (tabI ns i).1 n).1 ((tabI ns i).2 ++ [[]]) := t3
    have hlG : (upd (upd G2 l (.lst [])) p2 (.lst ((zs2 ++ [l]).map V.ref))) l = some (.lst []) := by
     rw [upd_ne (ne_of_none t2.h2 hl).symm, upd_same]
    generalize upd (upd G2 l (.lst [])) p2 (.lst ((zs2 ++ [l]).map V.ref)) = G3 at t3 hlG ⊢
    refine ⟨_, rfl, _, rfl, p2, _, _, .ref l, rfl, rfl, SqL.of t3.h2, atI_nat (by rw [List.getElem?_map, hzi]; rfl), .inl ⟨rfl, _, SqL.of hlG⟩, _, rfl, l, _, _, rfl, rfl, hlG, by show 0 < sizeLine; decide, ?_⟩
    have t4 := (t3.swap.set1 (f := [(i : Int)]) hzi).swap
    refine ⟨zs', zs2 ++ [l], _, _, _, rfl, ?_⟩
    have e2 : ((tabI ns i).2 ++ [[]]).set (putR (tabI ns i).1 n).2 [(i : Int)] = addAt (tabI ns i).2 (putR (tabI ns i).1 n).2 i := by
     rw [hc', add_last]
     simp
    rw [e2] at t4
    show TwoT H _ p1 p2 zs' (zs2 ++ [l]) (putR (tabI ns i).1 (atO ns i)).1 (addAt (tabI ns i).2 (putR (tabI ns i).1 (atO ns i)).2 i)
    rw [hat]
    exact t4
   ·have hc' : ¬ (putR (tabI ns i).1 n).2 = (tabI ns i).2.length := fun z => hc (by rw [List.length_map, hzl, dec_int, z]; simp)
    have hlt : (putR (tabI ns i).1 n).2 < (tabI ns i).2.length := by (first | lia | omega)
    obtain ⟨q, hq⟩ : ∃ q, (tabI ns i).2[(putR (tabI ns i).1 n).2]? = some q := ⟨_, List.getElem?_eq_getElem hlt⟩
    obtain ⟨z, hz1, hz2⟩ := t2.l2.at hq
    have hql := b4 q (List.mem_of_getElem? hq)
    refine ⟨_, rfl, _, rfl, p2, _, _, .ref z, rfl, rfl, SqL.of t2.h2, atI_nat (by rw [List.getElem?_map, hz1]; rfl), .inl ⟨rfl, _, SqL.of hz2⟩, _, rfl, z, _, _, rfl, rfl, hz2, small1 (by rw [mapI_len]; (first | lia | omega)), ?_⟩
    have ez : q.map V.int ++ [V.int (i : Int)] = (q ++ [(i : Int)]).map V.int := by rw [List.map_append]; rfl
    rw [ez]
    have t4 := (t2.swap.set1 (f := q ++ [(i : Int)]) hz1).swap
    refine ⟨zs', zs2, _, _, _, rfl, ?_⟩
    rw [<- add_set _ _ _ hq] at t4
    show TwoT H _ p1 p2 zs' zs2 (putR (tabI ns i).1 (atO ns i)).1 (addAt (tabI ns i).2 (putR (tabI ns i).1 (atO ns i)).2 i)
    rw [hat]
    exact t4
  ·rintro σ G ⟨zs1, zs2, c3, c4, c5, rfl, t⟩
   rw [mapI_len, ln] at t
   obtain ⟨b1, b2, _⟩ := bnd m (Nat.le_refl _)
   refine ⟨_, rfl, p1, zs1, _, rfl, t.h1, t.l1, by (first | lia | omega), fun q1 ys1 G1 u1 hq1 R1 => ?_⟩
   refine ⟨_, rfl, p2, zs2, _, rfl, u1 _ _ t.h2, t.l2.same u1, by (first | lia | omega), fun q2 ys2 G2 u2 hq2 R2 => ?_⟩
   refine ⟨by show 2 <= sizeLine; decide, fun tt htt => ?_⟩
   have u3 := same_upd (o := .tup [.ref q1, .ref q2]) htt
   exact k tt q1 q2 ys1 ys2 _ (((t.sm.trans u1).trans u2).trans u3) upd_same (u3 _ _ (u2 _ _ hq1)) ((R1.same u2).same u3) (u3 _ _ hq2) (R2.same u3)
end
end K60
namespace L2
open PySem PySem.Spec PyProof.Rows
theorem any_gt {r : List Int} {y : Int} (hy : y ∉ r) : ((r.map fun a => decide (a > y)).any id = true) ↔ ¬ cntL r y = r.length := by
 unfold cntL
 rw [List.countP_eq_length, List.any_map, List.any_eq_true]
 constructor
 ·rintro ⟨a, ha, hg⟩ hall
  have h1 := of_decide_eq_true (hall a ha)
  have h2 : a > y := of_decide_eq_true hg
  (first | lia | omega)
 ·intro h
  refine Classical.byContradiction fun hn => h fun a ha => decide_eq_true ?_
  have h1 : ¬ a > y := fun z => hn ⟨a, ha, decide_eq_true z⟩
  have h2 : a ≠ y := fun e => hy (e ▸ ha)
  (first | lia | omega)
theorem min_cnt {r : List Int} {y MX : Int} (hi : Inc r) (hy : y ∉ r) (hc : cntL r y < r.length) (h1 : MX ∈ r.filter fun a => decide (a > y)) (h2 : ∀ a ∈ r.filter (fun a => decide (a > y)), MX <= a) : MX = r.getD (cntL r y) 0 /\ r.idxOf MX = cntL r y := by
 obtain ⟨hm, hg⟩ := List.mem_filter.mp h1
 have hg : MX > y := of_decide_eq_true hg
 have hgt := cntGt hi hy hc
 have hle := h2 _ (List.mem_filter.mpr ⟨memD hc, decide_eq_true hgt⟩)
 obtain ⟨k, hk, e⟩ := List.getElem_of_mem hm
 have eD : r.getD k 0 = MX := by rw [List.getD_eq_getElem?_getD, List.getElem?_eq_getElem hk, e]; rfl
 have hk2 : cntL r y <= k := Nat.not_lt.mp fun z => by
  have := (cntLt hi (x := y) hk).mpr z
  (first | lia | omega)
 have hge : r.getD (cntL r y) 0 <= MX := by
  rcases Nat.lt_or_ge (cntL r y) k with z | z
  ·have := incIff.mp hi _ _ z hk
   (first | lia | omega)
  ·have : cntL r y = k := by (first | lia | omega)
   rw [this]
   (first | lia | omega)
 have eM : MX = r.getD (cntL r y) 0 := by (first | lia | omega)
 refine ⟨eM, ?_⟩
 have nd : r.Nodup := hi.imp fun h => Int.ne_of_lt h
 have := List.Nodup.idxOf_getElem nd (cntL r y) hc
 rw [eM, List.getD_eq_getElem?_getD, List.getElem?_eq_getElem hc]
 exact this
theorem filt_int {r : List Int} {y : Int} : ((r.map V.int).filter fun v => match v with | .int b => decide (b > y) | _ => false) = (r.filter fun a => decide (a > y)).map V.int := by
 rw [List.filter_map]
 rfl
end L2
namespace K60
open PySem PySem.Spec PyProof.Rows L2
noncomputable abbrev s__law_bumped : Stmt := top 21
section
variable {P : Program} {w : World} {K : PySem.W.Frag} {mg : Str -> Option Value} {base : Heap}
theorem sc__law_bumped : FnScope ["_law_order_here", "_law_rows", "_law_places", "_law_place", "_law_number", "_law_at", "_law_spot", "_law_gone"] ["_law_order_here"] (defScope s__law_bumped) := ⟨rfl, rfl, rfl, by decide +kernel, rfl, by decide +kernel, by decide +kernel⟩
set_option maxHeartbeats 8000000 in
theorem ok__law_bumped {f : Addr} {fd : FuncData} (F : Fun K "_law_bumped" "_law_bumped" s__law_bumped f fd) (T : Top mg) (TY : TopY mg) : FnOk P w K mg base CX0 1 f fd ["_law_order_here"] spTabs := by
 refine F.ok sc__law_bumped (fun vs H Q E h => ?_) (fun cdv A outer s H vs Q E hr h => ?_)
 ·obtain ⟨a, ns, m, rfl, _⟩ := h
  rfl
 ·obtain ⟨a, ns, m, rfl, ha, ho, hm, k⟩ := h
  have ln := ho.len
  have bnd : ∀ i, i <= m -> (tabI ns i).1.length <= 60 /\ (tabI ns i).2.length <= 60 /\ (∀ r ∈ (tabI ns i).1, r.length <= 60) /\ (∀ r ∈ (tabI ns i).2, r.length <= 60) := fun i hi => tabs_bnd (tabs_all ho i hi) (by (first | lia | omega))
  refine ⟨_, (pss_cons (ps_par (i := 1) (j := 2) rfl sc__law_bumped.nd rfl rfl (by decide) rfl rfl (pa_cons (pe_lst pa_nil) (pa_cons (pe_lst pa_nil) pa_nil)) rfl)
   (pss_cons (ps_for PassesOwn.never rfl (pi_enumT rfl T.n_enumerate (pa_cons (pv 0) pa_nil)) (pg_pair (i := 3) (j := 4) rfl sc__law_bumped.nd rfl rfl (Or.inl rfl) (Or.inr rfl) (Or.inl rfl) (Or.inl rfl))
    (pss_cons (ps_set (i := 5) sc__law_bumped.nd rfl (Or.inl rfl) pe_int)
    (pss_cons (ps_while PassesOwn.never (PW.pt (pw_and (pt_cmpR op_lt (pv 5) (pe_callB call_len_seq (by rfl) T.n_len PySem.boot_len (pa_cons (pv 1) pa_nil)) (nomark _)) (pw_and1 (pt_val (pe_callB (call_any rfl) (by rfl) TY.n_any boot_any (pa_cons (pe_lc (N' := ["_law_one", "_law_number"]) (n := 1) (ix := [4]) rfl (CompScope.of (sc := defScope s__law_bumped) (N := ["_law_order_here", "_law_rows", "_law_places", "_law_place", "_law_number", "_law_at", "_law_spot", "_law_gone"]) (by decide +kernel) rfl rfl) (pi_list (pe_ix ix_list (pv 1) (pv 5) (fun _ _ => rfl))) (fun _ _ _ _ _ => ⟨(pg_name (i := 0) (show (["_law_one", "_law_number"] : List Str).Nodup by decide +kernel) rfl (Or.inl rfl)), pts_nil, (pe_cmpR op_gt (pv 0) (pv 1) (nomark _))⟩)) pa_nil))))))
     (pss_cons (ps_set (i := 6) sc__law_bumped.nd rfl (Or.inl rfl) (pe_bm PySem.F.plainAttrs_list PySem.F.slot_list_index PySem.F.type_list_index mt_lindex (pe_ix ix_list (pv 1) (pv 5) (fun _ _ => rfl)) (pa_cons (pe_callB (call_minL rfl) (by rfl) T.n_min boot_min (pa_cons (pe_lc (N' := ["_law_one", "_law_number"]) (n := 1) (ix := [4]) rfl (CompScope.of (sc := defScope s__law_bumped) (N := ["_law_order_here", "_law_rows", "_law_places", "_law_place", "_law_number", "_law_at", "_law_spot", "_law_gone"]) (by decide +kernel) rfl rfl) (pi_list (pe_ix ix_list (pv 1) (pv 5) (fun _ _ => rfl))) (fun _ _ _ _ _ => ⟨(pg_name (i := 0) (show (["_law_one", "_law_number"] : List Str).Nodup by decide +kernel) rfl (Or.inl rfl)), (pts_one (pt_cmpR op_gt (pv 0) (pv 1) (nomark _))), (pv 0)⟩)) pa_nil)) pa_nil)))
     (pss_cons (ps_set (i := 7) sc__law_bumped.nd rfl (Or.inl rfl) (pe_ix ix_list (pe_ix ix_list (pv 1) (pv 5) (fun _ _ => rfl)) (pv 6) (fun _ _ => rfl)))
     (pss_cons (ps_asg (pv 4) (pg_sub (pe_ix ix_list (pv 1) (pv 5) (fun _ _ => rfl)) (pv 6) set_list))
     (pss_cons (ps_set (i := 4) sc__law_bumped.nd rfl (Or.inr rfl) (pv 7))
     (pss_one (ps_set (i := 5) sc__law_bumped.nd rfl (Or.inl rfl) (pe_op op_add (pv 5) pe_int))))))))
    (pss_cons (ps_if (pt_cmpR op_eq (pv 5) (pe_callB call_len_seq (by rfl) T.n_len PySem.boot_len (pa_cons (pv 1) pa_nil)) (nomark _))
     (pss_cons (ps_expr (pe_bm PySem.F.plainAttrs_list PySem.F.slot_list_append PySem.F.type_list_append mt_append (pv 1) (pa_cons (pe_lst pa_nil) pa_nil)))
     (pss_one (ps_expr (pe_bm PySem.F.plainAttrs_list PySem.F.slot_list_append PySem.F.type_list_append mt_append (pv 2) (pa_cons (pe_lst pa_nil) pa_nil)))))
     pss_nil)
    (pss_cons (ps_expr (pe_bm PySem.F.plainAttrs_list PySem.F.slot_list_append PySem.F.type_list_append mt_append (pe_ix ix_list (pv 1) (pv 5) (fun _ _ => rfl)) (pa_cons (pv 4) pa_nil)))
    (pss_one (ps_expr (pe_bm PySem.F.plainAttrs_list PySem.F.slot_list_append PySem.F.type_list_append mt_append (pe_ix ix_list (pv 2) (pv 5) (fun _ _ => rfl)) (pa_cons (pv 3) pa_nil)))))))))
   (pss_one (ps_ret (pe_tup (pa_cons (pe_callTy call_tuple_of (by rfl) T.n_tuple boot_tuple (pa_cons (pe_lc (N' := ["_law_row"]) (n := 1) (ix := []) rfl (CompScope.of (sc := defScope s__law_bumped) (N := ["_law_order_here", "_law_rows", "_law_places", "_law_place", "_law_number", "_law_at", "_law_spot", "_law_gone"]) (by decide +kernel) rfl rfl) (pi_list (pv 1)) (fun _ _ _ _ _ => ⟨(pg_name (i := 0) (show (["_law_row"] : List Str).Nodup by decide +kernel) rfl (Or.inl rfl)), pts_nil, (pe_callTy (call_tupK K rfl) (by rfl) T.n_tuple boot_tuple (pa_cons (pv 0) pa_nil))⟩)) pa_nil)) (pa_cons (pe_callTy call_tuple_of (by rfl) T.n_tuple boot_tuple (pa_cons (pe_lc (N' := ["_law_row"]) (n := 1) (ix := []) rfl (CompScope.of (sc := defScope s__law_bumped) (N := ["_law_order_here", "_law_rows", "_law_places", "_law_place", "_law_number", "_law_at", "_law_spot", "_law_gone"]) (by decide +kernel) rfl rfl) (pi_list (pv 2)) (fun _ _ _ _ _ => ⟨(pg_name (i := 0) (show (["_law_row"] : List Str).Nodup by decide +kernel) rfl (Or.inl rfl)), pts_nil, (pe_callTy (call_tupK K rfl) (by rfl) T.n_tuple boot_tuple (pa_cons (pv 0) pa_nil))⟩)) pa_nil)) pa_nil))))))), ?_⟩
  refine ⟨Nat.zero_le _, fun p1 hp1 => ?_⟩
  have s1 := same_upd (o := .lst []) hp1
  refine ⟨Nat.zero_le _, fun p2 hp2 => ?_⟩
  have s2 := same_upd (o := .lst []) hp2
  have S := s1.trans s2
  have p12 : p1 ≠ p2 := fun e => by
   rw [<- e, upd_same] at hp2
   cases hp2
  have T0 : TwoT H (upd (upd H p1 (.lst [])) p2 (.lst [])) p1 p2 [] [] [] [] :=
   ⟨S, by rw [upd_ne p12, upd_same]; rfl, by rw [upd_same]; rfl, .nil, .nil, .nil, .nil, (fun _ h => by cases h), (fun h => by cases h), (fun h => by cases h), (fun h => by cases h), (fun h => by cases h), p12, hp1, s1.free hp2, (fun _ h => by cases h), (fun _ h => by cases h)⟩
  refine ⟨_, _, rfl, ?_⟩
  refine ⟨_, rfl, a, rfl, ⟨_, SqT.of (S _ _ ha)⟩, ?_⟩
  refine for_enum (K := K) (xs := ns.map V.int) (fun i σ G => ∃ (zs1 zs2 : List Addr) (c3 c4 c5 c6 c7 : Option V), σ = [some (.ref a), some (.ref p1), some (.ref p2), c3, c4, c5, c6, c7] /\ TwoT H G p1 p2 zs1 zs2 (tabI ns i).1 (tabI ns i).2) ⟨[], [], _, _, _, _, _, rfl, T0⟩ ?_ ?_ ?_
  ·rintro i σ G _ ⟨zs1, zs2, c3, c4, c5, c6, c7, rfl, t⟩
   exact SqT.of (t.sm _ _ ha)
  ·rintro i x t0 σ G hi ⟨zs1, zs2, c3, c4, c5, c6, c7, rfl, t⟩ ht0
   obtain ⟨n, hn, rfl⟩ : ∃ n, ns[i]? = some n /\ V.int n = x := by
    rw [List.getElem?_map] at hi
    cases e : ns[i]? with
    | none => rw [e] at hi; cases hi
    | some z => rw [e] at hi; exact ⟨z, rfl, Option.some.inj hi⟩
   have hil : i < ns.length := (List.getElem?_eq_some_iff.mp hn).1
   have hat : atO ns i = n := by
    rw [atO_get hil]
    exact (List.getElem?_eq_some_iff.mp hn).2
   obtain ⟨b1, b2, b3, b4⟩ := bnd i (by (first | lia | omega))
   have TI := tabs_all ho i (by (first | lia | omega))
   have hlen : (tabI ns i).2.length = (tabI ns i).1.length := by
    have := congrArg List.length TI.ln
    simpa using this
   have htk : ns.take (i + 1) = ns.take i ++ [n] := by rw [List.take_succ, hn]; rfl
   have ndt : (ns.take (i + 1)).Nodup := ho.nodup.sublist (List.take_sublist _ _)
   rw [htk, List.nodup_append] at ndt
   have ndF : (tabI ns i).1.flatten.Nodup := TI.pp.nodup_iff.mpr ndt.1
   have hxF : n ∉ (tabI ns i).1.flatten := fun z => ndt.2.2 _ (TI.pp.mem_iff.mp z) _ (by simp) rfl
   have hrows := tabRowsI TI.tp
   have t := t.same (same_upd (o := .tup [.int (i : Int), .int n]) ht0)
   have hnew : (tabI ns (i + 1)).1 = (putR (tabI ns i).1 n).1 /\ (tabI ns (i + 1)).2 = addAt (tabI ns i).2 (putR (tabI ns i).1 n).2 i := by
    rw [<- hat]
    exact ⟨rfl, rfl⟩
   refine ⟨t0, _, rfl, SqT.of upd_same, rfl, _, _, rfl, _, _, rfl, rfl, ?_⟩
   generalize upd G t0 (.tup [.int (i : Int), .int n]) = G1 at t ⊢
   rw [hnew.1, hnew.2]
   generalize (tabI ns i).1 = PT at *
   generalize (tabI ns i).2 = QT at *
   refine ⟨fun c σ G => ∃ (j : Nat) (R1 : List (List Int)) (y : Int) (c6 c7 : Option V), c = PT.length - j /\ j <= PT.length /\ σ = [some (.ref a), some (.ref p1), some (.ref p2), some (.int (i : Int)), some (.int y), some (.int (j : Int)), c6, c7] /\ TwoT H G p1 p2 zs1 zs2 (R1 ++ PT.drop j) QT /\ Bmp PT n j R1 y /\ y ∉ (PT.drop j).flatten, ⟨_, 0, [], n, _, _, rfl, Nat.zero_le _, rfl, t, bmp_0 PT n, hxF⟩, ?_⟩
   rintro c σ G ⟨j, R1, y, c6, c7, rfl, hj, rfl, t, bm, hy⟩
   have hzl := Paired.length t.l1
   have hzl1 : zs1.length = PT.length := by
    rw [hzl, List.length_append, bm.1, List.length_drop]
    (first | lia | omega)
   have hzl2 := Paired.length t.l2
   refine ⟨_, rfl, _, rfl, p1, _, rfl, .inl (SqL.of t.h1), _, _, rfl, rfl, _, rfl, ?_⟩
   by_cases hjl : j < PT.length
   ·rw [decide_eq_true (by rw [List.length_map, hzl1]; (first | lia | omega))]
    refine iteT ?_
    obtain ⟨r, hr1⟩ : ∃ r, PT[j]? = some r := ⟨_, List.getElem?_eq_getElem hjl⟩
    have hrm := List.mem_of_getElem? hr1
    have hRi : (R1 ++ PT.drop j)[j]? = some r := by
     rw [List.getElem?_append_right (by rw [bm.1]; exact Nat.le_refl _), bm.1, Nat.sub_self, drop_at hr1]
     rfl
    obtain ⟨z, hz, hzG⟩ := t.l1.at hRi
    have hyr : y ∉ r := fun h => hy (by rw [drop_at hr1, List.flatten_cons]; exact List.mem_append_left _ h)
    have hinc := (hrows r hrm).1
    have hrle := b3 r hrm
    have hix : atI (zs1.map V.ref) (j : Int) = some (.ref z) := atI_nat (by rw [List.getElem?_map, hz]; rfl)
    refine ⟨_, rfl, _, rfl, p1, _, _, .ref z, rfl, rfl, SqL.of t.h1, hix, z, rfl, ⟨_, SqL.of hzG⟩, ?_⟩
    refine lc_growB (yields_list (xs := r.map V.int)) (small1 (by rw [mapI_len]; (first | lia | omega))) (fun v => match v with | .int b => decide (b > y) | _ => false) (fun H' s' => SqL.of (s' _ _ hzG)) (fun x hx H' s' Q' q => ?_) fun acc G2 hacc s2 hG2 => ?_
    ·obtain ⟨b, _, rfl⟩ := List.mem_map.mp hx
     exact ⟨_, rfl, _, rfl, _, _, rfl, rfl, q _ (Same.refl _)⟩
    have eb : (r.map V.int).map (fun v => match v with | .int b => decide (b > y) | _ => false) = r.map fun b => decide (b > y) := by
     rw [List.map_map]
     rfl
    rw [eb] at hG2
    refine ⟨acc, _, rfl, hG2, _, rfl, ?_⟩
    have t2 := t.same s2
    have hz2 := s2 _ _ hzG
    clear hG2 s2 hzG t
    by_cases hcc : cntL r y = r.length
    ·have hany : (r.map fun b => decide (b > y)).any id = false := by
      cases e : (r.map fun b => decide (b > y)).any id with
      | false => rfl
      | true => exact absurd hcc ((any_gt hyr).mp e)
     rw [hany]
     refine iteF ?_
     refine ⟨_, rfl, _, rfl, p1, _, rfl, .inl (SqL.of t2.h1), rfl, _, rfl, ?_⟩
     rw [decide_eq_false (by rw [List.length_map, hzl1]; intro z; have := V.int.inj z; (first | lia | omega))]
     refine iteF ?_
     have hf := bm.fin hr1 hcc
     have ez : r.map V.int ++ [V.int y] = (r ++ [y]).map V.int := by rw [List.map_append]; rfl
     refine ⟨_, rfl, _, rfl, p1, _, _, .ref z, rfl, rfl, SqL.of t2.h1, hix, .inl ⟨rfl, _, SqL.of hz2⟩, _, rfl, z, _, _, rfl, rfl, hz2, small1 (by rw [mapI_len]; (first | lia | omega)), ?_⟩
     rw [ez]
     have t3 := t2.set1 (f := r ++ [y]) hz
     rw [drop_at hr1, set_mid bm.1] at t3
     obtain ⟨qr, hq⟩ : ∃ q, QT[j]? = some q := ⟨_, List.getElem?_eq_getElem (by (first | lia | omega))⟩
     obtain ⟨zq, hq1, hq2⟩ := t3.l2.at hq
     have hql := b4 qr (List.mem_of_getElem? hq)
     refine ⟨_, rfl, _, rfl, p2, _, _, .ref zq, rfl, rfl, SqL.of t3.h2, atI_nat (by rw [List.getElem?_map, hq1]; rfl), .inl ⟨rfl, _, SqL.of hq2⟩, _, rfl, zq, _, _, rfl, rfl, hq2, small1 (by rw [mapI_len]; (first | lia | omega)), ?_⟩
     have ez2 : qr.map V.int ++ [V.int (i : Int)] = (qr ++ [(i : Int)]).map V.int := by rw [List.map_append]; rfl
     rw [ez2]
     have t4 := (t3.swap.set1 (f := qr ++ [(i : Int)]) hq1).swap
     rw [<- add_set _ _ _ hq] at t4
     refine ⟨zs1, zs2, _, _, _, _, _, rfl, ?_⟩
     rw [hf]
     exact t4
    ·have hlt : cntL r y < r.length := by
      have := cntLe r y
      (first | lia | omega)
     rw [(any_gt hyr).mpr hcc]
     refine iteT ?_
     refine ⟨_, fun σ' H' h => h, ?_⟩
     refine ⟨_, rfl, _, rfl, p1, _, _, .ref z, rfl, rfl, SqL.of t2.h1, hix, .inl ⟨rfl, _, SqL.of hz2⟩, ?_⟩
     refine ⟨_, rfl, _, rfl, p1, _, _, .ref z, rfl, rfl, SqL.of t2.h1, hix, z, rfl, ⟨_, SqL.of hz2⟩, ?_⟩
     refine lc_pure (yields_list (xs := r.map V.int)) (small1 (by rw [mapI_len]; (first | lia | omega))) (fun v => match v with | .int b => decide (b > y) | _ => false) (fun v => v) (fun H' s' => SqL.of (s' _ _ hz2)) (fun x hx H' s' Q' q => ?_) (fun x hx _ H' s' Q' q => ⟨_, rfl, q⟩) fun acc2 hacc2 => ?_
     ·obtain ⟨b, _, rfl⟩ := List.mem_map.mp hx
      exact ⟨_, rfl, _, rfl, _, _, rfl, rfl, _, rfl, q⟩
     have ef : (((r.map V.int).filter fun v => match v with | .int b => decide (b > y) | _ => false).map fun v => v) = (r.filter fun a => decide (a > y)).map V.int := by
      rw [filt_int]
      exact List.map_id _
     rw [ef]
     have s3 := same_upd (o := .lst ((r.filter fun a => decide (a > y)).map V.int)) hacc2
     refine ⟨acc2, _, rfl, upd_same, ?_, fun MX hM1 hM2 => ?_⟩
     ·exact List.ne_nil_of_mem (List.mem_filter.mpr ⟨memD hlt, decide_eq_true (cntGt hinc hyr hlt)⟩)
     obtain ⟨eM, eI⟩ := min_cnt hinc hyr hlt hM1 hM2
     have t3 := t2.same s3
     have hz3 := s3 _ _ hz2
     refine ⟨z, r, MX, rfl, rfl, hz3, (List.mem_filter.mp hM1).1, by (first | lia | omega), ?_⟩
     rw [eI]
     clear s3 hacc2
     generalize upd _ acc2 (.lst ((r.filter fun a => decide (a > y)).map V.int)) = G3 at t3 hz3 ⊢
     have hat2 : atI (r.map V.int) ((cntL r y : Nat) : Int) = some (.int (r.getD (cntL r y) 0)) := by
      refine atI_nat ?_
      rw [List.getElem?_map, List.getElem?_eq_getElem hlt, List.getD_eq_getElem?_getD, List.getElem?_eq_getElem hlt]
      rfl
     refine ⟨_, rfl, _, rfl, p1, _, _, .ref z, rfl, rfl, SqL.of t3.h1, hix, _, rfl, z, _, _, _, rfl, rfl, SqL.of hz3, hat2, ?_⟩
     refine ⟨_, rfl, _, rfl, _, rfl, p1, _, _, .ref z, rfl, rfl, SqL.of t3.h1, hix, _, rfl, z, _, _, _, rfl, rfl, hz3, ixN_of (by (first | lia | omega)) (by (first | lia | omega)), ?_⟩
     rw [Int.toNat_natCast, <- List.map_set]
     have t4 := t3.set1 (f := r.set (cntL r y) y) hz
     rw [drop_at hr1, set_mid bm.1] at t4
     refine ⟨_, rfl, _, rfl, _, _, rfl, rfl, ?_⟩
     refine ⟨PT.length - (j + 1), by (first | lia | omega), j + 1, R1 ++ [r.set (cntL r y) y], r.getD (cntL r y) 0, _, _, rfl, by (first | lia | omega), rfl, ?_, bm.step hr1 hcc, ?_⟩
     ·rw [List.append_assoc]
      exact t4
     ·intro z
      have hsub : (r ++ (PT.drop (j + 1)).flatten).Sublist PT.flatten := by
       have e : PT.flatten = (PT.take j).flatten ++ (r ++ (PT.drop (j + 1)).flatten) := by
        rw [<- List.flatten_cons, <- drop_at hr1, <- List.flatten_append, List.take_append_drop]
       rw [e]
       exact List.sublist_append_right _ _
      exact (List.nodup_append.mp (hsub.nodup ndF)).2.2 _ (memD hlt) _ z rfl
   ·have hje : j = PT.length := by (first | lia | omega)
    subst hje
    rw [decide_eq_false (by rw [List.length_map, hzl1]; (first | lia | omega))]
    refine iteF (iteF ?_)
    have hf := bm.last
    rw [List.drop_length, List.append_nil] at t
    refine ⟨_, rfl, _, rfl, p1, _, rfl, .inl (SqL.of t.h1), rfl, _, rfl, ?_⟩
    rw [decide_eq_true (by rw [List.length_map, hzl1])]
    refine iteT ?_
    refine ⟨_, rfl, .inl ⟨rfl, _, SqL.of t.h1⟩, Nat.zero_le _, fun l hl => ?_⟩
    refine ⟨p1, _, _, rfl, rfl, same_upd hl _ _ t.h1, small1 (by rw [List.length_map]; (first | lia | omega)), ?_⟩
    have t2 : TwoT H (upd (upd G l (.lst [])) p1 (.lst ((zs1 ++ [l]).map V.ref))) p1 p2 (zs1 ++ [l]) zs2 (R1 ++ [[]]) QT := t.app1 (f := []) hl
    have ez : zs1.map V.ref ++ [V.ref l] = (zs1 ++ [l]).map V.ref := by rw [List.map_append]; rfl
    rw [ez]
    generalize upd (upd G l (.lst [])) p1 (.lst ((zs1 ++ [l]).map V.ref)) = G2 at t2 ⊢
    refine ⟨_, rfl, .inl ⟨rfl, _, SqL.of t2.h2⟩, Nat.zero_le _, fun l2 hl2 => ?_⟩
    refine ⟨p2, _, _, rfl, rfl, same_upd hl2 _ _ t2.h2, small1 (by rw [List.length_map]; (first | lia | omega)), ?_⟩
    have t3 : TwoT H (upd (upd G2 l2 (.lst [])) p2 (.lst ((zs2 ++ [l2]).map V.ref))) p1 p2 (zs1 ++ [l]) (zs2 ++ [l2]) (R1 ++ [[]]) (QT ++ [[]]) := (t2.swap.app1 (f := []) hl2).swap
    have ez2 : zs2.map V.ref ++ [V.ref l2] = (zs2 ++ [l2]).map V.ref := by rw [List.map_append]; rfl
    rw [ez2]
    generalize upd (upd G2 l2 (.lst [])) p2 (.lst ((zs2 ++ [l2]).map V.ref)) = G3 at t3 ⊢
    have hb := bm.1
    have r1 : (R1 ++ [[]])[PT.length]? = some [] := by rw [<- hb]; simp
    obtain ⟨za, ha1, ha2⟩ := t3.l1.at r1
    refine ⟨_, rfl, _, rfl, p1, _, _, .ref za, rfl, rfl, SqL.of t3.h1, atI_nat (by rw [List.getElem?_map, ha1]; rfl), .inl ⟨rfl, _, SqL.of ha2⟩, _, rfl, za, _, _, rfl, rfl, ha2, by show 0 < sizeLine; decide, ?_⟩
    have t4 : TwoT H (upd G3 za (.lst ([y].map V.int))) p1 p2 (zs1 ++ [l]) (zs2 ++ [l2]) ((R1 ++ [[]]).set PT.length [y]) (QT ++ [[]]) := t3.set1 ha1
    have e4 : (R1 ++ [[]]).set PT.length [y] = R1 ++ [[y]] := by rw [<- hb]; simp
    rw [e4] at t4
    show (fun G4 => _) (upd G3 za (.lst ([y].map V.int)))
    generalize upd G3 za (.lst ([y].map V.int)) = G4 at t4 ⊢
    have r2 : (QT ++ [[]])[PT.length]? = some [] := by rw [<- hlen]; simp
    obtain ⟨zb, hb1, hb2⟩ := t4.l2.at r2
    refine ⟨_, rfl, _, rfl, p2, _, _, .ref zb, rfl, rfl, SqL.of t4.h2, atI_nat (by rw [List.getElem?_map, hb1]; rfl), .inl ⟨rfl, _, SqL.of hb2⟩, _, rfl, zb, _, _, rfl, rfl, hb2, by show 0 < sizeLine; decide, ?_⟩
    have t5 : TwoT H (upd G4 zb (.lst ([(i : Int)].map V.int))) p1 p2 (zs1 ++ [l]) (zs2 ++ [l2]) (R1 ++ [[y]]) ((QT ++ [[]]).set PT.length [(i : Int)]) := (t4.swap.set1 hb1).swap
    have e5 : (QT ++ [[]]).set PT.length [(i : Int)] = addAt QT PT.length i := by rw [<- hlen, add_last]; simp
    rw [e5] at t5
    refine ⟨zs1 ++ [l], zs2 ++ [l2], _, _, _, _, _, rfl, ?_⟩
    rw [hf]
    exact t5
  ·rintro σ G ⟨zs1, zs2, c3, c4, c5, c6, c7, rfl, t⟩
   rw [mapI_len, ln] at t
   obtain ⟨b1, b2, _⟩ := bnd m (Nat.le_refl _)
   have hzl1 := Paired.length t.l1
   have hzl2 := Paired.length t.l2
   have sp : ∀ {zs : List Addr} {R : List (List Int)} {p : Addr} {G : Hp} {te : TE} {σ : L2.St} {Q' : VK}, G p = some (.lst (zs.map V.ref)) -> LsAt G zs R -> R.length <= 60 -> (∀ q ys G', Same G G' -> G' q = some (.lst (ys.map V.ref)) -> RowsAt G' ys R -> Q' (.ref q) G') -> (∀ (z : Addr) (f : List Int) (G' : Hp) (QQ : VK), G' z = some (.lst (f.map V.int)) -> (∀ l, G' l = none -> QQ (.ref l) (upd G' l (.tup (f.map V.int)))) -> te (some (.ref z) :: [].map fun i => σ.getD i none) G' QQ) -> LcW (Itl K p) G (gName 0) tNoTest te 1 [] σ Q' := by
    intro zs R p G te σ Q' hp LA hl hq hte
    refine lc_grow (yields_list (xs := zs.map V.ref)) (small1 (by rw [List.length_map, Paired.length LA]; (first | lia | omega))) (fun x v G' => RTup G x v G') (fun x v G' G'' st h => ?_) (fun G' s' => SqL.of (s' _ _ hp)) (fun x hx G' s' QQ q' => ?_) fun acc vs G' hacc sG hG PV => ?_
    ·obtain ⟨z, t, f, e1, e2, e3, e4⟩ := h
     exact ⟨z, t, f, e1, e2, e3, st _ _ e4⟩
    ·obtain ⟨z, hz, rfl⟩ := List.mem_map.mp hx
     obtain ⟨j, hj⟩ := List.getElem?_of_mem hz
     obtain ⟨r, hr1, hr2⟩ := prd_get LA hj
     exact hte z r G' QQ (s' _ _ hr2) fun l hl' => q' _ _ (same_upd hl') ⟨z, l, r, rfl, rfl, hr2, upd_same⟩
    ·obtain ⟨ts, rfl, RT⟩ := rtup_rows LA PV
     exact hq acc ts G' sG hG RT
   refine ⟨_, rfl, p1, rfl, ⟨_, SqL.of t.h1⟩, ?_⟩
   refine sp t.h1 t.l1 b1 (fun q1 ys1 G1 u1 hq1 R1 => ?_) (fun z f G' QQ hz hQ => ⟨_, rfl, z, _, rfl, .inl ⟨SqL.of hz, hQ⟩⟩)
   refine ⟨q1, _, rfl, .inl ⟨SqL.of hq1, fun r1 hr1 => ?_⟩⟩
   have v1 := same_upd (o := .tup (ys1.map V.ref)) hr1
   have t1 := (t.same u1).same v1
   refine ⟨_, rfl, p2, rfl, ⟨_, SqL.of t1.h2⟩, ?_⟩
   refine sp t1.h2 t1.l2 b2 (fun q2 ys2 G2 u2 hq2 R2 => ?_) (fun z f G' QQ hz hQ => ⟨_, rfl, z, _, rfl, .inl ⟨SqL.of hz, hQ⟩⟩)
   refine ⟨q2, _, rfl, .inl ⟨SqL.of hq2, fun r2 hr2 => ?_⟩⟩
   have v2 := same_upd (o := .tup (ys2.map V.ref)) hr2
   refine ⟨by show 2 <= sizeLine; decide, fun tt htt => ?_⟩
   have u3 := same_upd (o := .tup [.ref r1, .ref r2]) htt
   have W := (u2.trans v2).trans u3
   exact k tt r1 r2 ys1 ys2 _ (((t.sm.trans u1).trans v1).trans W) upd_same (W _ _ upd_same) (((R1.same v1)).same W) (u3 _ _ upd_same) ((R2.same v2).same u3)
end
end K60
namespace L2
open PySem PySem.Spec PyProof.Rows
theorem wh_int {S : Addr -> Prop} {H : Hp} {x : V} {d : PyData} (h : IsY S H x d) : isIv x = whD d := by
 cases h <;> rfl
end L2
namespace K60
open PySem PySem.Spec PyProof.Rows L2
noncomputable abbrev s_is_whole : Stmt := top 1
noncomputable abbrev s_are_wholes : Stmt := top 2
noncomputable abbrev s_are_rising : Stmt := top 3
noncomputable abbrev s__law_whole : Stmt := top 17
section
variable {P : Program} {w : World} {K : PySem.W.Frag} {mg : Str -> Option Value} {base : Heap}
theorem sc_is_whole : FnScope ["thing"] ["thing"] (defScope s_is_whole) := ⟨rfl, rfl, rfl, by decide +kernel, rfl, by decide +kernel, by decide +kernel⟩
set_option maxHeartbeats 8000000 in
theorem ok_is_whole {f : Addr} {fd : FuncData} (F : Fun K "is_whole" "is_whole" s_is_whole f fd) (T : Top mg) : FnOk P w K mg base CX0 1 f fd ["thing"] (spWhA K) := by
 refine F.ok sc_is_whole (fun vs H Q E h => ?_) (fun cdv A outer s H vs Q E hr h => ?_)
 ·obtain ⟨x, rfl, _⟩ := h
  rfl
 ·obtain ⟨x, rfl, ⟨t, ht, hm⟩, k⟩ := h
  refine ⟨_, (pss_one (ps_ret (pe_and (pe_callB call_isi (by rfl) T.n_isinstance boot_isinstance (pa_cons (pv 0) (pa_cons (pe_bltn (v := .ty "int") rfl T.n_int boot_int rfl) pa_nil))) (pe_one (pe_not (pe_callB call_isi (by rfl) T.n_isinstance boot_isinstance (pa_cons (pv 0) (pa_cons (pe_bltn (v := .ty "bool") rfl T.n_bool boot_bool rfl) pa_nil)))))))), ?_⟩
  obtain ⟨k1, k2, _⟩ := kit7 (K := K) hm
  have hi := (tyI ht).trans isIv_iff.symm
  refine ⟨_, rfl, _, _, _, _, rfl, ht, k1, _, rfl, ?_⟩
  by_cases hb : t = "bool"
  ·subst hb
   refine iteT ⟨_, rfl, _, _, _, _, rfl, ht, k2, _, rfl, ?_⟩
   have : isIv x = false := by
    cases e : isIv x with
    | false => rfl
    | true => exact absurd (hi.mpr e) (by decide)
   rw [this] at k
   exact k
  ·by_cases hI : t = "int"
   ·subst hI
    refine iteT ⟨_, rfl, _, _, _, _, rfl, ht, k2, _, rfl, ?_⟩
    rw [hi.mp rfl] at k
    exact k
   ·have e0 : (t == "bool" || t == "int") = false := by
     rw [beq_eq_false_iff_ne.mpr hb, beq_eq_false_iff_ne.mpr hI]
     rfl
    have : isIv x = false := by
     cases e : isIv x with
     | false => rfl
     | true => exact absurd (hi.mpr e) hI
    rw [this] at k
    rw [e0]
    exact iteF k
theorem sc__law_whole : FnScope ["_law_thing"] ["_law_thing"] (defScope s__law_whole) := ⟨rfl, rfl, rfl, by decide +kernel, rfl, by decide +kernel, by decide +kernel⟩
set_option maxHeartbeats 8000000 in
theorem ok__law_whole {f : Addr} {fd : FuncData} (F : Fun K "_law_whole" "_law_whole" s__law_whole f fd) (T : Top mg) : FnOk P w K mg base CX0 1 f fd ["_law_thing"] (spWhA K) := by
 refine F.ok sc__law_whole (fun vs H Q E h => ?_) (fun cdv A outer s H vs Q E hr h => ?_)
 ·obtain ⟨x, rfl, _⟩ := h
  rfl
 ·obtain ⟨x, rfl, ⟨t, ht, hm⟩, k⟩ := h
  refine ⟨_, (pss_one (ps_ret (pe_and (pe_callB call_isi (by rfl) T.n_isinstance boot_isinstance (pa_cons (pv 0) (pa_cons (pe_bltn (v := .ty "int") rfl T.n_int boot_int rfl) pa_nil))) (pe_one (pe_not (pe_callB call_isi (by rfl) T.n_isinstance boot_isinstance (pa_cons (pv 0) (pa_cons (pe_bltn (v := .ty "bool") rfl T.n_bool boot_bool rfl) pa_nil)))))))), ?_⟩
  obtain ⟨k1, k2, _⟩ := kit7 (K := K) hm
  have hi := (tyI ht).trans isIv_iff.symm
  refine ⟨_, rfl, _, _, _, _, rfl, ht, k1, _, rfl, ?_⟩
  by_cases hb : t = "bool"
  ·subst hb
   refine iteT ⟨_, rfl, _, _, _, _, rfl, ht, k2, _, rfl, ?_⟩
   have : isIv x = false := by
    cases e : isIv x with
    | false => rfl
    | true => exact absurd (hi.mpr e) (by decide)
   rw [this] at k
   exact k
  ·by_cases hI : t = "int"
   ·subst hI
    refine iteT ⟨_, rfl, _, _, _, _, rfl, ht, k2, _, rfl, ?_⟩
    rw [hi.mp rfl] at k
    exact k
   ·have e0 : (t == "bool" || t == "int") = false := by
     rw [beq_eq_false_iff_ne.mpr hb, beq_eq_false_iff_ne.mpr hI]
     rfl
    have : isIv x = false := by
     cases e : isIv x with
     | false => rfl
     | true => exact absurd (hi.mpr e) hI
    rw [this] at k
    rw [e0]
    exact iteF k
theorem sc_are_wholes : FnScope ["thing"] ["thing"] (defScope s_are_wholes) := ⟨rfl, rfl, rfl, by decide +kernel, rfl, by decide +kernel, by decide +kernel⟩
set_option maxHeartbeats 8000000 in
theorem ok_are_wholes {f : Addr} {fd : FuncData} (F : Fun K "are_wholes" "are_wholes" s_are_wholes f fd) (T : Top mg) (Cis_whole : Cal P w K mg base 1 "is_whole" ["thing"] (spWhA K)) : FnOk P w K mg base CX0 2 f fd ["thing"] spWhsD := by
 refine F.ok sc_are_wholes (fun vs H Q E h => ?_) (fun cdv A outer s H vs Q E hr h => ?_)
 ·obtain ⟨S, x, d, rfl, _⟩ := h
  rfl
 ·obtain ⟨S, x, d, rfl, y, sz, k⟩ := h
  refine ⟨_, (pss_one (ps_ret (pe_and (pe_callB call_isi (by rfl) T.n_isinstance boot_isinstance (pa_cons (pv 0) (pa_cons (pe_bltn (v := .ty "tuple") rfl T.n_tuple boot_tuple rfl) pa_nil))) (pe_one (pe_callB (call_all rfl) (by rfl) T.n_all boot_all (pa_cons (pe_lc (N' := ["number"]) (n := 1) (ix := []) rfl (CompScope.of (sc := defScope s_are_wholes) (N := ["thing"]) (by decide +kernel) rfl rfl) (pi_tup (pv 0)) (fun _ _ _ _ _ => ⟨(pg_name (i := 0) (show (["number"] : List Str).Nodup by decide +kernel) rfl (Or.inl rfl)), pts_nil, (pe_cal Cis_whole (hr.mono (by decide)) rfl (pa_cons (pv 0) pa_nil))⟩)) pa_nil)))))), ?_⟩
  obtain ⟨_, _, k3⟩ := kit7 (K := K) (tyD_in d)
  refine ⟨_, rfl, _, _, _, _, rfl, y.ty, k3, _, rfl, ?_⟩
  rcases y.isT with ⟨a, vs, ds, rfl, rfl, ha, al⟩ | ⟨hne, hn⟩
  ·refine iteT ?_
   refine ⟨_, rfl, a, rfl, ⟨_, SqT.of ha⟩, ?_⟩
   have hl : vs.length <= 1000 := by rw [al.len]; exact sz.tup.1
   refine lc_growI (yields_tup (K := K) (a := a) (xs := vs)) (small1 hl) (ds.map whD) (by rw [List.length_map, al.len]) (fun G sm => SqT.of (sm _ _ ha)) (fun i v b G hv hb sm Q' q => ?_) fun acc G hacc sm hG => ?_
   ·obtain ⟨e, he, ye⟩ := al.at hv
    rw [List.getElem?_map, he] at hb
    cases hb
    refine ⟨_, rfl, v, rfl, (ye.same sm).kn, ?_⟩
    rw [wh_int ye]
    exact q G (Same.refl G)
   ·refine ⟨acc, _, rfl, hG, ?_⟩
    have := k G sm
    rw [show wholesD (.tuple ds) = (ds.map whD).all id by rw [List.all_map]; rfl] at this
    exact this
  ·rw [beq_eq_false_iff_ne.mpr hne]
   refine iteF ?_
   have := k H (Same.refl H)
   rw [show wholesD d = false by cases d <;> first | rfl | exact absurd rfl (hn _)] at this
   exact this
theorem sc_are_rising : FnScope ["numbers"] ["numbers"] (defScope s_are_rising) := ⟨rfl, rfl, rfl, by decide +kernel, rfl, by decide +kernel, by decide +kernel⟩
set_option maxHeartbeats 8000000 in
theorem ok_are_rising {f : Addr} {fd : FuncData} (F : Fun K "are_rising" "are_rising" s_are_rising f fd) (T : Top mg) : FnOk P w K mg base CX0 1 f fd ["numbers"] spRisL := by
 refine F.ok sc_are_rising (fun vs H Q E h => ?_) (fun cdv A outer s H vs Q E hr h => ?_)
 ·obtain ⟨a, ns, rfl, _⟩ := h
  rfl
 ·obtain ⟨a, ns, rfl, ha, hl, k⟩ := h
  refine ⟨_, (pss_one (ps_ret (pe_callB (call_all rfl) (by rfl) T.n_all boot_all (pa_cons (pe_lc (N' := ["ahead", "behind"]) (n := 2) (ix := []) rfl (CompScope.of (sc := defScope s_are_rising) (N := ["numbers"]) (by decide +kernel) rfl rfl) (pi_zipT rfl T.n_zip (pa_cons (pv 0) (pa_cons (pe_slice sl_tupA (pv 0) (po_some pe_int) po_none) pa_nil))) (fun _ _ _ _ _ => ⟨(pg_pairK K (i := 0) (j := 1) rfl rfl (show (["ahead", "behind"] : List Str).Nodup by decide +kernel) rfl rfl (Or.inl rfl) (Or.inl rfl) (Or.inr rfl) (Or.inr rfl)), pts_nil, (pe_cmpR op_lt (pv 0) (pv 1) (nomark _))⟩)) pa_nil)))), ?_⟩
  refine ⟨_, rfl, _, rfl, 1, rfl, a, _, rfl, ha, fun b H1 s1 hb => ⟨a, b, rfl, ⟨_, SqT.of (s1 _ _ ha)⟩, ⟨_, SqT.of hb⟩, ?_⟩⟩
  rw [cut_tailY] at hb
  refine lc_zip (xs := ns.map V.int) (ys := (ns.drop 1).map V.int) (fun s' => SqT.of (s' _ _ (s1 _ _ ha))) (fun s' => SqT.of (s' _ _ hb)) (by rw [List.length_zip, mapI_len]; (first | lia | omega)) (fun _ => true) (fun p => .bl (ltP p)) (fun _ _ _ _ _ q => q) (fun xy hxy _ H' s' Q' q => ?_) fun acc H' hacc s' hl' => ?_
  ·obtain ⟨x, y⟩ := xy
   obtain ⟨u, _, rfl⟩ := List.mem_map.mp (List.of_mem_zip hxy).1
   obtain ⟨v, _, rfl⟩ := List.mem_map.mp (List.of_mem_zip hxy).2
   exact ⟨_, rfl, _, rfl, _, _, rfl, rfl, q⟩
  rw [filter_true] at hl'
  refine ⟨acc, (((ns.map V.int).zip ((ns.drop 1).map V.int)).map ltP), rfl, by rw [hl', List.map_map]; rfl, ?_⟩
  rw [risL_zip]
  exact k _ (s1.trans s')
end
end K60
namespace L2
open PySem PySem.Spec PyProof.Rows
noncomputable def itemsT (H : Hp) : V -> List V
 | .ref c => match H c with
  | some (.tup ys) => ys
  | _ => []
 | _ => []
theorem itemsT_at {H : Hp} {c : Addr} {ys : List V} (h : H c = some (.tup ys)) : itemsT H (.ref c) = ys := by
 simp only [itemsT, h]
theorem pairs_flat {H : Hp} {xs : List V} : ∀ {vs : List V}, Paired (fun (xy : V × V) v => v = xy.2) (pairs2 xs (itemsT H) fun _ _ => true) vs -> vs = xs.flatMap (itemsT H) := by
 have e : (pairs2 xs (itemsT H) fun _ _ => true).map (·.2) = xs.flatMap (itemsT H) := by
  unfold pairs2
  rw [List.map_flatMap]
  congr 1
  funext x
  rw [List.map_map, List.filter_eq_self.mpr (fun _ _ => rfl)]
  exact List.map_id _
 intro vs h
 rw [<- e]
 generalize pairs2 xs (itemsT H) (fun _ _ => true) = L at h
 clear e
 induction h with
 | nil => rfl
 | cons r _ ih => rw [r, ih]; rfl
theorem rows_flat {S : Addr -> Prop} {H : Hp} : ∀ {vs : List V} {ds : List PyData}, IsAllY S H vs ds -> ds.all rowT = true -> vs.flatMap (itemsT H) = (ds.map numsD).flatten.map V.int
 | _, _, .nil, _ => rfl
 | _, _, .cons (v := v) (vs := vs) (d := d) (ds := ds) y t, h => by
  rw [List.all_cons, Bool.and_eq_true] at h
  obtain ⟨c, rfl, hc⟩ := row_at y h.1
  rw [List.flatMap_cons, rows_flat t h.2, itemsT_at hc, List.map_cons, List.flatten_cons, List.map_append]
theorem cutTailV (xs : List V) : cutV xs (some 1) none = xs.drop 1 := by
 unfold cutV
 rw [show (1 : Int) = ((1 : Nat) : Int) from rfl, HT.sIx_nat, HT.sIx_none]
 cases xs with
 | nil => rfl
 | cons x t => rw [Nat.min_eq_left (by simp), List.take_of_length_le (by simp)]
theorem prs_zip : ∀ l : List (List Int), ((l.zip (l.drop 1)).map fun p => aboveL p.1 p.2).all id = prsL l
 | [] => rfl
 | [_] => rfl
 | a :: b :: r => by
  have := prs_zip (b :: r)
  simp only [List.drop_succ_cons, List.drop_zero, List.zip_cons_cons, List.map_cons, List.all_cons, prsL, id] at this ⊢
  rw [this]
theorem pi_tupKK {X : Cx} {tg l : Expr} {tl : TE} (K : PySem.W.Frag) (hK : X.K = K) (hl : PE X l tl) : PI X tg l (iTup K tl) := hK ▸ pi_tup hl
theorem eqv_numsT {ns ms : List Int} : PyData.eqv (.list (ns.map PyData.int)) (.list (ms.map PyData.int)) = decide (ns = ms) := by
 show PyData.eqvAll _ _ = _
 rw [eqv_ints]
end L2
namespace K60
open PySem PySem.Spec PyProof.Rows L2
noncomputable abbrev s_is_table : Stmt := top 5
noncomputable abbrev s_is_table_row : Stmt := top 6
noncomputable abbrev s_stands_above : Stmt := top 7
section
variable {P : Program} {w : World} {K : PySem.W.Frag} {mg : Str -> Option Value} {base : Heap}
theorem sc_is_table_row : FnScope ["thing"] ["thing"] (defScope s_is_table_row) := ⟨rfl, rfl, rfl, by decide +kernel, rfl, by decide +kernel, by decide +kernel⟩
theorem ok_is_table_row {f : Addr} {fd : FuncData} (F : Fun K "is_table_row" "is_table_row" s_is_table_row f fd) (T : Top mg) (Care_wholes : Cal P w K mg base 2 "are_wholes" ["thing"] spWhsD) (Care_rising : Cal P w K mg base 1 "are_rising" ["numbers"] spRisL) : FnOk P w K mg base CX0 3 f fd ["thing"] spRowT := by
 refine F.ok sc_is_table_row (fun vs H Q E h => ?_) (fun cdv A outer s H vs Q E hr h => ?_)
 ·obtain ⟨S, x, d, rfl, _⟩ := h
  rfl
 ·obtain ⟨S, x, d, rfl, y, sz, k⟩ := h
  refine ⟨_, (pss_one (ps_ret (pe_and (pe_cal Care_wholes (hr.mono (by decide)) rfl (pa_cons (pv 0) pa_nil)) (pe_and (pe_cmpR op_gt (pe_callB call_len_seq (by rfl) T.n_len PySem.boot_len (pa_cons (pv 0) pa_nil)) pe_int (nomark _)) (pe_one (pe_cal Care_rising (hr.mono (by decide)) rfl (pa_cons (pv 0) pa_nil))))))), ?_⟩
  refine ⟨_, rfl, S, x, d, rfl, y, sz, fun H1 s1 => ⟨_, rfl, ?_⟩⟩
  have k' := k
  cases y with
  | tup ha al =>
   rename_i a us es
   have er : rowT (.tuple es) = (es.all whD && (decide (0 < es.length) && risL (es.map asI))) := rfl
   have ew : wholesD (.tuple es) = es.all whD := rfl
   rw [ew]
   cases hw : es.all whD with
   | false =>
    refine iteF ?_
    have := k H1 s1
    rw [er, hw] at this
    exact this
   | true =>
    have ha1 := s1 _ _ ha
    have hv := ints_of al hw
    refine iteT ⟨_, rfl, a, _, rfl, .inr (SqT.of ha1), _, _, rfl, rfl, _, rfl, ?_⟩
    rw [al.len]
    by_cases h0 : 0 < es.length
    ·rw [decide_eq_true (show ((es.length : Nat) : Int) > 0 by (first | lia | omega))]
     refine iteT ⟨_, rfl, a, es.map asI, rfl, by rw [ha1, hv], by rw [List.length_map]; exact sz.tup.1, fun H2 s2 => ?_⟩
     have := k H2 (s1.trans s2)
     rw [er, hw, decide_eq_true h0] at this
     exact this
    ·rw [decide_eq_false (show ¬ ((es.length : Nat) : Int) > 0 by (first | lia | omega))]
     refine iteF ?_
     have := k H1 s1
     rw [er, hw, decide_eq_false h0] at this
     exact this
  | _ => exact iteF (k H1 s1)
theorem sc_stands_above : FnScope ["row", "below"] ["row", "below"] (defScope s_stands_above) := ⟨rfl, rfl, rfl, by decide +kernel, rfl, by decide +kernel, by decide +kernel⟩
theorem ok_stands_above {f : Addr} {fd : FuncData} (F : Fun K "stands_above" "stands_above" s_stands_above f fd) (T : Top mg) : FnOk P w K mg base CX0 1 f fd ["row", "below"] spAboveT := by
 refine F.ok sc_stands_above (fun vs H Q E h => ?_) (fun cdv A outer s H vs Q E hr h => ?_)
 ·obtain ⟨a, b, ns, ms, rfl, _⟩ := h
  rfl
 ·obtain ⟨a, b, ns, ms, rfl, ha, hb, ln, lm, k⟩ := h
  refine ⟨_, (pss_one (ps_ret (pe_and (pe_cmpR op_le (pe_callB call_len_seq (by rfl) T.n_len PySem.boot_len (pa_cons (pv 1) pa_nil)) (pe_callB call_len_seq (by rfl) T.n_len PySem.boot_len (pa_cons (pv 0) pa_nil)) (nomark _)) (pe_one (pe_callB (call_all rfl) (by rfl) T.n_all boot_all (pa_cons (pe_lc (N' := ["number", "lower"]) (n := 2) (ix := []) rfl (CompScope.of (sc := defScope s_stands_above) (N := ["row", "below"]) (by decide +kernel) rfl rfl) (pi_zipT rfl T.n_zip (pa_cons (pv 0) (pa_cons (pv 1) pa_nil))) (fun _ _ _ _ _ => ⟨(pg_pairK K (i := 0) (j := 1) rfl rfl (show (["number", "lower"] : List Str).Nodup by decide +kernel) rfl rfl (Or.inl rfl) (Or.inl rfl) (Or.inr rfl) (Or.inr rfl)), pts_nil, (pe_cmpR op_lt (pv 0) (pv 1) (nomark _))⟩)) pa_nil)))))), ?_⟩
  refine ⟨_, rfl, b, _, rfl, .inr (SqT.of hb), _, rfl, a, _, rfl, .inr (SqT.of ha), _, _, rfl, rfl, _, rfl, ?_⟩
  rw [mapI_len, mapI_len]
  have ea : aboveL ns ms = (decide (ms.length <= ns.length) && ltL ns ms) := rfl
  by_cases c : ms.length <= ns.length
  ·rw [decide_eq_true (show ((ms.length : Nat) : Int) <= (ns.length : Int) by (first | lia | omega))]
   refine iteT ⟨_, rfl, _, rfl, a, b, rfl, ⟨_, SqT.of ha⟩, ⟨_, SqT.of hb⟩, ?_⟩
   refine lc_zip (xs := ns.map V.int) (ys := ms.map V.int) (fun s' => SqT.of (s' _ _ ha)) (fun s' => SqT.of (s' _ _ hb)) (by rw [List.length_zip, mapI_len]; (first | lia | omega)) (fun _ => true) (fun p => .bl (ltP p)) (fun _ _ _ _ _ q => q) (fun xy hxy _ H' s' Q' q => ?_) fun acc H' hacc s' hl' => ?_
   ·obtain ⟨x, y⟩ := xy
    obtain ⟨u, _, rfl⟩ := List.mem_map.mp (List.of_mem_zip hxy).1
    obtain ⟨v, _, rfl⟩ := List.mem_map.mp (List.of_mem_zip hxy).2
    exact ⟨_, rfl, _, rfl, _, _, rfl, rfl, q⟩
   rw [List.filter_eq_self.mpr (fun _ _ => rfl)] at hl'
   refine ⟨acc, (((ns.map V.int).zip (ms.map V.int)).map ltP), rfl, by rw [hl', List.map_map]; rfl, ?_⟩
   rw [ltL_zip]
   have := k _ s'
   rw [ea, decide_eq_true c] at this
   exact this
  ·rw [decide_eq_false (show ¬ ((ms.length : Nat) : Int) <= (ns.length : Int) by (first | lia | omega))]
   refine iteF ?_
   have := k _ (Same.refl H)
   rw [ea, decide_eq_false c] at this
   exact this
theorem sc_is_table : FnScope ["thing", "numbers"] ["thing"] (defScope s_is_table) := ⟨rfl, rfl, rfl, by decide +kernel, rfl, by decide +kernel, by decide +kernel⟩
set_option maxHeartbeats 8000000 in
theorem ok_is_table {f : Addr} {fd : FuncData} (F : Fun K "is_table" "is_table" s_is_table f fd) (T : Top mg) (Cis_table_row : Cal P w K mg base 3 "is_table_row" ["thing"] spRowT) (Cstands_above : Cal P w K mg base 1 "stands_above" ["row", "below"] spAboveT) : FnOk P w K mg base CX0 4 f fd ["thing"] spTabD := by
 refine F.ok sc_is_table (fun vs H Q E h => ?_) (fun cdv A outer s H vs Q E hr h => ?_)
 ·obtain ⟨S, x, d, rfl, _⟩ := h
  rfl
 ·obtain ⟨S, x, d, rfl, y, sz, k⟩ := h
  have hu : _ := hr.units
  refine ⟨_, (pss_cons (ps_if (PW.pt (pw_or (pt_not (pt_val (pe_callB call_isi (by rfl) T.n_isinstance boot_isinstance (pa_cons (pv 0) (pa_cons (pe_bltn (v := .ty "tuple") rfl T.n_tuple boot_tuple rfl) pa_nil))))) (pw_or1 (pt_not (pt_val (pe_callB (call_all rfl) (by rfl) T.n_all boot_all (pa_cons (pe_lc (N' := ["row"]) (n := 1) (ix := []) rfl (CompScope.of (sc := defScope s_is_table) (N := ["thing", "numbers"]) (by decide +kernel) rfl rfl) (pi_tup (pv 0)) (fun _ _ _ _ _ => ⟨(pg_name (i := 0) (show (["row"] : List Str).Nodup by decide +kernel) rfl (Or.inl rfl)), pts_nil, (pe_cal Cis_table_row (hr.mono (by decide)) rfl (pa_cons (pv 0) pa_nil))⟩)) pa_nil)))))))
    (pss_one (ps_ret pe_bl))
    pss_nil)
   (pss_cons (ps_if (pt_not (pt_val (pe_callB (call_all rfl) (by rfl) T.n_all boot_all (pa_cons (pe_lc (N' := ["row", "below"]) (n := 2) (ix := []) rfl (CompScope.of (sc := defScope s_is_table) (N := ["thing", "numbers"]) (by decide +kernel) rfl rfl) (pi_zipT rfl T.n_zip (pa_cons (pv 0) (pa_cons (pe_slice sl_tupA (pv 0) (po_some pe_int) po_none) pa_nil))) (fun _ _ _ _ _ => ⟨(pg_pairK K (i := 0) (j := 1) rfl rfl (show (["row", "below"] : List Str).Nodup by decide +kernel) rfl rfl (Or.inl rfl) (Or.inl rfl) (Or.inr rfl) (Or.inr rfl)), pts_nil, (pe_cal Cstands_above (hr.mono (by decide)) rfl (pa_cons (pv 0) (pa_cons (pv 1) pa_nil)))⟩)) pa_nil))))
    (pss_one (ps_ret pe_bl))
    pss_nil)
   (pss_cons (ps_lcset2 (i := 1) rfl sc_is_table.nd rfl rfl (N' := ["row", "number"]) (n := 2) (ix := []) rfl (CompScope.of (sc := defScope s_is_table) (N := ["thing", "numbers"]) (by decide +kernel) rfl rfl) (pi_tup (pv 0)) (fun _ _ _ _ _ => ⟨(pg_name (i := 0) (show (["row", "number"] : List Str).Nodup by decide +kernel) rfl (Or.inl rfl)), pts_nil, (pi_tupKK K rfl (pv 0)), (pg_name (i := 1) (show (["row", "number"] : List Str).Nodup by decide +kernel) rfl (Or.inl rfl)), pts_nil, (pv 1)⟩))
   (pss_one (ps_ret (pe_cmpR (op_eqD hu) (pe_callB call_sortedN (by rfl) T.n_sorted boot_sorted (pa_cons (pv 1) pa_nil)) (pe_callTy (call_list_rng rfl) (by rfl) T.n_list boot_list (pa_cons (pe_callTy call_range1 (by rfl) T.n_range boot_range (pa_cons (pe_callB call_len_seq (by rfl) T.n_len PySem.boot_len (pa_cons (pv 1) pa_nil)) pa_nil)) pa_nil)) (nomark _))))))), ?_⟩
  obtain ⟨kA, kB, k3⟩ := kit7 (K := K) (tyD_in d)
  refine ⟨_, rfl, _, _, _, _, rfl, y.ty, k3, _, rfl, ?_⟩
  rcases y.isT with ⟨a, us, ds, rfl, rfl, ha, al⟩ | ⟨hne, hn⟩
  rotate_left
  ·rw [beq_eq_false_iff_ne.mpr hne]
   have := k H (Same.refl H)
   rw [show tabD d = false by cases d <;> first | rfl | exact absurd rfl (hn _)] at this
   exact iteT (iteT this)
  refine iteF ?_
  have szd := sz.tup
  have lu : us.length = ds.length := al.len
  refine ⟨_, rfl, a, rfl, ⟨_, SqT.of ha⟩, ?_⟩
  refine lc_growI (yields_tup (K := K) (a := a) (xs := us)) (small1 (by rw [lu]; exact szd.1)) (ds.map rowT) (by rw [List.length_map, lu]) (fun G sm => SqT.of (sm _ _ ha)) (fun i v b G hv hb sm Q' q => ?_) fun acc G hacc sm hG => ?_
  ·obtain ⟨e, he, ye⟩ := al.at hv
   rw [List.getElem?_map, he] at hb
   cases hb
   exact ⟨_, rfl, S, v, e, rfl, ye.same sm, szd.2 e (List.mem_of_getElem? he), q⟩
  refine ⟨acc, _, rfl, hG, _, rfl, ?_⟩
  rw [show (ds.map rowT).all id = ds.all rowT by rw [List.all_map]; rfl]
  have et : tabD (.tuple ds) = (ds.all rowT && (prsL (ds.map numsD) && permL (ds.map numsD).flatten)) := rfl
  cases hall : ds.all rowT with
  | false =>
   refine iteT ?_
   have := k G sm
   rw [et, hall] at this
   exact this
  | true =>
   refine iteF ?_
   have hrow : ∀ e ∈ ds, rowT e = true := List.all_eq_true.mp hall
   have ha1 := sm _ _ ha
   have al1 := al.same sm
   refine ⟨_, rfl, _, rfl, 1, rfl, a, _, rfl, ha1, fun b G1 s1 hb => ⟨a, b, rfl, ⟨_, SqT.of (s1 _ _ ha1)⟩, ⟨_, SqT.of hb⟩, ?_⟩⟩
   rw [cutTailV] at hb
   have ha2 := s1 _ _ ha1
   have al2 := al1.same s1
   refine lc_zipGV (xs := us) (ys := us.drop 1) (fun s' => SqT.of (s' _ _ ha2)) (fun s' => SqT.of (s' _ _ hb)) (by rw [List.length_zip, lu]; have := szd.1; (first | lia | omega)) (fun i v _ => ∃ e1 e2, ds[i]? = some e1 /\ ds[i + 1]? = some e2 /\ v = .bl (aboveL (numsD e1) (numsD e2))) (fun _ _ _ _ _ h => h) (fun i x y hx hy G2 s2 Q' q => ?_) fun acc2 vs2 G2 hacc2 s2 hG2 hl2 hv2 => ?_
   ·rw [List.getElem?_drop] at hy
    obtain ⟨e1, he1, ye1⟩ := al2.at hx
    obtain ⟨e2, he2, ye2⟩ := al2.at (i := i + 1) (by rw [<- hy, Nat.add_comm])
    obtain ⟨c1, rfl, hc1⟩ := row_at ye1 (hrow e1 (List.mem_of_getElem? he1))
    obtain ⟨c2, rfl, hc2⟩ := row_at ye2 (hrow e2 (List.mem_of_getElem? he2))
    exact ⟨_, rfl, _, rfl, c1, c2, _, _, rfl, s2 _ _ hc1, s2 _ _ hc2, (szd.2 e1 (List.mem_of_getElem? he1)).nums, (szd.2 e2 (List.mem_of_getElem? he2)).nums, fun G3 s3 => q _ G3 s3 ⟨e1, e2, he1, he2, rfl⟩⟩
   have ev : vs2 = (((ds.map numsD).zip ((ds.map numsD).drop 1)).map fun p => aboveL p.1 p.2).map V.bl := by
    rw [List.map_map]
    refine List.ext_getElem? fun i => ?_
    by_cases hi : i < vs2.length
    ·obtain ⟨e1, e2, g1, g2, g3⟩ := hv2 i _ (List.getElem?_eq_getElem hi)
     have z1 : (ds.map numsD)[i]? = some (numsD e1) := by rw [List.getElem?_map, g1]; rfl
     have z2 : ((ds.map numsD).drop 1)[i]? = some (numsD e2) := by rw [List.getElem?_drop, List.getElem?_map, Nat.add_comm, g2]; rfl
     have z3 : ((ds.map numsD).zip ((ds.map numsD).drop 1))[i]? = some (numsD e1, numsD e2) := List.getElem?_zip_eq_some.mpr ⟨z1, z2⟩
     rw [List.getElem?_eq_getElem hi, g3, List.getElem?_map, z3]
     rfl
    ·rw [List.getElem?_eq_none (by (first | lia | omega)), List.getElem?_eq_none]
     rw [List.length_map, List.length_zip, List.length_drop, List.length_map]
     rw [hl2, List.length_zip, List.length_drop, lu] at hi
     (first | lia | omega)
   rw [ev] at hG2
   refine ⟨acc2, _, rfl, hG2, _, rfl, ?_⟩
   rw [prs_zip]
   have S2 := sm.trans (s1.trans s2)
   cases hprs : prsL (ds.map numsD) with
   | false =>
    refine iteT ?_
    have := k G2 S2
    rw [et, hall, hprs] at this
    exact this
   | true =>
    refine iteF ?_
    have ha3 := S2 _ _ ha
    have al3 := al.same S2
    have hflat := rows_flat al3 hall
    have hle : (ds.map numsD).flatten.length <= 1000 := flat_le (by simpa only [Sz, PyData.bulk] using sz)
    refine ⟨_, rfl, a, rfl, ⟨_, SqT.of ha3⟩, ?_⟩
    refine lc2_grow (yields_tup (K := K) (a := a) (xs := us)) (itemsT G2) (fun _ _ => true) (fun xy v _ => v = xy.2) ?_ (fun _ _ _ _ _ h => h) (fun G' s' => SqT.of (s' _ _ ha3)) (fun x hx G' s' Rr q => ?_) (fun x hx y hy G' s' Q' q' => q') (fun x hx y hy _ G' s' Q' q' => ⟨_, rfl, q' _ _ (Same.refl G') rfl⟩) fun acc3 vs3 G3 hacc3 s3 hG3 pr => ?_
    ·have e1 : (pairs2 us (itemsT G2) fun _ _ => true).length = (us.flatMap (itemsT G2)).length := by
      unfold pairs2
      rw [List.length_flatMap, List.length_flatMap]
      congr 1
      refine List.map_congr_left fun x _ => ?_
      rw [List.length_map, List.filter_eq_self.mpr (fun _ _ => rfl)]
     rw [e1, hflat, mapI_len]
     exact small1 hle
    ·obtain ⟨i, hi⟩ := List.getElem?_of_mem hx
     obtain ⟨e, he, ye⟩ := al3.at hi
     obtain ⟨c, rfl, hc⟩ := row_at ye (hrow e (List.mem_of_getElem? he))
     have Yc := yields_tup (K := K) (a := c) (xs := (numsD e).map V.int)
     rw [<- itemsT_at hc] at Yc
     refine ⟨_, rfl, c, rfl, ⟨_, SqT.of (s' _ _ hc)⟩, q _ _ G' (Same.refl G') Yc fun G4 t4 _ => ?_⟩
     rw [itemsT_at hc]
     exact SqT.of (t4 _ _ (s' _ _ hc))
    rw [pairs_flat pr, hflat] at hG3
    generalize hns : (ds.map numsD).flatten = ns at hG3 hle
    refine ⟨_, rfl, acc3, ns, rfl, hG3, fun p4 ns' hp4 hs4 hn4 => ?_⟩
    have s4 := same_upd (o := .lst (ns'.map V.int)) hn4
    refine ⟨_, rfl, acc3, _, rfl, .inl (SqL.of (s4 _ _ hG3)), _, rfl, fun q5 hq5 => ⟨q5, _, rfl, upd_same, by (first | lia | omega), by rw [mapI_len]; (first | lia | omega), fun L hL => ?_⟩⟩
    have s5 := same_upd (o := .rng 0 ((ns.map V.int).length : Int)) hq5
    have s6 := same_upd (o := .lst (rangeV 0 ((ns.map V.int).length : Int).toNat)) hL
    refine ⟨_, _, .lst (s6 _ _ (s5 _ _ upd_same)) (IsAll.ints ns'), .lst (vs := (num0 ns.length).map V.int) ?_ (IsAll.ints _), shaped_lints _, shaped_lints _, ?_⟩
    ·rw [upd_same, mapI_len, Int.toNat_natCast, rangeV_num0]
    rw [eqv_numsT, perm_sorted hp4 hs4]
    have := k _ (S2.trans (s3.trans (s4.trans (s5.trans s6))))
    rw [et, hall, hprs, hns] at this
    exact this
end
end K60
namespace L2
open PySem PySem.Spec PyProof.Rows
noncomputable def rEqE : R2 := fun x y H Q => ∃ (a b : Addr) (vs : List V), x = .ref a /\ y = .ref b /\ H a = some (.tup vs) /\ H b = some (.tup []) /\ Q (.bl vs.isEmpty) H
theorem op_eqE {X : Cx} (hu : X.A.units + 64 < cLine) : OpR X (compareOp .Eq) rEqE := by
 intro pins s σ H x y v u Q I rx ry h
 obtain ⟨a, b, vs, rfl, rfl, ha, hb, q⟩ := h
 cases rx
 cases ry
 obtain ⟨its, rv, ⟨o, ho, hc, n, hd⟩, _⟩ := I.tuple (SqT.of (K := X.K) ha)
 obtain ⟨its2, rv2, ⟨o2, ho2, hc2, n2, hd2⟩, _⟩ := I.tuple (SqT.of (K := X.K) hb)
 cases rv2
 have := SeqAt.RcAt.tuples (A := X.A) (e := fun _ => true) ⟨o, ho, hc, n, hd⟩ ⟨o2, ho2, hc2, n2, hd2⟩ (by (first | lia | omega)) (fun j _ j2 => absurd j2 (by simp)) X.prog X.w
 have e : ((List.range (min its.toArray.size ([] : List Value).toArray.size)).all (fun _ => true) && its.toArray.size == ([] : List Value).toArray.size) = vs.isEmpty := by
  have hl : its.length = vs.length := rv.length.symm
  cases vs with
  | nil =>
   have : its = [] := List.eq_nil_of_length_eq_zero (by simpa using hl)
   subst this
   rfl
  | cons v r =>
   have h0 : its.length ≠ 0 := by rw [hl]; simp
   simp [h0]
 rw [e] at this
 exact this _ _ ⟨.bl _, H, I, rfl, q⟩
theorem ris_all {b : List Int} : risL b = true ↔ ∀ j : Nat, 0 < j -> j < b.length -> b.getD (j - 1) 0 < b.getD j 0 := by
 induction b with
 | nil => exact ⟨fun _ j _ h => by simp at h, fun _ => rfl⟩
 | cons x t ih =>
  cases t with
  | nil =>
   refine ⟨fun _ j h1 h2 => ?_, fun _ => rfl⟩
   simp at h2
   (first | lia | omega)
  | cons y r =>
   have e : risL (x :: y :: r) = (decide (x < y) && risL (y :: r)) := rfl
   rw [e, Bool.and_eq_true, decide_eq_true_eq, ih]
   refine ⟨fun ⟨h1, h2⟩ j j1 j2 => ?_, fun h => ⟨?_, fun j j1 j2 => ?_⟩⟩
   ·by_cases c : j = 1
    ·subst c
     exact h1
    ·have := h2 (j - 1) (by (first | lia | omega)) (by simp at j2 ⊢; (first | lia | omega))
     obtain ⟨i, rfl⟩ : ∃ i, j = i + 2 := ⟨j - 2, by (first | lia | omega)⟩
     exact this
   ·exact h 1 (by (first | lia | omega)) (by simp)
   ·have := h (j + 1) (by (first | lia | omega)) (by simp at j2 ⊢; (first | lia | omega))
    obtain ⟨i, rfl⟩ : ∃ i, j = i + 1 := ⟨j - 1, by (first | lia | omega)⟩
    exact this
theorem lt_all : ∀ {a b : List Int}, b.length <= a.length -> (ltL a b = true ↔ ∀ j : Nat, j < b.length -> a.getD j 0 < b.getD j 0)
 | a, [], _ => by
  refine ⟨fun _ j h => by simp at h, fun _ => ?_⟩
  cases a <;> rfl
 | [], _ :: _, h => by simp at h
 | x :: a, y :: b, h => by
  have e : ltL (x :: a) (y :: b) = (decide (x < y) && ltL a b) := rfl
  rw [e, Bool.and_eq_true, decide_eq_true_eq, lt_all (by simp at h; (first | lia | omega))]
  refine ⟨fun ⟨h1, h2⟩ j hj => ?_, fun g => ⟨g 0 (by simp), fun j hj => g (j + 1) (by simp; (first | lia | omega))⟩⟩
  cases j with
  | zero => exact h1
  | succ j => exact h2 j (by simp at hj; (first | lia | omega))
end L2
namespace K60
open PySem PySem.Spec PyProof.Rows L2
noncomputable abbrev s__law_is_table : Stmt := top 20
section
variable {P : Program} {w : World} {K : PySem.W.Frag} {mg : Str -> Option Value} {base : Heap}
theorem sc__law_is_table : FnScope ["_law_thing", "_law_numbers", "_law_k", "_law_row", "_law_j"] ["_law_thing"] (defScope s__law_is_table) := ⟨rfl, rfl, rfl, by decide +kernel, rfl, by decide +kernel, by decide +kernel⟩
set_option maxHeartbeats 8000000 in
theorem ok__law_is_table {f : Addr} {fd : FuncData} (F : Fun K "_law_is_table" "_law_is_table" s__law_is_table f fd) (T : Top mg) (C_law_whole : Cal P w K mg base 1 "_law_whole" ["_law_thing"] (spWhA K)) : FnOk P w K mg base CX0 2 f fd ["_law_thing"] spTabD := by
 refine F.ok sc__law_is_table (fun vs H Q E h => ?_) (fun cdv A outer s H vs Q E hr h => ?_)
 ·obtain ⟨S, x, d, rfl, _⟩ := h
  rfl
 ·obtain ⟨S, x, d, rfl, y, sz, k⟩ := h
  have hu : _ := hr.units
  refine ⟨_, (pss_cons (ps_if (pt_not (pt_val (pe_callB call_isi (by rfl) T.n_isinstance boot_isinstance (pa_cons (pv 0) (pa_cons (pe_bltn (v := .ty "tuple") rfl T.n_tuple boot_tuple rfl) pa_nil)))))
    (pss_one (ps_ret pe_bl))
    pss_nil)
   (pss_cons (ps_set (i := 1) sc__law_is_table.nd rfl (Or.inl rfl) (pe_lst pa_nil))
   (pss_cons (ps_for PassesOwn.never rfl (pi_enumT rfl T.n_enumerate (pa_cons (pv 0) pa_nil)) (pg_pair (i := 2) (j := 3) rfl sc__law_is_table.nd rfl rfl (Or.inl rfl) (Or.inl rfl) (Or.inl rfl) (Or.inl rfl))
    (pss_cons (ps_if (PW.pt (pw_or (pt_not (pt_val (pe_callB call_isi (by rfl) T.n_isinstance boot_isinstance (pa_cons (pv 3) (pa_cons (pe_bltn (v := .ty "tuple") rfl T.n_tuple boot_tuple rfl) pa_nil))))) (pw_or (pt_cmpR (op_eqE hu) (pv 3) (pe_tup pa_nil) (nomark _)) (pw_or1 (pt_not (pt_val (pe_callB (call_all rfl) (by rfl) T.n_all boot_all (pa_cons (pe_lc (N' := ["_law_one"]) (n := 1) (ix := []) rfl (CompScope.of (sc := defScope s__law_is_table) (N := ["_law_thing", "_law_numbers", "_law_k", "_law_row", "_law_j"]) (by decide +kernel) rfl rfl) (pi_tup (pv 3)) (fun _ _ _ _ _ => ⟨(pg_name (i := 0) (show (["_law_one"] : List Str).Nodup by decide +kernel) rfl (Or.inl rfl)), pts_nil, (pe_cal C_law_whole (hr.mono (by decide)) rfl (pa_cons (pv 0) pa_nil))⟩)) pa_nil))))))))
     (pss_one (ps_ret pe_bl))
     pss_nil)
    (pss_cons (ps_if (PW.pt (pw_and (pt_cmpR op_gt (pv 2) pe_int (nomark _)) (pw_and1 (pt_cmpR op_gt (pe_callB call_len_seq (by rfl) T.n_len PySem.boot_len (pa_cons (pv 3) pa_nil)) (pe_callB call_len_seq (by rfl) T.n_len PySem.boot_len (pa_cons (pe_ix ix_tup (pv 0) (pe_op op_sub (pv 2) pe_int) (fun _ _ => rfl)) pa_nil)) (nomark _)))))
     (pss_one (ps_ret pe_bl))
     pss_nil)
    (pss_cons (ps_for PassesOwn.never rfl (pi_range1 rfl T.n_range (pa_cons (pe_callB call_len_seq (by rfl) T.n_len PySem.boot_len (pa_cons (pv 3) pa_nil)) pa_nil)) (pg_name (i := 4) sc__law_is_table.nd rfl (Or.inl rfl))
     (pss_one (ps_if (PW.pt (pw_or (PW.pt (pw_and (pt_cmpR op_gt (pv 4) pe_int (nomark _)) (pw_and1 (pt_cmpR op_ge (pe_ix ix_tup (pv 3) (pe_op op_sub (pv 4) pe_int) (fun _ _ => rfl)) (pe_ix ix_tup (pv 3) (pv 4) (fun _ _ => rfl)) (nomark _))))) (pw_or1 (PW.pt (pw_and (pt_cmpR op_gt (pv 2) pe_int (nomark _)) (pw_and1 (pt_cmpR op_ge (pe_ix ix_tup (pe_ix ix_tup (pv 0) (pe_op op_sub (pv 2) pe_int) (fun _ _ => rfl)) (pv 4) (fun _ _ => rfl)) (pe_ix ix_tup (pv 3) (pv 4) (fun _ _ => rfl)) (nomark _))))))))
      (pss_one (ps_ret pe_bl))
      pss_nil)))
    (pss_one (ps_expr (pe_bm PySem.F.plainAttrs_list PySem.F.slot_list_extend PySem.F.type_list_extend mt_extendT (pv 1) (pa_cons (pv 3) pa_nil))))))))
   (pss_one (ps_ret (pe_cmpR (op_eqD hu) (pe_callB call_sortedN (by rfl) T.n_sorted boot_sorted (pa_cons (pv 1) pa_nil)) (pe_callTy (call_list_rng rfl) (by rfl) T.n_list boot_list (pa_cons (pe_callTy call_range1 (by rfl) T.n_range boot_range (pa_cons (pe_callB call_len_seq (by rfl) T.n_len PySem.boot_len (pa_cons (pv 1) pa_nil)) pa_nil)) pa_nil)) (nomark _))))))), ?_⟩
  obtain ⟨kA, kB, k3⟩ := kit7 (K := K) (tyD_in d)
  refine ⟨_, rfl, _, _, _, _, rfl, y.ty, k3, _, rfl, ?_⟩
  rcases y.isT with ⟨a, us, ds, rfl, rfl, ha, al⟩ | ⟨hne, hn⟩
  rotate_left
  ·rw [beq_eq_false_iff_ne.mpr hne]
   have := k H (Same.refl H)
   rw [show tabD d = false by cases d <;> first | rfl | exact absurd rfl (hn _)] at this
   exact iteT this
  refine iteF ?_
  have szd := sz.tup
  have lu : us.length = ds.length := al.len
  refine ⟨Nat.zero_le _, fun L hL => ?_⟩
  have s1 := same_upd (o := .lst []) hL
  refine ⟨_, rfl, a, rfl, ⟨_, SqT.of (s1 _ _ ha)⟩, ?_⟩
  refine for_enum (K := K) (a := a) (xs := us) (fun i σ G => ∃ (c2 c3 c4 : Option V), σ = [some (.ref a), some (.ref L), c2, c3, c4] /\ Same H G /\ G L = some (.lst (((ds.take i).map numsD).flatten.map V.int)) /\ preT (ds.take i) = true) ⟨_, _, _, rfl, s1, upd_same, rfl⟩ (fun i σ G _ ⟨_, _, _, _, sm, _⟩ => SqT.of (sm _ _ ha)) ?_ ?_
  ·rintro i v t σ G hv ⟨c2, c3, c4, rfl, sm, hGL, hpre⟩ ht
   obtain ⟨e, he, ye⟩ := al.at hv
   have bad : ∀ G', Same H G' -> preT (ds.take (i + 1)) = false -> Q (.bl false) G' := fun G' s' hp => by
    have := k G' s'
    rw [tab_pre, pre_false hp] at this
    exact this
   have step := pre_step he
   rw [hpre, Bool.true_and] at step
   refine ⟨t, _, rfl, SqT.of upd_same, rfl, _, _, rfl, _, _, rfl, rfl, ?_⟩
   have s2 := same_upd (o := .tup [.int i, v]) ht
   have sm2 := sm.trans s2
   have hGL2 := s2 _ _ hGL
   generalize upd G t (.tup [.int i, v]) = G2 at s2 sm2 hGL2 ⊢
   have ye2 := ye.same sm2
   obtain ⟨_, _, k3e⟩ := kit7 (K := K) (tyD_in e)
   refine ⟨_, rfl, _, _, _, _, rfl, ye2.ty, k3e, _, rfl, ?_⟩
   rcases ye2.isT with ⟨c, ws, es, rfl, rfl, hc, ae⟩ | ⟨hne, hn⟩
   rotate_left
   ·rw [beq_eq_false_iff_ne.mpr hne]
    refine iteT (iteT (bad G2 sm2 ?_))
    rw [step, show rowT e = false by cases e <;> first | rfl | exact absurd rfl (hn _)]
    rfl
   refine iteF ?_
   have hi : i < ds.length := by
    have := (List.getElem?_eq_some_iff.mp he).1
    exact this
   have sze : Sz 1000 (.tuple es) := szd.2 _ (List.mem_of_getElem? he)
   have le : ws.length = es.length := ae.len
   have er : rowT (.tuple es) = (es.all whD && (decide (0 < es.length) && risL (es.map asI))) := rfl
   refine ⟨_, rfl, Nat.zero_le _, fun e0 he0 => ?_⟩
   have s3 := same_upd (o := .tup []) he0
   refine ⟨c, e0, ws, rfl, rfl, s3 _ _ hc, upd_same, _, rfl, ?_⟩
   have sm3 := sm2.trans s3
   have hc3 := s3 _ _ hc
   have hGL3 := s3 _ _ hGL2
   have ae3 := ae.same s3
   generalize upd G2 e0 (.tup []) = G3 at s3 sm3 hc3 hGL3 ae3 ⊢
   clear hGL2 s3 he0 s2 ht hGL
   by_cases hw0 : ws = []
   ·have : es = [] := List.eq_nil_of_length_eq_zero (by rw [<- le, hw0]; rfl)
    subst hw0 this
    refine iteT (iteT (bad G3 sm3 ?_))
    rw [step]
    rfl
   have hwe : ws.isEmpty = false := by
    cases ws with
    | nil => exact absurd rfl hw0
    | cons _ _ => rfl
   rw [hwe]
   refine iteF ?_
   have hes : 0 < es.length := by
    rw [<- le]
    exact List.length_pos_iff.mpr hw0
   refine ⟨_, rfl, c, rfl, ⟨_, SqT.of hc3⟩, ?_⟩
   refine lc_growI (yields_tup (K := K) (a := c) (xs := ws)) (small1 (by rw [le]; exact sze.tup.1)) (es.map whD) (by rw [List.length_map, le]) (fun G' sm' => SqT.of (sm' _ _ hc3)) (fun j v b G' hv' hb sm' Q' q => ?_) fun acc G4 hacc s4 hG4 => ?_
   ·obtain ⟨e', he', ye'⟩ := ae3.at hv'
    rw [List.getElem?_map, he'] at hb
    cases hb
    refine ⟨_, rfl, v, rfl, (ye'.same sm').kn, ?_⟩
    rw [wh_int ye']
    exact q G' (Same.refl G')
   refine ⟨acc, _, rfl, hG4, _, rfl, ?_⟩
   rw [show (es.map whD).all id = es.all whD by rw [List.all_map]; rfl]
   have sm4 := sm3.trans s4
   have hc4 := s4 _ _ hc3
   have hGL4 := s4 _ _ hGL3
   cases hall : es.all whD with
   | false =>
    refine iteT (bad G4 sm4 ?_)
    rw [step, er, hall]
    rfl
   | true =>
   refine iteF ?_
   have hv4 := ints_of ae hall
   rw [hv4] at hc4
   have hrow : rowT (.tuple es) = risL (es.map asI) := by rw [er, hall, decide_eq_true hes]; rfl
   have eN : numsD (.tuple es) = es.map asI := rfl
   rw [hrow, eN] at step
   generalize hb0 : es.map asI = b at hc4 step hrow
   have lb : b.length = es.length := by rw [<- hb0, List.length_map]
   clear hG4 hacc s4 hGL3 hc3 hwe hv4
   have hprev : i = 0 ∨ ∃ (cp : Addr) (ap : List Int), us[i - 1]? = some (.ref cp) /\ H cp = some (.tup (ap.map V.int)) /\ ap.length <= 1000 /\ ((ds.take i).map numsD).getLast? = some ap := by
    by_cases h0 : i = 0
    ·exact .inl h0
    ·refine .inr ?_
     obtain ⟨ep, hep⟩ : ∃ ep, ds[i - 1]? = some ep := ⟨_, List.getElem?_eq_getElem (by (first | lia | omega))⟩
     have hup : us[i - 1]? = some (us[i - 1]'(by (first | lia | omega))) := List.getElem?_eq_getElem (by (first | lia | omega))
     obtain ⟨ep', hep', yep⟩ := al.at hup
     rw [hep] at hep'
     cases hep'
     have hrt : rowT ep = true := by
      have : (ds.take i).all rowT = true := by
       have := hpre
       unfold preT at this
       rw [Bool.and_eq_true] at this
       exact this.1
      refine List.all_eq_true.mp this ep (List.mem_of_getElem? (i := i - 1) ?_)
      rw [List.getElem?_take_of_lt (by (first | lia | omega))]
      exact hep
     obtain ⟨cp, ecp, hcp⟩ := row_at yep hrt
     refine ⟨cp, numsD ep, by rw [hup, ecp], hcp, (szd.2 ep (List.mem_of_getElem? hep)).nums, ?_⟩
     rw [List.getLast?_eq_getElem?, List.length_map, List.length_take, Nat.min_eq_left (by (first | lia | omega)), List.getElem?_map, List.getElem?_take_of_lt (by (first | lia | omega)), hep]
     rfl
   have eat : ∀ {cp : Addr}, i ≠ 0 -> us[i - 1]? = some (.ref cp) -> atI us ((i : Int) - 1) = some (.ref cp) := fun {cp} h0 h => by
    rw [show (i : Int) - 1 = ((i - 1 : Nat) : Int) by (first | lia | omega)]
    exact atI_nat h
   refine ⟨_, rfl, _, _, rfl, rfl, _, rfl, ?_⟩
   by_cases h0 : i = 0
   ·rw [decide_eq_false (show ¬ (i : Int) > 0 by (first | lia | omega))]
    refine iteF (iteF ?_)
    have hab : ∀ ap, ((ds.take i).map numsD).getLast? = some ap -> i ≠ 0 -> b.length <= ap.length /\ ∃ cp : Addr, us[i - 1]? = some (.ref cp) /\ H cp = some (.tup (ap.map V.int)) := fun _ _ z => absurd h0 z
    refine ⟨_, rfl, c, _, rfl, .inr (SqT.of hc4), _, rfl, by (first | lia | omega), by rw [mapI_len, lb]; have := sze.tup.1; (first | lia | omega), ?_⟩
    rw [mapI_len, Int.toNat_natCast]
    have lb1 := sze.tup.1
    refine for_range (n := b.length) (fun j σ G' => ∃ (d4 : Option V), σ = [some (.ref a), some (.ref L), some (.int i), some (.ref c), d4] /\ G' = G4 /\ ∀ j', j' < j -> (0 < j' -> b.getD (j' - 1) 0 < b.getD j' 0) /\ ∀ ap, ((ds.take i).map numsD).getLast? = some ap -> i ≠ 0 -> ap.getD j' 0 < b.getD j' 0) ⟨_, rfl, rfl, fun _ h => by (first | lia | omega)⟩ ?_ ?_
    ·rintro j σ G' hj ⟨d4, rfl, rfl, hok⟩
     have viol1 : 0 < j -> ¬ b.getD (j - 1) 0 < b.getD j 0 -> Q (.bl false) G' := fun h1 h2 => bad G' sm4 (by
      rw [step]
      have : risL b = false := by
       cases hr' : risL b with
       | false => rfl
       | true => exact absurd (ris_all.mp hr' j h1 hj) h2
      rw [this]
      rfl)
     have viol2 : ∀ ap, ((ds.take i).map numsD).getLast? = some ap -> i ≠ 0 -> ¬ ap.getD j 0 < b.getD j 0 -> Q (.bl false) G' := fun ap h1 h3 h2 => bad G' sm4 (by
      rw [step, h1]
      have : aboveL ap b = false := by
       unfold aboveL
       have : ltL ap b = false := by
        cases hr' : ltL ap b with
        | false => rfl
        | true => exact absurd ((lt_all (hab ap h1 h3).1).mp hr' j hj) h2
       rw [this, Bool.and_false]
      show (risL b && aboveL ap b) = false
      rw [this, Bool.and_false])
     have more : (0 < j -> b.getD (j - 1) 0 < b.getD j 0) -> (∀ ap, ((ds.take i).map numsD).getLast? = some ap -> i ≠ 0 -> ap.getD j 0 < b.getD j 0) -> ∀ j', j' < j + 1 -> (0 < j' -> b.getD (j' - 1) 0 < b.getD j' 0) /\ ∀ ap, ((ds.take i).map numsD).getLast? = some ap -> i ≠ 0 -> ap.getD j' 0 < b.getD j' 0 := fun m1 m2 j' hj' => by
      by_cases c : j' < j
      ·exact hok j' c
      ·have : j' = j := by (first | lia | omega)
       subst this
       exact ⟨m1, m2⟩
     have atj : atI (b.map V.int) (0 + (j : Int)) = some (.int (b.getD j 0)) := by
      rw [Int.zero_add]
      have := at_getD (ys := b) (i := (j : Int)) (by (first | lia | omega)) (by (first | lia | omega))
      rw [Int.toNat_natCast] at this
      exact this
     refine ⟨_, rfl, _, _, rfl, rfl, _, rfl, ?_⟩
     by_cases hj0 : j = 0
     ·rw [decide_eq_false (show ¬ (0 + (j : Int)) > 0 by (first | lia | omega))]
      refine iteF (iteF ?_)
      have m1 : 0 < j -> b.getD (j - 1) 0 < b.getD j 0 := fun z => by (first | lia | omega)
      refine ⟨_, rfl, _, _, rfl, rfl, _, rfl, ?_⟩
      by_cases hi0 : i = 0
      ·rw [decide_eq_false (show ¬ (i : Int) > 0 by (first | lia | omega))]
       refine iteF (iteF ?_)
       exact ⟨_, rfl, rfl, more m1 fun _ _ z => absurd hi0 z⟩
      ·rw [decide_eq_true (show (i : Int) > 0 by (first | lia | omega))]
       obtain ⟨cq, aq, hup', hcq, laq, hlast'⟩ := hprev.resolve_left hi0
       have laq2 := (hab aq hlast' hi0).1
       have atq : atI (aq.map V.int) (0 + (j : Int)) = some (.int (aq.getD j 0)) := by
        rw [Int.zero_add]
        have := at_getD (ys := aq) (i := (j : Int)) (by (first | lia | omega)) (by (first | lia | omega))
        rw [Int.toNat_natCast] at this
        exact this
       refine iteT ⟨_, rfl, _, rfl, _, _, rfl, rfl, a, us, _, _, rfl, rfl, SqT.of (sm4 _ _ ha), eat hi0 hup', _, rfl, cq, _, _, _, rfl, rfl, SqT.of (sm4 _ _ hcq), atq, _, rfl, _, rfl, c, _, _, _, rfl, rfl, SqT.of hc4, atj, _, _, rfl, rfl, _, rfl, ?_⟩
       by_cases hv2 : aq.getD j 0 < b.getD j 0
       ·rw [decide_eq_false (show ¬ aq.getD j 0 ≥ b.getD j 0 by (first | lia | omega))]
        refine iteF ?_
        refine ⟨_, rfl, rfl, more m1 fun ap h _ => ?_⟩
        rw [hlast'] at h
        cases h
        exact hv2
       ·rw [decide_eq_true (show aq.getD j 0 ≥ b.getD j 0 by (first | lia | omega))]
        exact iteT (viol2 aq hlast' hi0 hv2)
     ·rw [decide_eq_true (show (0 + (j : Int)) > 0 by (first | lia | omega))]
      have atk : atI (b.map V.int) (0 + (j : Int) - 1) = some (.int (b.getD (j - 1) 0)) := by
       rw [show 0 + (j : Int) - 1 = ((j - 1 : Nat) : Int) by (first | lia | omega)]
       have := at_getD (ys := b) (i := ((j - 1 : Nat) : Int)) (by (first | lia | omega)) (by (first | lia | omega))
       rw [Int.toNat_natCast] at this
       exact this
      refine iteT ⟨_, rfl, _, rfl, _, _, rfl, rfl, c, _, _, _, rfl, rfl, SqT.of hc4, atk, _, rfl, _, rfl, c, _, _, _, rfl, rfl, SqT.of hc4, atj, _, _, rfl, rfl, _, rfl, ?_⟩
      by_cases hv1 : b.getD (j - 1) 0 < b.getD j 0
      ·rw [decide_eq_false (show ¬ b.getD (j - 1) 0 ≥ b.getD j 0 by (first | lia | omega))]
       refine iteF ?_
       have m1 : 0 < j -> b.getD (j - 1) 0 < b.getD j 0 := fun _ => hv1
       refine ⟨_, rfl, _, _, rfl, rfl, _, rfl, ?_⟩
       by_cases hi0 : i = 0
       ·rw [decide_eq_false (show ¬ (i : Int) > 0 by (first | lia | omega))]
        refine iteF (iteF ?_)
        exact ⟨_, rfl, rfl, more m1 fun _ _ z => absurd hi0 z⟩
       ·rw [decide_eq_true (show (i : Int) > 0 by (first | lia | omega))]
        obtain ⟨cq, aq, hup', hcq, laq, hlast'⟩ := hprev.resolve_left hi0
        have laq2 := (hab aq hlast' hi0).1
        have atq : atI (aq.map V.int) (0 + (j : Int)) = some (.int (aq.getD j 0)) := by
         rw [Int.zero_add]
         have := at_getD (ys := aq) (i := (j : Int)) (by (first | lia | omega)) (by (first | lia | omega))
         rw [Int.toNat_natCast] at this
         exact this
        refine iteT ⟨_, rfl, _, rfl, _, _, rfl, rfl, a, us, _, _, rfl, rfl, SqT.of (sm4 _ _ ha), eat hi0 hup', _, rfl, cq, _, _, _, rfl, rfl, SqT.of (sm4 _ _ hcq), atq, _, rfl, _, rfl, c, _, _, _, rfl, rfl, SqT.of hc4, atj, _, _, rfl, rfl, _, rfl, ?_⟩
        by_cases hv2 : aq.getD j 0 < b.getD j 0
        ·rw [decide_eq_false (show ¬ aq.getD j 0 ≥ b.getD j 0 by (first | lia | omega))]
         refine iteF ?_
         refine ⟨_, rfl, rfl, more m1 fun ap h _ => ?_⟩
         rw [hlast'] at h
         cases h
         exact hv2
        ·rw [decide_eq_true (show aq.getD j 0 ≥ b.getD j 0 by (first | lia | omega))]
         exact iteT (viol2 aq hlast' hi0 hv2)
      ·rw [decide_eq_true (show b.getD (j - 1) 0 ≥ b.getD j 0 by (first | lia | omega))]
       exact iteT (iteT (viol1 (by (first | lia | omega)) hv1))
    ·rintro σ G' ⟨d4, rfl, rfl, hok⟩
     have hris : risL b = true := ris_all.mpr fun j j1 j2 => (hok j j2).1 j1
     have hnew : preT (ds.take (i + 1)) = true := by
      rw [step, hris, Bool.true_and]
      cases hg : ((ds.take i).map numsD).getLast? with
      | none => rfl
      | some ap =>
       have i0 : i ≠ 0 := fun z => by
        rw [z] at hg
        cases hg
       show aboveL ap b = true
       unfold aboveL
       rw [decide_eq_true (hab ap hg i0).1, Bool.true_and]
       exact (lt_all (hab ap hg i0).1).mpr fun j hj => (hok j hj).2 ap hg i0
     refine ⟨_, rfl, .inl ⟨rfl, _, SqL.of hGL4⟩, _, rfl, L, c, _, _, rfl, rfl, hGL4, hc4, ?_, ?_⟩
     ·rw [mapI_len, mapI_len, sizeLine_eq]
      have h1 : (ds.map numsD).flatten.length <= 1000 := flat_le (by simpa only [Sz, PyData.bulk] using sz)
      have h2 : ((ds.take i).map numsD).flatten.length <= (ds.map numsD).flatten.length := by
       rw [List.map_take]
       conv => rhs; rw [<- List.take_append_drop i (ds.map numsD)]
       rw [List.flatten_append, List.length_append]
       (first | lia | omega)
      (first | lia | omega)
     ·refine ⟨_, _, _, rfl, same_updR sm4 hL, ?_, hnew⟩
      rw [upd_same, List.take_succ, he, List.map_append, List.flatten_append, List.map_append]
      show some (HO.lst (_ ++ b.map V.int)) = some (HO.lst (_ ++ ([numsD (.tuple es)]).flatten.map V.int))
      rw [eN, hb0]
      simp
   ·rw [decide_eq_true (show (i : Int) > 0 by (first | lia | omega))]
    obtain ⟨cp, ap, hup, hcp, lap, hlast⟩ := hprev.resolve_left h0
    refine iteT ⟨_, rfl, c, _, rfl, .inr (SqT.of hc4), _, rfl, _, rfl, _, _, rfl, rfl, a, us, _, _, rfl, rfl, SqT.of (sm4 _ _ ha), eat h0 hup, cp, _, rfl, .inr (SqT.of (sm4 _ _ hcp)), _, _, rfl, rfl, _, rfl, ?_⟩
    rw [mapI_len, mapI_len]
    by_cases hln : b.length <= ap.length
    ·rw [decide_eq_false (show ¬ ((b.length : Nat) : Int) > (ap.length : Int) by (first | lia | omega))]
     refine iteF ?_
     have hab : ∀ ap, ((ds.take i).map numsD).getLast? = some ap -> i ≠ 0 -> b.length <= ap.length /\ ∃ cp : Addr, us[i - 1]? = some (.ref cp) /\ H cp = some (.tup (ap.map V.int)) := fun ap' h _ => by
      rw [hlast] at h
      cases h
      exact ⟨hln, cp, hup, hcp⟩
     refine ⟨_, rfl, c, _, rfl, .inr (SqT.of hc4), _, rfl, by (first | lia | omega), by rw [mapI_len, lb]; have := sze.tup.1; (first | lia | omega), ?_⟩
     rw [mapI_len, Int.toNat_natCast]
     have lb1 := sze.tup.1
     refine for_range (n := b.length) (fun j σ G' => ∃ (d4 : Option V), σ = [some (.ref a), some (.ref L), some (.int i), some (.ref c), d4] /\ G' = G4 /\ ∀ j', j' < j -> (0 < j' -> b.getD (j' - 1) 0 < b.getD j' 0) /\ ∀ ap, ((ds.take i).map numsD).getLast? = some ap -> i ≠ 0 -> ap.getD j' 0 < b.getD j' 0) ⟨_, rfl, rfl, fun _ h => by (first | lia | omega)⟩ ?_ ?_
     ·rintro j σ G' hj ⟨d4, rfl, rfl, hok⟩
      have viol1 : 0 < j -> ¬ b.getD (j - 1) 0 < b.getD j 0 -> Q (.bl false) G' := fun h1 h2 => bad G' sm4 (by
       rw [step]
       have : risL b = false := by
        cases hr' : risL b with
        | false => rfl
        | true => exact absurd (ris_all.mp hr' j h1 hj) h2
       rw [this]
       rfl)
      have viol2 : ∀ ap, ((ds.take i).map numsD).getLast? = some ap -> i ≠ 0 -> ¬ ap.getD j 0 < b.getD j 0 -> Q (.bl false) G' := fun ap h1 h3 h2 => bad G' sm4 (by
       rw [step, h1]
       have : aboveL ap b = false := by
        unfold aboveL
        have : ltL ap b = false := by
         cases hr' : ltL ap b with
         | false => rfl
         | true => exact absurd ((lt_all (hab ap h1 h3).1).mp hr' j hj) h2
        rw [this, Bool.and_false]
       show (risL b && aboveL ap b) = false
       rw [this, Bool.and_false])
      have more : (0 < j -> b.getD (j - 1) 0 < b.getD j 0) -> (∀ ap, ((ds.take i).map numsD).getLast? = some ap -> i ≠ 0 -> ap.getD j 0 < b.getD j 0) -> ∀ j', j' < j + 1 -> (0 < j' -> b.getD (j' - 1) 0 < b.getD j' 0) /\ ∀ ap, ((ds.take i).map numsD).getLast? = some ap -> i ≠ 0 -> ap.getD j' 0 < b.getD j' 0 := fun m1 m2 j' hj' => by
       by_cases c : j' < j
       ·exact hok j' c
       ·have : j' = j := by (first | lia | omega)
        subst this
        exact ⟨m1, m2⟩
      have atj : atI (b.map V.int) (0 + (j : Int)) = some (.int (b.getD j 0)) := by
       rw [Int.zero_add]
       have := at_getD (ys := b) (i := (j : Int)) (by (first | lia | omega)) (by (first | lia | omega))
       rw [Int.toNat_natCast] at this
       exact this
      refine ⟨_, rfl, _, _, rfl, rfl, _, rfl, ?_⟩
      by_cases hj0 : j = 0
      ·rw [decide_eq_false (show ¬ (0 + (j : Int)) > 0 by (first | lia | omega))]
       refine iteF (iteF ?_)
       have m1 : 0 < j -> b.getD (j - 1) 0 < b.getD j 0 := fun z => by (first | lia | omega)
       refine ⟨_, rfl, _, _, rfl, rfl, _, rfl, ?_⟩
       by_cases hi0 : i = 0
       ·rw [decide_eq_false (show ¬ (i : Int) > 0 by (first | lia | omega))]
        refine iteF (iteF ?_)
        exact ⟨_, rfl, rfl, more m1 fun _ _ z => absurd hi0 z⟩
       ·rw [decide_eq_true (show (i : Int) > 0 by (first | lia | omega))]
        obtain ⟨cq, aq, hup', hcq, laq, hlast'⟩ := hprev.resolve_left hi0
        have laq2 := (hab aq hlast' hi0).1
        have atq : atI (aq.map V.int) (0 + (j : Int)) = some (.int (aq.getD j 0)) := by
         rw [Int.zero_add]
         have := at_getD (ys := aq) (i := (j : Int)) (by (first | lia | omega)) (by (first | lia | omega))
         rw [Int.toNat_natCast] at this
         exact this
        refine iteT ⟨_, rfl, _, rfl, _, _, rfl, rfl, a, us, _, _, rfl, rfl, SqT.of (sm4 _ _ ha), eat hi0 hup', _, rfl, cq, _, _, _, rfl, rfl, SqT.of (sm4 _ _ hcq), atq, _, rfl, _, rfl, c, _, _, _, rfl, rfl, SqT.of hc4, atj, _, _, rfl, rfl, _, rfl, ?_⟩
        by_cases hv2 : aq.getD j 0 < b.getD j 0
        ·rw [decide_eq_false (show ¬ aq.getD j 0 ≥ b.getD j 0 by (first | lia | omega))]
         refine iteF ?_
         refine ⟨_, rfl, rfl, more m1 fun ap h _ => ?_⟩
         rw [hlast'] at h
         cases h
         exact hv2
        ·rw [decide_eq_true (show aq.getD j 0 ≥ b.getD j 0 by (first | lia | omega))]
         exact iteT (viol2 aq hlast' hi0 hv2)
      ·rw [decide_eq_true (show (0 + (j : Int)) > 0 by (first | lia | omega))]
       have atk : atI (b.map V.int) (0 + (j : Int) - 1) = some (.int (b.getD (j - 1) 0)) := by
        rw [show 0 + (j : Int) - 1 = ((j - 1 : Nat) : Int) by (first | lia | omega)]
        have := at_getD (ys := b) (i := ((j - 1 : Nat) : Int)) (by (first | lia | omega)) (by (first | lia | omega))
        rw [Int.toNat_natCast] at this
        exact this
       refine iteT ⟨_, rfl, _, rfl, _, _, rfl, rfl, c, _, _, _, rfl, rfl, SqT.of hc4, atk, _, rfl, _, rfl, c, _, _, _, rfl, rfl, SqT.of hc4, atj, _, _, rfl, rfl, _, rfl, ?_⟩
       by_cases hv1 : b.getD (j - 1) 0 < b.getD j 0
       ·rw [decide_eq_false (show ¬ b.getD (j - 1) 0 ≥ b.getD j 0 by (first | lia | omega))]
        refine iteF ?_
        have m1 : 0 < j -> b.getD (j - 1) 0 < b.getD j 0 := fun _ => hv1
        refine ⟨_, rfl, _, _, rfl, rfl, _, rfl, ?_⟩
        by_cases hi0 : i = 0
        ·rw [decide_eq_false (show ¬ (i : Int) > 0 by (first | lia | omega))]
         refine iteF (iteF ?_)
         exact ⟨_, rfl, rfl, more m1 fun _ _ z => absurd hi0 z⟩
        ·rw [decide_eq_true (show (i : Int) > 0 by (first | lia | omega))]
         obtain ⟨cq, aq, hup', hcq, laq, hlast'⟩ := hprev.resolve_left hi0
         have laq2 := (hab aq hlast' hi0).1
         have atq : atI (aq.map V.int) (0 + (j : Int)) = some (.int (aq.getD j 0)) := by
          rw [Int.zero_add]
          have := at_getD (ys := aq) (i := (j : Int)) (by (first | lia | omega)) (by (first | lia | omega))
          rw [Int.toNat_natCast] at this
          exact this
         refine iteT ⟨_, rfl, _, rfl, _, _, rfl, rfl, a, us, _, _, rfl, rfl, SqT.of (sm4 _ _ ha), eat hi0 hup', _, rfl, cq, _, _, _, rfl, rfl, SqT.of (sm4 _ _ hcq), atq, _, rfl, _, rfl, c, _, _, _, rfl, rfl, SqT.of hc4, atj, _, _, rfl, rfl, _, rfl, ?_⟩
         by_cases hv2 : aq.getD j 0 < b.getD j 0
         ·rw [decide_eq_false (show ¬ aq.getD j 0 ≥ b.getD j 0 by (first | lia | omega))]
          refine iteF ?_
          refine ⟨_, rfl, rfl, more m1 fun ap h _ => ?_⟩
          rw [hlast'] at h
          cases h
          exact hv2
         ·rw [decide_eq_true (show aq.getD j 0 ≥ b.getD j 0 by (first | lia | omega))]
          exact iteT (viol2 aq hlast' hi0 hv2)
       ·rw [decide_eq_true (show b.getD (j - 1) 0 ≥ b.getD j 0 by (first | lia | omega))]
        exact iteT (iteT (viol1 (by (first | lia | omega)) hv1))
     ·rintro σ G' ⟨d4, rfl, rfl, hok⟩
      have hris : risL b = true := ris_all.mpr fun j j1 j2 => (hok j j2).1 j1
      have hnew : preT (ds.take (i + 1)) = true := by
       rw [step, hris, Bool.true_and]
       cases hg : ((ds.take i).map numsD).getLast? with
       | none => rfl
       | some ap =>
        have i0 : i ≠ 0 := fun z => by
         rw [z] at hg
         cases hg
        show aboveL ap b = true
        unfold aboveL
        rw [decide_eq_true (hab ap hg i0).1, Bool.true_and]
        exact (lt_all (hab ap hg i0).1).mpr fun j hj => (hok j hj).2 ap hg i0
      refine ⟨_, rfl, .inl ⟨rfl, _, SqL.of hGL4⟩, _, rfl, L, c, _, _, rfl, rfl, hGL4, hc4, ?_, ?_⟩
      ·rw [mapI_len, mapI_len, sizeLine_eq]
       have h1 : (ds.map numsD).flatten.length <= 1000 := flat_le (by simpa only [Sz, PyData.bulk] using sz)
       have h2 : ((ds.take i).map numsD).flatten.length <= (ds.map numsD).flatten.length := by
        rw [List.map_take]
        conv => rhs; rw [<- List.take_append_drop i (ds.map numsD)]
        rw [List.flatten_append, List.length_append]
        (first | lia | omega)
       (first | lia | omega)
      ·refine ⟨_, _, _, rfl, same_updR sm4 hL, ?_, hnew⟩
       rw [upd_same, List.take_succ, he, List.map_append, List.flatten_append, List.map_append]
       show some (HO.lst (_ ++ b.map V.int)) = some (HO.lst (_ ++ ([numsD (.tuple es)]).flatten.map V.int))
       rw [eN, hb0]
       simp
    ·rw [decide_eq_true (show ((b.length : Nat) : Int) > (ap.length : Int) by (first | lia | omega))]
     refine iteT (bad G4 sm4 ?_)
     rw [step, hlast]
     have : aboveL ap b = false := by
      unfold aboveL
      rw [decide_eq_false hln]
      rfl
     show (risL b && aboveL ap b) = false
     rw [this, Bool.and_false]
  ·rintro σ G ⟨c2, c3, c4, rfl, sm, hGL, hpre⟩
   rw [lu, List.take_of_length_le (Nat.le_refl _)] at hGL hpre
   have hle : (ds.map numsD).flatten.length <= 1000 := flat_le (by simpa only [Sz, PyData.bulk] using sz)
   have et := tab_pre ds
   rw [hpre, Bool.true_and] at et
   generalize hns : (ds.map numsD).flatten = ns at hGL hle et
   refine ⟨_, rfl, L, ns, rfl, hGL, fun p4 ns' hp4 hs4 hn4 => ?_⟩
   have s4 := same_upd (o := .lst (ns'.map V.int)) hn4
   refine ⟨_, rfl, L, _, rfl, .inl (SqL.of (s4 _ _ hGL)), _, rfl, fun q5 hq5 => ⟨q5, _, rfl, upd_same, by (first | lia | omega), by rw [mapI_len]; (first | lia | omega), fun L5 hL5 => ?_⟩⟩
   have s5 := same_upd (o := .rng 0 ((ns.map V.int).length : Int)) hq5
   have s6 := same_upd (o := .lst (rangeV 0 ((ns.map V.int).length : Int).toNat)) hL5
   refine ⟨_, _, .lst (s6 _ _ (s5 _ _ upd_same)) (IsAll.ints ns'), .lst (vs := (num0 ns.length).map V.int) ?_ (IsAll.ints _), shaped_lints _, shaped_lints _, ?_⟩
   ·rw [upd_same, mapI_len, Int.toNat_natCast, rangeV_num0]
   rw [eqv_numsT, perm_sorted hp4 hs4]
   have := k _ (sm.trans (s4.trans (s5.trans s6)))
   rw [et] at this
   exact this
end
end K60
namespace K60
open PySem PySem.Spec PyProof.Rows L2
noncomputable abbrev s__law_same : Stmt := top 18
section
variable {P : Program} {w : World} {K : PySem.W.Frag} {mg : Str -> Option Value} {base : Heap}
theorem sc__law_same : FnScope ["_law_found", "_law_due"] ["_law_found", "_law_due"] (defScope s__law_same) := ⟨rfl, rfl, rfl, by decide +kernel, rfl, by decide +kernel, by decide +kernel⟩
theorem ok__law_same {f : Addr} {fd : FuncData} (F : Fun K "_law_same" "_law_same" s__law_same f fd) (T : Top mg) (hm : mg "_law_same" = some (.ref f)) (hb : Binds K fd ["_law_found", "_law_due"] []) :
  ∀ n, FnOk P w K mg base CX0 (n + 1) f fd ["_law_found", "_law_due"] (spSame n)
 | 0 => by
  refine F.ok sc__law_same (fun vs H Q E h => ?_) (fun cdv A outer s H vs Q E hr h => ?_)
  ·obtain ⟨x, y, rfl, _⟩ := h
   rfl
  ·obtain ⟨x, y, rfl, ⟨a, rfl, rfl⟩, k⟩ := h
   have hu : _ := hr.units
   refine ⟨_, (pss_cons (ps_if (pt_val (pe_callB call_isi (by rfl) T.n_isinstance boot_isinstance (pa_cons (pv 1) (pa_cons (pe_bltn (v := .ty "tuple") rfl T.n_tuple boot_tuple rfl) pa_nil))))
    pss_never
    pss_nil)
   (pss_cons (ps_if (pt_val (pe_callB call_isi (by rfl) T.n_isinstance boot_isinstance (pa_cons (pv 1) (pa_cons (pe_bltn (v := .ty "bool") rfl T.n_bool boot_bool rfl) pa_nil))))
    pss_never
    pss_nil)
   (pss_one (ps_ret (pe_and (pe_callB call_isi (by rfl) T.n_isinstance boot_isinstance (pa_cons (pv 0) (pa_cons (pe_bltn (v := .ty "int") rfl T.n_int boot_int rfl) pa_nil))) (pe_and (pe_not (pe_callB call_isi (by rfl) T.n_isinstance boot_isinstance (pa_cons (pv 0) (pa_cons (pe_bltn (v := .ty "bool") rfl T.n_bool boot_bool rfl) pa_nil)))) (pe_one (pe_cmpR op_eq (pv 0) (pv 1) (nomark _))))))))), ?_⟩
   refine ⟨_, rfl, _, _, _, _, rfl, .int _, kit_int_tuple, _, rfl, iteF ?_⟩
   refine ⟨_, rfl, _, _, _, _, rfl, .int _, kit_int_bool, _, rfl, iteF ?_⟩
   refine ⟨_, rfl, _, _, _, _, rfl, .int _, kit_int_int, _, rfl, iteT ?_⟩
   refine ⟨_, rfl, _, _, _, _, rfl, .int _, kit_int_bool, _, rfl, _, rfl, iteT ?_⟩
   refine ⟨_, rfl, _, rfl, rfl, ?_⟩
   rw [decide_eq_true rfl]
   exact k H (Same.refl H)
 | n + 1 => by
  have ih : Cal P w K mg base (n + 1) "_law_same" ["_law_found", "_law_due"] (spSame n) := ⟨f, fd, ok__law_same F T hm hb n, hm, F.kp, hb⟩
  refine F.ok sc__law_same (fun vs H Q E h => ?_) (fun cdv A outer s H vs Q E hr h => ?_)
  ·obtain ⟨x, y, rfl, _⟩ := h
   rfl
  ·obtain ⟨x, y, rfl, al, k⟩ := h
   have hu : _ := hr.units
   refine ⟨_, (pss_cons (ps_if (pt_val (pe_callB call_isi (by rfl) T.n_isinstance boot_isinstance (pa_cons (pv 1) (pa_cons (pe_bltn (v := .ty "tuple") rfl T.n_tuple boot_tuple rfl) pa_nil))))
    (pss_cons (ps_if (PW.pt (pw_or (pt_not (pt_val (pe_callB call_isi (by rfl) T.n_isinstance boot_isinstance (pa_cons (pv 0) (pa_cons (pe_bltn (v := .ty "tuple") rfl T.n_tuple boot_tuple rfl) pa_nil))))) (pw_or1 (pt_cmpR op_ne (pe_callB call_len_seq (by rfl) T.n_len PySem.boot_len (pa_cons (pv 0) pa_nil)) (pe_callB call_len_seq (by rfl) T.n_len PySem.boot_len (pa_cons (pv 1) pa_nil)) (nomark _)))))
     (pss_one (ps_ret pe_bl))
     pss_nil)
    (pss_one (ps_ret (pe_callB (call_all rfl) (by rfl) T.n_all boot_all (pa_cons (pe_lc (N' := ["_law_one", "_law_other"]) (n := 2) (ix := []) rfl (CompScope.of (sc := defScope s__law_same) (N := ["_law_found", "_law_due"]) (by decide +kernel) rfl rfl) (pi_zipT rfl T.n_zip (pa_cons (pv 0) (pa_cons (pv 1) pa_nil))) (fun _ _ _ _ _ => ⟨(pg_pairK K (i := 0) (j := 1) rfl rfl (show (["_law_one", "_law_other"] : List Str).Nodup by decide +kernel) rfl rfl (Or.inl rfl) (Or.inl rfl) (Or.inr rfl) (Or.inr rfl)), pts_nil, (pe_cal ih hr rfl (pa_cons (pv 0) (pa_cons (pv 1) pa_nil)))⟩)) pa_nil)))))
    pss_nil)
   (pss_cons (ps_if (pt_val (pe_callB call_isi (by rfl) T.n_isinstance boot_isinstance (pa_cons (pv 1) (pa_cons (pe_bltn (v := .ty "bool") rfl T.n_bool boot_bool rfl) pa_nil))))
    pss_never
    pss_nil)
   (pss_one (ps_ret (pe_and (pe_callB call_isi (by rfl) T.n_isinstance boot_isinstance (pa_cons (pv 0) (pa_cons (pe_bltn (v := .ty "int") rfl T.n_int boot_int rfl) pa_nil))) (pe_and (pe_not (pe_callB call_isi (by rfl) T.n_isinstance boot_isinstance (pa_cons (pv 0) (pa_cons (pe_bltn (v := .ty "bool") rfl T.n_bool boot_bool rfl) pa_nil)))) (pe_one (pe_cmpR op_eq (pv 0) (pv 1) (nomark _))))))))), ?_⟩
   rcases al with ⟨a, rfl, rfl⟩ | ⟨a, b, xs, ys, rfl, rfl, ha, hbb, hl, pr⟩
   ·refine ⟨_, rfl, _, _, _, _, rfl, .int _, kit_int_tuple, _, rfl, iteF ?_⟩
    refine ⟨_, rfl, _, _, _, _, rfl, .int _, kit_int_bool, _, rfl, iteF ?_⟩
    refine ⟨_, rfl, _, _, _, _, rfl, .int _, kit_int_int, _, rfl, iteT ?_⟩
    refine ⟨_, rfl, _, _, _, _, rfl, .int _, kit_int_bool, _, rfl, _, rfl, iteT ?_⟩
    refine ⟨_, rfl, _, rfl, rfl, ?_⟩
    rw [decide_eq_true rfl]
    exact k H (Same.refl H)
   ·have hxy : xs.length = ys.length := Paired.length pr
    refine ⟨_, rfl, _, _, _, _, rfl, .tup hbb, kit_tuple_tuple, _, rfl, iteT ?_⟩
    refine ⟨_, rfl, _, _, _, _, rfl, .tup ha, kit_tuple_tuple, _, rfl, iteF ?_⟩
    refine ⟨_, rfl, a, _, rfl, .inr (SqT.of ha), _, rfl, b, _, rfl, .inr (SqT.of hbb), rfl, _, rfl, ?_⟩
    rw [hxy]
    refine iteNS rfl ?_
    refine ⟨_, rfl, _, rfl, a, b, rfl, ⟨_, SqT.of ha⟩, ⟨_, SqT.of hbb⟩, ?_⟩
    refine lc_zip_true (xs := xs) (ys := ys) (SqT.of ha) (SqT.of hbb) hxy hl (fun s' => SqT.of (s' _ _ ha)) (fun s' => SqT.of (s' _ _ hbb)) (fun i x y hx hy H' s' Q' q => ?_) fun acc H' hacc s' h' => ?_
    ·refine ⟨_, rfl, _, rfl, x, y, rfl, ?_, fun H2 s2 => q H2 s2⟩
     have al := paired_get pr hx hy
     exact al.sameT s'.t
    ·refine ⟨acc, _, rfl, h', ?_⟩
     have e : (List.replicate xs.length true).all id = true := by simp
     rw [e]
     exact k H' s'
end
end K60
namespace K60
open PySem PySem.Spec PyProof.Rows L2
section
variable {P : Program} {w : World} {K : PySem.W.Frag} {mg : Str -> Option Value} {base : Heap}
theorem sc__law_size : FnScope ["_law_hand_here", "_law_most"] ["_law_hand_here", "_law_most"] (defScope s__law_size) := ⟨rfl, rfl, rfl, by decide +kernel, rfl, by decide +kernel, by decide +kernel⟩
theorem ok__law_size {f : Addr} {fd : FuncData} (F : Fun K "_law_size" "_law_size" s__law_size f fd) (C_law_pick : Cal P w K mg base 1 "_law_pick" ["_law_hand_here", "_law_many"] spPick) : FnOk P w K mg base CX0 2 f fd ["_law_hand_here", "_law_most"] spSize := by
 refine F.ok sc__law_size (fun vs H Q E h => ?_) (fun cdv A outer s H vs Q E hr h => ?_)
 ·obtain ⟨p, q, m, rfl, _⟩ := h
  rfl
 ·obtain ⟨p, q, m, rfl, hm0, hm1, hh, k⟩ := h
  refine ⟨_, (pss_cons (ps_if (pt_cmpR op_eq (pe_cal C_law_pick (hr.mono (by decide)) rfl (pa_cons (pv 0) (pa_cons pe_int pa_nil))) pe_int (nomark _))
    (pss_one (ps_ret (pe_op op_sub (pv 1) (pe_cal C_law_pick (hr.mono (by decide)) rfl (pa_cons (pv 0) (pa_cons pe_int pa_nil))))))
    pss_nil)
   (pss_one (ps_ret (pe_cal C_law_pick (hr.mono (by decide)) rfl (pa_cons (pv 0) (pa_cons pe_int pa_nil)))))), ?_⟩
  refine ⟨_, rfl, p, q, 8, rfl, by decide, by decide, hh, fun d H1 h0 h1 hh1 k1 => ⟨rfl, _, rfl, ?_⟩⟩
  refine ite2 (fun _ => ?_) (fun _ => ?_)
  ·refine ⟨_, rfl, _, rfl, p, q, 6, rfl, by decide, by decide, hh1, fun d' H2 h0' h1' hh2 k2 => ⟨_, _, rfl, rfl, ?_⟩⟩
   exact k _ _ (by (first | lia | omega)) (by (first | lia | omega)) hh2 (k1.trans k2)
  ·refine ⟨_, rfl, p, q, 10, rfl, by decide, by decide, hh1, fun d' H2 h0' h1' hh2 k2 => ?_⟩
   exact k _ _ h0' (by (first | lia | omega)) hh2 (k1.trans k2)
theorem perm_insert {ys : List Int} {k : Nat} (h : ys.Perm (num0 k)) (i : Nat) : (ys.take i ++ (k : Int) :: ys.drop i).Perm (num0 (k + 1)) := by
 have e : num0 (k + 1) = num0 k ++ [(k : Int)] := by
  unfold num0
  rw [List.range_succ, List.map_append]
  rfl
 rw [e]
 refine List.perm_middle.trans ?_
 rw [List.take_append_drop]
 refine (List.Perm.cons _ h).trans ?_
 exact (List.perm_append_singleton _ _).symm
theorem num0_len (n : Nat) : (num0 n).length = n := by simp [num0]
theorem sc__law_any : FnScope ["_law_hand_here", "_law_many", "_law_order_here", "_law_k"] ["_law_hand_here", "_law_many"] (defScope s__law_any) := ⟨rfl, rfl, rfl, by decide +kernel, rfl, by decide +kernel, by decide +kernel⟩
theorem ok__law_any {f : Addr} {fd : FuncData} (F : Fun K "_law_any" "_law_any" s__law_any f fd) (T : Top mg) (C_law_pick : Cal P w K mg base 1 "_law_pick" ["_law_hand_here", "_law_many"] spPick) : FnOk P w K mg base CX0 2 f fd ["_law_hand_here", "_law_many"] spAny := by
 refine F.ok sc__law_any (fun vs H Q E h => ?_) (fun cdv A outer s H vs Q E hr h => ?_)
 ·obtain ⟨p, q, m, rfl, _⟩ := h
  rfl
 ·obtain ⟨p, q, m, rfl, hm, hh, k⟩ := h
  refine ⟨_, (pss_cons (ps_set (i := 2) sc__law_any.nd rfl (Or.inl rfl) (pe_lst pa_nil))
   (pss_cons (ps_for PassesOwn.never rfl (pi_range1 rfl T.n_range (pa_cons (pv 1) pa_nil)) (pg_name (i := 3) sc__law_any.nd rfl (Or.inl rfl))
    (pss_one (ps_expr (pe_bm PySem.F.plainAttrs_list PySem.F.slot_list_insert PySem.F.type_list_insert mt_insert (pv 2) (pa_cons (pe_cal C_law_pick (hr.mono (by decide)) rfl (pa_cons (pv 0) (pa_cons (pe_op op_add (pv 3) pe_int) pa_nil))) (pa_cons (pv 3) pa_nil))))))
   (pss_one (ps_ret (pv 2))))), ?_⟩
  refine ⟨Nat.zero_le _, fun l hl => ?_⟩
  refine ⟨_, rfl, (m : Int), rfl, by (first | lia | omega), by (first | lia | omega), ?_⟩
  have hlp : l ≠ p /\ l ≠ q := by
   obtain ⟨_, _, h1, h2, _⟩ := hh
   exact ⟨Ne.symm (ne_of_none h1 hl), Ne.symm (ne_of_none h2 hl)⟩
  refine for_range (n := (m : Int).toNat) (fun i σ H2 => ∃ (ys : List Int) (c : Option V), σ = [some (.ref p), some (.int m), some (.ref l), c] /\ ys.Perm (num0 i) /\ H2 l = some (.lst (ys.map V.int)) /\ Hand H2 p q /\ Keep p q H H2) ⟨[], none, rfl, List.Perm.refl _, upd_same, upd_hand hh hl, (same_upd hl).keep⟩ ?_ ?_
  ·rintro i σ H2 hi ⟨ys, c, rfl, hp, hl2, hh2, k2⟩
   have hi' : i < m := by (first | lia | omega)
   have hlen : ys.length = i := by rw [hp.length_eq, num0_len]
   refine ⟨_, rfl, .inl ⟨rfl, _, SqL.of hl2⟩, _, rfl, _, rfl, _, _, rfl, rfl, p, q, _, rfl, by (first | lia | omega), by (first | lia | omega), hh2, fun d H3 h0 h1 hh3 k3 => ?_⟩
   have hl3 : H3 l = some (.lst (ys.map V.int)) := k3 _ _ hl2 hlp.1 hlp.2
   refine ⟨_, rfl, l, _, d, _, rfl, rfl, hl3, h0, by rw [mapI_len]; (first | lia | omega), small1 (by rw [mapI_len]; (first | lia | omega)), ?_⟩
   refine ⟨ys.take d.toNat ++ (i : Int) :: ys.drop d.toNat, _, rfl, perm_insert hp _, ?_, lset_hand hh3 hl3 hlp.1 hlp.2, fun b o hb h1 h2 => by rw [upd_ne (ne_of_none hb hl)]; exact (k2.trans k3) b o hb h1 h2⟩
   rw [upd_same, List.map_append, List.map_cons, List.map_take, List.map_drop, Int.zero_add]
  ·rintro σ H2 ⟨ys, c, rfl, hp, hl2, hh2, k2⟩
   refine ⟨_, rfl, k l ys H2 ?_ hl hl2 hh2 k2⟩
   simpa using hp
end
end K60
namespace K60
open PySem PySem.Spec PyProof.Rows L2
noncomputable def OrdM (H0 : Hp) (p q : Addr) (m : Nat) (σ : L2.St) (H : Hp) : Prop := ∃ (way : Int) (l : Addr) (ys : List Int) (c4 c5 c6 c7 c8 c9 c10 : Option V), σ = [some (.ref p), some (.int m), some (.int way), some (.ref l), c4, c5, c6, c7, c8, c9, c10] /\ ys.Perm (num0 m) /\ H l = some (.lst (ys.map V.int)) /\ H0 l = none /\ Hand H p q /\ Keep p q H0 H
noncomputable def tM (H0 : Hp) (p q : Addr) (m : Nat) : TS := fun D σ H => OrdM H0 p q m σ H /\ ∀ σ' H', OrdM H0 p q m σ' H' -> D.nx σ' H'
theorem num0_nodup (n : Nat) : (num0 n).Nodup := by
 unfold num0
 refine List.Pairwise.map _ (fun a b (h : a ≠ b) => ?_) (List.nodup_range (n := n))
 show (a : Int) ≠ (b : Int)
 (first | lia | omega)
theorem getI {ys : List Int} {i : Int} {n : Nat} (hl : ys.length = n) (h0 : 0 <= i) (h1 : i < n) : ∃ a, ys[i.toNat]? = some a /\ atI (ys.map V.int) i = some (.int a) /\ ixN (ys.map V.int).length i = some i.toNat := by
 have hlt : i.toNat < ys.length := by (first | lia | omega)
 refine ⟨ys[i.toNat], List.getElem?_eq_getElem hlt, ?_, ?_⟩
 ·have e : ((i.toNat : Nat) : Int) = i := by (first | lia | omega)
  have := atI_nat (xs := ys.map V.int) (j := i.toNat) (v := .int ys[i.toNat]) (by rw [List.getElem?_map, List.getElem?_eq_getElem hlt]; rfl)
  rwa [e] at this
 ·unfold ixN
  rw [mapI_len, if_pos h0, if_pos (by (first | lia | omega))]
section
variable {P : Program} {w : World} {K : PySem.W.Frag} {mg : Str -> Option Value} {base : Heap}
theorem sc__law_order : FnScope ["_law_hand_here", "_law_many", "_law_way", "_law_order_here", "_law_turn", "_law_one", "_law_other", "_law_here", "_law_row", "_law_k", "_law_cut"] ["_law_hand_here", "_law_many"] (defScope s__law_order) := ⟨rfl, rfl, rfl, by decide +kernel, rfl, by decide +kernel, by decide +kernel⟩
set_option maxHeartbeats 4000000 in
theorem ok__law_order {f : Addr} {fd : FuncData} (F : Fun K "_law_order" "_law_order" s__law_order f fd) (T : Top mg) (C_law_pick : Cal P w K mg base 1 "_law_pick" ["_law_hand_here", "_law_many"] spPick) (C_law_any : Cal P w K mg base 2 "_law_any" ["_law_hand_here", "_law_many"] spAny) : FnOk P w K mg base CX0 3 f fd ["_law_hand_here", "_law_many"] spOrder := by
  refine F.ok sc__law_order (fun vs H Q E h => ?_) (fun cdv A outer s H vs Q E hr h => ?_)
  · obtain ⟨p, q, m, rfl, _⟩ := h
    rfl
  · obtain ⟨p, q, m, rfl, hm, hh, k⟩ := h
    have lne : ∀ {l : Addr}, H l = none -> l ≠ p /\ l ≠ q := fun {l} hl => by
      obtain ⟨_, _, h1, h2, _⟩ := hh
      exact ⟨Ne.symm (ne_of_none h1 hl), Ne.symm (ne_of_none h2 hl)⟩
    refine ⟨_, (pss_cons (ps_set (i := 2) sc__law_order.nd rfl (Or.inl rfl) (pe_cal C_law_pick (hr.mono (by decide)) rfl (pa_cons (pv 0) (pa_cons pe_int pa_nil))))
      (pss_cons (ps_set (i := 3) sc__law_order.nd rfl (Or.inl rfl) (pe_callTy (call_list_rng rfl) (by rfl) T.n_list boot_list (pa_cons (pe_callTy call_range1 (by rfl) T.n_range boot_range (pa_cons (pv 1) pa_nil)) pa_nil)))
      (pss_cons (PS.mono (t' := tM H p q m) (ps_if (pt_cmpR op_lt (pv 2) pe_int (nomark _))
        (pss_one (ps_set (i := 3) sc__law_order.nd rfl (Or.inl rfl) (pe_cal C_law_any (hr.mono (by decide)) rfl (pa_cons (pv 0) (pa_cons (pv 1) pa_nil)))))
        pss_nil) ?w1)
      (pss_cons (PS.mono (t' := tM H p q m) (ps_if (pt_cmpR op_eq (pv 2) pe_int (nomark _))
        (pss_one (ps_for PassesOwn.never rfl (pi_range1 rfl T.n_range (pa_cons (pe_op op_mul (pe_cal C_law_pick (hr.mono (by decide)) rfl (pa_cons (pv 0) (pa_cons pe_int pa_nil))) (pe_callTy call_int1 (by rfl) T.n_int boot_int (pa_cons (pe_cmpR op_gt (pv 1) pe_int (nomark _)) pa_nil))) pa_nil)) (pg_name (i := 4) sc__law_order.nd rfl (Or.inl rfl))
          (pss_cons (ps_par (i := 5) (j := 6) rfl sc__law_order.nd rfl rfl (by decide) rfl rfl (pa_cons (pe_cal C_law_pick (hr.mono (by decide)) rfl (pa_cons (pv 0) (pa_cons (pv 1) pa_nil))) (pa_cons (pe_cal C_law_pick (hr.mono (by decide)) rfl (pa_cons (pv 0) (pa_cons (pv 1) pa_nil))) pa_nil)) rfl)
          (pss_cons (ps_set (i := 7) sc__law_order.nd rfl (Or.inl rfl) (pe_ix ix_list (pv 3) (pv 5) (fun _ _ => rfl)))
          (pss_cons (ps_asg (pe_ix ix_list (pv 3) (pv 6) (fun _ _ => rfl)) (pg_sub (pv 3) (pv 5) set_list))
          (pss_one (ps_asg (pv 7) (pg_sub (pv 3) (pv 6) set_list))))))))
        pss_nil) ?w2)
      (pss_cons (PS.mono (t' := tM H p q m) (ps_if (pt_cmpR op_eq (pv 2) pe_int (nomark _))
        (pss_one (ps_set (i := 3) sc__law_order.nd rfl (Or.inl rfl) (pe_rev rv_list (pv 3))))
        pss_nil) ?w3)
      (pss_cons (PS.mono (t' := tM H p q m) (ps_if (pt_cmpR op_eq (pv 2) pe_int (nomark _))
        (pss_cons (ps_set (i := 8) sc__law_order.nd rfl (Or.inl rfl) (pe_cal C_law_any (hr.mono (by decide)) rfl (pa_cons (pv 0) (pa_cons (pv 1) pa_nil))))
        (pss_one (ps_for PassesOwn.never rfl (pi_range1 rfl T.n_range (pa_cons (pv 1) pa_nil)) (pg_name (i := 9) sc__law_order.nd rfl (Or.inl rfl))
          (pss_one (ps_asg (pe_ix ix_list (pv 8) (pe_op op_mod (pe_op op_add (pv 9) pe_int) (pv 1)) (fun _ _ => rfl)) (pg_sub (pv 3) (pe_ix ix_list (pv 8) (pv 9) (fun _ _ => rfl)) set_list))))))
        pss_nil) ?w4)
      (pss_cons (PS.mono (t' := tM H p q m) (ps_if (pt_cmpR op_eq (pv 2) pe_int (nomark _))
        (pss_cons (ps_set (i := 10) sc__law_order.nd rfl (Or.inr rfl) (pe_cal C_law_pick (hr.mono (by decide)) rfl (pa_cons (pv 0) (pa_cons (pe_op op_add (pv 1) pe_int) pa_nil))))
        (pss_one (ps_set (i := 3) sc__law_order.nd rfl (Or.inl rfl) (pe_op op_cat (pe_cal C_law_any (hr.mono (by decide)) rfl (pa_cons (pv 0) (pa_cons (pv 10) pa_nil))) (pe_lc (N' := ["_law_number", "_law_cut"]) (n := 1) (ix := [10]) rfl (CompScope.of (sc := defScope s__law_order) (N := ["_law_hand_here", "_law_many", "_law_way", "_law_order_here", "_law_turn", "_law_one", "_law_other", "_law_here", "_law_row", "_law_k", "_law_cut"]) (by decide +kernel) rfl rfl) (pi_list (pe_cal C_law_any (hr.mono (by decide)) rfl (pa_cons (pv 0) (pa_cons (pe_op op_sub (pv 1) (pv 10)) pa_nil)))) (fun _ _ _ _ _ => ⟨(pg_name (i := 0) (show (["_law_number", "_law_cut"] : List Str).Nodup by decide +kernel) rfl (Or.inl rfl)), pts_nil, (pe_op op_add (pv 1) (pv 0))⟩))))))
        pss_nil) ?w5)
      (pss_one (ps_ret (pe_callTy call_tuple_of (by rfl) T.n_tuple boot_tuple (pa_cons (pv 3) pa_nil))))))))))), ?fin⟩
    case w1 =>
      rintro D σ H1 ⟨⟨way, l, ys, c4, c5, c6, c7, c8, c9, c10, rfl, hp, hl, hl0, hh1, k1⟩, nx⟩
      refine ⟨_, rfl, _, _, rfl, rfl, _, rfl, ite2 (fun _ => ?_) (fun _ => nx _ _ ⟨way, l, ys, c4, c5, c6, c7, c8, c9, c10, rfl, hp, hl, hl0, hh1, k1⟩)⟩
      refine ⟨_, rfl, _, rfl, p, q, m, rfl, hm, hh1, fun l' ys' H2 hp' hn hl' hh2 k2 => nx _ _ ⟨way, l', ys', c4, c5, c6, c7, c8, c9, c10, rfl, hp', hl', k1.free hh hn hh1, hh2, k1.trans k2⟩⟩
    case w2 =>
      rintro D σ H1 ⟨⟨way, l, ys, c4, c5, c6, c7, c8, c9, c10, rfl, hp, hl, hl0, hh1, k1⟩, nx⟩
      refine ⟨_, rfl, rfl, _, rfl, ite2 (fun _ => ?_) (fun _ => nx _ _ ⟨way, l, ys, c4, c5, c6, c7, c8, c9, c10, rfl, hp, hl, hl0, hh1, k1⟩)⟩
      refine ⟨_, rfl, p, q, 4, rfl, by decide, by decide, hh1, fun d H2 h0 h1 hh2 k2 => ?_⟩
      refine ⟨_, rfl, _, _, rfl, rfl, .inr ⟨_, rfl, _, _, rfl, rfl, .inl ⟨by (first | lia | omega), by (first | lia | omega)⟩, ?_⟩⟩
      have hj : ∃ n : Nat, d * (if decide ((1 : Int) < m) = true then 1 else 0) = (n : Int) /\ n <= 4 /\ (n ≠ 0 -> 1 < m) := by
        by_cases h : (1 : Int) < m
        · rw [if_pos (by simpa using h)]
          exact ⟨d.toNat, by (first | lia | omega), by (first | lia | omega), fun _ => by (first | lia | omega)⟩
        · rw [if_neg (by simpa using h)]
          exact ⟨0, by (first | lia | omega), by (first | lia | omega), fun z => absurd rfl z⟩
      obtain ⟨n, en, hn4, hn0⟩ := hj
      refine ⟨_, rfl, by rw [en]; (first | lia | omega), by rw [en]; (first | lia | omega), ?_⟩
      rw [en]
      have hlp := lne hl0
      refine for_range (n := (n : Int).toNat) (fun i σ H3 => OrdM H p q m σ H3) ⟨way, l, ys, c4, c5, c6, c7, c8, c9, c10, rfl, hp, k2 _ _ hl hlp.1 hlp.2, hl0, hh2, k1.trans k2⟩ ?_ (fun σ H3 h3 => nx _ _ h3)
      rintro i σ H3 hi ⟨way, l, ys, c4, c5, c6, c7, c8, c9, c10, rfl, hp, hl, hl0, hh3, k3⟩
      have hm1 : 1 < m := hn0 (by (first | lia | omega))
      have hlp := lne hl0
      have hlen : ys.length = m := by rw [hp.length_eq, num0_len]
      refine ⟨_, rfl, _, rfl, p, q, m, rfl, by (first | lia | omega), by (first | lia | omega), hh3, fun d1 H4 a0 a1 hh4 k4 => ⟨_, rfl, _, rfl, p, q, m, rfl, by (first | lia | omega), by (first | lia | omega), hh4, fun d2 H5 b0 b1 hh5 k5 => ⟨_, _, rfl, ?_⟩⟩⟩
      have hl5 : H5 l = some (.lst (ys.map V.int)) := k5 _ _ (k4 _ _ hl hlp.1 hlp.2) hlp.1 hlp.2
      obtain ⟨x1, g1, g2, g3⟩ := getI hlen a0 a1
      obtain ⟨x2, f1, f2, f3⟩ := getI hlen b0 b1
      refine ⟨_, rfl, _, rfl, l, _, _, _, rfl, rfl, SqL.of hl5, g2, ?_⟩
      refine ⟨_, rfl, _, rfl, l, _, _, _, rfl, rfl, SqL.of hl5, f2, _, rfl, _, rfl, l, _, _, _, rfl, rfl, hl5, g3, ?_⟩
      refine ⟨_, rfl, _, rfl, _, rfl, l, _, _, d2.toNat, rfl, rfl, upd_same, ?_, ?_⟩
      · rw [List.length_set]; exact f3
      · refine ⟨way, l, (ys.set d1.toNat x2).set d2.toNat x1, _, _, _, _, c8, c9, c10, rfl, (set_swap_perm ys _ _ _ _ g1 f1).trans hp, ?_, hl0, ?_, ?_⟩
        · rw [upd_same, List.map_set, List.map_set]
        · exact lset_hand (lset_hand hh5 hl5 hlp.1 hlp.2) upd_same hlp.1 hlp.2
        · exact fun b o hb h1 h2 => by rw [upd_ne (ne_of_none hb hl0), upd_ne (ne_of_none hb hl0)]; exact ((k3.trans k4).trans k5) b o hb h1 h2
    case w3 =>
      rintro D σ H1 ⟨⟨way, l, ys, c4, c5, c6, c7, c8, c9, c10, rfl, hp, hl, hl0, hh1, k1⟩, nx⟩
      refine ⟨_, rfl, rfl, _, rfl, ite2 (fun _ => ?_) (fun _ => nx _ _ ⟨way, l, ys, c4, c5, c6, c7, c8, c9, c10, rfl, hp, hl, hl0, hh1, k1⟩)⟩
      refine ⟨_, rfl, l, _, rfl, SqL.of hl, fun l' hl' => nx _ _ ⟨way, l', ys.reverse, c4, c5, c6, c7, c8, c9, c10, rfl, (List.reverse_perm ys).trans hp, by rw [upd_same, List.map_reverse], k1.free hh hl' hh1, upd_hand hh1 hl', k1.trans (same_upd hl').keep⟩⟩
    case w4 =>
      rintro D σ H1 ⟨⟨way, l, ys, c4, c5, c6, c7, c8, c9, c10, rfl, hp, hl, hl0, hh1, k1⟩, nx⟩
      refine ⟨_, rfl, rfl, _, rfl, ite2 (fun _ => ?_) (fun _ => nx _ _ ⟨way, l, ys, c4, c5, c6, c7, c8, c9, c10, rfl, hp, hl, hl0, hh1, k1⟩)⟩
      refine ⟨_, rfl, _, rfl, p, q, m, rfl, hm, hh1, fun lr row H2 hpr hnr hlr hh2 k2 => ?_⟩
      have hlp := lne hl0
      have hlr0 : H lr = none := k1.free hh hnr hh1
      have hlrp := lne hlr0
      have hne : l ≠ lr := ne_of_none hl hnr
      have hrl : row.length = m := by rw [hpr.length_eq, num0_len]
      have hnd : row.Nodup := hpr.nodup_iff.mpr (num0_nodup m)
      refine ⟨_, rfl, (m : Int), rfl, by (first | lia | omega), by (first | lia | omega), ?_⟩
      refine for_range (n := (m : Int).toNat) (fun i σ H3 => ∃ (zs : List Int) (c9 : Option V), σ = [some (.ref p), some (.int m), some (.int way), some (.ref l), c4, c5, c6, c7, some (.ref lr), c9, c10] /\ zs.length = m /\ (∀ (k : Nat) (a : Int), k < i -> row[k]? = some a -> ∀ b, row[(k + 1) % m]? = some b -> zs[a.toNat]? = some b) /\ H3 l = some (.lst (zs.map V.int)) /\ H3 lr = some (.lst (row.map V.int)) /\ Hand H3 p q /\ Keep p q H H3)
        ⟨ys, c9, rfl, by rw [hp.length_eq, num0_len], fun k a hk => absurd hk (Nat.not_lt_zero _), k2 _ _ hl hlp.1 hlp.2, hlr, hh2, k1.trans k2⟩ ?_ ?_
      · rintro i σ H3 hi ⟨zs, c9, rfl, hzl, hz, hl3, hlr3, hh3, k3⟩
        have hi' : i < m := by (first | lia | omega)
        have hmod : ((0 : Int) + (i : Int) + 1) % (m : Int) = (((i + 1) % m : Nat) : Int) := by
          rw [Int.zero_add]; rfl
        obtain ⟨a, ga, ga2, _⟩ := getI (i := (0 : Int) + (i : Int)) hrl (by (first | lia | omega)) (by (first | lia | omega))
        obtain ⟨b, gb, gb2, _⟩ := getI (i := ((0 : Int) + (i : Int) + 1) % (m : Int)) hrl (Int.emod_nonneg _ (by (first | lia | omega))) (Int.emod_lt_of_pos _ (by (first | lia | omega)))
        have ga' : row[i]? = some a := by have e : ((0 : Int) + (i : Int)).toNat = i := by (first | lia | omega)
                                          rw [e] at ga; exact ga
        have gb' : row[(i + 1) % m]? = some b := by rw [hmod] at gb; exact gb
        have ham := num0_mem (hpr.mem_iff.mp (List.mem_of_getElem? ga'))
        obtain ⟨x, _, _, gx⟩ := getI (i := a) hzl ham.1 ham.2
        refine ⟨_, rfl, _, rfl, _, _, rfl, rfl, _, rfl, _, _, rfl, rfl, by (first | lia | omega), lr, _, _, _, rfl, rfl, SqL.of hlr3, gb2, _, rfl, _, rfl, _, rfl, lr, _, _, _, rfl, rfl, SqL.of hlr3, ga2, l, _, _, _, rfl, rfl, hl3, gx, ?_⟩
        refine ⟨zs.set a.toNat b, _, rfl, by rw [List.length_set]; exact hzl, fun k a' hk hka b' hb' => ?_, by rw [upd_same, List.map_set], by rw [upd_ne (Ne.symm hne)]; exact hlr3, lset_hand hh3 hl3 hlp.1 hlp.2, fun c o hc h1 h2 => by rw [upd_ne (ne_of_none hc hl0)]; exact k3 c o hc h1 h2⟩
        by_cases hki : k = i
        · subst hki
          rw [ga'] at hka; cases hka
          rw [gb'] at hb'; cases hb'
          rw [List.getElem?_set_self (by (first | lia | omega))]
        · have hna : a.toNat ≠ a'.toNat := fun z => by
            have ha' := num0_mem (hpr.mem_iff.mp (List.mem_of_getElem? hka))
            have : a = a' := by (first | lia | omega)
            subst this
            obtain ⟨u1, u2⟩ := List.getElem?_eq_some_iff.mp ga'
            obtain ⟨v1, v2⟩ := List.getElem?_eq_some_iff.mp hka
            exact hki ((List.getElem_inj hnd).mp (v2.trans u2.symm))
          rw [List.getElem?_set_ne hna]
          exact hz k a' (by (first | lia | omega)) hka b' hb'
      · rintro σ H3 ⟨zs, c9, rfl, hzl, hz, hl3, hlr3, hh3, k3⟩
        refine nx _ _ ⟨way, l, zs, c4, c5, c6, c7, _, c9, c10, rfl, round_perm hpr hzl fun k a hka b hb => hz k a ?_ hka b hb, hl3, hl0, hh3, k3⟩
        have := (List.getElem?_eq_some_iff.mp hka).1
        (first | lia | omega)
    case w5 =>
      rintro D σ H1 ⟨⟨way, l, ys, c4, c5, c6, c7, c8, c9, c10, rfl, hp, hl, hl0, hh1, k1⟩, nx⟩
      refine ⟨_, rfl, rfl, _, rfl, ite2 (fun _ => ?_) (fun _ => nx _ _ ⟨way, l, ys, c4, c5, c6, c7, c8, c9, c10, rfl, hp, hl, hl0, hh1, k1⟩)⟩
      refine ⟨_, rfl, _, rfl, _, _, rfl, rfl, p, q, _, rfl, by (first | lia | omega), by (first | lia | omega), hh1, fun cut H2 h0 h1 hh2 k2 => ?_⟩
      obtain ⟨c, rfl⟩ : ∃ c : Nat, cut = (c : Int) := ⟨cut.toNat, by (first | lia | omega)⟩
      have hc : c <= m := by (first | lia | omega)
      refine ⟨_, rfl, _, rfl, p, q, c, rfl, by (first | lia | omega), hh2, fun l1 ys1 H3 hp1 hn1 hl1 hh3 k3 => ?_⟩
      have hl10 : H l1 = none := (k1.trans k2).free hh hn1 hh2
      have hl1p := lne hl10
      refine ⟨_, rfl, _, rfl, _, rfl, _, _, rfl, rfl, p, q, m - c, by rw [Int.ofNat_sub hc], by (first | lia | omega), hh3, fun l2 ys2 H4 hp2 hn2 hl2 hh4 k4 => ⟨l2, rfl, ⟨_, SqL.of hl2⟩, ?_⟩⟩
      have hl2len : ys2.length <= 1000 := by rw [hp2.length_eq, num0_len]; (first | lia | omega)
      refine lc_pure (yields_list (xs := ys2.map V.int)) (small1 (by rw [mapI_len]; exact hl2len)) (fun _ => true) (fun v => match v with | .int i => .int ((c : Int) + i) | v => v) (fun H' s' => SqL.of (s' _ _ hl2)) (fun _ _ _ _ _ q => q) (fun x hx _ H' s' Q' q => ?_) fun acc hacc => ?_
      · obtain ⟨n, _, rfl⟩ := List.mem_map.mp hx
        exact ⟨_, rfl, _, rfl, _, _, rfl, rfl, q⟩
      · have hl14 : H4 l1 = some (.lst (ys1.map V.int)) := k4 _ _ hl1 hl1p.1 hl1p.2
        have hk4 : Keep p q H H4 := ((k1.trans k2).trans k3).trans k4
        rw [filter_true, map_of_ints (g := fun i => (c : Int) + i) fun n => rfl]
        refine ⟨l1, acc, _, _, rfl, rfl, by rw [upd_ne (ne_of_none hl14 hacc)]; exact hl14, upd_same, ?_, fun l' hl' => ?_⟩
        · simp only [List.length_map]
          rw [hp1.length_eq, hp2.length_eq, num0_len, num0_len]
          exact Nat.le_trans (by (first | lia | omega) : c + (m - c) <= 1000) (by decide)
        · refine nx _ _ ⟨way, l', ys1 ++ ys2.map fun i => (c : Int) + i, c4, c5, c6, c7, c8, c9, _, rfl, ?_, by rw [upd_same, List.map_append], ?_, upd_hand (upd_hand hh4 hacc) hl', (hk4.trans (same_upd hacc).keep).trans (same_upd hl').keep⟩
          · rw [num0_split c m hc]
            exact hp1.append (hp2.map _)
          · exact (hk4.trans (same_upd hacc).keep).free hh hl' (upd_hand hh4 hacc)
    case fin =>
      refine ⟨_, rfl, p, q, 7, rfl, by decide, by decide, hh, fun way H1 h0 h1 hh1 k1 => ?_⟩
      refine ⟨_, rfl, (m : Int), rfl, fun a ha => ⟨a, m, rfl, upd_same, by (first | lia | omega), by (first | lia | omega), fun l hl => ?_⟩⟩
      have ha0 : H a = none := k1.free hh ha hh1
      have hl1 : H1 l = none := by
        rw [upd_ne (fun z => by rw [z, upd_same] at hl; cases hl)] at hl
        exact hl
      refine ⟨⟨way, l, num0 m, none, none, none, none, none, none, none, rfl, List.Perm.refl _, ?_, k1.free hh hl1 hh1, upd_hand (upd_hand hh1 ha) hl, (k1.trans (same_upd ha).keep).trans (same_upd hl).keep⟩, ?_⟩
      · rw [upd_same, rangeV_num0]; rfl
      intro σ1 G1 M1
      refine ⟨M1, fun σ2 G2 M2 => ⟨M2, fun σ3 G3 M3 => ⟨M3, fun σ4 G4 M4 => ⟨M4, fun σ5 G5 M5 => ?_⟩⟩⟩⟩
      obtain ⟨way', l', ys', c4, c5, c6, c7, c8, c9, c10, rfl, hp, hl', hl0, hh5, k5⟩ := M5
      refine ⟨_, rfl, l', _, rfl, .inl ⟨SqL.of hl', fun t ht => k t ys' _ hp upd_same (upd_hand hh5 ht) (k5.trans (same_upd ht).keep)⟩⟩
end
end K60
namespace L2
open PySem PySem.Spec PyProof.Rows
noncomputable abbrev rwD (R : List (List Int)) : PyData := .tuple (R.map fun r => PyData.tuple (r.map PyData.int))
noncomputable def tqD (P Q : List (List Int)) : PyData := .tuple [rwD P, rwD Q]
theorem shaped_tq (P Q : List (List Int)) : SeqAt.shaped (tqD P Q) = true := by
 have h1 := lay_rows P
 have h2 := deep_rows P
 have h3 := lay_rows Q
 have h4 := deep_rows Q
 show SeqAt.shaped (.tuple [.tuple _, .tuple _]) = true
 simp only [SeqAt.shaped, PyData.canLay0, PyData.canLayAll0, PyData.depth, PyData.depthAll, h1, h3]
 simp
 (first | lia | omega)
theorem eqv_tq (P Q : List (List Int)) : PyData.eqv (tqD P Q) (tqD P Q) = true := by
 have h1 : PyData.eqv (rwD P) (rwD P) = true := eqv_rows P
 have h2 : PyData.eqv (rwD Q) (rwD Q) = true := eqv_rows Q
 show PyData.eqvAll [rwD P, rwD Q] [rwD P, rwD Q] = true
 simp [PyData.eqvAll, h1, h2]
structure TqAt (H : Hp) (t q1 q2 : Addr) (ys1 ys2 : List Addr) (P Q : List (List Int)) : Prop where
 ht : H t = some (.tup [.ref q1, .ref q2])
 h1 : H q1 = some (.tup (ys1.map V.ref))
 r1 : RowsAt H ys1 P
 h2 : H q2 = some (.tup (ys2.map V.ref))
 r2 : RowsAt H ys2 Q
theorem TqAt.same {H H' : Hp} {t q1 q2 : Addr} {ys1 ys2 : List Addr} {P Q : List (List Int)} (h : TqAt H t q1 q2 ys1 ys2 P Q) (s : Same H H') : TqAt H' t q1 q2 ys1 ys2 P Q := ⟨s _ _ h.ht, s _ _ h.h1, h.r1.same s, s _ _ h.h2, h.r2.same s⟩
theorem TqAt.is {H : Hp} {t q1 q2 : Addr} {ys1 ys2 : List Addr} {P Q : List (List Int)} (h : TqAt H t q1 q2 ys1 ys2 P Q) : Is H (.ref t) (tqD P Q) := .tup h.ht (.cons (.tup h.h1 h.r1.data) (.cons (.tup h.h2 h.r2.data) .nil))
theorem alike_rows {H : Hp} {a b : Addr} {ys zs : List Addr} {R : List (List Int)} (ha : H a = some (.tup (ys.map V.ref))) (hb : H b = some (.tup (zs.map V.ref))) (hy : RowsAt H ys R) (hz : RowsAt H zs R) (hl : R.length <= 1000) (hr : ∀ r ∈ R, r.length <= 1000) : Alike H 2 (.ref a) (.ref b) :=
 .inr ⟨a, b, _, _, rfl, rfl, ha, hb, by rw [List.length_map, Paired.length hy]; exact hl, RowsAt.alike hy hz hr⟩
theorem alike_tq {H : Hp} {t q1 q2 t' q1' q2' : Addr} {ys1 ys2 zs1 zs2 : List Addr} {P Q : List (List Int)} (h : TqAt H t q1 q2 ys1 ys2 P Q) (h' : TqAt H t' q1' q2' zs1 zs2 P Q) (hP : P.length <= 1000) (hQ : Q.length <= 1000) (hP2 : ∀ r ∈ P, r.length <= 1000) (hQ2 : ∀ r ∈ Q, r.length <= 1000) : Alike H 3 (.ref t) (.ref t') :=
 .inr ⟨t, t', _, _, rfl, rfl, h.ht, h'.ht, by show 2 <= 1000; decide, .cons (alike_rows h.h1 h'.h1 h.r1 h'.r1 hP hP2) (.cons (alike_rows h.h2 h'.h2 h.r2 h'.r2 hQ hQ2) .nil)⟩
theorem rows_isT {S : Addr -> Prop} {H : Hp} : ∀ {zs : List Addr} {rows : List (List Int)}, RowsAt H zs rows -> IsAllY S H (zs.map V.ref) (rows.map tupI)
 | _, _, .nil => .nil
 | _, _, .cons h t => .cons (IsY.intT h) (rows_isT t)
theorem bulkI : ∀ l : List Int, PyData.bulkAll (l.map PyData.int) = l.length
 | [] => rfl
 | n :: l => by
  rw [List.map_cons, List.length_cons]
  simp only [PyData.bulkAll, PyData.bulk, bulkI l]
  (first | lia | omega)
theorem bulkT : ∀ rows : List (List Int), PyData.bulkAll (rows.map tupI) = rows.flatten.length + rows.length
 | [] => rfl
 | r :: rows => by
  have h1 := bulkI r
  have h2 := bulkT rows
  rw [List.map_cons, List.flatten_cons, List.length_append, List.length_cons]
  simp only [PyData.bulkAll, h2]
  show PyData.bulkAll (r.map PyData.int) + 1 + _ = _
  (first | lia | omega)
theorem neNilT {H : Hp} {a e : Addr} {ns : List Int} {Q : VK} (ha : H a = some (.tup (ns.map V.int))) (he : H e = some (.tup [])) (q : Q (.bl (decide (ns ≠ []))) H) : rNeD (.ref a) (.ref e) H Q := by
 refine ⟨_, _, Is.ints ha, .tup he .nil, shaped_tints ns, shaped_tints [], ?_⟩
 have : PyData.eqv (.tuple (ns.map PyData.int)) (.tuple []) = decide (ns = []) := eqv_ints ns []
 rw [this, show (!decide (ns = [])) = decide (ns ≠ []) by cases ns <;> rfl]
 exact q
theorem len_list {H : Hp} : ∀ {zs : List Addr} {rows : List (List Int)} {vs : List V}, RowsAt H zs rows -> Paired (fun x v => ∃ (z : Addr) (r : List Int), x = V.ref z /\ H z = some (.tup (r.map V.int)) /\ v = .int (r.length : Int)) (zs.map V.ref) vs -> vs = (rows.map fun r => (r.length : Int)).map V.int
 | _, _, _, .nil, .nil => rfl
 | _, _, _, .cons h t, .cons p pt => by
  obtain ⟨z, r, e1, e2, e3⟩ := p
  cases e1
  rw [h] at e2
  injection e2 with e2
  injection e2 with e2
  have := congrArg List.length e2
  rw [List.length_map, List.length_map] at this
  rw [List.map_cons, List.map_cons, e3, <- this, <- len_list t pt]
noncomputable def spLaw (K : PySem.W.Frag) : Sp := fun vs H Q _ => ∃ (a : Addr) (ns : List Int), vs = [.ref a] /\ SqL K H a (ns.map V.int) /\ ns.length <= 63 /\ ∀ H', Q (.bl true) H'
end L2
namespace K60
open PySem PySem.Spec PyProof.Rows L2
noncomputable abbrev s_law : Stmt := top 22
section
variable {P : Program} {w : World} {K : PySem.W.Frag} {mg : Str -> Option Value} {base : Heap}
theorem sc_law : FnScope ["_law_script", "_law_hand_here", "_law_turn", "_law_order_here", "_law_heard", "_law_one", "_law_other"] ["_law_script"] (defScope s_law) := ⟨rfl, rfl, rfl, by decide +kernel, rfl, by decide +kernel, by decide +kernel⟩
set_option maxHeartbeats 8000000 in
theorem ok_law {f : Addr} {fd : FuncData} (F : Fun K "law" "law" s_law f fd) (T : Top mg) (C_law_hand : Cal P w K mg base 1 "_law_hand" ["_law_script"] (spHand K)) (C_law_size : Cal P w K mg base 2 "_law_size" ["_law_hand_here", "_law_most"] spSize)
  (C_law_order : Cal P w K mg base 3 "_law_order" ["_law_hand_here", "_law_many"] spOrder) (C_law_same : Cal P w K mg base 4 "_law_same" ["_law_found", "_law_due"] (spSame 3)) (Ctables : Cal P w K mg base 2 "tables" ["order"] spTabs) (C_law_bumped : Cal P w K mg base 1 "_law_bumped" ["_law_order_here"] spTabs) (Cis_table : Cal P w K mg base 4 "is_table" ["thing"] spTabD) (C_law_is_table : Cal P w K mg base 2 "_law_is_table" ["_law_thing"] spTabD) (C_law_longest : Cal P w K mg base 1 "_law_longest" ["_law_order_here"] (spCnt longestO)) : FnOk P w K mg base CX0 6 f fd ["_law_script"] (spLaw K) := by
 refine F.ok sc_law (fun vs H Q E h => ?_) (fun cdv A outer s H vs Q E hr h => ?_)
 ·obtain ⟨a, ns, rfl, _⟩ := h
  rfl
 ·obtain ⟨a, ns, rfl, hS, hl, k⟩ := h
  have hu : _ := hr.units
  refine ⟨_, (pss_cons (ps_set (i := 1) sc_law.nd rfl (Or.inl rfl) (pe_cal C_law_hand (hr.mono (by decide)) rfl (pa_cons (pv 0) pa_nil)))
   (pss_cons (ps_for PassesOwn.never rfl (pi_range1 rfl T.n_range (pa_cons pe_int pa_nil)) (pg_name (i := 2) sc_law.nd rfl (Or.inl rfl))
    (pss_cons (ps_set (i := 3) sc_law.nd rfl (Or.inl rfl) (pe_cal C_law_order (hr.mono (by decide)) rfl (pa_cons (pv 1) (pa_cons (pe_cal C_law_size (hr.mono (by decide)) rfl (pa_cons (pv 1) (pa_cons pe_int pa_nil))) pa_nil))))
    (pss_cons (ps_set (i := 4) sc_law.nd rfl (Or.inl rfl) (pe_cal Ctables (hr.mono (by decide)) rfl (pa_cons (pv 3) pa_nil)))
    (pss_cons (ps_if (PW.pt (pw_or (pt_not (pt_val (pe_cal C_law_same (hr.mono (by decide)) rfl (pa_cons (pv 4) (pa_cons (pe_cal C_law_bumped (hr.mono (by decide)) rfl (pa_cons (pv 3) pa_nil)) pa_nil))))) (pw_or1 (pt_cmpR (op_neD hu) (pe_cal Ctables (hr.mono (by decide)) rfl (pa_cons (pv 3) pa_nil)) (pv 4) (nomark _)))))
     (pss_one (ps_ret pe_bl))
     pss_nil)
    (pss_cons (ps_asg (pv 4) (pg_pair (i := 5) (j := 6) rfl sc_law.nd rfl rfl (Or.inl rfl) (Or.inl rfl) (Or.inl rfl) (Or.inl rfl)))
    (pss_cons (ps_if (pt_cmpR (op_neD hu) (pe_lc (N' := ["_law_row"]) (n := 1) (ix := []) rfl (CompScope.of (sc := defScope s_law) (N := ["_law_script", "_law_hand_here", "_law_turn", "_law_order_here", "_law_heard", "_law_one", "_law_other"]) (by decide +kernel) rfl rfl) (pi_tup (pv 5)) (fun _ _ _ _ _ => ⟨(pg_name (i := 0) (show (["_law_row"] : List Str).Nodup by decide +kernel) rfl (Or.inl rfl)), pts_nil, (pe_callB (call_len_seqKY K rfl) (by rfl) T.n_len PySem.boot_len (pa_cons (pv 0) pa_nil))⟩)) (pe_lc (N' := ["_law_row"]) (n := 1) (ix := []) rfl (CompScope.of (sc := defScope s_law) (N := ["_law_script", "_law_hand_here", "_law_turn", "_law_order_here", "_law_heard", "_law_one", "_law_other"]) (by decide +kernel) rfl rfl) (pi_tup (pv 6)) (fun _ _ _ _ _ => ⟨(pg_name (i := 0) (show (["_law_row"] : List Str).Nodup by decide +kernel) rfl (Or.inl rfl)), pts_nil, (pe_callB (call_len_seqKY K rfl) (by rfl) T.n_len PySem.boot_len (pa_cons (pv 0) pa_nil))⟩)) (nomark _))
     (pss_one (ps_ret pe_bl))
     pss_nil)
    (pss_cons (ps_if (PW.pt (pw_or (pt_not (pt_val (pe_cal C_law_is_table (hr.mono (by decide)) rfl (pa_cons (pv 5) pa_nil)))) (pw_or1 (pt_not (pt_val (pe_cal C_law_is_table (hr.mono (by decide)) rfl (pa_cons (pv 6) pa_nil)))))))
     (pss_one (ps_ret pe_bl))
     pss_nil)
    (pss_cons (ps_if (PW.pt (pw_or (pt_cmpR op_isnot_bl (pe_cal Cis_table (hr.mono (by decide)) rfl (pa_cons (pv 5) pa_nil)) pe_bl (nomark _)) (pw_or (pt_cmpR op_isnot_bl (pe_cal Cis_table (hr.mono (by decide)) rfl (pa_cons (pv 6) pa_nil)) pe_bl (nomark _)) (pw_or1 (pt_cmpR op_ne (pe_callB call_len_seq (by rfl) T.n_len PySem.boot_len (pa_cons (pv 5) pa_nil)) (pe_cal C_law_longest (hr.mono (by decide)) rfl (pa_cons (pe_rev rv_tup (pv 3)) pa_nil)) (nomark _))))))
     (pss_one (ps_ret pe_bl))
     pss_nil)
    (pss_one (ps_if (PW.pt (pw_and (pt_cmpR (op_neD hu) (pv 3) (pe_tup pa_nil) (nomark _)) (pw_and1 (pt_cmpR op_ne (pe_callB call_len_seq (by rfl) T.n_len PySem.boot_len (pa_cons (pe_ix ix_tup (pv 5) pe_int (fun _ _ => rfl)) pa_nil)) (pe_cal C_law_longest (hr.mono (by decide)) rfl (pa_cons (pv 3) pa_nil)) (nomark _)))))
     (pss_one (ps_ret pe_bl))
     pss_nil))))))))))
   (pss_one (ps_ret (pe_cmpR (op_eqD hu) (pe_cal Ctables (hr.mono (by decide)) rfl (pa_cons (pe_tup pa_nil) pa_nil)) (pe_tup (pa_cons (pe_tup pa_nil) (pa_cons (pe_tup pa_nil) pa_nil))) (nomark _)))))), ?_⟩
  refine ⟨_, rfl, a, ns, rfl, hS, hl, fun p q H1 s1 hh1 hp0 hq0 => ?_⟩
  refine ⟨5, rfl, by decide, by decide, ?_⟩
  refine for_range (n := 5) (fun i σ H2 => ∃ (c2 c3 c4 c5 c6 : Option V), σ = [some (.ref a), some (.ref p), c2, c3, c4, c5, c6] /\ Hand H2 p q) ⟨none, none, none, none, none, rfl, hh1⟩ ?_ ?_
  ·rintro i σ H2 hi ⟨c2, c3, c4, c5, c6, rfl, hh2⟩
   refine ⟨_, rfl, _, rfl, p, q, 60, rfl, by decide, by decide, hh2, fun m1 G4 m0 m1' hh4 k4 => ?_⟩
   obtain ⟨m, rfl⟩ : ∃ n : Nat, m1 = (n : Int) := ⟨m1.toNat, by (first | lia | omega)⟩
   refine ⟨p, q, m, rfl, by (first | lia | omega), hh4, fun o ys G5 ho hx hh5 k5 => ?_⟩
   have hm : m <= 60 := by (first | lia | omega)
   have ho : Ord m ys := ho
   have ln := ho.len
   have TI := tabs_all ho m (Nat.le_refl _)
   obtain ⟨b1, b2, b3, b4⟩ := tabs_bnd TI hm
   obtain ⟨lg1, lg2⟩ := tabs_long ho
   have ek : ys.take m = ys := List.take_of_length_le (by (first | lia | omega))
   have tp := TI.tp
   have tq := TI.tq
   have pp := TI.pp
   have qp := TI.qp
   have tln := TI.ln
   rw [ek] at pp
   have hfl1 : (tabI ys m).1.flatten.length <= 60 := by rw [pp.length_eq]; (first | lia | omega)
   have hfl2 : (tabI ys m).2.flatten.length <= 60 := by rw [qp.length_eq, num0_len']; exact hm
   have tD1 : tabD (.tuple ((tabI ys m).1.map tupI)) = true := tab_tabD tp (pp.trans ho)
   have tD2 : tabD (.tuple ((tabI ys m).2.map tupI)) = true := tab_tabD tq qp
   have hne : ys ≠ [] -> ∃ r R, (tabI ys m).1 = r :: R := fun hy => by
    cases e : (tabI ys m).1 with
    | nil =>
     rw [e] at pp
     have := pp.length_eq
     have hz := List.length_pos_iff.mpr hy
     simp at this
     (first | lia | omega)
    | cons r R => exact ⟨r, R, rfl⟩
   refine ⟨_, rfl, o, ys, m, rfl, hx, ho, hm, fun t q1 q2 zs1 zs2 G6 s6 a1 a2 a3 a4 a5 => ?_⟩
   have A : TqAt G6 t q1 q2 zs1 zs2 (tabI ys m).1 (tabI ys m).2 := ⟨a1, a2, a3, a4, a5⟩
   clear a1 a2 a3 a4 a5
   have kP : ∃ PT QT, tabI ys m = (PT, QT) := ⟨_, _, rfl⟩
   obtain ⟨PT, QT, eT⟩ := kP
   rw [eT] at A tp tq pp qp tln hfl1 hfl2 tD1 tD2 b1 b2 b3 b4 lg1 lg2
   simp only [eT] at hne
   have A : TqAt G6 t q1 q2 zs1 zs2 PT QT := A
   have hfl1 : PT.flatten.length <= 60 := hfl1
   have hfl2 : QT.flatten.length <= 60 := hfl2
   have b1 : PT.length <= 60 := b1
   have b2 : QT.length <= 60 := b2
   have b3 : ∀ r ∈ PT, r.length <= 60 := b3
   have b4 : ∀ r ∈ QT, r.length <= 60 := b4
   have tD1 : tabD (.tuple (PT.map tupI)) = true := tD1
   have tD2 : tabD (.tuple (QT.map tupI)) = true := tD2
   have lg1 : longestO ys.reverse = (PT.length : Int) := lg1
   have lg2 : longestO ys = ((PT.headD []).length : Int) := lg2
   have tln : QT.map List.length = PT.map List.length := tln
   have hne : ys ≠ [] -> ∃ r R, PT = r :: R := hne
   have hx6 := s6 _ _ hx
   have szP : Sz 1000 (.tuple (PT.map tupI)) := by
    unfold Sz
    simp only [PyData.bulk, bulkT]
    (first | lia | omega)
   have szQ : Sz 1000 (.tuple (QT.map tupI)) := by
    unfold Sz
    simp only [PyData.bulk, bulkT]
    (first | lia | omega)
   have yP : ∀ {G : Hp}, Same G6 G -> IsY (fun _ => False) G (.ref q1) (.tuple (PT.map tupI)) := fun s' => .tup (s' _ _ A.h1) (rows_isT (A.r1.same s'))
   have yQ : ∀ {G : Hp}, Same G6 G -> IsY (fun _ => False) G (.ref q2) (.tuple (QT.map tupI)) := fun s' => .tup (s' _ _ A.h2) (rows_isT (A.r2.same s'))
   refine ⟨_, rfl, _, rfl, o, ys, m, rfl, hx6, ho, hm, fun t' q1' q2' zs1' zs2' G7 s7 a1 a2 a3 a4 a5 => ?_⟩
   have A' : TqAt G7 t' q1' q2' zs1' zs2' PT QT := by
    rw [eT] at a3 a5
    exact ⟨a1, a2, a3, a4, a5⟩
   refine ⟨_, _, rfl, alike_tq (A.same s7) A' (by (first | lia | omega)) (by (first | lia | omega)) (fun r hr => by have := b3 r hr; (first | lia | omega)) (fun r hr => by have := b4 r hr; (first | lia | omega)), fun G8 s8 => ⟨_, rfl, iteF ?_⟩⟩
   have t8 := s7.trans s8
   refine ⟨_, rfl, o, ys, m, rfl, t8 _ _ hx6, ho, hm, fun t2 u1 u2 w1 w2 G9 s9 a1 a2 a3 a4 a5 => ?_⟩
   have A2 : TqAt G9 t2 u1 u2 w1 w2 PT QT := by
    rw [eT] at a3 a5
    exact ⟨a1, a2, a3, a4, a5⟩
   have t9 := t8.trans s9
   have A9 := A.same t9
   refine ⟨_, rfl, _, _, A2.is, A9.is, shaped_tq PT QT, shaped_tq PT QT, ?_⟩
   rw [eqv_tq]
   refine ⟨_, rfl, iteF ?_⟩
   refine ⟨_, rfl, t, _, rfl, SqT.of A9.ht, rfl, _, _, rfl, _, _, rfl, rfl, ?_⟩
   have lens : ∀ {zs : List Addr} {R : List (List Int)} {p : Addr} {G : Hp} {te : TE} {σ : L2.St} {Q' : VK}, G p = some (.tup (zs.map V.ref)) -> RowsAt G zs R -> R.length <= 60 -> (∀ q G', Same G G' -> G' q = some (.lst ((R.map fun r => (r.length : Int)).map V.int)) -> Q' (.ref q) G') -> (∀ (z : Addr) (f : List Int) (G' : Hp) (QQ : VK), G' z = some (.tup (f.map V.int)) -> QQ (.int (f.length : Int)) G' -> te (some (.ref z) :: [].map fun i => σ.getD i none) G' QQ) -> LcW (Itt K p) G (gName 0) tNoTest te 1 [] σ Q' := by
    intro zs R p G te σ Q' hp RA hl hq hte
    refine lc_grow (yields_tup (xs := zs.map V.ref)) (small1 (by rw [List.length_map, Paired.length RA]; (first | lia | omega))) (fun x v _ => ∃ (z : Addr) (r : List Int), x = V.ref z /\ G z = some (.tup (r.map V.int)) /\ v = .int (r.length : Int)) (fun _ _ _ _ _ h => h) (fun G' s' => SqT.of (s' _ _ hp)) (fun x hx G' s' QQ q' => ?_) fun acc vs G' hacc sG hG PV => ?_
    ·obtain ⟨z, hz, rfl⟩ := List.mem_map.mp hx
     obtain ⟨j, hj⟩ := List.getElem?_of_mem hz
     obtain ⟨r, hr1, hr2⟩ := prd_get RA hj
     exact hte z r G' QQ (s' _ _ hr2) (q' _ _ (Same.refl _) ⟨z, r, rfl, hr2, rfl⟩)
    ·have := len_list RA PV
     subst this
     exact hq acc G' sG hG
   have elen : (PT.map fun r => (r.length : Int)) = QT.map fun r => (r.length : Int) := by
    have h1 : (PT.map fun r => (r.length : Int)) = (PT.map List.length).map fun n : Nat => (n : Int) := by rw [List.map_map]; rfl
    have h2 : (QT.map fun r => (r.length : Int)) = (QT.map List.length).map fun n : Nat => (n : Int) := by rw [List.map_map]; rfl
    rw [h1, h2, tln]
   refine ⟨_, rfl, q1, rfl, ⟨_, SqT.of A9.h1⟩, ?_⟩
   refine lens A9.h1 A9.r1 b1 (fun l1 GA sA hl1 => ?_) (fun z f G' QQ hz hQ => ⟨_, rfl, z, _, rfl, .inr (SqT.of hz), by rw [mapI_len]; exact hQ⟩)
   have A10 := A9.same sA
   refine ⟨_, rfl, q2, rfl, ⟨_, SqT.of A10.h2⟩, ?_⟩
   refine lens A10.h2 A10.r2 b2 (fun l2 GB sB hl2 => ?_) (fun z f G' QQ hz hQ => ⟨_, rfl, z, _, rfl, .inr (SqT.of hz), by rw [mapI_len]; exact hQ⟩)
   refine neLL (sB _ _ hl1) hl2 elen ⟨_, rfl, iteF ?_⟩
   have tB := (t9.trans sA).trans sB
   refine ⟨_, rfl, _, _, _, rfl, yP tB, szP, fun GC sC => ⟨_, rfl, ?_⟩⟩
   rw [tD1]
   refine iteF ?_
   have tC := tB.trans sC
   refine ⟨_, rfl, _, _, _, rfl, yQ tC, szQ, fun GD sD => ⟨_, rfl, ?_⟩⟩
   rw [tD2]
   refine iteF ?_
   have tD := tC.trans sD
   refine ⟨_, rfl, _, _, _, rfl, yP tD, szP, fun GE sE => ⟨_, _, rfl, rfl, _, rfl, ?_⟩⟩
   rw [tD1]
   refine iteF ?_
   have tE := tD.trans sE
   refine ⟨_, rfl, _, _, _, rfl, yQ tE, szQ, fun GF sF => ⟨_, _, rfl, rfl, _, rfl, ?_⟩⟩
   rw [tD2]
   refine iteF ?_
   have tF := tE.trans sF
   refine ⟨_, rfl, q1, _, rfl, .inr (SqT.of (tF _ _ A.h1)), _, rfl, o, _, rfl, SqT.of (tF _ _ hx6), fun rv hrv => ?_⟩
   have u1 := same_upd (o := .tup (ys.map V.int).reverse) hrv
   have hor : Ord m ys.reverse := (List.reverse_perm ys).trans ho
   refine ⟨rv, ys.reverse, m, rfl, by rw [upd_same, List.map_reverse], hor, hm, fun GG sG => ⟨rfl, _, rfl, ?_⟩⟩
   rw [lg1, List.length_map, Paired.length A.r1, decide_eq_true rfl]
   refine iteF ?_
   have tG := (tF.trans u1).trans sG
   refine ⟨_, rfl, Nat.zero_le _, fun e0 he0 => ?_⟩
   have u2 := same_upd (o := .tup []) he0
   have tH := tG.trans u2
   refine neNilT (tH _ _ hx6) upd_same ⟨_, rfl, ?_⟩
   have fin : ∀ {G : Hp} {σ' : L2.St} {c3 c4 c5 c6 : Option V}, Same G6 G -> Hand G p q := fun s' => hh5.same (s6.trans s')
   by_cases hy : ys = []
   ·rw [decide_eq_false (by simp [hy])]
    exact iteF (iteF ⟨_, _, _, _, _, rfl, hh5.same (s6.trans tH)⟩)
   ·rw [decide_eq_true hy]
    refine iteT ?_
    obtain ⟨r, R, eP⟩ := hne hy
    have AH := A.same tH
    have hzs : ∃ z zt, zs1 = z :: zt /\ (upd GG e0 (.tup [])) z = some (.tup (r.map V.int)) := by
     have := AH.r1
     rw [eP] at this
     cases this with
     | @cons z _ zt _ h1 h2 => exact ⟨z, zt, rfl, h1⟩
    obtain ⟨z, zt, ez, hz⟩ := hzs
    have h1' := AH.h1
    rw [ez] at h1'
    refine ⟨_, rfl, q1, _, _, .ref z, rfl, rfl, SqT.of h1', atI_nat (j := 0) rfl, z, _, rfl, .inr (SqT.of hz), _, rfl, o, ys, m, rfl, tH _ _ hx6, ho, hm, fun GI sI => ⟨rfl, _, rfl, ?_⟩⟩
    rw [lg2, eP, mapI_len]
    show if (!decide (V.int (r.length : Int) = V.int (r.length : Int))) = true then _ else _
    rw [decide_eq_true rfl]
    exact iteF ⟨_, _, _, _, _, rfl, hh5.same (s6.trans (tH.trans sI))⟩
  ·rintro σ H2 ⟨c2, c3, c4, c5, c6, rfl, hh2⟩
   refine ⟨Nat.zero_le _, fun e1 he1 => ?_⟩
   have o0 : Ord 0 [] := List.Perm.refl _
   refine ⟨e1, [], 0, rfl, upd_same, o0, by decide, fun t q1 q2 zs1 zs2 G1 s1 a1 a2 a3 a4 a5 => ?_⟩
   have A : TqAt G1 t q1 q2 zs1 zs2 [] [] := ⟨a1, a2, a3, a4, a5⟩
   refine ⟨Nat.zero_le _, fun e2 he2 => ?_⟩
   have u2 := same_upd (o := .tup []) he2
   refine ⟨Nat.zero_le _, fun e3 he3 => ?_⟩
   have u3 := same_upd (o := .tup []) he3
   refine ⟨by show 2 <= sizeLine; decide, fun e4 he4 => ?_⟩
   have u4 := same_upd (o := .tup [.ref e2, .ref e3]) he4
   refine ⟨_, _, (A.same ((u2.trans u3).trans u4)).is, .tup upd_same (.cons (.tup (u4 _ _ (u3 _ _ upd_same)) .nil) (.cons (.tup (u4 _ _ upd_same) .nil) .nil)), shaped_tq [] [], shaped_tq [] [], ?_⟩
   exact k _
end
end K60
namespace K60
open PySem PySem.Spec PyProof.Rows L2
set_option maxHeartbeats 8000000 in
theorem all_mk {l : PySem.W.OpenLaw} {w : World} {K : PySem.W.Frag} {h : Heap} {mg : Str -> Option Value} {fa : Addr} (X : K.In h) (G : h.Ns mainGlobals mg) (hfa : mg "law" = some (.ref fa)) (TK : TopK K) (TYK : TopYK K)
  (d_is_whole : Def K "is_whole" s_is_whole) (d_are_wholes : Def K "are_wholes" s_are_wholes) (d_are_rising : Def K "are_rising" s_are_rising) (d_is_table_row : Def K "is_table_row" s_is_table_row) (d_stands_above : Def K "stands_above" s_stands_above) (d_is_table : Def K "is_table" s_is_table) (d_put_in : Def K "put_in" s_put_in) (d_as_table : Def K "as_table" s_as_table) (d_tables : Def K "tables" s_tables) (d__law_hand : Def K "_law_hand" s__law_hand) (d__law_pick : Def K "_law_pick" s__law_pick) (d__law_size : Def K "_law_size" s__law_size) (d__law_any : Def K "_law_any" s__law_any) (d__law_order : Def K "_law_order" s__law_order) (d__law_whole : Def K "_law_whole" s__law_whole) (d__law_same : Def K "_law_same" s__law_same) (d__law_longest : Def K "_law_longest" s__law_longest) (d__law_is_table : Def K "_law_is_table" s__law_is_table) (d__law_bumped : Def K "_law_bumped" s__law_bumped) (d_law : Def K "law" s_law) :
  ∃ fd : FuncData, (∀ (s : Shared) (v : Value), BindsTo s fd ⟨[v], []⟩ [("_law_script", v)]) /\ ∀ base : Heap, K.In base -> base.Ns mainGlobals mg -> FnOk l.prog w K mg base CX0 6 fa fd ["_law_script"] (spLaw K) := by
 have T : Top mg := TK.top X G
 have TY : TopY mg := TYK.top X G
 obtain ⟨f_is_whole, e_is_whole, F_is_whole, m_is_whole⟩ := d_is_whole.fn X G
 obtain ⟨f_are_wholes, e_are_wholes, F_are_wholes, m_are_wholes⟩ := d_are_wholes.fn X G
 obtain ⟨f_are_rising, e_are_rising, F_are_rising, m_are_rising⟩ := d_are_rising.fn X G
 obtain ⟨f_is_table_row, e_is_table_row, F_is_table_row, m_is_table_row⟩ := d_is_table_row.fn X G
 obtain ⟨f_stands_above, e_stands_above, F_stands_above, m_stands_above⟩ := d_stands_above.fn X G
 obtain ⟨f_is_table, e_is_table, F_is_table, m_is_table⟩ := d_is_table.fn X G
 obtain ⟨f_put_in, e_put_in, F_put_in, m_put_in⟩ := d_put_in.fn X G
 obtain ⟨f_as_table, e_as_table, F_as_table, m_as_table⟩ := d_as_table.fn X G
 obtain ⟨f_tables, e_tables, F_tables, m_tables⟩ := d_tables.fn X G
 obtain ⟨f__law_hand, e__law_hand, F__law_hand, m__law_hand⟩ := d__law_hand.fn X G
 obtain ⟨f__law_pick, e__law_pick, F__law_pick, m__law_pick⟩ := d__law_pick.fn X G
 obtain ⟨f__law_size, e__law_size, F__law_size, m__law_size⟩ := d__law_size.fn X G
 obtain ⟨f__law_any, e__law_any, F__law_any, m__law_any⟩ := d__law_any.fn X G
 obtain ⟨f__law_order, e__law_order, F__law_order, m__law_order⟩ := d__law_order.fn X G
 obtain ⟨f__law_whole, e__law_whole, F__law_whole, m__law_whole⟩ := d__law_whole.fn X G
 obtain ⟨f__law_same, e__law_same, F__law_same, m__law_same⟩ := d__law_same.fn X G
 obtain ⟨f__law_longest, e__law_longest, F__law_longest, m__law_longest⟩ := d__law_longest.fn X G
 obtain ⟨f__law_is_table, e__law_is_table, F__law_is_table, m__law_is_table⟩ := d__law_is_table.fn X G
 obtain ⟨f__law_bumped, e__law_bumped, F__law_bumped, m__law_bumped⟩ := d__law_bumped.fn X G
 obtain ⟨f_law, e_law, F_law, m_law⟩ := d_law.fn X G
 have b_is_whole := F_is_whole.binds (ps := ["thing"]) fun _ _ _ _ _ _ us hl => match us, hl with | [_], _ => rfl
 have b_are_wholes := F_are_wholes.binds (ps := ["thing"]) fun _ _ _ _ _ _ us hl => match us, hl with | [_], _ => rfl
 have b_are_rising := F_are_rising.binds (ps := ["numbers"]) fun _ _ _ _ _ _ us hl => match us, hl with | [_], _ => rfl
 have b_is_table_row := F_is_table_row.binds (ps := ["thing"]) fun _ _ _ _ _ _ us hl => match us, hl with | [_], _ => rfl
 have b_stands_above := F_stands_above.binds (ps := ["row", "below"]) fun _ _ _ _ _ _ us hl => match us, hl with | [_, _], _ => rfl
 have b_is_table := F_is_table.binds (ps := ["thing"]) fun _ _ _ _ _ _ us hl => match us, hl with | [_], _ => rfl
 have b_put_in := F_put_in.binds (ps := ["rows", "number"]) fun _ _ _ _ _ _ us hl => match us, hl with | [_, _], _ => rfl
 have b_as_table := F_as_table.binds (ps := ["rows"]) fun _ _ _ _ _ _ us hl => match us, hl with | [_], _ => rfl
 have b_tables := F_tables.binds (ps := ["order"]) fun _ _ _ _ _ _ us hl => match us, hl with | [_], _ => rfl
 have b__law_hand := F__law_hand.binds (ps := ["_law_script"]) fun _ _ _ _ _ _ us hl => match us, hl with | [_], _ => rfl
 have b__law_pick := F__law_pick.binds (ps := ["_law_hand_here", "_law_many"]) fun _ _ _ _ _ _ us hl => match us, hl with | [_, _], _ => rfl
 have b__law_size := F__law_size.binds (ps := ["_law_hand_here", "_law_most"]) fun _ _ _ _ _ _ us hl => match us, hl with | [_, _], _ => rfl
 have b__law_any := F__law_any.binds (ps := ["_law_hand_here", "_law_many"]) fun _ _ _ _ _ _ us hl => match us, hl with | [_, _], _ => rfl
 have b__law_order := F__law_order.binds (ps := ["_law_hand_here", "_law_many"]) fun _ _ _ _ _ _ us hl => match us, hl with | [_, _], _ => rfl
 have b__law_whole := F__law_whole.binds (ps := ["_law_thing"]) fun _ _ _ _ _ _ us hl => match us, hl with | [_], _ => rfl
 have b__law_same := F__law_same.binds (ps := ["_law_found", "_law_due"]) fun _ _ _ _ _ _ us hl => match us, hl with | [_, _], _ => rfl
 have b__law_longest := F__law_longest.binds (ps := ["_law_order_here"]) fun _ _ _ _ _ _ us hl => match us, hl with | [_], _ => rfl
 have b__law_is_table := F__law_is_table.binds (ps := ["_law_thing"]) fun _ _ _ _ _ _ us hl => match us, hl with | [_], _ => rfl
 have b__law_bumped := F__law_bumped.binds (ps := ["_law_order_here"]) fun _ _ _ _ _ _ us hl => match us, hl with | [_], _ => rfl
 have e : fa = f_law := by
  have q := hfa.symm.trans m_law
  cases q
  rfl
 subst e
 obtain ⟨oc, od, kV, doc, pm, an, cdv, ct, osl, rfl, lk, hcd⟩ := F_law.ex
 refine ⟨PySem.W.fnOf "law" "law" (defArgs s_law) (defBody s_law) (defScope s_law) .none kV doc pm an cdv ct, fun s v => .of_eq rfl, fun base _ _ => ?_⟩
 have Cis_whole : Cal l.prog w K mg base 1 "is_whole" ["thing"] (spWhA K) := ⟨f_is_whole, e_is_whole, ok_is_whole F_is_whole T, m_is_whole, F_is_whole.kp, b_is_whole⟩
 have Care_wholes : Cal l.prog w K mg base 2 "are_wholes" ["thing"] (spWhsD) := ⟨f_are_wholes, e_are_wholes, ok_are_wholes F_are_wholes T Cis_whole, m_are_wholes, F_are_wholes.kp, b_are_wholes⟩
 have Care_rising : Cal l.prog w K mg base 1 "are_rising" ["numbers"] (spRisL) := ⟨f_are_rising, e_are_rising, ok_are_rising F_are_rising T, m_are_rising, F_are_rising.kp, b_are_rising⟩
 have Cis_table_row : Cal l.prog w K mg base 3 "is_table_row" ["thing"] (spRowT) := ⟨f_is_table_row, e_is_table_row, ok_is_table_row F_is_table_row T Care_wholes Care_rising, m_is_table_row, F_is_table_row.kp, b_is_table_row⟩
 have Cstands_above : Cal l.prog w K mg base 1 "stands_above" ["row", "below"] (spAboveT) := ⟨f_stands_above, e_stands_above, ok_stands_above F_stands_above T, m_stands_above, F_stands_above.kp, b_stands_above⟩
 have Cis_table : Cal l.prog w K mg base 4 "is_table" ["thing"] (spTabD) := ⟨f_is_table, e_is_table, ok_is_table F_is_table T Cis_table_row Cstands_above, m_is_table, F_is_table.kp, b_is_table⟩
 have Cput_in : Cal l.prog w K mg base 1 "put_in" ["rows", "number"] (spPutIn) := ⟨f_put_in, e_put_in, ok_put_in F_put_in T, m_put_in, F_put_in.kp, b_put_in⟩
 have Cas_table : Cal l.prog w K mg base 1 "as_table" ["rows"] (spAsT) := ⟨f_as_table, e_as_table, ok_as_table F_as_table T, m_as_table, F_as_table.kp, b_as_table⟩
 have Ctables : Cal l.prog w K mg base 2 "tables" ["order"] (spTabs) := ⟨f_tables, e_tables, ok_tables F_tables T Cput_in Cas_table, m_tables, F_tables.kp, b_tables⟩
 have C_law_hand : Cal l.prog w K mg base 1 "_law_hand" ["_law_script"] (spHand K) := ⟨f__law_hand, e__law_hand, ok__law_hand F__law_hand , m__law_hand, F__law_hand.kp, b__law_hand⟩
 have C_law_pick : Cal l.prog w K mg base 1 "_law_pick" ["_law_hand_here", "_law_many"] (spPick) := ⟨f__law_pick, e__law_pick, ok__law_pick F__law_pick , m__law_pick, F__law_pick.kp, b__law_pick⟩
 have C_law_size : Cal l.prog w K mg base 2 "_law_size" ["_law_hand_here", "_law_most"] (spSize) := ⟨f__law_size, e__law_size, ok__law_size F__law_size C_law_pick, m__law_size, F__law_size.kp, b__law_size⟩
 have C_law_any : Cal l.prog w K mg base 2 "_law_any" ["_law_hand_here", "_law_many"] (spAny) := ⟨f__law_any, e__law_any, ok__law_any F__law_any T C_law_pick, m__law_any, F__law_any.kp, b__law_any⟩
 have C_law_order : Cal l.prog w K mg base 3 "_law_order" ["_law_hand_here", "_law_many"] (spOrder) := ⟨f__law_order, e__law_order, ok__law_order F__law_order T C_law_pick C_law_any, m__law_order, F__law_order.kp, b__law_order⟩
 have C_law_whole : Cal l.prog w K mg base 1 "_law_whole" ["_law_thing"] (spWhA K) := ⟨f__law_whole, e__law_whole, ok__law_whole F__law_whole T, m__law_whole, F__law_whole.kp, b__law_whole⟩
 have C_law_same : Cal l.prog w K mg base 4 "_law_same" ["_law_found", "_law_due"] (spSame 3) := ⟨f__law_same, e__law_same, ok__law_same F__law_same T m__law_same b__law_same 3, m__law_same, F__law_same.kp, b__law_same⟩
 have C_law_longest : Cal l.prog w K mg base 1 "_law_longest" ["_law_order_here"] (spCnt longestO) := ⟨f__law_longest, e__law_longest, ok__law_longest F__law_longest T, m__law_longest, F__law_longest.kp, b__law_longest⟩
 have C_law_is_table : Cal l.prog w K mg base 2 "_law_is_table" ["_law_thing"] (spTabD) := ⟨f__law_is_table, e__law_is_table, ok__law_is_table F__law_is_table T C_law_whole, m__law_is_table, F__law_is_table.kp, b__law_is_table⟩
 have C_law_bumped : Cal l.prog w K mg base 1 "_law_bumped" ["_law_order_here"] (spTabs) := ⟨f__law_bumped, e__law_bumped, ok__law_bumped F__law_bumped T TY, m__law_bumped, F__law_bumped.kp, b__law_bumped⟩
 exact ok_law F_law T C_law_hand C_law_size C_law_order C_law_same Ctables C_law_bumped Cis_table C_law_is_table C_law_longest
theorem walk {l : PySem.W.OpenLaw} {q : Program} {loose : List Str} {XP : (Str -> Option Value) -> Heap -> Prop} {YP : World -> Heap -> Prop} {d : DefRec} {K : Params -> PySem.W.Frag} (hn : l.most = some 63) (hdf : d.params.defaults = [])
  (hY : ∀ (w : World) (h : Heap), YP w h -> (K w.params).In h)
  (F : ∀ (w : World) (mg : Str -> Option Value) (fa : Addr) (h : Heap), (K w.params).In h -> h.Ns mainGlobals mg -> mg d.name = some (.ref fa) ->
   ∃ fd : FuncData, (∀ (s : Shared) (u : Value), BindsTo s fd ⟨[u], []⟩ [("_law_script", u)]) /\ ∀ base : Heap, (K w.params).In base -> base.Ns mainGlobals mg -> FnOk l.prog w (K w.params) mg base CX0 6 fa fd ["_law_script"] (spLaw (K w.params))) :
  PySem.W.WalkO q loose XP YP l.row.toRowW d [] (fun f vs => PySem.call f vs) :=
 L2.walk_of (n := 63) (k := 6) (x := "_law_script") (CX := fun _ => CX0) (sp := fun w => spLaw (K w.params)) hn (by decide) hdf ⟨rfl, by decide, by decide, rfl⟩ hY F (fun _ _ a ns hl _ hS => ⟨a, ns, rfl, hS, hl, fun _ => rfl⟩) fun _ _ _ _ _ z => z
end K60
open PySem PySem.W PyProof.Rows
set_option maxRecDepth 100000 in
set_option maxHeartbeats 0 in
theorem PySem.Challenge.cw_shuffletold_k60_tables_by_numbers_put_in_holds : PySem.Challenge.rw_shuffletold_k60_tables_by_numbers_put_in.Holds := by
 w_on; o_law; k_head; (case hw => w_witness2)
 k_fill
 refine K60.walk (l := PySem.Challenge.rw_shuffletold_k60_tables_by_numbers_put_in) rfl rfl (fun w h Y => PySem.W.kIn_of Y) ?F
 case F =>
  intro w mg fa h KX G hmg
  refine' K60.all_mk KX G hmg ⟨?_, ?_, ?_, ?_, ?_, ?_, ?_, ?_, ?_, ?_, ?_, ?_, ?_, ?_, ?_⟩ ⟨?_⟩ (L2.Def.of ?a0 ?l0 ?c0 ?k0) (L2.Def.of ?a1 ?l1 ?c1 ?k1) (L2.Def.of ?a2 ?l2 ?c2 ?k2) (L2.Def.of ?a3 ?l3 ?c3 ?k3) (L2.Def.of ?a4 ?l4 ?c4 ?k4) (L2.Def.of ?a5 ?l5 ?c5 ?k5) (L2.Def.of ?a6 ?l6 ?c6 ?k6) (L2.Def.of ?a7 ?l7 ?c7 ?k7) (L2.Def.of ?a8 ?l8 ?c8 ?k8) (L2.Def.of ?a9 ?l9 ?c9 ?k9) (L2.Def.of ?a10 ?l10 ?c10 ?k10) (L2.Def.of ?a11 ?l11 ?c11 ?k11) (L2.Def.of ?a12 ?l12 ?c12 ?k12) (L2.Def.of ?a13 ?l13 ?c13 ?k13) (L2.Def.of ?a14 ?l14 ?c14 ?k14) (L2.Def.of ?a15 ?l15 ?c15 ?k15) (L2.Def.of ?a16 ?l16 ?c16 ?k16) (L2.Def.of ?a17 ?l17 ?c17 ?k17) (L2.Def.of ?a18 ?l18 ?c18 ?k18) (L2.Def.of ?a19 ?l19 ?c19 ?k19)
  (case a0 => k_is); (case l0 => k_is); (case c0 => k_is); (case k0 => k_is)
  (case a1 => k_is); (case l1 => k_is); (case c1 => k_is); (case k1 => k_is)
  (case a2 => k_is); (case l2 => k_is); (case c2 => k_is); (case k2 => k_is)
  (case a3 => k_is); (case l3 => k_is); (case c3 => k_is); (case k3 => k_is)
  (case a4 => k_is); (case l4 => k_is); (case c4 => k_is); (case k4 => k_is)
  (case a5 => k_is); (case l5 => k_is); (case c5 => k_is); (case k5 => k_is)
  (case a6 => k_is); (case l6 => k_is); (case c6 => k_is); (case k6 => k_is)
  (case a7 => k_is); (case l7 => k_is); (case c7 => k_is); (case k7 => k_is)
  (case a8 => k_is); (case l8 => k_is); (case c8 => k_is); (case k8 => k_is)
  (case a9 => k_is); (case l9 => k_is); (case c9 => k_is); (case k9 => k_is)
  (case a10 => k_is); (case l10 => k_is); (case c10 => k_is); (case k10 => k_is)
  (case a11 => k_is); (case l11 => k_is); (case c11 => k_is); (case k11 => k_is)
  (case a12 => k_is); (case l12 => k_is); (case c12 => k_is); (case k12 => k_is)
  (case a13 => k_is); (case l13 => k_is); (case c13 => k_is); (case k13 => k_is)
  (case a14 => k_is); (case l14 => k_is); (case c14 => k_is); (case k14 => k_is)
  (case a15 => k_is); (case l15 => k_is); (case c15 => k_is); (case k15 => k_is)
  (case a16 => k_is); (case l16 => k_is); (case c16 => k_is); (case k16 => k_is)
  (case a17 => k_is); (case l17 => k_is); (case c17 => k_is); (case k17 => k_is)
  (case a18 => k_is); (case l18 => k_is); (case c18 => k_is); (case k18 => k_is)
  (case a19 => k_is); (case l19 => k_is); (case c19 => k_is); (case k19 => k_is)
  all_goals k_is
