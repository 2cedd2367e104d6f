import PyProof.Rows.All
import Wide.All
import OpenK.AllK
import Wide.FinOn
import Lean
import PyProof.EqAt
import PyProof.EqKinds
import PyProof.TupleCall
import PySem.Challenge.RW_shuffletold_k65_bound_papers_of_anything
set_option Elab.async false
set_option linter.all false
set_option maxRecDepth 100000
set_option genSizeOfSpec false
noncomputable section
namespace L2
open PySem PySem.Spec PyProof.Rows
noncomputable abbrev Key := Sum Int Str
noncomputable def keyIs : Key -> Value -> Bool
 | .inl k, v => Value.isInt k v
 | .inr x, v => Value.isStrOf x v
noncomputable def keyH (w : World) : Key -> Int
 | .inl k => hashInt k
 | .inr x => hashStr w x
theorem keyIs_shape : ∀ {k : Key} {v : Value}, keyIs k v = true -> (∃ i t, k = Sum.inl i /\ v = Value.int i t) ∨ (∃ x t, k = Sum.inr x /\ v = Value.str x t)
 | .inl i, v, h => by
  obtain ⟨t, e⟩ := Value.isInt_shape (k := i) (v := v) h
  exact .inl ⟨i, t, rfl, e⟩
 | .inr x, v, h => by
  obtain ⟨t, e⟩ := Value.isStrOf_shape (x := x) (v := v) h
  exact .inr ⟨x, t, rfl, e⟩
theorem keyIs_int (i : Int) (t : Tok) : keyIs (.inl i) (.int i t) = true := by simp [keyIs, Value.isInt]
theorem keyIs_str (x : Str) (t : Tok) : keyIs (.inr x) (.str x t) = true := by simp [keyIs, Value.isStrOf]
theorem key_ll (a b : Int) : decide ((Sum.inl a : Key) = Sum.inl b) = (a == b) := by
 by_cases e : a = b
 ·subst e; simp
 ·have h : ¬ (Sum.inl a : Key) = Sum.inl b := fun q => e (Sum.inl.inj q)
  rw [decide_eq_false h]
  exact (beq_eq_false_iff_ne.mpr e).symm
theorem key_rr (a b : Str) : decide ((Sum.inr a : Key) = Sum.inr b) = decide (a = b) := by
 by_cases e : a = b
 ·subst e; simp
 ·have h : ¬ (Sum.inr a : Key) = Sum.inr b := fun q => e (Sum.inr.inj q)
  rw [decide_eq_false h, decide_eq_false e]
theorem key_lr (a : Int) (b : Str) : decide ((Sum.inl a : Key) = Sum.inr b) = false := decide_eq_false (fun q => nomatch q)
theorem key_rl (a : Str) (b : Int) : decide ((Sum.inr a : Key) = Sum.inl b) = false := decide_eq_false (fun q => nomatch q)
noncomputable def mixKind (prog : Program) (w : World) : PySem.KeyKind prog w Key where
 is := keyIs
 hash := keyH w
 inj := fun v a b ha hb => by
  rcases keyIs_shape ha with ⟨i, t, rfl, rfl⟩ | ⟨x, t, rfl, rfl⟩
  ·rcases keyIs_shape hb with ⟨j, u, rfl, e⟩ | ⟨y, u, rfl, e⟩
   ·injection e with e1 _; rw [e1]
   ·exact nomatch e
  ·rcases keyIs_shape hb with ⟨j, u, rfl, e⟩ | ⟨y, u, rfl, e⟩
   ·exact nomatch e
   ·injection e with e1 _; rw [e1]
 byValue := fun k v h => by
  rcases keyIs_shape h with ⟨i, t, rfl, rfl⟩ | ⟨x, t, rfl, rfl⟩ <;> rfl
 pyHash := fun hv h => by
  rcases keyIs_shape hv with ⟨i, t, rfl, rfl⟩ | ⟨x, t, rfl, rfl⟩
  ·exact wpAny_pyHash_int h
  ·exact wpAny_pyHash_str h
 eqBool := fun hu hv h => by
  rcases keyIs_shape hu with ⟨i, t, rfl, rfl⟩ | ⟨x, t, rfl, rfl⟩
  ·rcases keyIs_shape hv with ⟨j, u, rfl, rfl⟩ | ⟨y, u, rfl, rfl⟩
   ·rw [key_ll] at h; exact wpAny_eqBool_int h
   ·rw [key_lr] at h; exact SeqAt.EqAt.int_str i t y u _ _ _ _ h
  ·rcases keyIs_shape hv with ⟨j, u, rfl, rfl⟩ | ⟨y, u, rfl, rfl⟩
   ·rw [key_rl] at h; exact SeqAt.EqAt.str_int x t j u _ _ _ _ h
   ·rw [key_rr] at h; exact wpAny_eqBool_str h
 «strs» := fun k x t v h => by
  rcases keyIs_shape h with ⟨i, u, rfl, e⟩ | ⟨y, u, rfl, e⟩
  ·exact nomatch e
  ·injection e with e1 _
   subst e1
   cases v <;> rfl
theorem mixKind_int (prog : Program) (w : World) (i : Int) (t : Tok) : (mixKind prog w).is (.inl i) (.int i t) = true := keyIs_int i t
theorem mixKind_str (prog : Program) (w : World) (x : Str) (t : Tok) : (mixKind prog w).is (.inr x) (.str x t) = true := keyIs_str x t
end L2
namespace L2
open PySem PySem.Spec PyProof.Rows
inductive V where
 | non | bl (b : Bool) | int (i : Int) | str (x : Str) | byt (b : Array UInt8) | flt (b : UInt64) | ref (a : Addr) | ty (n : String)
 deriving DecidableEq
noncomputable def RelV : V -> Value -> Prop
 | .non, u => u = Value.none
 | .bl b, u => u = Value.bool b
 | .int i, u => ∃ t, u = Value.int i t
 | .str x, u => ∃ t, u = Value.str x t
 | .byt b, u => ∃ t, u = Value.bytes b t
 | .flt b, u => ∃ t, u = Value.float b t
 | .ref a, u => u = Value.ref a
 | .ty n, u => u = Value.type n
noncomputable abbrev Vals : List V -> List Value -> Prop := Paired RelV
theorem Vals.length {xs : List V} {us : List Value} (r : Vals xs us) : xs.length = us.length := Paired.length r
theorem Vals.get : ∀ {xs : List V} {us : List Value} {i : Nat} {x : V}, Vals xs us -> xs[i]? = some x -> ∃ u, us[i]? = some u /\ RelV x u
 | _, _, _, _, .nil, e => by simp at e
 | _, _, 0, _, .cons r _, e => by simp at e; subst e; exact ⟨_, rfl, r⟩
 | _, _, i + 1, x, .cons _ t, e => by
  obtain ⟨u, h1, h2⟩ := Vals.get (i := i) (x := x) t (by simpa using e)
  exact ⟨u, by simpa using h1, h2⟩
theorem Vals.set {x : V} {u : Value} (r : RelV x u) : ∀ {xs : List V} {us : List Value} (i : Nat), Vals xs us -> Vals (xs.set i x) (us.set i u)
 | _, _, _, .nil => .nil
 | _, _, 0, .cons _ t => .cons r t
 | _, _, i + 1, .cons q t => .cons q (Vals.set r i t)
theorem Vals.append : ∀ {xs ys : List V} {us ws : List Value}, Vals xs us -> Vals ys ws -> Vals (xs ++ ys) (us ++ ws)
 | _, _, _, _, .nil, s => s
 | _, _, _, _, .cons r t, s => .cons r (Vals.append t s)
theorem Vals.take : ∀ {xs : List V} {us : List Value} (n : Nat), Vals xs us -> Vals (xs.take n) (us.take n)
 | _, _, 0, _ => .nil
 | _, _, _ + 1, .nil => .nil
 | _, _, n + 1, .cons r t => .cons r (Vals.take n t)
theorem Vals.drop : ∀ {xs : List V} {us : List Value} (n : Nat), Vals xs us -> Vals (xs.drop n) (us.drop n)
 | _, _, 0, r => r
 | _, _, _ + 1, .nil => .nil
 | _, _, n + 1, .cons _ t => Vals.drop n t
theorem Vals.none_of : ∀ {xs : List V} {us : List Value} {i : Nat}, Vals xs us -> xs[i]? = none -> us[i]? = none := fun {xs us i} r e => by
 have h1 := r.length
 have h2 : xs.length <= i := List.getElem?_eq_none_iff.mp e
 exact List.getElem?_eq_none_iff.mpr (by (first | lia | omega))
noncomputable def RelO : Option V -> Option Value -> Prop
 | some v, some u => RelV v u
 | none, none => True
 | _, _ => False
noncomputable def KV {κ : Type} : List (κ × V) -> List (κ × Value) -> Prop := Paired fun (p : κ × V) (q : κ × Value) => p.1 = q.1 /\ RelV p.2 q.2
noncomputable def kV : Key -> V
 | .inl i => .int i
 | .inr x => .str x
inductive HO where
  | lst (xs : List V)
  | tup (xs : List V)
  | dK (kvs : List (Key × V)) | dT (kvs : List (List Key × V))
  | set (S : Int -> Bool) (n : Nat)
  | ins (C dx : Addr) (fs : List (Str × V))
  | own (x : Addr)
  | xd (fs : List (Str × V))
  | met (f x : Addr)
  | rng (lo hi : Int)
  | frz (o : Obj) (u : HO)
  | tbl (ps : Array Value)
  | ext (φ : Heap -> Prop)
noncomputable abbrev Hp := Addr -> Option HO
noncomputable def upd (H : Hp) (a : Addr) (o : HO) : Hp := fun b => if b = a then some o else H b
theorem upd_same {H : Hp} {a : Addr} {o : HO} : upd H a o a = some o := by unfold upd; rw [if_pos rfl]
theorem upd_ne {H : Hp} {a b : Addr} {o : HO} (h : b ≠ a) : upd H a o b = H b := by unfold upd; rw [if_neg h]
theorem ne_of {H : Hp} {a b : Addr} {o u : HO} (h : H a = some o) (h' : H b = some u) (d : o ≠ u) : a ≠ b := by
 intro e; subst e; rw [h] at h'; exact d (Option.some.inj h')
theorem ne_of_none {H : Hp} {a b : Addr} {o : HO} (h : H a = some o) (h' : H b = none) : a ≠ b := by
 intro e; subst e; rw [h] at h'; cases h'
noncomputable def PTup (h : Heap) (a : Addr) (items : Array Value) : Prop := ∃ o, h.get? a = some o /\ o.cls = .type "tuple" /\ (∃ n, o.data = .seq items n) /\ o.dict = none /\ o.slots = #[]
theorem PTup.tup {h : Heap} {a : Addr} {items : Array Value} (p : PTup h a items) : IsTup h a items := by
 obtain ⟨o, e, c, d, _⟩ := p
 exact ⟨o, e, c, d⟩
theorem PTup.new {h : Heap} {items : Array Value} {n : Nat} : PTup (h.push { cls := .type "tuple", data := .seq items n }) h.objs.size items := ⟨_, Heap.get?_push_size _ rfl, rfl, ⟨_, rfl⟩, rfl, rfl⟩
section
variable (P : Program) (w : World)
noncomputable def ObjOk (H : Hp) (h : Heap) (a : Addr) : HO -> Prop
 | .lst xs => xs.length <= sizeLine /\ ∃ (its : List Value) (n : Nat), Vals xs its /\ h.get? a = some { cls := .type "list", data := .seq its.toArray n }
 | .tup xs => xs.length <= sizeLine /\ ∃ its : List Value, Vals xs its /\ PTup h a its.toArray
 | .dK kvs => kvs.length <= sizeLine /\ (a == sysModules) = false /\ ∃ vs, KV kvs vs /\ h.DictOf (mixKind P w) a vs
 | .dT kvs => kvs.length <= sizeLine /\ (a == sysModules) = false /\ ∃ xs : List (List Key × Addr × Value),
   Paired (fun (p : List Key × V) (q : List Key × Addr × Value) => p.1 = q.1 /\ H q.2.1 = some (.tup (p.1.map kV)) /\ RelV p.2 q.2.2) kvs xs /\
   ∃ o es ep, h.get? a = some o /\ o.ExactDict /\ o.data = .dict es ep /\ es.toList = xs.map (entryOfKey (tupleKind (mixKind P w))) /\ (xs.map (·.1)).Nodup
 | .set S n => h.SetOf (intKind P w) a S n
 | .ins C dx fs => H dx = some (.own a) /\ fs.length <= 1000 /\ dx ≠ a /\ h.get? a = some (PySem.W.instObj C dx) /\
   ∃ mA, h.Ns1 dx mA /\ (∀ f, RelO (fs.lookup f) (mA f)) /\ PySem.Within mA (fs.map (·.1))
 | .own _ => ∃ o, h.get? a = some o
 | .xd fs => ∃ mA, h.Ns1 a mA /\ ∀ f, RelO (fs.lookup f) (mA f)
 | .rng lo hi => ∃ t u v, h.get? a = some { cls := .type "range", data := .fields #[.int lo t, .int hi u, .int 1 v] }
 | .frz o u => h.get? a = some o /\ ObjOk H h a u
 | .tbl ps => h.get? a = some { cls := .none, data := .fields ps }
 | .met f x => h.get? a = some (PySem.W.methodObj (.ref f) (.ref x))
 | .ext φ => φ h /\ (∃ o, h.get? a = some o) /\ ∀ h1 h2 : Heap, φ h1 -> (∀ o, h1.get? a = some o -> h2.get? a = some o) -> φ h2
noncomputable def HOk (H : Hp) (h : Heap) : Prop := ∀ a o, H a = some o -> ObjOk P w H h a o
end
section
variable {P : Program} {w : World} {H H' : Hp} {h h' : Heap} {a : Addr} {o : HO}
theorem ObjOk.lt (x : ObjOk P w H h a o) : a < h.objs.size := by
 cases o with
 | lst xs => obtain ⟨_, _, _, _, e⟩ := x; exact Heap.lt_size e
 | tup xs => obtain ⟨_, _, _, p⟩ := x; exact p.tup.lt
 | dK kvs => obtain ⟨_, _, _, _, o, _, _, e, _⟩ := x; exact Heap.lt_size e
 | dT kvs => obtain ⟨_, _, _, _, o, _, _, e, _⟩ := x; exact Heap.lt_size e
 | set S n => obtain ⟨o, _, _, _, e, _⟩ := x; exact Heap.lt_size e
 | ins C dx fs => obtain ⟨_, _, _, e, _⟩ := x; exact Heap.lt_size e
 | own y => obtain ⟨_, e⟩ := x; exact Heap.lt_size e
 | xd fs => obtain ⟨_, ⟨_, _, _, e, _⟩, _⟩ := x; exact Heap.lt_size e
 | rng lo hi => obtain ⟨_, _, _, e⟩ := x; exact Heap.lt_size e
 | frz ob u => obtain ⟨e, _⟩ := x; exact Heap.lt_size e
 | tbl ps => exact Heap.lt_size (show h.get? a = some _ from x)
 | met f y => exact Heap.lt_size (show h.get? a = some _ from x)
 | ext φ => obtain ⟨_, ⟨_, e⟩, _⟩ := x; exact Heap.lt_size e
theorem Paired.mapP {α β : Type} {F G : α -> β -> Prop} : ∀ {l₁ : List α} {l₂ : List β}, Paired F l₁ l₂ -> (∀ a b, F a b -> G a b) -> Paired G l₁ l₂
 | _, _, .nil, _ => .nil
 | _, _, .cons r t, f => .cons (f _ _ r) (Paired.mapP t f)
theorem ObjOk.stay (x : ObjOk P w H h a o) (k : ∀ b u, (b = a ∨ H b = some (.own a)) -> h.get? b = some u -> h'.get? b = some u)
  (ho : ∀ b, H b = some (.own a) -> H' b = some (.own a)) (ht : ∀ b xs, H b = some (.tup xs) -> H' b = some (.tup xs)) : ObjOk P w H' h' a o := by
 induction o with
 | lst xs => obtain ⟨z, its, n, r, e⟩ := x; exact ⟨z, its, n, r, k _ _ (.inl rfl) e⟩
 | tup xs => obtain ⟨z, its, r, ob, e, c⟩ := x; exact ⟨z, its, r, ob, k _ _ (.inl rfl) e, c⟩
 | dK kvs => obtain ⟨z, y, vs, r, ob, es, ep, e, c⟩ := x; exact ⟨z, y, vs, r, ob, es, ep, k _ _ (.inl rfl) e, c⟩
 | dT kvs =>
  obtain ⟨z, y, xs, r, ob, es, ep, e, c⟩ := x
  exact ⟨z, y, xs, Paired.mapP r fun p q z => ⟨z.1, ht _ _ z.2.1, z.2.2⟩, ob, es, ep, k _ _ (.inl rfl) e, c⟩
 | set S n => obtain ⟨ob, es, ep, t, e, c⟩ := x; exact ⟨ob, es, ep, t, k _ _ (.inl rfl) e, c⟩
 | ins C dx fs =>
  obtain ⟨d, z, ne, e, mA, ⟨od, es, ep, e2, c⟩, r⟩ := x
  exact ⟨ho _ d, z, ne, k _ _ (.inl rfl) e, mA, ⟨od, es, ep, k _ _ (.inr d) e2, c⟩, r⟩
 | own y => obtain ⟨ob, e⟩ := x; exact ⟨ob, k _ _ (.inl rfl) e⟩
 | xd fs => obtain ⟨mA, ⟨od, es, ep, e, c⟩, r⟩ := x; exact ⟨mA, ⟨od, es, ep, k _ _ (.inl rfl) e, c⟩, r⟩
 | rng lo hi => obtain ⟨t, u, v, e⟩ := x; exact ⟨t, u, v, k _ _ (.inl rfl) e⟩
 | frz ob u ih => obtain ⟨e, q⟩ := x; exact ⟨k _ _ (.inl rfl) e, ih q⟩
 | tbl ps =>
  have e : h.get? a = some { cls := .none, data := .fields ps } := x
  show h'.get? a = some { cls := .none, data := .fields ps }
  exact k a _ (.inl rfl) e
 | met f y =>
  have e : h.get? a = some (PySem.W.methodObj (.ref f) (.ref y)) := x
  show h'.get? a = some (PySem.W.methodObj (.ref f) (.ref y))
  exact k a _ (.inl rfl) e
 | ext φ => obtain ⟨p, ⟨o, e⟩, st⟩ := x; exact ⟨st _ _ p fun o q => k _ _ (.inl rfl) q, ⟨o, k _ _ (.inl rfl) e⟩, st⟩
theorem HOk.lt (x : HOk P w H h) (e : H a = some o) : a < h.objs.size := (x a o e).lt
theorem HOk.fresh (x : HOk P w H h) (e : h.objs.size <= a) : H a = none := by
 cases q : H a with
 | none => rfl
 | some u => exact absurd (Nat.lt_of_lt_of_le (x.lt q) e) (Nat.lt_irrefl _)
theorem HOk.kept (x : HOk P w H h) (k : ∀ b u, h.get? b = some u -> h'.get? b = some u) : HOk P w H h' := fun a o e =>
 (x a o e).stay (fun b u _ q => k b u q) (fun _ q => q) fun _ _ q => q
theorem HOk.laid (x : HOk P w H h) (k : ∀ b u, h.get? b = some u -> h'.get? b = some u) (hp : h.objs.size <= a) (new : ObjOk P w (upd H a o) h' a o) : HOk P w (upd H a o) h' := fun b u e => by
 have hn := x.fresh hp
 by_cases hb : b = a
 ·subst hb; rw [upd_same] at e; cases e; exact new
 ·rw [upd_ne hb] at e
  exact (x b u e).stay (fun c v _ q => k c v q) (fun c q => by rw [upd_ne (ne_of_none q hn)]; exact q) fun c xs q => by rw [upd_ne (ne_of_none q hn)]; exact q
end
noncomputable def Rd (H : Hp) (a : Addr) (u : HO) : Prop := H a = some u ∨ ∃ o, H a = some (.frz o u)
theorem Rd.ok {P : Program} {w : World} {H : Hp} {h : Heap} {a : Addr} {u : HO} (r : Rd H a u) (x : HOk P w H h) : ObjOk P w H h a u := by
 rcases r with r | ⟨o, r⟩
 ·exact x a u r
 ·obtain ⟨_, q⟩ := x a _ r
  exact q
noncomputable def Mut : Option HO -> Prop
 | some (.lst _) => True
 | some (.dK _) => True
 | some (.dT _) => True
 | some (.set _ _) => True
 | some (.ins _ _ _) => True
 | some (.ext _) => True
 | _ => False
section
variable {P : Program} {w : World} {H : Hp} {h h' : Heap} {x e : Addr} {o' : HO}
theorem HOk.write (ok : HOk P w H h) (mu : Mut (H x)) (he : e = x ∨ H e = some (.own x)) (k : ∀ b u, b ≠ e -> h.get? b = some u -> h'.get? b = some u) (heo : ∃ u, h'.get? e = some u)
  (new : ObjOk P w (upd H x o') h' x o') : HOk P w (upd H x o') h' := fun b u q => by
 have nown : ∀ c y, H c = some (.own y) -> c ≠ x := fun c y r z => by subst z; rw [r] at mu; exact mu
 have ntup : ∀ c xs, H c = some (.tup xs) -> c ≠ x := fun c xs r z => by subst z; rw [r] at mu; exact mu
 by_cases hb : b = x
 ·subst hb; rw [upd_same] at q; cases q; exact new
 ·rw [upd_ne hb] at q
  by_cases hbe : b = e
  ·have q' : H b = some (.own x) := by
    rcases he with z | z
    ·exact absurd (hbe.trans z) hb
    ·rw [hbe]; exact z
   rw [q] at q'; cases q'
   obtain ⟨v, hv⟩ := heo
   exact ⟨v, by rw [hbe]; exact hv⟩
  ·refine (ok b u q).stay (fun c v hc r => k c v ?_ r) (fun c r => by rw [upd_ne (nown c b r)]; exact r) fun c xs r => by rw [upd_ne (ntup c xs r)]; exact r
   rcases hc with rfl | hc
   ·exact hbe
   ·rintro rfl
    rcases he with z | z
    ·exact nown c b hc z
    ·rw [hc] at z; cases z; exact hb rfl
end
structure Un (fs ex : List Addr) (H H' : Hp) (h h' : Heap) : Prop where
 keep : ∀ b o, h.get? b = some o -> H b = none -> b ∉ fs -> b ∉ ex -> h'.get? b = some o
 slot : ∀ b o, h.get? b = some o -> H b = none -> b ∈ fs -> b ∉ ex -> ∃ sl, h'.get? b = some { o with slots := sl }
 free : ∀ b o, h.get? b = some o -> H b = none -> b ∉ ex -> H' b = none
 there : ∀ b o, h.get? b = some o -> b ∉ ex -> ∃ o', h'.get? b = some o'
 tups : ∀ b xs, H b = some (.tup xs) -> H' b = some (.tup xs)
 frzs : ∀ b o u, H b = some (.frz o u) -> H' b = some (.frz o u)
 tbls : ∀ b ps, H b = some (.tbl ps) -> ∃ more, H' b = some (.tbl (ps ++ more))
section
variable {fs fs' ex ex' : List Addr} {H H1 H2 : Hp} {h h1 h2 h' : Heap} {a x e : Addr} {o : HO}
theorem Un.any (u : Un fs ex H H1 h h1) {b : Addr} {ob : Obj} (q : h.get? b = some ob) (n : H b = none) (hx : b ∉ ex) : ∃ sl, h1.get? b = some { ob with slots := sl } := by
 by_cases hb : b ∈ fs
 ·exact u.slot b ob q n hb hx
 ·exact ⟨ob.slots, u.keep b ob q n hb hx⟩
theorem Un.kept (k : ∀ b u, h.get? b = some u -> h'.get? b = some u) : Un fs ex H H h h' :=
 ⟨fun b ob q _ _ _ => k b ob q, fun b ob q _ _ _ => ⟨ob.slots, k b ob q⟩, fun _ _ _ n _ => n, fun b ob q _ => ⟨ob, k b ob q⟩, fun _ _ q => q, fun _ _ _ q => q, fun _ ps q => ⟨#[], by rw [q]; simp⟩⟩
theorem Un.refl : Un fs ex H H h h := Un.kept fun _ _ q => q
theorem Un.laid (k : ∀ b u, h.get? b = some u -> h'.get? b = some u) (hp : h.objs.size <= a) (hn : H a = none) : Un fs ex H (upd H a o) h h' where
 keep := fun b u q _ _ _ => k b u q
 slot := fun b u q _ _ _ => ⟨u.slots, k b u q⟩
 free := fun b u q n _ => by rw [upd_ne (Nat.ne_of_lt (Nat.lt_of_lt_of_le (Heap.lt_size q) hp))]; exact n
 there := fun b u q _ => ⟨u, k b u q⟩
 tups := fun b xs q => by rw [upd_ne (ne_of_none q hn)]; exact q
 frzs := fun b u xs q => by rw [upd_ne (ne_of_none q hn)]; exact q
 tbls := fun b ps q => ⟨#[], by rw [upd_ne (ne_of_none q hn), q]; simp⟩
theorem Un.write (mu : Mut (H x)) (he : e = x ∨ H e = some (.own x)) (k : ∀ b u, b ≠ e -> h.get? b = some u -> h'.get? b = some u) (heo : ∃ u, h'.get? e = some u) : Un fs ex H (upd H x o) h h' := by
 have hx : ∀ b, H b = none -> b ≠ x := fun b n z => by subst z; rw [n] at mu; exact mu
 have hb : ∀ b, H b = none -> b ≠ e := fun b n z => by
  subst z
  rcases he with r | r
  ·exact hx b n r
  ·rw [n] at r; cases r
 have hm : ∀ b u, H b = some u -> ¬ Mut (some u) -> b ≠ x := fun b u q nm z => by subst z; rw [q] at mu; exact nm mu
 refine ⟨fun b u q n _ _ => k b u (hb b n) q, fun b u q n _ _ => ⟨u.slots, k b u (hb b n) q⟩, fun b u q n _ => by rw [upd_ne (hx b n)]; exact n, fun b u q _ => ?_,
  fun b xs q => by rw [upd_ne (hm b _ q fun z => z)]; exact q, fun b u xs q => by rw [upd_ne (hm b _ q fun z => z)]; exact q, fun b ps q => ⟨#[], by rw [upd_ne (hm b _ q fun z => z), q]; simp⟩⟩
 by_cases hbe : b = e
 ·subst hbe; exact heo
 ·exact ⟨u, k b u hbe q⟩
end
noncomputable def trk (h : Heap) (H : Hp) : List Addr := (List.range h.objs.size).filter fun a => (H a).isSome
noncomputable def hidT (h : Heap) (H : Hp) : Heap := PySem.W.hideAll h (trk h H)
theorem hidT_size (h : Heap) (H : Hp) : (hidT h H).objs.size = h.objs.size := PySem.W.hideAll_size _ _
theorem hidT_get {h : Heap} {H : Hp} {b : Addr} {o : Obj} (e : h.get? b = some o) (n : H b = none) : (hidT h H).get? b = some o :=
 PySem.W.hideAll_get _ e fun hm => by
  have q : (H b).isSome = true := (List.mem_filter.mp hm).2
  rw [n] at q; simp at q
theorem of_hidT {h : Heap} {H : Hp} {b : Addr} {o : Obj} (e : (hidT h H).get? b = some o) : h.get? b = some o /\ H b = none := by
 have e' : h.get? b = some o := PySem.W.of_hideAll (trk h H) e
 refine ⟨e', ?_⟩
 cases q : H b with
 | none => rfl
 | some x =>
  have hm : b ∈ trk h H := List.mem_filter.mpr ⟨List.mem_range.mpr (Heap.lt_size e'), by simp [q]⟩
  have z : (hidT h H).get? b = none := PySem.W.hideAll_none (trk h H) hm
  rw [z] at e; cases e
noncomputable def allNews (g h : Heap) (L : Addr) : List (Addr × Obj) := (List.range h.objs.size).filterMap fun a => if a = L ∨ (g.get? a).isSome = true then none else (h.get? a).map fun o => (a, o)
noncomputable def rest (g h : Heap) (L d : Addr) : List (Addr × Obj) := (allNews g h L).filter fun p => decide (p.1 ≠ d)
end L2
namespace L2
open PySem PySem.Spec PyProof.Rows
structure Mod (K : PySem.W.Frag) (mg : Str -> Option Value) (base : Heap) : Prop where
 kin : K.In base
 glob : base.Ns mainGlobals mg
 blt : ∃ mb, base.Ns builtinsNs mb /\ ∀ x : Str, x ≠ "__name__" -> mb x = bootBuiltins x
 nolimit : base.NoLimit
structure Cx where
 prog : Program
 w : World
 K : PySem.W.Frag
 mg : Str -> Option Value
 base : Heap
 A : Around
 N : List Str
 s₀ : Shared
 H₀ : Hp
 env : Env
 outer : List Env
 stack : List Env
 ex : List Addr
 fn : Str -> Bool
 calm : Bool
 pn : List (Addr × Obj)
 xe : Value -> Shared -> Prop
noncomputable def frs (l : List Env) : List Addr := l.filterMap (·.frame)
noncomputable abbrev Cx.fs (X : Cx) : List Addr := frs X.outer
noncomputable def Vis (sc : Scope) (x : Str) : Prop := sc.names.lookup x = some .local ∨ sc.names.lookup x = some .cell ∨ sc.names.lookup x = some .free
noncomputable def Loc (sc : Scope) (x : Str) : Prop := sc.names.lookup x = some .local ∨ sc.names.lookup x = some .cell
noncomputable def Look (env : Env) (h : Heap) (m : Str -> Option Value) (x : Str) (u : Value) : Prop :=
 (env.kindOf x = some .local /\ m x = some u) ∨ ((env.kindOf x = some .cell ∨ env.kindOf x = some .free) /\ ∃ c, env.cells.lookup x = some c /\ h.IsCell c (some u))
structure Cx.Ok (X : Cx) : Prop where
 mod : Mod X.K X.mg X.base
 kind : X.env.scope.kind = .function
 glob : X.env.globals = mainGlobals
 blt : X.env.builtins = builtinsNs
 above : X.s₀.heap.objs.size <= X.env.locals
 inj : ∀ x y c, X.env.cells.lookup x = some c -> X.env.cells.lookup y = some c -> x = y
 has : ∀ x, (X.env.kindOf x = some .cell ∨ X.env.kindOf x = some .free) -> ∃ c, X.env.cells.lookup x = some c
 cab : ∀ x c, X.fn x = true -> X.env.cells.lookup x = some c -> X.s₀.heap.objs.size <= c
 hd : X.calm = true -> X.A.handled = none
 frames : X.A.frames = some X.stack
 stk : X.stack = X.outer ∨ (X.stack = X.env :: X.outer /\ X.env.frame = some X.env.locals)
 exf : ∀ b ∈ X.ex, b ≠ X.env.locals /\ ∀ x c, X.env.cells.lookup x = some c -> c ≠ b
 bs : ∀ b o, X.base.get? b = some o -> X.s₀.heap.get? b = some o /\ X.H₀ b = none
 bsz : X.base.objs.size <= X.s₀.heap.objs.size
 noex : ∀ b o, X.base.get? b = some o -> b ∉ X.ex
 exfs : ∀ b ∈ X.ex, b ∉ X.fs
 funs : X.s₀.heap.FunFrames X.base X.outer
 frf : ∀ b ∈ X.fs, X.H₀ b = none
structure Inv (X : Cx) (pins : List (Addr × Obj)) (σ : List (Option V)) (H : Hp) (s : Shared) : Prop where
 ok : X.Ok
 os : s.os = X.s₀.os
 bare : AllBare s.gens
 base : Un X.fs X.ex X.H₀ H X.s₀.heap s.heap
 loc : ∃ m, s.heap.Ns X.env.locals m /\ ∀ (i : Nat) (x : Str) (v : V), X.N[i]? = some x -> σ[i]? = some (some v) -> Vis X.env.scope x -> ∃ u, RelV v u /\ Look X.env s.heap m x u
 cell : ∀ x c, X.env.cells.lookup x = some c -> ∃ v, s.heap.IsCell c v
 free : H X.env.locals = none
 freeC : ∀ x c, X.env.cells.lookup x = some c -> H c = none
 pin : ∀ p ∈ X.pn ++ pins, s.heap.get? p.1 = some p.2 /\ H p.1 = none /\ p.1 ≠ X.env.locals /\ p.1 ∉ X.fs /\ ∀ v, p.2.data ≠ .cell v
 hok : HOk X.prog X.w H s.heap
 len : σ.length = X.N.length
section
variable {X : Cx} {pins : List (Addr × Obj)} {σ : List (Option V)} {H H' : Hp} {s : Shared} {h' : Heap}
theorem Cx.Ok.nofr (ok : X.Ok) {b : Addr} {o : Obj} (e : X.base.get? b = some o) : b ∉ X.fs := fun hb => by
 have := (ok.funs.mem hb).1
 rw [e] at this; cases this
theorem Inv.bs (I : Inv X pins σ H s) : ∀ b o, X.base.get? b = some o -> s.heap.get? b = some o /\ H b = none := fun b o e =>
 ⟨I.base.keep b o (I.ok.bs b o e).1 (I.ok.bs b o e).2 (I.ok.nofr e) (I.ok.noex b o e), I.base.free b o (I.ok.bs b o e).1 (I.ok.bs b o e).2 (I.ok.noex b o e)⟩
theorem Inv.bk (I : Inv X pins σ H s) : ∀ b o, X.base.get? b = some o -> s.heap.get? b = some o := fun b o e => (I.bs b o e).1
theorem Inv.mod (I : Inv X pins σ H s) : Mod X.K X.mg X.base := I.ok.mod
theorem Inv.kIn (I : Inv X pins σ H s) : X.K.In s.heap := I.ok.mod.kin.keeps I.bk
theorem Inv.lt (I : Inv X pins σ H s) : X.env.locals < s.heap.objs.size := let ⟨_, hn, _⟩ := I.loc; hn.lt
theorem Inv.sz (I : Inv X pins σ H s) : X.s₀.heap.objs.size <= s.heap.objs.size := Nat.le_trans I.ok.above (Nat.le_of_lt I.lt)
theorem Inv.nofs (I : Inv X pins σ H s) {a : Addr} (h : s.heap.objs.size <= a) : a ∉ X.fs := fun hb => by
 obtain ⟨_, o, ho, _⟩ := I.ok.funs.mem hb
 exact absurd (Nat.lt_of_lt_of_le (Heap.lt_size ho) (Nat.le_trans I.sz h)) (Nat.lt_irrefl _)
theorem Inv.cne (I : Inv X pins σ H s) : ∀ x c, X.env.cells.lookup x = some c -> c ≠ X.env.locals := fun x c e z => by
 obtain ⟨v, o, ho, hd⟩ := I.cell x c e
 obtain ⟨m, ⟨o', es, ep, ho', hd', _⟩, _⟩ := I.loc
 rw [z, ho'] at ho; cases ho; rw [hd'] at hd; cases hd
theorem Inv.funs (I : Inv X pins σ H s) : s.heap.FunFrames X.base X.outer := by
 have all : ∀ (l : List Env), (∀ b ∈ frs l, b ∈ X.fs) -> X.s₀.heap.FunFrames X.base l -> s.heap.FunFrames X.base l := by
  intro l
  induction l with
  | nil => intro _ _; trivial
  | cons env r ih =>
   intro hs hl
   obtain ⟨hk, ⟨L, o, hf, hn, ho, hd⟩, hr⟩ := hl
   have hL : L ∈ X.fs := hs L (by unfold frs; rw [List.filterMap_cons, hf]; exact List.mem_cons_self)
   obtain ⟨sl, e⟩ := I.base.slot L o ho (I.ok.frf L hL) hL fun z => I.ok.exfs L z hL
   exact ⟨hk, ⟨L, _, hf, hn, e, hd⟩, ih (fun b hb => hs b (by unfold frs; rw [List.filterMap_cons, hf]; exact List.mem_cons_of_mem _ hb)) hr⟩
 exact all X.outer (fun _ hb => hb) I.ok.funs
theorem Inv.stack (I : Inv X pins σ H s) : s.heap.FunFrames X.base X.stack := by
 rcases I.ok.stk with e | ⟨e, hf⟩
 ·rw [e]; exact I.funs
 ·rw [e]
  obtain ⟨m, hn, _⟩ := I.loc
  refine .cons (by rw [I.ok.kind]; decide) hf hn ?_ I.funs
  exact Heap.get?_none_of_le (Nat.le_trans I.ok.bsz I.ok.above)
theorem Inv.stkSub (I : Inv X pins σ H s) : ∀ b ∈ frs X.stack, b ∈ X.env.locals :: X.fs := fun b hb => by
 rcases I.ok.stk with e | ⟨e, hf⟩
 ·rw [e] at hb; exact List.mem_cons_of_mem _ hb
 ·rw [e] at hb
  unfold frs at hb
  rw [List.filterMap_cons, hf] at hb
  exact hb
theorem Inv.stkFree (I : Inv X pins σ H s) : ∀ b ∈ frs X.stack, H b = none := fun b hb => by
 rcases List.mem_cons.mp (I.stkSub b hb) with e | hb
 ·rw [e]; exact I.free
 ·obtain ⟨_, o, ho, _⟩ := I.ok.funs.mem hb
  exact I.base.free b o ho (I.ok.frf b hb) fun z => I.ok.exfs b z hb
theorem Inv.step {g' : Array GenState} {t' : Nat} {d' : Drawn} {ch : List Addr} (I : Inv X pins σ H s)
  (hch : ∀ b ∈ ch, (b ∈ X.ex ∨ X.s₀.heap.objs.size <= b) /\ b ≠ X.env.locals /\ (∀ x c, X.env.cells.lookup x = some c -> c ≠ b) /\ ∀ p ∈ X.pn ++ pins, p.1 ≠ b)
  (keep : ∀ b o, b ≠ X.env.locals -> b ∉ X.fs -> b ∉ ch -> s.heap.get? b = some o -> H b = none -> h'.get? b = some o)
  (slot : ∀ b o, b ≠ X.env.locals -> b ∈ X.fs -> b ∉ ch -> s.heap.get? b = some o -> H b = none -> ∃ sl, h'.get? b = some { o with slots := sl }) (free : ∀ b o, b ∉ ch -> s.heap.get? b = some o -> H b = none -> H' b = none)
  (there : ∀ b o, b ∉ ch -> s.heap.get? b = some o -> ∃ o', h'.get? b = some o')
  (tups : ∀ b xs, H b = some (.tup xs) -> H' b = some (.tup xs)) (frzs : ∀ b o u, H b = some (.frz o u) -> H' b = some (.frz o u)) (tbls : ∀ b ps, H b = some (.tbl ps) -> ∃ more, H' b = some (.tbl (ps ++ more)))
  (ns : ∀ m, s.heap.Ns X.env.locals m -> h'.Ns X.env.locals m) (hok : HOk X.prog X.w H' h') (hg : AllBare g') :
  Inv X pins σ H' { s with heap := h', gens := g', drawn := d', toks := t' } := by
 have neL : ∀ b o, X.s₀.heap.get? b = some o -> b ≠ X.env.locals := fun b o e => Nat.ne_of_lt (Nat.lt_of_lt_of_le (Heap.lt_size e) I.ok.above)
 have neC : ∀ b o, X.s₀.heap.get? b = some o -> b ∉ X.ex -> b ∉ ch := fun b o e hx hb => by
  rcases (hch b hb).1 with z | z
  ·exact hx z
  ·exact absurd (Nat.lt_of_lt_of_le (Heap.lt_size e) z) (Nat.lt_irrefl _)
 have cellK : ∀ x c, X.env.cells.lookup x = some c -> ∀ v, s.heap.IsCell c v -> h'.IsCell c v := fun x c e v ⟨o, ho, hd⟩ => by
  have nch : c ∉ ch := fun z => (hch c z).2.2.1 x c e rfl
  by_cases hc : c ∈ X.fs
  ·obtain ⟨sl, q⟩ := slot c o (I.cne x c e) hc nch ho (I.freeC x c e)
   exact ⟨_, q, hd⟩
  ·exact ⟨o, keep c o (I.cne x c e) hc nch ho (I.freeC x c e), hd⟩
 refine ⟨I.ok, I.os, hg, ⟨fun b o e n hb hx => ?_, fun b o e n hb hx => ?_, fun b o e n hx => ?_, fun b o e hx => ?_, fun b xs e => tups b xs (I.base.tups b xs e), fun b o xs e => frzs b o xs (I.base.frzs b o xs e), fun b ps e => ?_⟩, ?_, fun x c e => ?_, ?_, fun x c e => ?_, fun p hp => ?_, hok, I.len⟩
 ·exact keep b o (neL b o e) hb (neC b o e hx) (I.base.keep b o e n hb hx) (I.base.free b o e n hx)
 ·obtain ⟨sl, e1⟩ := I.base.slot b o e n hb hx
  obtain ⟨sl', e2⟩ := slot b _ (neL b o e) hb (neC b o e hx) e1 (I.base.free b o e n hx)
  exact ⟨sl', e2⟩
 ·obtain ⟨o', e1⟩ := I.base.there b o e hx
  exact free b o' (neC b o e hx) e1 (I.base.free b o e n hx)
 ·obtain ⟨o', e1⟩ := I.base.there b o e hx
  exact there b o' (neC b o e hx) e1
 ·obtain ⟨m1, e1⟩ := I.base.tbls b ps e
  obtain ⟨m2, e2⟩ := tbls b _ e1
  exact ⟨m1 ++ m2, by rw [e2, Array.append_assoc]⟩
 ·obtain ⟨m, hn, hl⟩ := I.loc
  refine ⟨m, ns m hn, fun i x v e1 e2 e3 => ?_⟩
  obtain ⟨u, r, l⟩ := hl i x v e1 e2 e3
  refine ⟨u, r, ?_⟩
  rcases l with l | ⟨k, c, e, z⟩
  ·exact .inl l
  ·exact .inr ⟨k, c, e, cellK x c e _ z⟩
 ·obtain ⟨v, z⟩ := I.cell x c e
  exact ⟨v, cellK x c e v z⟩
 ·obtain ⟨m, ⟨o, _, _, ho, _⟩, _⟩ := I.loc
  exact free _ o (fun z => (hch _ z).2.1 rfl) ho I.free
 ·obtain ⟨v, o, ho, hd⟩ := I.cell x c e
  exact free c o (fun z => (hch c z).2.2.1 x c e rfl) ho (I.freeC x c e)
 ·obtain ⟨e, n, ne, nf, d⟩ := I.pin p hp
  have nch : p.1 ∉ ch := fun z => (hch p.1 z).2.2.2 p hp rfl
  exact ⟨keep p.1 p.2 ne nf nch e n, free p.1 p.2 nch e n, ne, nf, d⟩
theorem Inv.un {t' : Nat} (I : Inv X pins σ H s) (u : Un X.fs [] H H' s.heap h') (hok : HOk X.prog X.w H' h') : Inv X pins σ H' { s with heap := h', toks := t' } := by
 obtain ⟨m, ⟨o, es, ep, ho, r⟩, _⟩ := id I.loc
 obtain ⟨sl, hL⟩ := u.any ho I.free (by simp)
 exact I.step (g' := s.gens) (d' := s.drawn) (ch := []) (fun _ z => nomatch z) (fun b o _ hb _ e n => u.keep b o e n hb (by simp)) (fun b o _ hb _ e n => u.slot b o e n hb (by simp)) (fun b o _ e n => u.free b o e n (by simp)) (fun b o _ e => u.there b o e (by simp)) u.tups u.frzs u.tbls (fun m' hm => by
  obtain ⟨o', es', ep', ho', r'⟩ := hm
  rw [ho] at ho'; cases ho'
  exact ⟨_, es', ep', hL, r'⟩) hok I.bare
theorem Inv.call {g' : Array GenState} {t' : Nat} {d' : Drawn} {ch : List Addr} (I : Inv X pins σ H s) (u : Un (frs X.stack) ch H H' s.heap h') (hok : HOk X.prog X.w H' h') (hg : AllBare g')
  (hch : ∀ b ∈ ch, (b ∈ X.ex ∨ X.s₀.heap.objs.size <= b) /\ b ≠ X.env.locals /\ (∀ x c, X.env.cells.lookup x = some c -> c ≠ b) /\ ∀ p ∈ X.pn ++ pins, p.1 ≠ b) :
  Inv X pins σ H' { s with heap := h', gens := g', drawn := d', toks := t' } := by
 obtain ⟨m, ⟨o, es, ep, ho, r⟩, _⟩ := id I.loc
 obtain ⟨sl, hL⟩ := u.any ho I.free fun z => (hch _ z).2.1 rfl
 exact I.step (ch := ch) hch (fun b o hL hb hc e n => u.keep b o e n (fun z => (List.mem_cons.mp (I.stkSub b z)).elim hL hb) hc) (fun b o _ _ hc e n => u.any e n hc) (fun b o hc e n => u.free b o e n hc) (fun b o hc e => u.there b o e hc) u.tups u.frzs u.tbls (fun m' hm => by
  obtain ⟨o', es', ep', ho', r'⟩ := hm
  rw [ho] at ho'; cases ho'
  exact ⟨_, es', ep', hL, r'⟩) hok hg
theorem Inv.turned {t' : Nat} {it : Addr} (I : Inv X pins σ H s) (k : ∀ b o, b ≠ it -> s.heap.get? b = some o -> h'.get? b = some o) (hn : H it = none) (hL : it ≠ X.env.locals)
  (h1 : it ∈ X.ex ∨ X.s₀.heap.objs.size <= it) (h2 : ∀ x c, X.env.cells.lookup x = some c -> c ≠ it) (h3 : ∀ p ∈ X.pn ++ pins, p.1 ≠ it) : Inv X pins σ H { s with heap := h', toks := t' } := by
 have nit : ∀ b u, H b = some u -> b ≠ it := fun b u e z => by rw [z, hn] at e; cases e
 refine I.step (g' := s.gens) (d' := s.drawn) (ch := [it]) (fun b hb => ?_) (fun b o _ _ hc e _ => k b o (fun z => hc (by simp [z])) e) (fun b o _ _ hc e _ => ⟨o.slots, k b o (fun z => hc (by simp [z])) e⟩) (fun _ _ _ _ n => n)
  (fun b o hc e => ⟨o, k b o (fun z => hc (by simp [z])) e⟩) (fun _ _ e => e) (fun _ _ _ e => e) (fun b ps e => ⟨#[], by rw [e]; simp⟩) (fun m hm => ?_) (fun b u e => ?_) I.bare
 ·have e : b = it := by simpa using hb
  subst e
  exact ⟨h1, hL, h2, h3⟩
 ·obtain ⟨o, es, ep, ho, r⟩ := hm
  exact ⟨o, es, ep, k _ o (Ne.symm hL) ho, r⟩
 ·refine (I.hok b u e).stay (fun c v hc q => k c v ?_ q) (fun _ q => q) fun _ _ q => q
  rcases hc with z | z
  ·rw [z]; exact nit b u e
  ·exact nit c _ z
theorem Inv.tok (I : Inv X pins σ H s) (t : Nat) : Inv X pins σ H { s with toks := t } := I.un (h' := s.heap) (t' := t) Un.refl I.hok
theorem Inv.kept {t' : Nat} (I : Inv X pins σ H s) (k : ∀ b u, s.heap.get? b = some u -> h'.get? b = some u) : Inv X pins σ H { s with heap := h', toks := t' } := I.un (Un.kept k) (I.hok.kept k)
theorem Inv.laid {a : Addr} {o : HO} {t' : Nat} (I : Inv X pins σ H s) (k : ∀ b u, s.heap.get? b = some u -> h'.get? b = some u) (hp : s.heap.objs.size <= a) (new : ObjOk X.prog X.w (upd H a o) h' a o) :
  Inv X pins σ (upd H a o) { s with heap := h', toks := t' } := I.un (Un.laid k hp (I.hok.fresh hp)) (I.hok.laid k hp new)
theorem Inv.write {x e : Addr} {o : HO} {t' : Nat} (I : Inv X pins σ H s) (mu : Mut (H x)) (he : e = x ∨ H e = some (.own x)) (k : ∀ b u, b ≠ e -> s.heap.get? b = some u -> h'.get? b = some u) (heo : ∃ u, h'.get? e = some u)
  (new : ObjOk X.prog X.w (upd H x o) h' x o) : Inv X pins σ (upd H x o) { s with heap := h', toks := t' } := I.un (Un.write mu he k heo) (I.hok.write mu he k heo new)
theorem Inv.weak {σ' : List (Option V)} (I : Inv X pins σ H s) (hl : σ'.length = σ.length) (w : ∀ (i : Nat) v, σ'[i]? = some (some v) -> σ[i]? = some (some v)) : Inv X pins σ' H s :=
 ⟨I.ok, I.os, I.bare, I.base, let ⟨m, hn, hl'⟩ := I.loc; ⟨m, hn, fun i x v e1 e2 e3 => hl' i x v e1 (w i v e2) e3⟩, I.cell, I.free, I.freeC, I.pin, I.hok, hl.trans I.len⟩
theorem Inv.pins_of {pins' : List (Addr × Obj)} (I : Inv X pins σ H s) (h : ∀ p ∈ pins', s.heap.get? p.1 = some p.2 /\ H p.1 = none /\ p.1 ≠ X.env.locals /\ p.1 ∉ X.fs /\ ∀ v, p.2.data ≠ .cell v) : Inv X pins' σ H s :=
 ⟨I.ok, I.os, I.bare, I.base, I.loc, I.cell, I.free, I.freeC, fun p hp => (List.mem_append.mp hp).elim (fun z => I.pin p (List.mem_append_left _ z)) (h p), I.hok, I.len⟩
theorem nodup_ix {N : List Str} (hN : N.Nodup) {i j : Nat} {x : Str} (a : N[i]? = some x) (b : N[j]? = some x) : i = j := by
 obtain ⟨h1, e1⟩ := List.getElem?_eq_some_iff.mp a
 obtain ⟨h2, e2⟩ := List.getElem?_eq_some_iff.mp b
 exact (List.getElem_inj hN).mp (e1.trans e2.symm)
theorem store_ok2 {M : Model} {A : Around} {E : Value -> Shared -> Prop} {i : Nat} {x : Str} {v : V} {u : Value} {Q : Unit -> Shared -> Prop} (I : Inv X pins σ H s) (hN : X.N.Nodup) (hi : X.N[i]? = some x) (hx : Loc X.env.scope x) (r : RelV v u)
  (h : ∀ s', Inv X pins (σ.set i (some v)) H s' -> (∃ a, Heap.SameBut a s.heap s'.heap /\ (a = X.env.locals ∨ X.env.cells.lookup x = some a)) -> Q () s') (hf : X.fn x = true ∨ X.env.scope.names.lookup x = some .local := by first | exact .inl rfl | exact .inr rfl | assumption) : wpAny M A (storeName X.env x u) Q E s := by
 obtain ⟨m, hn, hl⟩ := id I.loc
 have hcls : (X.env.scope.kind == .class || (X.env.scope.kind == .module && X.env.locals != X.env.globals)) = false := by rw [I.ok.kind]; rfl
 have hiσ : i < σ.length := by rw [I.len]; exact (List.getElem?_eq_some_iff.mp hi).1
 have cne := I.cne
 have tracked : ∀ {a : Addr} {h' : Heap}, (∃ o, s.heap.get? a = some o /\ H a = none) -> Heap.SameBut a s.heap h' -> HOk X.prog X.w H h' := fun {a h'} ha hs b ob e => by
  obtain ⟨_, _, hfree⟩ := ha
  refine (I.hok b ob e).stay (fun c w' hc q => (hs.2 c ?_).trans q) (fun _ q => q) fun _ _ q => q
  rintro rfl
  rcases hc with rfl | hc
  ·rw [hfree] at e; cases e
  ·rw [hfree] at hc; cases hc
 rcases hx with hk | hk
 ·refine wpAny_storeName_local hk hn (fun h' hn' hs => ?_) hcls
  obtain ⟨oL, _, _, hoL, _⟩ := id hn
  refine h _ ⟨I.ok, I.os, I.bare, ⟨fun b o e n hb hx => ?_, fun b o e n hb hx => ?_, I.base.free, fun b o e hx => ?_, I.base.tups, I.base.frzs, I.base.tbls⟩, ⟨_, hn', fun j y v' e1 e2 e3 => ?_⟩, fun y c e => ?_, I.free, I.freeC, fun p hp => ?_, tracked ⟨oL, hoL, I.free⟩ hs, by simpa using I.len⟩ ⟨_, hs, .inl rfl⟩
  ·exact (hs.2 b (Nat.ne_of_lt (Nat.lt_of_lt_of_le (Heap.lt_size e) I.ok.above))).trans (I.base.keep b o e n hb hx)
  ·obtain ⟨sl, e1⟩ := I.base.slot b o e n hb hx
   exact ⟨sl, (hs.2 b (Nat.ne_of_lt (Nat.lt_of_lt_of_le (Heap.lt_size e) I.ok.above))).trans e1⟩
  ·obtain ⟨o', e1⟩ := I.base.there b o e hx
   exact ⟨o', (hs.2 b (Nat.ne_of_lt (Nat.lt_of_lt_of_le (Heap.lt_size e) I.ok.above))).trans e1⟩
  ·by_cases hj : j = i
   ·subst hj
    rw [hi] at e1; cases e1
    rw [List.getElem?_set_self hiσ] at e2
    cases e2
    exact ⟨u, r, .inl ⟨hk, by simp⟩⟩
   ·rw [List.getElem?_set_ne (Ne.symm hj)] at e2
    obtain ⟨u', r', q⟩ := hl j y v' e1 e2 e3
    refine ⟨u', r', ?_⟩
    rcases q with ⟨k, e⟩ | ⟨k, c, e, z⟩
    ·refine .inl ⟨k, ?_⟩
     have : y ≠ x := fun e => hj (nodup_ix hN e1 (e ▸ hi))
     simp [this, e]
    ·exact .inr ⟨k, c, e, z.sameBut hs (cne y c e)⟩
  ·obtain ⟨w', z⟩ := I.cell y c e
   exact ⟨w', z.sameBut hs (cne y c e)⟩
  ·obtain ⟨e, n, ne, nf, d⟩ := I.pin p hp
   exact ⟨(hs.2 p.1 ne).trans e, n, ne, nf, d⟩
 ·have hfn : X.fn x = true := by
   rcases hf with z | z
   ·exact z
   ·rw [z] at hk; cases hk
  obtain ⟨c, hc⟩ := I.ok.has x (.inl hk)
  obtain ⟨w', z⟩ := I.cell x c hc
  refine wpAny_storeName_cell I.ok.kind hk hc z (fun h' hc' hs => ?_)
  obtain ⟨oc, hoc, hocd⟩ := id z
  refine h { s with heap := h' } ⟨I.ok, I.os, I.bare, ⟨fun b o e n hb hx => ?_, fun b o e n hb hx => ?_, I.base.free, fun b o e hx => ?_, I.base.tups, I.base.frzs, I.base.tbls⟩, ⟨m, hn.sameBut hs (Ne.symm (cne x c hc)), fun j y v' e1 e2 e3 => ?_⟩, fun y c' e => ?_, I.free, I.freeC, fun p hp => ?_, tracked ⟨oc, hoc, I.freeC x c hc⟩ hs, by simpa using I.len⟩ ⟨c, hs, .inr hc⟩
  ·exact (hs.2 b (Nat.ne_of_lt (Nat.lt_of_lt_of_le (Heap.lt_size e) (I.ok.cab x c hfn hc)))).trans (I.base.keep b o e n hb hx)
  ·obtain ⟨sl, e1⟩ := I.base.slot b o e n hb hx
   exact ⟨sl, (hs.2 b (Nat.ne_of_lt (Nat.lt_of_lt_of_le (Heap.lt_size e) (I.ok.cab x c hfn hc)))).trans e1⟩
  ·obtain ⟨o', e1⟩ := I.base.there b o e hx
   exact ⟨o', (hs.2 b (Nat.ne_of_lt (Nat.lt_of_lt_of_le (Heap.lt_size e) (I.ok.cab x c hfn hc)))).trans e1⟩
  ·by_cases hj : j = i
   ·subst hj
    rw [hi] at e1; cases e1
    rw [List.getElem?_set_self hiσ] at e2
    cases e2
    exact ⟨u, r, .inr ⟨.inl hk, c, hc, hc'⟩⟩
   ·rw [List.getElem?_set_ne (Ne.symm hj)] at e2
    obtain ⟨u', r', q⟩ := hl j y v' e1 e2 e3
    refine ⟨u', r', ?_⟩
    rcases q with q | ⟨k, c', e, z'⟩
    ·exact .inl q
    ·refine .inr ⟨k, c', e, z'.sameBut hs ?_⟩
     rintro rfl
     exact hj (nodup_ix hN e1 (I.ok.inj _ _ _ e hc ▸ hi))
  ·by_cases hcc : c' = c
   ·subst hcc; exact ⟨_, hc'⟩
   ·obtain ⟨w2, z2⟩ := I.cell y c' e
    exact ⟨w2, z2.sameBut hs hcc⟩
  ·obtain ⟨e, n, ne, nf, d⟩ := I.pin p hp
   refine ⟨(hs.2 p.1 ?_).trans e, n, ne, nf, d⟩
   intro q
   rw [q, hoc] at e
   have q' : oc = p.2 := Option.some.inj e
   exact d w' (by rw [<- q']; exact hocd)
theorem store_ok {M : Model} {A : Around} {E : Value -> Shared -> Prop} {i : Nat} {x : Str} {v : V} {u : Value} {Q : Unit -> Shared -> Prop} (I : Inv X pins σ H s) (hN : X.N.Nodup) (hi : X.N[i]? = some x) (hx : Loc X.env.scope x) (r : RelV v u)
  (h : ∀ s', Inv X pins (σ.set i (some v)) H s' -> Q () s') (hf : X.fn x = true ∨ X.env.scope.names.lookup x = some .local := by first | exact .inl rfl | exact .inr rfl | assumption) : wpAny M A (storeName X.env x u) Q E s :=
 store_ok2 I hN hi hx r (fun s' I' _ => h s' I') hf
theorem Inv.call' {s' : Shared} {ch : List Addr} (I : Inv X pins σ H s) (ho : s'.os = s.os) (u : Un (frs X.stack) ch H H' s.heap s'.heap) (hok : HOk X.prog X.w H' s'.heap) (hg : AllBare s'.gens)
  (hch : ∀ b ∈ ch, (b ∈ X.ex ∨ X.s₀.heap.objs.size <= b) /\ b ≠ X.env.locals /\ (∀ x c, X.env.cells.lookup x = some c -> c ≠ b) /\ ∀ p ∈ X.pn ++ pins, p.1 ≠ b) : Inv X pins σ H' s' := by
 obtain ⟨h', g', d', t', o'⟩ := s'
 have e : o' = s.os := ho
 subst e
 exact I.call (g' := g') (t' := t') (d' := d') u hok hg hch
end
noncomputable abbrev XK := Value -> Option Addr -> Hp -> Prop
noncomputable abbrev St := List (Option V)
noncomputable abbrev VK := V -> Hp -> Prop
noncomputable abbrev TE := St -> Hp -> VK -> Prop
noncomputable abbrev TT := St -> Hp -> (Bool -> Hp -> Prop) -> Prop
noncomputable abbrev TA := St -> Hp -> (List V -> Hp -> Prop) -> Prop
structure Ends where
 nx : St -> Hp -> Prop
 rt : VK
 bk : St -> Hp -> Prop := fun _ _ => False
 ct : St -> Hp -> Prop := fun _ _ => False
noncomputable abbrev TS := Ends -> St -> Hp -> Prop
noncomputable def EP (X : Cx) (pins : List (Addr × Obj)) (σ : St) (Q : VK) (u : Value) (s' : Shared) : Prop := ∃ v H', Inv X pins σ H' s' /\ RelV v u /\ Q v H'
noncomputable def TP (X : Cx) (pins : List (Addr × Obj)) (σ : St) (Q : Bool -> Hp -> Prop) (b : Bool) (s' : Shared) : Prop := ∃ H', Inv X pins σ H' s' /\ Q b H'
noncomputable def AP (X : Cx) (pins : List (Addr × Obj)) (σ : St) (Q : List V -> Hp -> Prop) (us : List Value) (s' : Shared) : Prop := ∃ vs H', Inv X pins σ H' s' /\ Vals vs us /\ Q vs H'
noncomputable def SP (X : Cx) (pins : List (Addr × Obj)) (D : Ends) (f : Flow) (s' : Shared) : Prop :=
 match f with
 | .next => ∃ σ' H', Inv X pins σ' H' s' /\ D.nx σ' H'
 | .brk => ∃ σ' H', Inv X pins σ' H' s' /\ D.bk σ' H'
 | .cont => ∃ σ' H', Inv X pins σ' H' s' /\ D.ct σ' H'
 | .ret u => ∃ v σ' H', Inv X pins σ' H' s' /\ RelV v u /\ D.rt v H'
noncomputable def PE (X : Cx) (e : Expr) (t : TE) : Prop :=
 ∀ (pins : List (Addr × Obj)) (s : Shared) (σ : St) (H : Hp) (Q : VK), Inv X pins σ H s -> t σ H Q -> wpAny (model X.prog X.w) X.A (eval e X.env) (EP X pins σ Q) X.xe s
noncomputable def PT (X : Cx) (e : Expr) (t : TT) : Prop :=
 ∀ (pins : List (Addr × Obj)) (s : Shared) (σ : St) (H : Hp) (Q : Bool -> Hp -> Prop), Inv X pins σ H s -> t σ H Q -> wpAny (model X.prog X.w) X.A (isTrue e X.env (eval e X.env)) (TP X pins σ Q) X.xe s
noncomputable def PW (X : Cx) (e : Expr) (t : TT) : Prop :=
 ∀ (whole : Sem Value) (pins : List (Addr × Obj)) (s : Shared) (σ : St) (H : Hp) (Q : Bool -> Hp -> Prop), Inv X pins σ H s -> t σ H Q -> wpAny (model X.prog X.w) X.A (isTrue e X.env whole) (TP X pins σ Q) X.xe s
theorem PW.pt {X : Cx} {e : Expr} {t : TT} (h : PW X e t) : PT X e t := h _
noncomputable def PA (X : Cx) (es : List Expr) (t : TA) : Prop :=
 ∀ (pos : Pos) (pins : List (Addr × Obj)) (s : Shared) (σ : St) (H : Hp) (Q : List V -> Hp -> Prop), Inv X pins σ H s -> t σ H Q -> wpAny (model X.prog X.w) X.A (spliced (backTo pos (starEach es X.env))) (AP X pins σ Q) X.xe s
noncomputable def PS (X : Cx) (st : Stmt) (t : TS) : Prop :=
 ∀ (pins : List (Addr × Obj)) (s : Shared) (σ : St) (H : Hp) (D : Ends), Inv X pins σ H s -> t D σ H -> wpAny (model X.prog X.w) X.A (exec st X.env) (SP X pins D) X.xe s
noncomputable def PSs (X : Cx) (st : List Stmt) (t : TS) : Prop :=
 ∀ (pins : List (Addr × Obj)) (s : Shared) (σ : St) (H : Hp) (D : Ends), Inv X pins σ H s -> t D σ H -> wpAny (model X.prog X.w) X.A (execs st X.env) (SP X pins D) X.xe s
theorem thn {α : Type} {t : Sem α} {Q Q' : α -> Shared -> Prop} {M : Model} {A : Around} {E : Value -> Shared -> Prop} {s : Shared} (h : wpAny M A t Q E s) (hQ : ∀ a s, Q a s -> Q' a s) : wpAny M A t Q' E s := wpAny_mono h hQ fun _ _ x => x
end L2
namespace L2
open PySem PySem.Spec PyProof.Rows
section
variable {X : Cx}
noncomputable def tVar (i : Nat) : TE := fun σ H Q => ∃ v, σ[i]? = some (some v) /\ Q v H
noncomputable def tC (v : V) : TE := fun _ H Q => Q v H
theorem pe_var {i : Nat} {x : Str} {pos : Pos} (hN : X.N[i]? = some x) (hv : Vis X.env.scope x) (hd : (x == ("__debug__" : Str)) = false := by decide) (hcd : (x == ("__classdict__" : Str)) = false := by decide) : PE X (.Name x pos) (tVar i) := by
 intro pins s σ H Q I h
 obtain ⟨v, e, h⟩ := h
 obtain ⟨m, hn, hl⟩ := I.loc
 obtain ⟨u, r, l⟩ := hl i x v hN e hv
 have fin : EP X pins σ Q u s := ⟨v, H, I, r, h⟩
 rcases l with ⟨hk, hm⟩ | ⟨hk, c, hc, hcell⟩
 ·exact wpAny_Name (wpAny_loadName_local I.ok.kind hk hn hm fin) hd
 ·rcases hk with hk | hk
  ·exact wpAny_Name (wpAny_loadName_cell I.ok.kind hk hc hcell fin) hd
  ·exact wpAny_Name (wpAny_loadName_free I.ok.kind hk hc hcell fin hcd) hd
theorem pe_int {i j pos} : PE X (.Constant (.int i) j pos) (tC (.int i)) := fun _ _ _ H _ I h => wpAny_Constant_int ⟨.int i, H, I.tok _, ⟨_, rfl⟩, h⟩
theorem pe_bl {b j pos} : PE X (.Constant (.bool b) j pos) (tC (.bl b)) := fun _ _ _ H _ I h => Constant_bool ⟨.bl b, H, I, rfl, h⟩
theorem pe_non {j pos} : PE X (.Constant .none j pos) (tC .non) := fun _ _ _ H _ I h => Constant_none ⟨.non, H, I, rfl, h⟩
theorem pe_str {x j pos} : PE X (.Constant (.str x) j pos) (tC (.str x)) := fun _ _ _ H _ I h => Calls.Constant_str ⟨.str x, H, I.tok _, ⟨_, rfl⟩, h⟩
noncomputable def Gl (X : Cx) (x : Str) : Prop := X.env.kindOf x = some .globalImplicit
theorem ld_glob {E : Value -> Shared -> Prop} {pins : List (Addr × Obj)} {s : Shared} {σ : St} {H : Hp} {x : Str} {u : Value} {pos : Pos} {Q : Value -> Shared -> Prop} (I : Inv X pins σ H s) (hg : Gl X x) (hm : X.mg x = some u) (h : Q u s)
  (hd : (x == ("__debug__" : Str)) = false := by decide) : wpAny (model X.prog X.w) X.A (eval (.Name x pos) X.env) Q E s :=
 Calls.Name_function_global I.ok.kind hg (Calls.loadGlobal_global (by rw [I.ok.glob]; exact I.mod.glob.keeps I.bk) hm h) hd
theorem ld_blt {E : Value -> Shared -> Prop} {pins : List (Addr × Obj)} {s : Shared} {σ : St} {H : Hp} {x : Str} {u : Value} {pos : Pos} {Q : Value -> Shared -> Prop} (I : Inv X pins σ H s) (hg : Gl X x) (hm : X.mg x = none) (hv : bootBuiltins x = some u) (h : Q u s)
  (hn : x ≠ "__name__" := by decide) (hd : (x == ("__debug__" : Str)) = false := by decide) : wpAny (model X.prog X.w) X.A (eval (.Name x pos) X.env) Q E s := by
 obtain ⟨mb, h1, h2⟩ := I.mod.blt
 exact Calls.Name_function_global I.ok.kind hg (Calls.loadGlobal_builtin (by rw [I.ok.glob]; exact I.mod.glob.keeps I.bk) hm (by rw [I.ok.blt]; exact h1.keeps I.bk) ((h2 x hn).trans hv) h) hd
theorem pe_glob {x : Str} {v : V} {u : Value} {pos : Pos} (hg : Gl X x) (hm : X.mg x = some u) (r : RelV v u) (hd : (x == ("__debug__" : Str)) = false := by decide) : PE X (.Name x pos) (tC v) :=
 fun _ _ _ H _ I h => ld_glob I hg hm ⟨v, H, I, r, h⟩ hd
theorem pe_bltn {x : Str} {v : V} {u : Value} {pos : Pos} (hg : Gl X x) (hm : X.mg x = none) (hv : bootBuiltins x = some u) (r : RelV v u) (hn : x ≠ "__name__" := by decide) (hd : (x == ("__debug__" : Str)) = false := by decide) : PE X (.Name x pos) (tC v) :=
 fun _ _ _ H _ I h => ld_blt I hg hm hv ⟨v, H, I, r, h⟩ hn hd
variable {a b : Expr} {ta tb : TE} {pos : Pos}
noncomputable def tB (t : TE) : TT := fun σ H Q => t σ H fun x H1 => ∃ c, x = .bl c /\ Q c H1
theorem pt_val {e : Expr} {t : TE} (h : PE X e t) (he : ∀ whole, isTrue e X.env whole = (do let v <- whole; standAt e.pos; holding [v] (truthy v)) := by intro _; rfl) : PT X e (tB t) := by
 intro pins s σ H Q I hw
 refine isTrue_plain (thn (h pins s σ H _ I hw) fun v s1 zq => ?_) (he _)
 obtain ⟨x, H1, I1, r1, q1⟩ := zq
 obtain ⟨d, rfl, q⟩ := q1
 cases r1
 exact wpAny_truthy_bool ⟨H1, I1, q⟩
variable {tA tB' : TT} {rest : List Expr}
noncomputable def tAnd (t u : TT) : TT := fun σ H Q => t σ H fun c H1 => if c = true then u σ H1 Q else Q false H1
noncomputable def tOr (t u : TT) : TT := fun σ H Q => t σ H fun c H1 => if c = true then Q true H1 else u σ H1 Q
noncomputable def tNot (t : TT) : TT := fun σ H Q => t σ H fun c H1 => Q (!c) H1
theorem pw_and1 (ha : PT X a tA) : PW X (.BoolOp .And [a] pos) tA := by
 intro wh pins s σ H Q I h
 refine isTrue_and (thn (ha pins s σ H Q I h) fun c s1 e => ?_)
 cases c with
 | true => exact isTrue_and_nil e
 | false => exact e
theorem pw_or1 (ha : PT X a tA) : PW X (.BoolOp .Or [a] pos) tA := by
 intro wh pins s σ H Q I h
 refine isTrue_or (thn (ha pins s σ H Q I h) fun c s1 e => ?_)
 cases c with
 | false => exact isTrue_or_nil e
 | true => exact e
theorem pw_and (ha : PT X a tA) (hb : PW X (.BoolOp .And (b :: rest) pos) tB') : PW X (.BoolOp .And (a :: b :: rest) pos) (tAnd tA tB') := by
 intro wh pins s σ H Q I h
 refine isTrue_and (thn (ha pins s σ H _ I h) fun c s1 zq => ?_)
 obtain ⟨H1, I1, q1⟩ := zq
 cases c with
 | true => exact hb wh pins s1 σ H1 Q I1 q1
 | false => exact ⟨H1, I1, q1⟩
theorem pw_or (ha : PT X a tA) (hb : PW X (.BoolOp .Or (b :: rest) pos) tB') : PW X (.BoolOp .Or (a :: b :: rest) pos) (tOr tA tB') := by
 intro wh pins s σ H Q I h
 refine isTrue_or (thn (ha pins s σ H _ I h) fun c s1 zq => ?_)
 obtain ⟨H1, I1, q1⟩ := zq
 cases c with
 | true => exact ⟨H1, I1, q1⟩
 | false => exact hb wh pins s1 σ H1 Q I1 q1
theorem pt_not (ha : PT X a tA) : PT X (.UnaryOp .Not a pos) (tNot tA) := by
 intro pins s σ H Q I h
 exact isTrue_not (ha pins s σ H (fun c H1 => Q (!c) H1) I h)
noncomputable def tAndV (ta tb : TE) : TE := fun σ H Q => ta σ H fun x H1 => ∃ c, x = .bl c /\ if c = true then tb σ H1 Q else Q (.bl false) H1
noncomputable def tNotV (ta : TE) : TE := fun σ H Q => ta σ H fun x H1 => ∃ c, x = .bl c /\ Q (.bl (!c)) H1
theorem pe_one {op} {t : TE} (h : PE X a t) : PE X (.BoolOp op [a] pos) t := fun pins s σ H Q I hw => BoolOp_one (h pins s σ H Q I hw)
theorem pe_and (ha : PE X a ta) (hb : PE X (.BoolOp .And (b :: rest) pos) tb) : PE X (.BoolOp .And (a :: b :: rest) pos) (tAndV ta tb) := by
 intro pins s σ H Q I h
 refine BoolOp_and (thn (ha pins s σ H _ I h) fun v s1 zq => ?_)
 obtain ⟨x, H1, I1, r1, q1⟩ := zq
 obtain ⟨c, rfl, q1⟩ := q1
 cases r1
 refine wpAny_truthy_bool ?_
 cases c with
 | true => exact hb pins s1 σ H1 Q I1 q1
 | false => exact ⟨.bl false, H1, I1, rfl, q1⟩
theorem pe_not (ha : PE X a ta) : PE X (.UnaryOp .Not a pos) (tNotV ta) := by
 intro pins s σ H Q I h
 refine UnaryOp_ (thn (ha pins s σ H _ I h) fun v s1 zq => ?_)
 obtain ⟨x, H1, I1, r1, q1⟩ := zq
 obtain ⟨c, rfl, q1⟩ := q1
 cases r1
 exact not_of (wpAny_truthy_bool ⟨.bl (!c), H1, I1, rfl, q1⟩)
noncomputable def tIf (t : TT) (ta tb : TE) : TE := fun σ H Q => t σ H fun c H1 => if c = true then ta σ H1 Q else tb σ H1 Q
theorem pe_ifExp {c : Expr} (hc : PT X c tA) (ha : PE X a ta) (hb : PE X b tb) : PE X (.IfExp c a b pos) (tIf tA ta tb) := by
 intro pins s σ H Q I h
 refine wpAny_IfExp (thn (hc pins s σ H _ I h) fun d s1 zq => ?_)
 obtain ⟨H1, I1, q1⟩ := zq
 cases d with
 | true => exact ha pins s1 σ H1 Q I1 q1
 | false => exact hb pins s1 σ H1 Q I1 q1
end
end L2
namespace L2
open PySem PySem.Spec PyProof.Rows
noncomputable def SqL (K : PySem.W.Frag) (H : Hp) (a : Addr) (xs : List V) : Prop :=
 Rd H a (.lst xs) ∨
  ∃ (o : Obj) (its : Array Value) (n : Nat), K.lookup a = some o /\ o.cls = .type "list" /\ o.dict = none /\ o.data = .seq its n /\ its.size <= sizeLine /\ Vals xs its.toList
noncomputable def SqT (K : PySem.W.Frag) (H : Hp) (a : Addr) (xs : List V) : Prop :=
 Rd H a (.tup xs) ∨
  ∃ (o : Obj) (its : Array Value) (n : Nat), K.lookup a = some o /\ o.cls = .type "tuple" /\ o.data = .seq its n /\ its.size <= sizeLine /\ Vals xs its.toList
noncomputable def absV : Value -> Option V
 | .none => some .non
 | .bool b => some (.bl b)
 | .int i _ => some (.int i)
 | .str x _ => some (.str x)
 | .bytes b _ => some (.byt b)
 | .float b _ => some (.flt b)
 | .ref a => some (.ref a)
 | .type n => some (.ty n)
 | _ => none
theorem RelV.abs {x : V} {u : Value} (r : RelV x u) : absV u = some x := by
 cases x with
 | non => cases r; rfl
 | bl _ => cases r; rfl
 | int _ => obtain ⟨t, rfl⟩ := r; rfl
 | str _ => obtain ⟨t, rfl⟩ := r; rfl
 | byt _ => obtain ⟨t, rfl⟩ := r; rfl
 | flt _ => obtain ⟨t, rfl⟩ := r; rfl
 | ref _ => cases r; rfl
 | ty _ => cases r; rfl
theorem RelV.inj {x y : V} {u : Value} (r : RelV x u) (q : RelV y u) : x = y := Option.some.inj (r.abs.symm.trans q.abs)
theorem Vals.inj : ∀ {xs ys : List V} {us : List Value}, Vals xs us -> Vals ys us -> xs = ys
 | _, _, _, .nil, .nil => rfl
 | _, _, _, .cons r t, .cons r' t' => by rw [r.inj r', Vals.inj t t']
section
variable {X : Cx} {pins : List (Addr × Obj)} {σ : St} {H : Hp} {s : Shared} {a : Addr} {xs ys : List V}
theorem SqL.of {K : PySem.W.Frag} (h : H a = some (.lst xs)) : SqL K H a xs := .inl (.inl h)
theorem SqT.of {K : PySem.W.Frag} (h : H a = some (.tup xs)) : SqT K H a xs := .inl (.inl h)
theorem Inv.list (I : Inv X pins σ H s) (h : SqL X.K H a xs) : ∃ its : List Value, Vals xs its /\ PlainL s.heap a its.toArray /\ xs.length <= sizeLine := by
 rcases h with h | ⟨o, its, n, hk, hc, hd, hs, hz, r⟩
 ·obtain ⟨z, its, n, r, e⟩ := h.ok I.hok
  exact ⟨its, r, ⟨_, n, e, rfl, rfl, rfl⟩, z⟩
 ·refine ⟨its.toList, r, ⟨o, n, I.kIn a o hk, hc, hd, by simpa using hs⟩, ?_⟩
  have e := r.length
  simp only [Array.length_toList] at e
  (first | lia | omega)
theorem Inv.tuple (I : Inv X pins σ H s) (h : SqT X.K H a xs) : ∃ its : List Value, Vals xs its /\ IsTup s.heap a its.toArray /\ xs.length <= sizeLine := by
 rcases h with h | ⟨o, its, n, hk, hc, hs, hz, r⟩
 ·obtain ⟨z, its, r, p⟩ := h.ok I.hok
  exact ⟨its, r, p.tup, z⟩
 ·refine ⟨its.toList, r, ⟨o, I.kIn a o hk, hc, n, by simpa using hs⟩, ?_⟩
  have e := r.length
  simp only [Array.length_toList] at e
  (first | lia | omega)
theorem Inv.list_inj (I : Inv X pins σ H s) (h : SqL X.K H a xs) (h' : SqL X.K H a ys) : xs = ys := by
 obtain ⟨its, r, ⟨o, n, e, _, _, d⟩, _⟩ := I.list h
 obtain ⟨its', r', ⟨o', n', e', _, _, d'⟩, _⟩ := I.list h'
 rw [e] at e'; cases e'
 rw [d] at d'
 injection d' with d1 _
 have : its = its' := by simpa using congrArg Array.toList d1
 subst this
 exact r.inj r'
theorem Inv.tuple_inj (I : Inv X pins σ H s) (h : SqT X.K H a xs) (h' : SqT X.K H a ys) : xs = ys := by
 obtain ⟨its, r, ⟨o, e, _, n, d⟩, _⟩ := I.tuple h
 obtain ⟨its', r', ⟨o', e', _, n', d'⟩, _⟩ := I.tuple h'
 rw [e] at e'; cases e'
 rw [d] at d'
 injection d' with d1 _
 have : its = its' := by simpa using congrArg Array.toList d1
 subst this
 exact r.inj r'
end
noncomputable abbrev Cx.wish (X : Cx) (E : Value -> Shared -> Prop) : Cx := { X with xe := E }
noncomputable abbrev Cx.nox (X : Cx) : Cx := X.wish fun _ _ => False
theorem Cx.Ok.wish {X : Cx} (ok : X.Ok) (E : Value -> Shared -> Prop) : (X.wish E).Ok :=
 ⟨ok.mod, ok.kind, ok.glob, ok.blt, ok.above, ok.inj, ok.has, ok.cab, ok.hd, ok.frames, ok.stk, ok.exf, ok.bs, ok.bsz, ok.noex, ok.exfs, ok.funs, ok.frf⟩
theorem Cx.Ok.unwish {X : Cx} {E : Value -> Shared -> Prop} (ok : (X.wish E).Ok) : X.Ok :=
 ⟨ok.mod, ok.kind, ok.glob, ok.blt, ok.above, ok.inj, ok.has, ok.cab, ok.hd, ok.frames, ok.stk, ok.exf, ok.bs, ok.bsz, ok.noex, ok.exfs, ok.funs, ok.frf⟩
section
variable {X : Cx} {pins : List (Addr × Obj)} {σ : St} {H : Hp} {s : Shared} {E : Value -> Shared -> Prop}
theorem Inv.wish (I : Inv X pins σ H s) (E : Value -> Shared -> Prop) : Inv (X.wish E) pins σ H s := ⟨I.ok.wish E, I.os, I.bare, I.base, I.loc, I.cell, I.free, I.freeC, I.pin, I.hok, I.len⟩
theorem Inv.unwish (I : Inv (X.wish E) pins σ H s) : Inv X pins σ H s := ⟨I.ok.unwish, I.os, I.bare, I.base, I.loc, I.cell, I.free, I.freeC, I.pin, I.hok, I.len⟩
theorem SP.unwish {D : Ends} {f : Flow} {s' : Shared} (h : SP (X.wish E) pins D f s') : SP X pins D f s' := by
 cases f with
 | next => obtain ⟨σ', H', I, q⟩ := h; exact ⟨σ', H', I.unwish, q⟩
 | brk => obtain ⟨σ', H', I, q⟩ := h; exact ⟨σ', H', I.unwish, q⟩
 | cont => obtain ⟨σ', H', I, q⟩ := h; exact ⟨σ', H', I.unwish, q⟩
 | ret u => obtain ⟨v, σ', H', I, r, q⟩ := h; exact ⟨v, σ', H', I.unwish, r, q⟩
theorem PSs.nox {st : List Stmt} {t : TS} (h : PSs X.nox st t) : PSs X st t := fun pins s σ H D I hw =>
 wpAny_mono (h pins s σ H D (I.wish _) hw) (fun _ _ q => q.unwish) fun _ _ z => False.elim z
end
section
variable {X : Cx} {st : Stmt} {rest : List Stmt} {t u : TS} {e : Expr} {te : TE} {pos : Pos}
noncomputable def tNext : TS := fun D σ H => D.nx σ H
noncomputable def tSeq (t u : TS) : TS := fun D σ H => t { D with nx := u D } σ H
theorem pss_nil : PSs X [] tNext := fun _ _ σ H _ I h => wpAny_execs_nil ⟨σ, H, I, h⟩
theorem pss_cons (h1 : PS X st t) (h2 : PSs X rest u) : PSs X (st :: rest) (tSeq t u) := by
 intro pins s σ H D I h
 refine wpAny_execs_cons (thn (h1 pins s σ H { D with nx := u D } I h) fun f s1 q => ?_)
 cases f with
 | next =>
  obtain ⟨σ', H', I', q⟩ := q
  exact h2 pins s1 σ' H' D I' q
 | ret v => exact q
 | brk => exact q
 | cont => exact q
theorem pss_one (h1 : PS X st t) : PSs X [st] t := by
 intro pins s σ H D I h
 refine wpAny_execs_cons (thn (h1 pins s σ H D I h) fun f s1 q => ?_)
 cases f with
 | next => exact wpAny_execs_nil q
 | ret v => exact q
 | brk => exact q
 | cont => exact q
theorem Inv.quiet {pins : List (Addr × Obj)} {σ : St} {H : Hp} {s : Shared} (I : Inv X pins σ H s) : interactive X.env = false := by simp [interactive, I.ok.kind]
noncomputable def tDrop (te : TE) : TS := fun D σ H => te σ H fun _ H1 => D.nx σ H1
theorem ps_expr (he : PE X e te) (hs : swapsWith e none pos.line X.env = pure false := by rfl) : PS X (.Expr e pos) (tDrop te) := by
 intro pins s σ H D I h
 exact wpAny_Expr_any (thn (he pins s σ H _ I h) fun v s1 ⟨x, H1, I1, r1, q1⟩ => ⟨σ, H1, I1, q1⟩) I.quiet hs
noncomputable def tRet (te : TE) : TS := fun D σ H => te σ H D.rt
theorem ps_ret (he : PE X e te) : PS X (.Return (some e) pos) (tRet te) := by
 intro pins s σ H D I h
 exact wpAny_Return_some (thn (he pins s σ H _ I h) fun v s1 ⟨x, H1, I1, r1, q1⟩ => ⟨x, σ, H1, I1, r1, q1⟩)
noncomputable def tIfS (c : TT) (t u : TS) : TS := fun D σ H => c σ H fun b H1 => if b = true then t D σ H1 else u D σ H1
theorem ps_if {c : Expr} {a b : List Stmt} {tc : TT} (hc : PT X c tc) (ha : PSs X a t) (hb : PSs X b u) : PS X (.If c a b pos) (tIfS tc t u) := by
 intro pins s σ H D I h
 refine wpAny_If (thn (hc pins s σ H _ I h) fun d s1 zq => ?_)
 obtain ⟨H1, I1, q1⟩ := zq
 cases d with
 | true => exact ha pins s1 σ H1 D I1 q1
 | false => exact hb pins s1 σ H1 D I1 q1
noncomputable def tNever : TS := fun _ _ _ => False
theorem pss_never {sts : List Stmt} : PSs X sts tNever := fun _ _ _ _ _ _ h => h.elim
end
noncomputable abbrev TG := V -> St -> Hp -> (St -> Hp -> Prop) -> Prop
noncomputable abbrev TGs := List V -> St -> Hp -> (St -> Hp -> Prop) -> Prop
noncomputable def PG (X : Cx) (target : Expr) (t : TG) : Prop :=
 ∀ (pins : List (Addr × Obj)) (s : Shared) (σ : St) (H : Hp) (v : V) (u : Value) (Q : St -> Hp -> Prop), Inv X pins σ H s -> RelV v u -> t v σ H Q ->
  wpAny (model X.prog X.w) X.A (assign target X.env u) (fun _ s' => ∃ σ' H', Inv X pins σ' H' s' /\ Q σ' H') X.xe s
noncomputable def PGs (X : Cx) (ts : List Expr) (t : TGs) : Prop :=
 ∀ (pins : List (Addr × Obj)) (s : Shared) (σ : St) (H : Hp) (vs : List V) (us : List Value) (Q : St -> Hp -> Prop), Inv X pins σ H s -> Vals vs us -> t vs σ H Q ->
  wpAny (model X.prog X.w) X.A (assignInOrder ((assignEach ts X.env).map (·.2)) us) (fun _ s' => ∃ σ' H', Inv X pins σ' H' s' /\ Q σ' H') X.xe s
noncomputable abbrev TSet := V -> V -> V -> Hp -> (Hp -> Prop) -> Prop
noncomputable def PSet (X : Cx) (t : TSet) : Prop :=
 ∀ (pins : List (Addr × Obj)) (s : Shared) (σ : St) (H : Hp) (o i v : V) (ov iv u : Value) (Q : Hp -> Prop), Inv X pins σ H s -> RelV o ov -> RelV i iv -> RelV v u -> t o i v H Q ->
  wpAny (model X.prog X.w) X.A (setItem ov iv u) (fun _ s' => ∃ H', Inv X pins σ H' s' /\ Q H') X.xe s
section
variable {X : Cx} {pos : Pos}
noncomputable def gName (i : Nat) : TG := fun v σ H Q => Q (σ.set i (some v)) H
theorem pg_name {i : Nat} {x : Str} (hN : X.N.Nodup) (hi : X.N[i]? = some x) (hx : Loc X.env.scope x) (hf : X.fn x = true ∨ X.env.scope.names.lookup x = some .local := by first | exact .inl rfl | exact .inr rfl | assumption) : PG X (.Name x pos) (gName i) := by
 intro pins s σ H v u Q I r h
 exact wpAny_assign_Name (store_ok I hN hi hx r (fun s' I' => ⟨_, H, I', h⟩) hf)
noncomputable def gNil : TGs := fun vs σ H Q => vs = [] /\ Q σ H
noncomputable def gCons (t : TG) (u : TGs) : TGs := fun vs σ H Q => ∃ v r, vs = v :: r /\ t v σ H fun σ' H' => u r σ' H' Q
theorem pgs_nil : PGs X [] gNil := by
 intro pins s σ H vs us Q I r h
 obtain ⟨e, h⟩ := h
 subst e
 cases r
 exact assignInOrder_nil ⟨σ, H, I, h⟩
theorem pgs_cons {e : Expr} {es : List Expr} {t : TG} {u : TGs} (h1 : PG X e t) (h2 : PGs X es u)
  (hs : (assignEach (e :: es) X.env).map (·.2) = assign e X.env :: (assignEach es X.env).map (·.2) := by rfl) : PGs X (e :: es) (gCons t u) := by
 intro pins s σ H vs us Q I r h
 obtain ⟨v, vr, e1, h⟩ := h
 subst e1
 cases r with
 | cons r rr =>
  rw [hs]
  refine assignInOrder_cons (thn (h1 pins s σ H _ _ _ I r h) fun _ s1 zq => ?_)
  obtain ⟨σ1, H1, I1, q1⟩ := zq
  exact h2 pins s1 σ1 H1 _ _ Q I1 rr q1
noncomputable def gTup (K : PySem.W.Frag) (n : Nat) (t : TGs) : TG := fun v σ H Q => ∃ a xs, v = .ref a /\ SqT K H a xs /\ xs.length = n /\ t xs σ H Q
theorem pg_tup {es : List Expr} {k : Nat} {t : TGs} {n : Nat} (hc : X.calm = true) (h : PGs X es t)
  (hn : (assignEach es X.env).length = n := by rfl) (hst : (assignEach es X.env).findIdx? (·.1) = none := by rfl) : PG X (.Tuple es k pos) (gTup X.K n t) := by
 intro pins s σ H v u Q I r hw
 obtain ⟨a, xs, e1, hq, hl, hw⟩ := hw
 subst e1
 cases r
 obtain ⟨its, rv, ht, hz⟩ := I.tuple hq
 refine assign_Tuple_tuple (I.ok.hd hc) ht (by simp [hn, <- hl, rv.length]) hst fun h' hx => ?_
 have I1 : Inv X pins σ H { s with heap := h' } := I.kept (t' := s.toks) fun b o e => hx b o (Nat.ne_of_lt (Heap.lt_size e)) e
 exact h pins _ σ H xs _ Q I1 (by simpa using rv) hw
noncomputable def gSub (to ti : TE) (t : TSet) : TG := fun v σ H Q => to σ H fun o H1 => ti σ H1 fun i H2 => t o i v H2 fun H3 => Q σ H3
theorem pg_sub {o i : Expr} {to ti : TE} {t : TSet} (ho : PE X o to) (hi : PE X i ti) (hs : PSet X t)
  (ha : ∀ v, assign (.Subscript o i pos) X.env v = (do
   let ov <- holding [v] (eval o X.env)
   let iv <- holding [v, ov] (eval i X.env)
   standAt pos
   holding [v, ov, iv] (setItem ov iv v)
   release [v, ov, iv] []) := by intro _; rfl) : PG X (.Subscript o i pos) (gSub to ti t) := by
 intro pins s σ H v u Q I r h
 rw [ha]
 refine wpAny_bind (wpAny_holding (thn (ho pins s σ H _ I h) fun ov s1 zq => ?_))
 obtain ⟨x, H1, I1, r1, q1⟩ := zq
 refine wpAny_bind (wpAny_holding (thn (hi pins s1 σ H1 _ I1 q1) fun iv s2 zq => ?_))
 obtain ⟨y, H2, I2, r2, q2⟩ := zq
 refine wpAny_bind (wpAny_standAt (wpAny_bind (wpAny_holding (thn (hs pins s2 σ H2 x y v ov iv u _ I2 r1 r2 r q2) fun _ s3 zq => ?_))))
 obtain ⟨H3, I3, q3⟩ := zq
 exact wpAny_release ⟨σ, H3, I3, q3⟩
noncomputable def tAsg (te : TE) (g : TG) : TS := fun D σ H => te σ H fun x H1 => g x σ H1 D.nx
theorem ps_asg {tg e : Expr} {te : TE} {g : TG} (he : PE X e te) (hg : PG X tg g) (hs : swapsWithSole [tg] e pos.line X.env = pure false := by rfl) (hw : swappedStores [tg] e X.env = pure none := by rfl)
  (h1 : (assignEach [tg] X.env).map (·.2) = [assign tg X.env] := by rfl) : PS X (.Assign [tg] e pos) (tAsg te g) := by
 intro pins s σ H D I h
 refine wpAny_Assign_stores (thn (he pins s σ H _ I h) fun v s1 zq => ?_) hs hw
 obtain ⟨x, H1, I1, r1, q1⟩ := zq
 rw [h1]
 exact thn (hg pins s1 σ H1 x v _ I1 r1 q1) fun _ s2 q => q
theorem ps_set {i : Nat} {x : Str} {e : Expr} {te : TE} {pos' : Pos} (hN : X.N.Nodup) (hi : X.N[i]? = some x) (hx : Loc X.env.scope x) (he : PE X e te) (hs : swapsWith e (some (.Name x pos')) pos.line X.env = pure false := by rfl) (hf : X.fn x = true ∨ X.env.scope.names.lookup x = some .local := by first | exact .inl rfl | exact .inr rfl | assumption) :
  PS X (.Assign [.Name x pos'] e pos) (tAsg te (gName i)) := by
 intro pins s σ H D I h
 refine wpAny_Assign_Name (thn (he pins s σ H _ I h) fun v s1 zq => ?_) hs
 obtain ⟨y, H1, I1, r1, q1⟩ := zq
 exact store_ok I1 hN hi hx r1 (fun s2 I2 => ⟨_, H1, I2, q1⟩) hf
noncomputable def tPar (i j : Nat) (ta : TA) : TS := fun D σ H => ta σ H fun vs H1 => ∃ v w, vs = [v, w] /\ D.nx ((σ.set i (some v)).set j (some w)) H1
theorem ps_par {i j : Nat} {x y : Str} {a b : Expr} {ta : TA} {px py pt : Pos} {kt k2 pt2} (hc : X.calm = true) (hN : X.N.Nodup) (hi : X.N[i]? = some x) (hj : X.N[j]? = some y) (hij : i ≠ j)
  (hx : X.env.scope.names.lookup x = some .local) (hy : X.env.scope.names.lookup y = some .local) (ha : PA X [a, b] ta)
  (hw : swappedStores [.Tuple [.Name x px, .Name y py] kt pt] (.Tuple [a, b] k2 pt2) X.env = pure (some [x, y]))
  (hs : swapsWithSole [.Tuple [.Name x px, .Name y py] kt pt] (.Tuple [a, b] k2 pt2) pos.line X.env = pure false := by rfl) :
  PS X (.Assign [.Tuple [.Name x px, .Name y py] kt pt] (.Tuple [a, b] k2 pt2) pos) (tPar i j ta) := by
 intro pins s σ H D I h
 rw [exec_Assign_arm]
 refine wpAny_bind (wpAny_standAt ?_)
 rw [hs]
 refine wpAny_bind (wpAny_pure ?_)
 rw [if_neg (by decide)]
 refine wpAny_bind (Tuple_ (thn (ha _ pins s σ H _ I h) fun us s1 zq => ?_))
 obtain ⟨vs, H1, I1, r1, q1⟩ := zq
 obtain ⟨v, w, e1, q1⟩ := q1
 subst e1
 obtain ⟨u1, u2, rfl, rv, rw'⟩ : ∃ u1 u2, us = [u1, u2] /\ RelV v u1 /\ RelV w u2 := by
  cases r1 with
  | cons p q =>
   cases q with
   | cons p' q' =>
    cases q'
    exact ⟨_, _, rfl, p, p'⟩
 refine wpAny_newObj_type ?_ (by show 2 <= sizeLine; decide)
 have I2 : Inv X pins σ H1 { s1 with heap := s1.heap.push { cls := .type "tuple", data := .seq [u1, u2].toArray } } := I1.kept (t' := s1.toks) fun b o e => Heap.get?_push_of_some _ e
 rw [hw]
 refine wpAny_bind (wpAny_pure ?_)
 show wpAny (model X.prog X.w) X.A (do rule "assign.swapped-stores"; let items <- unpackItems (.ref s1.heap.objs.size) 2 none; assignInOrder [fun v => bindName X.env y v, fun v => bindName X.env x v] items.reverse; pure Flow.next) _ _ _
 refine wpAny_bind (wpAny_rule (wpAny_bind (unpackItems_tuple (items := #[u1, u2]) (I.ok.hd hc) (IsTup.new s1.heap _) fun h' hx' => ?_)))
 have I3 := I2.kept (h' := h') (t' := s1.toks) fun b o e => hx' b o (Nat.ne_of_lt (Heap.lt_size e)) e
 show wpAny _ _ (assignInOrder [fun v => bindName X.env y v, fun v => bindName X.env x v] [u2, u1] >>= fun _ => pure Flow.next) _ _ _
 refine wpAny_bind (assignInOrder_cons (wpAny_bindName (store_ok I3 hN hj (.inl hy) rw' (fun s2 I4 => ?_) (.inr hy))))
 refine assignInOrder_cons (wpAny_bindName (store_ok I4 hN hi (.inl hx) rv (fun s3 I5 => assignInOrder_nil (wpAny_pure ?_)) (.inr hx)))
 rw [List.set_comm _ _ (Ne.symm hij)] at I5
 exact ⟨_, H1, I5, q1⟩
end
section
variable {X : Cx} {pos : Pos}
noncomputable def tWhile (c : TT) (tb : TS) : TS := fun D σ H => ∃ W : Nat -> St -> Hp -> Prop, (∃ m, W m σ H) /\ ∀ m σ H, W m σ H ->
 c σ H fun b H1 => if b = true then ∃ N : St -> Hp -> Prop, (∀ σ' H', N σ' H' -> ∃ m', m' < m /\ W m' σ' H') /\ tb { D with nx := N, ct := N, bk := D.nx } σ H1 else D.nx σ H1
theorem ps_while {c : Expr} {body : List Stmt} {tc : TT} {tb : TS} (hp : PassesOwn (model X.prog X.w) X.A X.env X.xe) (hc : PT X c tc) (hb : PSs X body tb) : PS X (.While c body [] pos) (tWhile tc tb) := by
 intro pins s σ H D I h
 obtain ⟨W, ⟨m0, w0⟩, turn⟩ := h
 refine wpAny_While (codeAny_whileLoop (fun n s' => ∃ σ' H', Inv X pins σ' H' s' /\ W n σ' H') ?_ m0 ⟨σ, H, I, w0⟩)
 rintro n s1 ⟨σ1, H1, I1, w1⟩
 refine wpAny_passesOwn hp (thn (hc pins s1 σ1 H1 _ I1 (turn n σ1 H1 w1)) fun b s2 zq => ?_)
 obtain ⟨H2, I2, q2⟩ := zq
 cases b with
 | true =>
  obtain ⟨N, hN, q2⟩ := q2
  rw [if_pos rfl]
  refine wpAny_passesOwn hp (thn (hb pins s2 σ1 H2 _ I2 q2) fun f s3 q3 => ?_)
  cases f with
  | next =>
   obtain ⟨σ3, H3, I3, n3⟩ := q3
   obtain ⟨m', hm, w3⟩ := hN σ3 H3 n3
   exact ⟨m', hm, σ3, H3, I3, w3⟩
  | cont =>
   obtain ⟨σ3, H3, I3, n3⟩ := q3
   obtain ⟨m', hm, w3⟩ := hN σ3 H3 n3
   exact ⟨m', hm, σ3, H3, I3, w3⟩
  | brk => exact q3
  | ret v => exact q3
 | false =>
  rw [if_neg Bool.false_ne_true]
  exact wpAny_execs_nil ⟨σ1, H2, I2, q2⟩
end
structure It where
 go : Nat -> Hp -> Prop
 yld : Nat -> Hp -> V -> Hp -> Prop
 stop : Nat -> Hp -> Prop
noncomputable def FpOk (X : Cx) (pins : List (Addr × Obj)) (H : Hp) (b : Addr) : Prop :=
 H b = none /\ b ≠ X.env.locals /\ b ∉ X.fs /\ (b ∈ X.ex ∨ X.s₀.heap.objs.size <= b) /\ (∀ x c, X.env.cells.lookup x = some c -> c ≠ b) /\ ∀ p ∈ X.pn ++ pins, p.1 ≠ b
theorem Inv.fpOk {X : Cx} {pins : List (Addr × Obj)} {σ : St} {H H' : Hp} {s : Shared} {b : Addr} (I : Inv X pins σ H s) (hb : s.heap.objs.size <= b) (hn : H' b = none) : FpOk X pins H' b := by
 refine ⟨hn, Nat.ne_of_gt (Nat.lt_of_lt_of_le I.lt hb), I.nofs hb, .inr (Nat.le_trans I.sz hb), fun x c e z => ?_, fun p hp z => ?_⟩
 ·obtain ⟨v, q⟩ := I.cell x c e
  exact absurd (Nat.lt_of_lt_of_le q.lt (by rw [z]; exact hb)) (Nat.lt_irrefl _)
 ·exact absurd (Nat.lt_of_lt_of_le (Heap.lt_size (I.pin p hp).1) (by rw [z]; exact hb)) (Nat.lt_irrefl _)
structure Turn (P : Program) (w : World) (K : PySem.W.Frag) (tg : Expr) (J : It) (fp : List Addr) (it : Addr) (tn : Nat -> Heap -> Prop) : Prop where
 mem : it ∈ fp
 obj : ∀ i h, tn i h -> ∀ b ∈ fp, ∃ o, h.get? b = some o /\ ∀ v, o.data ≠ .cell v
 keep : ∀ i h h', tn i h -> (∀ b ∈ fp, ∀ o, h.get? b = some o -> h'.get? b = some o) -> tn i h'
 item : ∀ (X : Cx), X.prog = P -> X.w = w -> X.K = K -> X.calm = true -> ∀ (i : Nat) (pins : List (Addr × Obj)) (s : Shared) (σ : St) (H : Hp) (E : Value -> Shared -> Prop), Inv X pins σ H s -> (∀ b ∈ fp, FpOk X pins H b) -> tn i s.heap -> J.go i H ->
  wpAny (model P w) X.A (pyNext (.ref it)) (fun r s1 => ∃ u, r = some u /\
   wpAny (model P w) X.A (letOwnedTupleGo tg (.ref it) u) (fun _ s2 => ∃ x H', Inv X pins σ H' s2 /\ RelV x u /\ J.yld i H x H' /\ tn (i + 1) s2.heap /\ ∀ b ∈ fp, H' b = none) E s1) E s
 done : ∀ (X : Cx), X.prog = P -> X.w = w -> X.K = K -> X.calm = true -> ∀ (i : Nat) (pins : List (Addr × Obj)) (s : Shared) (σ : St) (H : Hp) (E : Value -> Shared -> Prop), Inv X pins σ H s -> (∀ b ∈ fp, FpOk X pins H b) -> tn i s.heap -> J.stop i H ->
  wpAny (model P w) X.A (pyNext (.ref it)) (fun r s1 => r = none /\ Inv X pins σ H s1) E s
 self : ∀ (A : Around) (i : Nat) (s : Shared) (Q : Value -> Shared -> Prop) (E : Value -> Shared -> Prop), tn i s.heap -> Q (.ref it) s -> wpAny (model P w) A (pyIter (.ref it)) Q E s
noncomputable abbrev TI := St -> Hp -> (It -> Hp -> Prop) -> Prop
noncomputable def PIE (X : Cx) (pins : List (Addr × Obj)) (σ : St) (tg : Expr) (R : It -> Hp -> Prop) (itv : Value) (s2 : Shared) : Prop :=
 ∃ (it : Addr) (fp : List Addr) (tn : Nat -> Heap -> Prop) (J : It) (H' : Hp), itv = .ref it /\ Inv X pins σ H' s2 /\ Turn X.prog X.w X.K tg J fp it tn /\ tn 0 s2.heap /\ (∀ b ∈ fp, FpOk X pins H' b) /\ R J H'
noncomputable def PI (X : Cx) (tg iter : Expr) (wi : TI) : Prop :=
 ∀ (pins : List (Addr × Obj)) (s : Shared) (σ : St) (H : Hp) (R : It -> Hp -> Prop), Inv X pins σ H s -> wi σ H R ->
  wpAny (model X.prog X.w) X.A (eval iter X.env) (fun v s1 => wpAny (model X.prog X.w) X.A (pyIter v) (PIE X pins σ tg R) X.xe s1) X.xe s
theorem go_of {M : Model} {A : Around} {E : Value -> Shared -> Prop} {s : Shared} {tg : Expr} {it : Addr} {u : Value} {o : Obj} {n : String} {vs : Array Value} {Q : Unit -> Shared -> Prop} (ho : s.heap.get? it = some o) (hc : o.cls = .type n) (hd : o.data = .fields vs)
    (hn : ["enumerate", "zip", "dict_itemiterator", "dict_reverseitemiterator", "odict_iterator", "itertools.zip_longest", "itertools.pairwise"].contains n = false) (hQ : Q () s) : wpAny M A (letOwnedTupleGo tg (.ref it) u) Q E s := by
  unfold letOwnedTupleGo
  cases tg <;> first
    | exact wpAny_pure hQ
    | (cases u <;> first
        | exact wpAny_pure hQ
        | (refine wpAny_bind (wpAny_load ho ?_)
           rw [hc, hd]
           show wpAny M A (if (["enumerate", "zip", "dict_itemiterator", "dict_reverseitemiterator", "odict_iterator", "itertools.zip_longest", "itertools.pairwise"].contains n && vs[0]? == some (rawInt _)) = true then _ else _) Q E s
           rw [if_neg (by intro h; rw [hn, Bool.false_and] at h; cases h)]
           exact wpAny_pure hQ))
noncomputable def Itl (K : PySem.W.Frag) (a : Addr) : It :=
 ⟨fun i H => ∃ xs x, SqL K H a xs /\ xs[i]? = some x, fun i H x H' => H' = H /\ ∀ xs, SqL K H a xs -> xs[i]? = some x, fun i H => ∃ xs, SqL K H a xs /\ xs.length <= i⟩
noncomputable def Itt (K : PySem.W.Frag) (a : Addr) : It :=
 ⟨fun i H => ∃ xs x, SqT K H a xs /\ xs[i]? = some x, fun i H x H' => H' = H /\ ∀ xs, SqT K H a xs -> xs[i]? = some x, fun i H => ∃ xs, SqT K H a xs /\ xs.length <= i⟩
noncomputable def Itr (lo : Int) (n : Nat) : It := ⟨fun i _ => i < n, fun i H x H' => H' = H /\ x = .int (lo + i), fun i _ => n <= i⟩
theorem turn_list {P : Program} {w : World} {K : PySem.W.Frag} {tg : Expr} (a it : Addr) : Turn P w K tg (Itl K a) [it] it (fun i h => h.IsListIter it a i) where
 mem := by simp
 obj := fun i h st b hb => by
  have e : b = it := by simpa using hb
  subst e
  obtain ⟨o, e, c, d⟩ := st
  exact ⟨o, e, fun v z => by rw [d] at z; cases z⟩
 keep := fun i h h' st k => st.at fun o e => k it (by simp) o e
 item := by
  intro X hP hw hK hc i pins s σ H E I hf st hg
  subst hP hw hK
  obtain ⟨xs, x, hq, hx⟩ := hg
  obtain ⟨its, rv, p, hz⟩ := I.list hq
  obtain ⟨u, hu, ru⟩ := rv.get hx
  obtain ⟨f0, f1, f2, f3, f4, f5⟩ := hf it (by simp)
  refine wpAny_pyNext_list_item st p.isList (x := u) (by simpa using hu) fun h' st' sb => ?_
  have I1 : Inv X pins σ H { s with heap := h' } := I.turned (t' := s.toks) (fun b o hb e => (sb.2 b hb).trans e) f0 f1 f3 f4 f5
  obtain ⟨o, e, c, d⟩ := id st'
  exact ⟨u, rfl, go_of (s := { s with heap := h' }) e c d (by decide) ⟨x, H, I1, ru, ⟨rfl, fun ys hy => by rw [I.list_inj hy hq]; exact hx⟩, st', fun b hb => (hf b hb).1⟩⟩
 done := by
  intro X hP hw hK hc i pins s σ H E I hf st hg
  subst hP hw hK
  obtain ⟨xs, hq, hx⟩ := hg
  obtain ⟨its, rv, p, hz⟩ := I.list hq
  obtain ⟨f0, f1, f2, f3, f4, f5⟩ := hf it (by simp)
  have hl := rv.length
  exact wpAny_pyNext_list_end (I.ok.hd hc) st p.isList (by simp; (first | lia | omega)) fun h' eb => ⟨rfl, I.turned (t' := s.toks) (fun b o hb e => eb b o hb e) f0 f1 f3 f4 f5⟩
 self := fun _ _ _ _ _ st h => wpAny_pyIter_listiter st h
theorem turn_tuple {P : Program} {w : World} {K : PySem.W.Frag} {tg : Expr} (a it : Addr) : Turn P w K tg (Itt K a) [it] it (fun i h => h.IsTupleIter it a i) where
 mem := by simp
 obj := fun i h st b hb => by
  have e : b = it := by simpa using hb
  subst e
  obtain ⟨o, e, c, d⟩ := st
  exact ⟨o, e, fun v z => by rw [d] at z; cases z⟩
 keep := fun i h h' st k => st.at fun o e => k it (by simp) o e
 item := by
  intro X hP hw hK hc i pins s σ H E I hf st hg
  subst hP hw hK
  obtain ⟨xs, x, hq, hx⟩ := hg
  obtain ⟨its, rv, p, hz⟩ := I.tuple hq
  obtain ⟨u, hu, ru⟩ := rv.get hx
  obtain ⟨f0, f1, f2, f3, f4, f5⟩ := hf it (by simp)
  refine wpAny_pyNext_tuple_item st (show s.heap.IsTuple a its.toArray from p) (x := u) (by simpa using hu) fun h' st' sb => ?_
  have I1 : Inv X pins σ H { s with heap := h' } := I.turned (t' := s.toks) (fun b o hb e => (sb.2 b hb).trans e) f0 f1 f3 f4 f5
  obtain ⟨o, e, c, d⟩ := id st'
  exact ⟨u, rfl, go_of (s := { s with heap := h' }) e c d (by decide) ⟨x, H, I1, ru, ⟨rfl, fun ys hy => by rw [I.tuple_inj hy hq]; exact hx⟩, st', fun b hb => (hf b hb).1⟩⟩
 done := by
  intro X hP hw hK hc i pins s σ H E I hf st hg
  subst hP hw hK
  obtain ⟨xs, hq, hx⟩ := hg
  obtain ⟨its, rv, p, hz⟩ := I.tuple hq
  obtain ⟨f0, f1, f2, f3, f4, f5⟩ := hf it (by simp)
  have hl := rv.length
  exact wpAny_pyNext_tuple_end (I.ok.hd hc) st (show s.heap.IsTuple a its.toArray from p) (by simp; (first | lia | omega)) fun h' eb => ⟨rfl, I.turned (t' := s.toks) (fun b o hb e => eb b o hb e) f0 f1 f3 f4 f5⟩
 self := fun _ _ _ _ _ st h => wpAny_pyIter_tupleiter st h
theorem turn_range {P : Program} {w : World} {K : PySem.W.Frag} {tg : Expr} (it : Addr) (lo : Int) (n : Nat) : Turn P w K tg (Itr lo n) [it] it (fun i h => IsRangeIter h it (lo + (i : Nat) * 1) ((n : Int) - (i : Nat)) 1) where
 mem := by simp
 obj := fun i h st b hb => by
  have e : b = it := by simpa using hb
  subst e
  exact ⟨_, st, fun v z => by
   have z' : Data.fields _ = Data.cell v := z
   cases z'⟩
 keep := fun i h h' st k => k it (by simp) _ st
 item := by
  intro X hP hw hK hc i pins s σ H E I hf st hg
  subst hP hw hK
  obtain ⟨f0, f1, f2, f3, f4, f5⟩ := hf it (by simp)
  have W := Walks.range (prog := X.prog) (w := X.w) (I.ok.hd hc) it lo 1 n
  refine W.item i s _ _ hg st fun v h' tk hv st' kk => ?_
  obtain ⟨t, rfl⟩ := hv
  have I1 : Inv X pins σ H { s with heap := h', toks := tk } := I.turned (fun b o hb e => kk b o (by simpa using hb) e) f0 f1 f3 f4 f5
  refine ⟨_, rfl, go_of (s := { s with heap := h', toks := tk }) (n := "range_iterator") st' rfl rfl (by decide) ⟨.int (lo + i), H, I1, ⟨t, ?_⟩, ⟨rfl, rfl⟩, st', fun b hb => (hf b hb).1⟩⟩
  rw [Int.mul_one]
 done := by
  intro X hP hw hK hc i pins s σ H E I hf st hg
  subst hP hw hK
  obtain ⟨f0, f1, f2, f3, f4, f5⟩ := hf it (by simp)
  exact wpAny_pyNext_range_end (I.ok.hd hc) st (by have : n <= i := hg; (first | lia | omega)) fun h' eb => ⟨rfl, I.turned (t' := s.toks) (fun b o hb e => eb b o hb e) f0 f1 f3 f4 f5⟩
 self := fun _ _ _ _ _ st h => wpAny_pyIter_rangeiter st h
end L2
namespace L2
open PySem PySem.Spec PyProof.Rows
section
variable {X : Cx} {tg : Expr}
noncomputable def iList (K : PySem.W.Frag) (tl : TE) : TI := fun σ H R => tl σ H fun x H1 => ∃ a, x = .ref a /\ (∃ xs, SqL K H1 a xs) /\ R (Itl K a) H1
noncomputable def iTup (K : PySem.W.Frag) (tl : TE) : TI := fun σ H R => tl σ H fun x H1 => ∃ a, x = .ref a /\ (∃ xs, SqT K H1 a xs) /\ R (Itt K a) H1
theorem pi_list {l : Expr} {tl : TE} (hl : PE X l tl) : PI X tg l (iList X.K tl) := by
 intro pins s σ H R I h
 refine thn (hl pins s σ H _ I h) fun v s1 zq => ?_
 obtain ⟨x, H1, I1, r1, q1⟩ := zq
 obtain ⟨a, e, ⟨xs, hq⟩, q⟩ := q1
 subst e
 cases r1
 obtain ⟨its, rv, p, hz⟩ := I1.list hq
 refine wpAny_pyIter_list p.isList ?_
 refine ⟨s1.heap.objs.size, [s1.heap.objs.size], _, _, H1, rfl, I1.kept (t' := s1.toks) fun b o e => Heap.get?_push_of_some _ e, turn_list a _, ⟨_, Heap.get?_push_size _ rfl, rfl, rfl⟩, fun b hb => ?_, q⟩
 have e : b = s1.heap.objs.size := by simpa using hb
 subst e
 exact I1.fpOk (Nat.le_refl _) (I1.hok.fresh (Nat.le_refl _))
theorem pi_tup {l : Expr} {tl : TE} (hl : PE X l tl) : PI X tg l (iTup X.K tl) := by
 intro pins s σ H R I h
 refine thn (hl pins s σ H _ I h) fun v s1 zq => ?_
 obtain ⟨x, H1, I1, r1, q1⟩ := zq
 obtain ⟨a, e, ⟨xs, hq⟩, q⟩ := q1
 subst e
 cases r1
 obtain ⟨its, rv, p, hz⟩ := I1.tuple hq
 refine wpAny_pyIter_tuple (show s1.heap.IsTuple a its.toArray from p) ?_
 refine ⟨s1.heap.objs.size, [s1.heap.objs.size], _, _, H1, rfl, I1.kept (t' := s1.toks) fun b o e => Heap.get?_push_of_some _ e, turn_tuple a _, ⟨_, Heap.get?_push_size _ rfl, rfl, rfl⟩, fun b hb => ?_, q⟩
 have e : b = s1.heap.objs.size := by simpa using hb
 subst e
 exact I1.fpOk (Nat.le_refl _) (I1.hok.fresh (Nat.le_refl _))
theorem range_it {pins : List (Addr × Obj)} {σ : St} {H : Hp} {s : Shared} {R : It -> Hp -> Prop} {E : Value -> Shared -> Prop} {lo hi : Int} {t u v : Tok} {tk : Nat} (I : Inv X pins σ H s) (h1 : -(2 ^ 62) <= lo) (h2 : lo < 2 ^ 62) (h3 : -(2 ^ 62) <= hi) (h4 : hi < 2 ^ 62)
  (q : R (Itr lo (hi - lo).toNat) H) : wpAny (model X.prog X.w) X.A (pyIter (.ref s.heap.objs.size)) (PIE X pins σ tg R) E { s with heap := s.heap.push { cls := .type "range", data := .fields #[.int lo t, .int hi u, .int 1 v] }, toks := tk } := by
 refine wpAny_pyIter_range (IsRange.new ..) (small_one h1 h2 h3 h4) ?_
 have I1 : Inv X pins σ H { s with heap := s.heap.push { cls := .type "range", data := .fields #[.int lo t, .int hi u, .int 1 v] }, toks := tk } := I.kept fun b o e => Heap.get?_push_of_some _ e
 refine ⟨(s.heap.push { cls := .type "range", data := .fields #[.int lo t, .int hi u, .int 1 v] }).objs.size, [(s.heap.push { cls := .type "range", data := .fields #[.int lo t, .int hi u, .int 1 v] }).objs.size], _, _, H, rfl,
  I1.kept (t' := tk) fun b o e => Heap.get?_push_of_some _ e, turn_range _ lo (hi - lo).toNat, ?_, fun b hb => ?_, q⟩
 ·have e1 : lo + ((0 : Nat) : Int) * 1 = lo := by simp
  have e2 : (((hi - lo).toNat : Nat) : Int) - ((0 : Nat) : Int) = Builtin.Range.rangeSize lo hi 1 := by rw [rangeSize_one]; split <;> (first | lia | omega)
  show IsRangeIter _ _ (lo + ((0 : Nat) : Int) * 1) ((((hi - lo).toNat : Nat) : Int) - ((0 : Nat) : Int)) 1
  rw [e1, e2]
  exact Heap.get?_push_size _ rfl
 ·have e : b = (s.heap.push { cls := .type "range", data := .fields #[.int lo t, .int hi u, .int 1 v] }).objs.size := by simpa using hb
  subst e
  exact I1.fpOk (Nat.le_refl _) (I1.hok.fresh (Nat.le_refl _))
noncomputable def iRng1 (ta : TA) : TI := fun σ H R => ta σ H fun vs H1 => ∃ j : Int, vs = [.int j] /\ -(2 ^ 62) <= j /\ j < 2 ^ 62 /\ R (Itr 0 j.toNat) H1
noncomputable def iRng2 (ta : TA) : TI := fun σ H R => ta σ H fun vs H1 => ∃ i j : Int, vs = [.int i, .int j] /\ (-(2 ^ 62) <= i /\ i < 2 ^ 62 /\ -(2 ^ 62) <= j /\ j < 2 ^ 62) /\ R (Itr i (j - i).toNat) H1
theorem pi_range1 {a : Expr} {ta : TA} {p pos : Pos} (hg : Gl X "range") (hm : X.mg "range" = none) (ha : PA X [a] ta) (hs : starEach [a] X.env = [(false, eval a X.env)] := by rfl) : PI X tg (.Call (.Name "range" p) [a] [] pos) (iRng1 ta) := by
 intro pins s σ H R I h
 refine Call_ (ld_blt I hg hm boot_range (PyProof.Rows.callWith_type1 (thn (ha pos pins s σ H _ I h) fun us s1 zq => ?_) hs rfl))
 obtain ⟨vs, H1, I1, r1, q1⟩ := zq
 obtain ⟨j, e, q1, q2, q⟩ := q1
 subst e
 cases r1 with
 | cons r rr =>
  cases rr
  obtain ⟨t, rfl⟩ := r
  exact call_range_1 (range_it I1 (by (first | lia | omega)) (by (first | lia | omega)) q1 q2 (by simpa using q))
theorem pi_range2 {a b : Expr} {ta : TA} {p pos : Pos} (hg : Gl X "range") (hm : X.mg "range" = none) (ha : PA X [a, b] ta) (hs : starEach [a, b] X.env = [(false, eval a X.env), (false, eval b X.env)] := by rfl) (hs2 : starEach [b] X.env = [(false, eval b X.env)] := by rfl) :
  PI X tg (.Call (.Name "range" p) [a, b] [] pos) (iRng2 ta) := by
 intro pins s σ H R I h
 refine Call_ (ld_blt I hg hm boot_range (PyProof.Rows.callWith_type1 (thn (ha pos pins s σ H _ I h) fun us s1 zq => ?_) (by rw [hs, hs2]) (by rw [hs2]; rfl)))
 obtain ⟨vs, H1, I1, r1, q1⟩ := zq
 obtain ⟨i, j, e, ⟨q1, q2, q3, q4⟩, q⟩ := q1
 subst e
 cases r1 with
 | cons r rr =>
  cases rr with
  | cons r' rr =>
   cases rr
   obtain ⟨t, rfl⟩ := r
   obtain ⟨t', rfl⟩ := r'
   exact call_range_2 (range_it I1 q1 q2 q3 q4 q)
noncomputable def tFor (wi : TI) (g : TG) (tb : TS) : TS := fun D σ H => wi σ H fun J H1 => ∃ W : Nat -> Nat -> St -> Hp -> Prop, (∃ m, W 0 m σ H1) /\ ∀ i m σ H, W i m σ H ->
 (J.stop i H /\ D.nx σ H) ∨ (J.go i H /\ ∃ N : St -> Hp -> Prop, (∀ σ' H', N σ' H' -> ∃ m', m' < m /\ W (i + 1) m' σ' H') /\ ∀ x H', J.yld i H x H' -> g x σ H' fun σ2 H2 => tb { D with nx := N, ct := N, bk := D.nx } σ2 H2)
noncomputable def pinsAt (fp : List Addr) (h : Heap) : List (Addr × Obj) := fp.filterMap fun b => (h.get? b).map fun o => (b, o)
theorem mem_pinsAt {fp : List Addr} {h : Heap} {b : Addr} {o : Obj} (hb : b ∈ fp) (e : h.get? b = some o) : (b, o) ∈ pinsAt fp h := List.mem_filterMap.mpr ⟨b, hb, by rw [e]; rfl⟩
theorem of_pinsAt {fp : List Addr} {h : Heap} {p : Addr × Obj} (hp : p ∈ pinsAt fp h) : p.1 ∈ fp /\ h.get? p.1 = some p.2 := by
 obtain ⟨b, hb, e⟩ := List.mem_filterMap.mp hp
 cases q : h.get? b with
 | none => rw [q] at e; cases e
 | some o =>
  rw [q] at e
  have e' : (b, o) = p := Option.some.inj e
  subst e'
  exact ⟨hb, q⟩
theorem Inv.pinned {pins : List (Addr × Obj)} {σ : St} {H : Hp} {s : Shared} {fp : List Addr} (I : Inv X pins σ H s) (hf : ∀ b ∈ fp, FpOk X pins H b) (ho : ∀ b ∈ fp, ∃ o, s.heap.get? b = some o /\ ∀ v, o.data ≠ .cell v) : Inv X (pins ++ pinsAt fp s.heap) σ H s :=
 I.pins_of fun p hp => (List.mem_append.mp hp).elim (fun z => I.pin p (List.mem_append_right _ z)) fun z => by
  obtain ⟨hb, e⟩ := of_pinsAt z
  obtain ⟨f0, f1, f2, _⟩ := hf p.1 hb
  obtain ⟨o, e', d⟩ := ho p.1 hb
  rw [e] at e'; cases e'
  exact ⟨e, f0, f1, f2, d⟩
theorem Inv.unpinned {pins pl : List (Addr × Obj)} {σ : St} {H : Hp} {s : Shared} (I : Inv X (pins ++ pl) σ H s) : Inv X pins σ H s := I.pins_of fun p hp => I.pin p (List.mem_append_right _ (List.mem_append_left _ hp))
theorem ps_for {iter : Expr} {body : List Stmt} {wi : TI} {g : TG} {tb : TS} {pos : Pos} (hp : PassesOwn (model X.prog X.w) X.A X.env X.xe) (hc : X.calm = true) (hi : PI X tg iter wi) (hg : PG X tg g) (hb : PSs X body tb)
  (hs : ∀ x, foldedSetIterable iter X.env x = pure x := by intro _; rfl) : PS X (.For tg iter body [] pos) (tFor wi g tb) := by
 intro pins s σ H D I h
 refine wpAny_For (thn (hi pins s σ H _ I h) fun v s1 h1 => thn h1 fun itv s2 h2 => ?_) hs
 obtain ⟨it, fp, tn, J, H2, e, I2, T, st2, f2, W, ⟨m0, w0⟩, turn⟩ := h2
 subst e
 have stat : ∀ {H' : Hp}, (∀ b ∈ fp, H' b = none) -> ∀ b ∈ fp, FpOk X pins H' b := fun hn b hb => ⟨hn b hb, (f2 b hb).2⟩
 refine codeAny_forLoop_any (fun n s' => ∃ i σ' H', Inv X pins σ' H' s' /\ tn i s'.heap /\ (∀ b ∈ fp, H' b = none) /\ W i n σ' H') ?_ m0 ⟨0, σ, H2, I2, st2, fun b hb => (f2 b hb).1, w0⟩
 rintro n s3 ⟨i, σ3, H3, I3, st3, fr3, w3⟩
 rcases turn i n σ3 H3 w3 with ⟨stop, qn⟩ | ⟨go, N, hN, step⟩
 ·refine wpAny_passesOwn hp (thn (T.done X rfl rfl rfl hc i pins s3 σ3 H3 X.xe I3 (stat fr3) st3 stop) fun r s4 zq => ?_)
  obtain ⟨hr, I4⟩ := zq
  subst hr
  exact wpAny_execs_nil ⟨σ3, H3, I4, qn⟩
 ·refine wpAny_passesOwn hp (thn (T.item X rfl rfl rfl hc i pins s3 σ3 H3 X.xe I3 (stat fr3) st3 go) fun r s4 zq => ?_)
  obtain ⟨u, hr, h4⟩ := zq
  subst hr
  refine wpAny_passesOwn hp (thn h4 fun _ s5 zq => ?_)
  obtain ⟨x, H5, I5, r5, y5, st5, fr5⟩ := zq
  have I5' := I5.pinned (stat fr5) (T.obj _ _ st5)
  refine wpAny_passesOwn hp (thn (hg _ s5 σ3 H5 x u _ I5' r5 (step x H5 y5)) fun _ s6 zq => ?_)
  obtain ⟨σ6, H6, I6, q6⟩ := zq
  refine wpAny_passesOwn hp (thn (hb _ s6 σ6 H6 _ I6 q6) fun f s7 q7 => ?_)
  have again : ∀ {σ7 : St} {H7 : Hp}, Inv X (pins ++ pinsAt fp s5.heap) σ7 H7 s7 -> N σ7 H7 -> ∃ m, m < n /\ ∃ i σ' H', Inv X pins σ' H' s7 /\ tn i s7.heap /\ (∀ b ∈ fp, H' b = none) /\ W i m σ' H' := fun {σ7 H7} I7 n7 => by
   obtain ⟨m', hm, w7⟩ := hN σ7 H7 n7
   refine ⟨m', hm, i + 1, σ7, H7, I7.unpinned, T.keep _ _ _ st5 fun b hb o e => (I7.pin (b, o) (List.mem_append_right _ (List.mem_append_right _ (mem_pinsAt hb e)))).1, fun b hb => ?_, w7⟩
   obtain ⟨o, e, d⟩ := T.obj _ _ st5 b hb
   exact (I7.pin (b, o) (List.mem_append_right _ (List.mem_append_right _ (mem_pinsAt hb e)))).2.1
  cases f with
  | next => obtain ⟨σ7, H7, I7, n7⟩ := q7; exact again I7 n7
  | cont => obtain ⟨σ7, H7, I7, n7⟩ := q7; exact again I7 n7
  | brk => obtain ⟨σ7, H7, I7, q7⟩ := q7; exact ⟨σ7, H7, I7.unpinned, q7⟩
  | ret v => obtain ⟨x7, σ7, H7, I7, r7, q7⟩ := q7; exact ⟨x7, σ7, H7, I7.unpinned, r7, q7⟩
end
theorem for_list {K : PySem.W.Frag} {a : Addr} {xs : List V} {g : TG} {tb : TS} {D : Ends} {σ : St} {H : Hp} (Pv : Nat -> St -> Hp -> Prop) (h0 : Pv 0 σ H) (hl : ∀ i σ H, i <= xs.length -> Pv i σ H -> SqL K H a xs)
  (hs : ∀ i x σ H, xs[i]? = some x -> Pv i σ H -> g x σ H fun σ2 H2 => tb { D with nx := Pv (i + 1), ct := Pv (i + 1), bk := D.nx } σ2 H2) (hd : ∀ σ H, Pv xs.length σ H -> D.nx σ H) :
  ∃ W : Nat -> Nat -> St -> Hp -> Prop, (∃ m, W 0 m σ H) /\ ∀ i m σ H, W i m σ H ->
   ((Itl K a).stop i H /\ D.nx σ H) ∨ ((Itl K a).go i H /\ ∃ N : St -> Hp -> Prop, (∀ σ' H', N σ' H' -> ∃ m', m' < m /\ W (i + 1) m' σ' H') /\ ∀ x H', (Itl K a).yld i H x H' -> g x σ H' fun σ2 H2 => tb { D with nx := N, ct := N, bk := D.nx } σ2 H2) := by
 refine ⟨fun i m σ H => m = xs.length - i /\ i <= xs.length /\ Pv i σ H, ⟨xs.length, by simp, Nat.zero_le _, h0⟩, ?_⟩
 rintro i m σ H ⟨rfl, hi, p⟩
 have q := hl i σ H hi p
 by_cases hlt : i < xs.length
 ·refine .inr ⟨⟨xs, xs[i], q, by simp [hlt]⟩, Pv (i + 1), fun σ' H' p' => ⟨xs.length - (i + 1), by (first | lia | omega), rfl, hlt, p'⟩, fun x H' y => ?_⟩
  obtain ⟨e, y⟩ := y
  subst e
  exact hs i x σ _ (y xs q) p
 ·have e : i = xs.length := by (first | lia | omega)
  subst e
  exact .inl ⟨⟨xs, q, Nat.le_refl _⟩, hd σ H p⟩
theorem for_tup {K : PySem.W.Frag} {a : Addr} {xs : List V} {g : TG} {tb : TS} {D : Ends} {σ : St} {H : Hp} (Pv : Nat -> St -> Hp -> Prop) (h0 : Pv 0 σ H) (hl : ∀ i σ H, i <= xs.length -> Pv i σ H -> SqT K H a xs)
  (hs : ∀ i x σ H, xs[i]? = some x -> Pv i σ H -> g x σ H fun σ2 H2 => tb { D with nx := Pv (i + 1), ct := Pv (i + 1), bk := D.nx } σ2 H2) (hd : ∀ σ H, Pv xs.length σ H -> D.nx σ H) :
  ∃ W : Nat -> Nat -> St -> Hp -> Prop, (∃ m, W 0 m σ H) /\ ∀ i m σ H, W i m σ H ->
   ((Itt K a).stop i H /\ D.nx σ H) ∨ ((Itt K a).go i H /\ ∃ N : St -> Hp -> Prop, (∀ σ' H', N σ' H' -> ∃ m', m' < m /\ W (i + 1) m' σ' H') /\ ∀ x H', (Itt K a).yld i H x H' -> g x σ H' fun σ2 H2 => tb { D with nx := N, ct := N, bk := D.nx } σ2 H2) := by
 refine ⟨fun i m σ H => m = xs.length - i /\ i <= xs.length /\ Pv i σ H, ⟨xs.length, by simp, Nat.zero_le _, h0⟩, ?_⟩
 rintro i m σ H ⟨rfl, hi, p⟩
 have q := hl i σ H hi p
 by_cases hlt : i < xs.length
 ·refine .inr ⟨⟨xs, xs[i], q, by simp [hlt]⟩, Pv (i + 1), fun σ' H' p' => ⟨xs.length - (i + 1), by (first | lia | omega), rfl, hlt, p'⟩, fun x H' y => ?_⟩
  obtain ⟨e, y⟩ := y
  subst e
  exact hs i x σ _ (y xs q) p
 ·have e : i = xs.length := by (first | lia | omega)
  subst e
  exact .inl ⟨⟨xs, q, Nat.le_refl _⟩, hd σ H p⟩
theorem for_range {lo : Int} {n : Nat} {g : TG} {tb : TS} {D : Ends} {σ : St} {H : Hp} (Pv : Nat -> St -> Hp -> Prop) (h0 : Pv 0 σ H)
  (hs : ∀ i σ H, i < n -> Pv i σ H -> g (.int (lo + i)) σ H fun σ2 H2 => tb { D with nx := Pv (i + 1), ct := Pv (i + 1), bk := D.nx } σ2 H2) (hd : ∀ σ H, Pv n σ H -> D.nx σ H) :
  ∃ W : Nat -> Nat -> St -> Hp -> Prop, (∃ m, W 0 m σ H) /\ ∀ i m σ H, W i m σ H ->
   ((Itr lo n).stop i H /\ D.nx σ H) ∨ ((Itr lo n).go i H /\ ∃ N : St -> Hp -> Prop, (∀ σ' H', N σ' H' -> ∃ m', m' < m /\ W (i + 1) m' σ' H') /\ ∀ x H', (Itr lo n).yld i H x H' -> g x σ H' fun σ2 H2 => tb { D with nx := N, ct := N, bk := D.nx } σ2 H2) := by
 refine ⟨fun i m σ H => m = n - i /\ i <= n /\ Pv i σ H, ⟨n, by simp, Nat.zero_le _, h0⟩, ?_⟩
 rintro i m σ H ⟨rfl, hi, p⟩
 by_cases hlt : i < n
 ·refine .inr ⟨hlt, Pv (i + 1), fun σ' H' p' => ⟨n - (i + 1), by (first | lia | omega), rfl, hlt, p'⟩, fun x H' y => ?_⟩
  obtain ⟨e, y⟩ := y
  subst e y
  exact hs i σ _ hlt p
 ·have e : i = n := by (first | lia | omega)
  subst e
  exact .inl ⟨Nat.le_refl _, hd σ H p⟩
end L2
namespace L2
open PySem PySem.Spec PyProof.Rows
noncomputable abbrev R2 := V -> V -> Hp -> VK -> Prop
noncomputable def OpR (X : Cx) (f : Value -> Value -> Sem Value) (r : R2) : Prop :=
 ∀ (pins : List (Addr × Obj)) (s : Shared) (σ : St) (H : Hp) (x y : V) (v u : Value) (Q : VK), Inv X pins σ H s -> RelV x v -> RelV y u -> r x y H Q ->
  wpAny (model X.prog X.w) X.A (f v u) (EP X pins σ Q) X.xe s
noncomputable def UnR (X : Cx) (f : Value -> Sem Value) (r : V -> Hp -> VK -> Prop) : Prop :=
 ∀ (pins : List (Addr × Obj)) (s : Shared) (σ : St) (H : Hp) (x : V) (v : Value) (Q : VK), Inv X pins σ H s -> RelV x v -> r x H Q ->
  wpAny (model X.prog X.w) X.A (f v) (EP X pins σ Q) X.xe s
noncomputable def CallR (X : Cx) (f : Value) (r : List V -> Hp -> VK -> Prop) : Prop :=
 ∀ (pins : List (Addr × Obj)) (s : Shared) (σ : St) (H : Hp) (xs : List V) (us : List Value) (Q : VK), Inv X pins σ H s -> Vals xs us -> r xs H Q ->
  wpAny (model X.prog X.w) X.A (call f us) (EP X pins σ Q) X.xe s
noncomputable def TruR (X : Cx) (r : V -> Hp -> (Bool -> Hp -> Prop) -> Prop) : Prop :=
 ∀ (pins : List (Addr × Obj)) (s : Shared) (σ : St) (H : Hp) (x : V) (v : Value) (Q : Bool -> Hp -> Prop), Inv X pins σ H s -> RelV x v -> r x H Q ->
  wpAny (model X.prog X.w) X.A (truthy v) (TP X pins σ Q) X.xe s
noncomputable def tOp (r : R2) (ta tb : TE) : TE := fun σ H Q => ta σ H fun x H1 => tb σ H1 fun y H2 => r x y H2 Q
noncomputable def tUn (r : V -> Hp -> VK -> Prop) (ta : TE) : TE := fun σ H Q => ta σ H fun x H1 => r x H1 Q
noncomputable def rI (C : Int -> Int -> Prop) (g : Int -> Int -> V) : R2 := fun x y H Q => ∃ i j, x = .int i /\ y = .int j /\ C i j /\ Q (g i j) H
noncomputable def rI0 (g : Int -> Int -> V) : R2 := fun x y H Q => ∃ i j, x = .int i /\ y = .int j /\ Q (g i j) H
noncomputable def rU (g : Int -> V) : V -> Hp -> VK -> Prop := fun x H Q => ∃ i, x = .int i /\ Q (g i) H
section
variable {X : Cx} {a b c : Expr} {ta tb tc : TE} {pos : Pos}
theorem binT (ha : PE X a ta) (hb : PE X b tb) {pins : List (Addr × Obj)} {s : Shared} {σ : St} {H : Hp} {R : V -> V -> Hp -> Prop} (I : Inv X pins σ H s)
  (h : ta σ H fun x H1 => tb σ H1 fun y H2 => R x y H2) {Q : Value -> Shared -> Prop} {f : Value -> Value -> Sem Value}
  (hf : ∀ v u s2 x y H2, Inv X pins σ H2 s2 -> RelV x v -> RelV y u -> R x y H2 -> wpAny (model X.prog X.w) X.A (f v u) Q X.xe s2) :
  wpAny (model X.prog X.w) X.A (eval a X.env) (fun v s₁ => wpAny (model X.prog X.w) X.A (eval b X.env) (fun u s₂ => wpAny (model X.prog X.w) X.A (f v u) Q X.xe s₂) X.xe s₁) X.xe s := by
 refine thn (ha pins s σ H _ I h) fun v s1 zq => ?_
 obtain ⟨x, H1, I1, r1, q1⟩ := zq
 refine thn (hb pins s1 σ H1 _ I1 q1) fun u s2 zq => ?_
 obtain ⟨y, H2, I2, r2, q2⟩ := zq
 exact hf v u s2 x y H2 I2 r1 r2 q2
theorem pe_op {op : Operator} {r : R2} (ho : OpR X (binaryOp op) r) (ha : PE X a ta) (hb : PE X b tb) : PE X (.BinOp a op b pos) (tOp r ta tb) := by
 intro pins s σ H Q I h
 exact wpAny_BinOp (binT ha hb I h fun v u s2 x y H2 I2 rx ry q => ho pins s2 σ H2 x y v u Q I2 rx ry q)
theorem pe_un {op : UnaryOp} {r : V -> Hp -> VK -> Prop} (ho : UnR X (unaryOp op) r) (ha : PE X a ta) : PE X (.UnaryOp op a pos) (tUn r ta) := by
 intro pins s σ H Q I h
 exact UnaryOp_ (thn (ha pins s σ H _ I h) fun v s1 ⟨x, H1, I1, r1, q1⟩ => ho pins s1 σ H1 x v Q I1 r1 q1)
theorem opI {f : Value -> Value -> Sem Value} {C : Int -> Int -> Prop} {g : Int -> Int -> Int}
  (rule : ∀ (i j : Int) (t u : Tok) (s : Shared) (Q : Value -> Shared -> Prop) (E : Value -> Shared -> Prop), C i j -> Q (.int (g i j) s.toks) { s with toks := s.toks + 1 } -> wpAny (model X.prog X.w) X.A (f (.int i t) (.int j u)) Q E s) :
  OpR X f (rI C fun i j => .int (g i j)) := by
 intro pins s σ H x y v u Q I rx ry h
 obtain ⟨i, j, rfl, rfl, hc, q⟩ := h
 obtain ⟨t, rfl⟩ := rx
 obtain ⟨t', rfl⟩ := ry
 exact rule i j t t' s _ _ hc ⟨.int (g i j), H, I.tok _, ⟨_, rfl⟩, q⟩
theorem opI0 {f : Value -> Value -> Sem Value} {g : Int -> Int -> Int}
  (rule : ∀ (i j : Int) (t u : Tok) (s : Shared) (Q : Value -> Shared -> Prop) (E : Value -> Shared -> Prop), Q (.int (g i j) s.toks) { s with toks := s.toks + 1 } -> wpAny (model X.prog X.w) X.A (f (.int i t) (.int j u)) Q E s) :
  OpR X f (rI0 fun i j => .int (g i j)) := by
 intro pins s σ H x y v u Q I rx ry h
 obtain ⟨i, j, rfl, rfl, q⟩ := h
 obtain ⟨t, rfl⟩ := rx
 obtain ⟨t', rfl⟩ := ry
 exact rule i j t t' s _ _ ⟨.int (g i j), H, I.tok _, ⟨_, rfl⟩, q⟩
theorem opB0 {f : Value -> Value -> Sem Value} {g : Int -> Int -> Bool}
  (rule : ∀ (i j : Int) (t u : Tok) (s : Shared) (Q : Value -> Shared -> Prop) (E : Value -> Shared -> Prop), Q (.bool (g i j)) s -> wpAny (model X.prog X.w) X.A (f (.int i t) (.int j u)) Q E s) :
  OpR X f (rI0 fun i j => .bl (g i j)) := by
 intro pins s σ H x y v u Q I rx ry h
 obtain ⟨i, j, rfl, rfl, q⟩ := h
 obtain ⟨t, rfl⟩ := rx
 obtain ⟨t', rfl⟩ := ry
 exact rule i j t t' s _ _ ⟨.bl (g i j), H, I, rfl, q⟩
noncomputable def CDiv (i j : Int) : Prop := 0 < j /\ j < 1073741824
noncomputable def CPow (i j : Int) : Prop := 0 <= j /\ j <= 1000000 /\ i.natAbs < 2 ^ 64
noncomputable def CMul (i j : Int) : Prop := (-(2 ^ 64) < i /\ i < 2 ^ 64) ∨ (-(2 ^ 64) < j /\ j < 2 ^ 64)
theorem CMul.ok {i j : Int} (h : CMul i j) : IntMulOk i j := by
 rcases h with ⟨h1, h2⟩ | ⟨h1, h2⟩
 ·exact .of_left (intBits_le_64 h1 h2)
 ·exact .of_right (intBits_le_64 h1 h2)
theorem op_add : OpR X (binaryOp .Add) (rI0 fun i j => .int (i + j)) := opI0 fun _ _ _ _ _ _ _ q => add_int q
theorem op_sub : OpR X (binaryOp .Sub) (rI0 fun i j => .int (i - j)) := opI0 fun _ _ _ _ _ _ _ q => sub_int q
theorem op_mul : OpR X (binaryOp .Mult) (rI CMul fun i j => .int (i * j)) := opI fun _ _ _ _ _ _ _ hc q => mul_int q hc.ok
theorem op_fdiv : OpR X (binaryOp .FloorDiv) (rI CDiv fun i j => .int (i / j)) := opI fun i j _ _ _ _ _ hc q => by
 have h1 : (0 : Int) < j := hc.1
 have h2 : j < 1073741824 := hc.2
 exact floordiv_int (by (first | lia | omega)) (by rw [Int.fdiv_eq_ediv_of_nonneg i (by (first | lia | omega))]; exact q) (.inl (PyProof.noPylong_small (by (first | lia | omega))))
theorem op_mod : OpR X (binaryOp .Mod) (rI (fun _ j => 0 < j) fun i j => .int (i % j)) := opI fun i j _ _ _ _ _ hc q => by
 have h1 : (0 : Int) < j := hc
 exact mod_int' (by (first | lia | omega)) (by rw [Int.fmod_eq_emod_of_nonneg i (by (first | lia | omega))]; exact q)
theorem op_pow : OpR X (binaryOp .Pow) (rI CPow fun i j => .int (i ^ j.toNat)) := opI fun _ _ _ _ _ _ _ hc q => pow_int_small hc.1 hc.2.1 hc.2.2 q
theorem unI {f : Value -> Sem Value} {g : Int -> Int}
  (rule : ∀ (i : Int) (t : Tok) (s : Shared) (Q : Value -> Shared -> Prop) (E : Value -> Shared -> Prop), Q (.int (g i) s.toks) { s with toks := s.toks + 1 } -> wpAny (model X.prog X.w) X.A (f (.int i t)) Q E s) :
  UnR X f (rU fun i => .int (g i)) := by
 intro pins s σ H x v Q I rx h
 obtain ⟨i, rfl, q⟩ := h
 obtain ⟨t, rfl⟩ := rx
 exact rule i t s _ _ ⟨.int (g i), H, I.tok _, ⟨_, rfl⟩, q⟩
theorem un_neg : UnR X (unaryOp .USub) (rU fun i => .int (-i)) := unI fun _ _ _ _ _ q => neg_int q
end
noncomputable def scal : V -> V -> Bool
 | .non, .non => true | .non, .int _ => true | .int _, .non => true | .non, .bl _ => true | .bl _, .non => true | .non, .str _ => true | .str _, .non => true
 | .int _, .int _ => true | .bl _, .bl _ => true | .str _, .str _ => true | .byt _, .byt _ => true
 | .int _, .str _ => true | .str _, .int _ => true | .bl _, .str _ => true | .str _, .bl _ => true
 | _, _ => false
noncomputable def rEq : R2 := fun x y H Q => scal x y = true /\ Q (.bl (decide (x = y))) H
noncomputable def rNe : R2 := fun x y H Q => scal x y = true /\ Q (.bl (!decide (x = y))) H
theorem dec_int {i j : Int} : decide (V.int i = V.int j) = (i == j) := by
 rw [Bool.eq_iff_iff]
 simp
theorem dec_bl {i j : Bool} : decide (V.bl i = V.bl j) = (i == j) := by
 rw [Bool.eq_iff_iff]
 simp
theorem dec_str {i j : Str} : decide (V.str i = V.str j) = (i == j) := by
 rw [Bool.eq_iff_iff]
 simp
theorem dec_byt {i j : Array UInt8} : decide (V.byt i = V.byt j) = (i.toList == j.toList) := by
 rw [Bool.eq_iff_iff]
 cases i
 cases j
 simp
section
variable {X : Cx} {a b c : Expr} {ta tb tc : TE} {pos : Pos}
theorem fin_bl {pins : List (Addr × Obj)} {σ : St} {H : Hp} {s : Shared} {Q : VK} {k k' : Bool} (I : Inv X pins σ H s) (q : Q (.bl k) H) (e : k = k') : EP X pins σ Q (.bool k') s := by
 subst e
 exact ⟨.bl k, H, I, rfl, q⟩
theorem op_eq : OpR X (compareOp .Eq) rEq := by
 intro pins s σ H x y v u Q I rx ry h
 obtain ⟨hs, q⟩ := h
 cases x with
 | non =>
  cases rx
  cases y with
  | non => cases ry; exact PySem.EqNone.eq_none_none (fin_bl I q (by simp))
  | bl j => cases ry; exact PySem.EqNone.eq_none_bool (fin_bl I q (by simp))
  | int j => obtain ⟨t', rfl⟩ := ry; exact PySem.EqNone.eq_none_int (fin_bl I q (by simp))
  | str j => obtain ⟨t', rfl⟩ := ry; exact PySem.EqNone.eq_none_str (fin_bl I q (by simp))
  | _ => exact absurd (show false = true from hs) Bool.false_ne_true
 | bl i =>
  cases rx
  cases y with
  | non => cases ry; exact PySem.EqNone.eq_bool_none (fin_bl I q (by simp))
  | bl j => cases ry; exact eq_bool (fin_bl I q dec_bl)
  | str j => obtain ⟨t', rfl⟩ := ry; exact PySem.EqMixed.eq_bool_str (fin_bl I q (by simp))
  | _ => exact absurd (show false = true from hs) Bool.false_ne_true
 | int i =>
  obtain ⟨t, rfl⟩ := rx
  cases y with
  | non => cases ry; exact PySem.EqNone.eq_int_none (fin_bl I q (by simp))
  | int j => obtain ⟨t', rfl⟩ := ry; exact eq_int (fin_bl I q dec_int)
  | str j => obtain ⟨t', rfl⟩ := ry; exact PySem.EqMixed.eq_int_str (fin_bl I q (by simp))
  | _ => exact absurd (show false = true from hs) Bool.false_ne_true
 | str i =>
  obtain ⟨t, rfl⟩ := rx
  cases y with
  | non => cases ry; exact PySem.EqNone.eq_str_none (fin_bl I q (by simp))
  | bl j => cases ry; exact PySem.EqMixed.eq_str_bool (fin_bl I q (by simp))
  | int j => obtain ⟨t', rfl⟩ := ry; exact PySem.EqMixed.eq_str_int (fin_bl I q (by simp))
  | str j => obtain ⟨t', rfl⟩ := ry; exact eq_str (fin_bl I q dec_str)
  | _ => exact absurd (show false = true from hs) Bool.false_ne_true
 | byt i =>
  obtain ⟨t, rfl⟩ := rx
  cases y with
  | byt j => obtain ⟨t', rfl⟩ := ry; exact PySem.W.eq_bytes (fin_bl I q dec_byt)
  | _ => exact absurd (show false = true from hs) Bool.false_ne_true
 | _ => cases y <;> exact absurd (show false = true from hs) Bool.false_ne_true
theorem op_ne : OpR X (compareOp .NotEq) rNe := by
 intro pins s σ H x y v u Q I rx ry h
 obtain ⟨hs, q⟩ := h
 cases x with
 | non =>
  cases rx
  cases y with
  | non => cases ry; exact PySem.EqNone.ne_none_none (fin_bl I q (by simp))
  | bl j => cases ry; exact PySem.EqNone.ne_none_bool (fin_bl I q (by simp))
  | int j => obtain ⟨t', rfl⟩ := ry; exact PySem.EqNone.ne_none_int (fin_bl I q (by simp))
  | str j => obtain ⟨t', rfl⟩ := ry; exact PySem.EqNone.ne_none_str (fin_bl I q (by simp))
  | _ => exact absurd (show false = true from hs) Bool.false_ne_true
 | bl i =>
  cases rx
  cases y with
  | non => cases ry; exact PySem.EqNone.ne_bool_none (fin_bl I q (by simp))
  | bl j => cases ry; exact ne_bool (fin_bl I q (congrArg not dec_bl))
  | str j => obtain ⟨t', rfl⟩ := ry; exact PySem.EqMixed.ne_bool_str (fin_bl I q (by simp))
  | _ => exact absurd (show false = true from hs) Bool.false_ne_true
 | int i =>
  obtain ⟨t, rfl⟩ := rx
  cases y with
  | non => cases ry; exact PySem.EqNone.ne_int_none (fin_bl I q (by simp))
  | int j => obtain ⟨t', rfl⟩ := ry; exact ne_int (fin_bl I q (congrArg not dec_int))
  | str j => obtain ⟨t', rfl⟩ := ry; exact PySem.EqMixed.ne_int_str (fin_bl I q (by simp))
  | _ => exact absurd (show false = true from hs) Bool.false_ne_true
 | str i =>
  obtain ⟨t, rfl⟩ := rx
  cases y with
  | non => cases ry; exact PySem.EqNone.ne_str_none (fin_bl I q (by simp))
  | bl j => cases ry; exact PySem.EqMixed.ne_str_bool (fin_bl I q (by simp))
  | int j => obtain ⟨t', rfl⟩ := ry; exact PySem.EqMixed.ne_str_int (fin_bl I q (by simp))
  | str j => obtain ⟨t', rfl⟩ := ry; exact ne_str (fin_bl I q (congrArg not dec_str))
  | _ => exact absurd (show false = true from hs) Bool.false_ne_true
 | byt i =>
  obtain ⟨t, rfl⟩ := rx
  cases y with
  | byt j => obtain ⟨t', rfl⟩ := ry; exact PySem.W.ne_bytes (fin_bl I q (congrArg not dec_byt))
  | _ => exact absurd (show false = true from hs) Bool.false_ne_true
 | _ => cases y <;> exact absurd (show false = true from hs) Bool.false_ne_true
theorem op_lt : OpR X (compareOp .Lt) (rI0 fun i j => .bl (decide (i < j))) := opB0 fun _ _ _ _ _ _ _ q => lt_int q
theorem op_le : OpR X (compareOp .LtE) (rI0 fun i j => .bl (decide (i <= j))) := opB0 fun _ _ _ _ _ _ _ q => le_int q
theorem op_gt : OpR X (compareOp .Gt) (rI0 fun i j => .bl (decide (j < i))) := opB0 fun _ _ _ _ _ _ _ q => gt_int q
theorem op_ge : OpR X (compareOp .GtE) (rI0 fun i j => .bl (decide (j <= i))) := opB0 fun _ _ _ _ _ _ _ q => ge_int q
theorem op_isN : OpR X (compareOp .Is) (fun x y H Q => y = .non /\ Q (.bl (decide (x = .non))) H) := by
 intro pins s σ H x y v u Q I rx ry h
 obtain ⟨rfl, q⟩ := h
 cases ry
 refine is_none_gen (fin_bl I q ?_)
 cases x <;> first
  | (cases rx; rfl)
  | (obtain ⟨t, rfl⟩ := rx; rfl)
theorem nomark (b : Expr) {op : CmpOp} (h : op ≠ .In := by decide) (h2 : op ≠ .NotIn := by decide) : behindInMarks op b = false := by
 have e1 : (op == CmpOp.In) = false := by cases op <;> first | rfl | exact absurd rfl h
 have e2 : (op == CmpOp.NotIn) = false := by cases op <;> first | rfl | exact absurd rfl h2
 cases b <;> simp [behindInMarks, e1, e2]
theorem pe_cmpR {op : CmpOp} {r : R2} (ho : OpR X (compareOp op) r) (ha : PE X a ta) (hb : PE X b tb) (hm : behindInMarks op b = false) : PE X (.Compare a [op] [b] pos) (tOp r ta tb) := by
 intro pins s σ H Q I h
 exact wpAny_Compare1 (binT ha hb I h fun v u s2 x y H2 I2 rx ry q => ho pins s2 σ H2 x y v u Q I2 rx ry q) hm
noncomputable def tTest (t : TE) : TT := fun σ H Q => t σ H fun x H' => ∃ k, x = .bl k /\ Q k H'
theorem pt_cmpR {op : CmpOp} {r : R2} (ho : OpR X (compareOp op) r) (ha : PE X a ta) (hb : PE X b tb) (hm : behindInMarks op b = false) : PT X (.Compare a [op] [b] pos) (tTest (tOp r ta tb)) := by
 intro pins s σ H Q I h
 refine wpAny_isTrue_Compare1 (thn (ha pins s σ H _ I h) fun v s1 ⟨x, H1, I1, r1, q1⟩ => thn (hb pins s1 σ H1 _ I1 q1) fun u s2 ⟨y, H2, I2, r2, q2⟩ =>
  thn (ho pins s2 σ H2 x y v u _ I2 r1 r2 q2) fun c s3 ⟨z, H3, I3, r3, k, e, q3⟩ => ?_) hm
 subst e
 cases r3
 exact wpAny_truthy_bool ⟨H3, I3, q3⟩
noncomputable def TruV (K : PySem.W.Frag) (x : V) (H : Hp) (k : Bool) : Prop :=
 match x with
 | .non => k = false
 | .bl b => k = b
 | .int i => k = (i != 0)
 | .str y => y.length <= sizeLine /\ k = ((y.length : Int) != 0)
 | .byt y => y.size <= sizeLine /\ k = ((y.size : Int) != 0)
 | .ref p => (∃ xs, SqL K H p xs /\ k = !xs.isEmpty) ∨ (∃ xs, SqT K H p xs /\ k = !xs.isEmpty) ∨ ∃ kvs, H p = some (.dK kvs) /\ k = !kvs.isEmpty
 | _ => False
theorem isEmpty_kv {κ : Type} {kvs : List (κ × V)} {vs : List (κ × Value)} (r : KV kvs vs) : (!vs.isEmpty) = !kvs.isEmpty := by
 cases r <;> rfl
theorem isEmpty_of {xs : List V} {its : List Value} (r : Vals xs its) : (!its.toArray.isEmpty) = !xs.isEmpty := by
 cases r <;> simp
theorem line63 : (sizeLine : Nat) < 2 ^ 63 := by rw [sizeLine_eq]; decide
theorem tru_ok : TruR X (fun x H Q => ∃ k, TruV X.K x H k /\ Q k H) := by
 intro pins s σ H x v Q I rx h
 obtain ⟨k, e, q⟩ := h
 have hl := line63
 have hs : sizeLine = 16777216 := sizeLine_eq
 cases x with
 | non =>
  cases rx
  have e' : k = false := e
  subst e'
  exact truthy_none ⟨H, I, q⟩
 | bl b =>
  cases rx
  have e' : k = b := e
  subst e'
  exact wpAny_truthy_bool ⟨H, I, q⟩
 | int i =>
  obtain ⟨t, rfl⟩ := rx
  have e' : k = (i != 0) := e
  subst e'
  exact PySem.P.truthy_int ⟨H, I, q⟩
 | str y =>
  obtain ⟨t, rfl⟩ := rx
  obtain ⟨hy, e'⟩ : y.length <= sizeLine /\ k = ((y.length : Int) != 0) := e
  subst e'
  exact PySem.P.truthy_str (by (first | lia | omega)) ⟨H, I.tok _, q⟩
 | byt y =>
  obtain ⟨t, rfl⟩ := rx
  obtain ⟨hy, e'⟩ : y.size <= sizeLine /\ k = ((y.size : Int) != 0) := e
  subst e'
  exact PySem.W.truthy_bytes (by (first | lia | omega)) ⟨H, I.tok _, q⟩
 | ref p =>
  cases rx
  have e' : (∃ xs, SqL X.K H p xs /\ k = !xs.isEmpty) ∨ (∃ xs, SqT X.K H p xs /\ k = !xs.isEmpty) ∨ ∃ kvs, H p = some (.dK kvs) /\ k = !kvs.isEmpty := e
  rcases e' with ⟨xs, hx, e'⟩ | ⟨xs, hx, e'⟩ | ⟨kvs, hx, e'⟩
  ·subst e'
   obtain ⟨its, r, pl, hz⟩ := I.list hx
   have hlen := r.length
   exact wpAny_truthy_list pl.isList (by simp only [List.size_toArray]; (first | lia | omega)) ⟨H, I.tok _, by rw [isEmpty_of r]; exact q⟩
  ·subst e'
   obtain ⟨its, r, pl, hz⟩ := I.tuple hx
   have hlen := r.length
   exact truthy_tuple pl (by simp only [List.size_toArray]; (first | lia | omega)) ⟨H, I.tok _, by rw [isEmpty_of r]; exact q⟩
  ·subst e'
   obtain ⟨hz, hS, vs, r, m⟩ : kvs.length <= sizeLine /\ (p == sysModules) = false /\ ∃ vs, KV kvs vs /\ s.heap.DictOf (mixKind X.prog X.w) p vs := I.hok p _ hx
   have hlen : kvs.length = vs.length := Paired.length r
   exact wpAny_truthy_dict hS m (by (first | lia | omega)) ⟨H, I.tok _, by rw [isEmpty_kv r]; exact q⟩
 | _ => exact (show False from e).elim
theorem pt_truth (ha : PE X a ta) (he : ∀ whole, isTrue a X.env whole = (do let v <- whole; standAt a.pos; holding [v] (truthy v))) :
  PT X a (fun σ H Q => ta σ H fun x H' => ∃ k, TruV X.K x H' k /\ Q k H') := by
 intro pins s σ H Q I h
 exact isTrue_plain (thn (ha pins s σ H _ I h) fun v s1 ⟨x, H1, I1, r1, q1⟩ => tru_ok pins s1 σ H1 x v Q I1 r1 q1) (he _)
theorem vals1 {x : V} {us : List Value} (r : Vals [x] us) : ∃ u, us = [u] /\ RelV x u := by
 cases r with
 | cons r1 r2 => cases r2; exact ⟨_, rfl, r1⟩
theorem vals2 {x y : V} {us : List Value} (r : Vals [x, y] us) : ∃ u w', us = [u, w'] /\ RelV x u /\ RelV y w' := by
 cases r with
 | cons r1 r2 =>
  cases r2 with
  | cons r3 r4 => cases r4; exact ⟨_, _, rfl, r1, r3⟩
theorem call_abs : CallR X (.builtin "abs") (fun xs H Q => ∃ i, xs = [.int i] /\ Q (.int (if i < 0 then -i else i)) H) := by
 intro pins s σ H xs us Q I r h
 obtain ⟨i, rfl, q⟩ := h
 obtain ⟨u, rfl, t, rfl⟩ := vals1 r
 exact call_abs_int fun u tk => ⟨.int (if i < 0 then -i else i), H, I.tok _, ⟨_, rfl⟩, q⟩
theorem call_max2 (hc : X.calm = true) : CallR X (.builtin "max") (fun xs H Q => ∃ i j, xs = [.int i, .int j] /\ Q (.int (if j > i then j else i)) H) := by
 intro pins s σ H xs us Q I r h
 obtain ⟨i, j, rfl, q⟩ := h
 obtain ⟨u, w', rfl, ⟨t, rfl⟩, ⟨t', rfl⟩⟩ := vals2 r
 refine max_two_ints (I.ok.hd hc) fun h' tk k => ⟨_, H, I.kept k, ?_, q⟩
 by_cases hj : j > i
 ·rw [if_pos hj, if_pos hj]; exact ⟨_, rfl⟩
 ·rw [if_neg hj, if_neg hj]; exact ⟨_, rfl⟩
theorem call_min2 (hc : X.calm = true) : CallR X (.builtin "min") (fun xs H Q => ∃ i j, xs = [.int i, .int j] /\ Q (.int (if j < i then j else i)) H) := by
 intro pins s σ H xs us Q I r h
 obtain ⟨i, j, rfl, q⟩ := h
 obtain ⟨u, w', rfl, ⟨t, rfl⟩, ⟨t', rfl⟩⟩ := vals2 r
 refine min_two_ints (I.ok.hd hc) fun h' tk k => ⟨_, H, I.kept k, ?_, q⟩
 by_cases hj : j < i
 ·rw [if_pos hj, if_pos hj]; exact ⟨_, rfl⟩
 ·rw [if_neg hj, if_neg hj]; exact ⟨_, rfl⟩
theorem call_int1 : CallR X (.type "int") (fun xs H Q => (∃ i, xs = [.int i] /\ Q (.int i) H) ∨ ∃ k, xs = [.bl k] /\ Q (.int (if k then 1 else 0)) H) := by
 intro pins s σ H xs us Q I r h
 rcases h with ⟨i, rfl, q⟩ | ⟨k, rfl, q⟩
 ·obtain ⟨u, rfl, t, rfl⟩ := vals1 r
  exact call_int_int ⟨.int i, H, I, ⟨_, rfl⟩, q⟩
 ·obtain ⟨u, rfl, r1⟩ := vals1 r
  cases r1
  exact call_int_bool ⟨.int (if k then 1 else 0), H, I.tok _, ⟨_, rfl⟩, q⟩
end
end L2
namespace L2
open PySem PySem.Spec PyProof.Rows
structure ObjM (h : Heap) (x dx C : Addr) (mA : Str -> Option Value) : Prop where
 obj : h.get? x = some (PySem.W.instObj C dx)
 ns : h.Ns1 dx mA
 ne : dx ≠ x
theorem lookIn_ns {h : Heap} {dx : Addr} {mA : Str -> Option Value} (n : h.Ns1 dx mA) : ∃ od, h.get? dx = some od /\ ∀ name, PySem.W.lookIn name od = some (mA name) := by
 obtain ⟨o, es, ep, ho, hd, hk, _, hm⟩ := n
 refine ⟨o, ho, fun name => ?_⟩
 have e := hm name
 unfold nsFind findBy at e
 rw [<- Array.find?_toList] at e
 unfold PySem.W.lookIn
 rw [hd]
 dsimp only
 split
 ·rename_i y q
  rw [q] at e
  exact congrArg some e
 ·rename_i q
  rw [q] at e
  have a : es.toList.any (·.refKey) = false := by
   rw [List.any_eq_false]
   intro y hy
   obtain ⟨z, t, hkey⟩ := hk y (Array.mem_toList_iff.mp hy)
   simp [DictEntry.refKey, hkey]
  have a' : ¬ es.toList.any (·.refKey) = true := by rw [a]; exact Bool.false_ne_true
  rw [if_neg a']
  exact congrArg some e
theorem ObjM.look {h : Heap} {x dx C : Addr} {mA : Str -> Option Value} (I : ObjM h x dx C mA) : ∃ od, PySem.W.InstAt h x (PySem.W.instObj C dx) C (some od) /\ ∀ name, PySem.W.lookIn name od = some (mA name) :=
 let ⟨od, ho, hl⟩ := lookIn_ns I.ns
 ⟨od, ⟨I.obj, rfl, rfl, ho⟩, hl⟩
section
variable {prog : Program} {w : World} {A : Around} {E : Value -> Shared -> Prop} {s : Shared} {K : PySem.W.Frag} {x dx C f : Addr} {mA : Str -> Option Value} {name : Str} {v : Value}
end
section
variable {P : Program} {w : World} {H H' : Hp} {h h' : Heap} {a C dx : Addr} {fs fs' : List (Str × V)}
theorem ins_get (hok : HOk P w H h) (e : H a = some (.ins C dx fs)) : ∃ mA, ObjM h a dx C mA /\ (∀ f, RelO (fs.lookup f) (mA f)) /\ PySem.Within mA (fs.map (·.1)) /\ fs.length <= 1000 /\ H dx = some (.own a) := by
 obtain ⟨d, z, ne, ob, mA, n, r, q⟩ := (show ObjOk P w H h a (.ins C dx fs) from hok a _ e)
 exact ⟨mA, ⟨ob, n, ne⟩, r, q, z, d⟩
end
structure Cls (K : PySem.W.Frag) (C : Addr) : Prop where
 pg : PySem.W.plainGet K C Str.empty = true
 hd : PySem.W.hasDictIn K C = true
 po : PySem.W.plainOver K C = true
 sa : PySem.W.findIn K (.ref C) "__setattr__" = some (some (.builtin "object.__setattr__"))
theorem Cls.get {K : PySem.W.Frag} {C : Addr} (c : Cls K C) (f : Str) : PySem.W.plainGet K C f = true := c.pg
structure Con (K : PySem.W.Frag) (C : Addr) (f : Str) (v : V) (u : Value) : Prop where
 at_ : PySem.W.findIn K (.ref C) f = some (some u)
 rel : RelV v u
 get : PySem.W.specialIn K u "__get__" = some none
 cp : PySem.W.copiedNames.contains f = false
structure Meth (K : PySem.W.Frag) (C : Addr) (m : Str) (f : Addr) : Prop where
 at_ : PySem.W.findIn K (.ref C) m = some (some (.ref f))
 fn : PySem.W.isFn K (.ref f) = true
 kp : PySem.W.keepIn K (.ref f) = true
section
variable {X : Cx} {pins : List (Addr × Obj)} {σ : St} {H : Hp} {s : Shared} {a C dx : Addr} {fs : List (Str × V)} {f : Str} {v : V} {A : Around} {E : Value -> Shared -> Prop}
end
section
variable {X : Cx} {o e value : Expr} {f : Str} {pos pos' tpos : Pos} {ta tv : TE}
end
section
variable {X : Cx} {pins : List (Addr × Obj)} {σ : St} {H : Hp} {s : Shared} {A : Around} {E : Value -> Shared -> Prop} {Q : Value -> Shared -> Prop} {c : Value} {b : Bool}
inductive TyOf (K : PySem.W.Frag) (H : Hp) : V -> Value -> Prop where
 | non : TyOf K H .non (.type "NoneType")
 | bl (x : Bool) : TyOf K H (.bl x) (.type "bool")
 | int (i : Int) : TyOf K H (.int i) (.type "int")
 | str (x : Str) : TyOf K H (.str x) (.type "str")
 | flt (x : UInt64) : TyOf K H (.flt x) (.type "float")
 | lst {a : Addr} {xs : List V} (e : H a = some (.lst xs)) : TyOf K H (.ref a) (.type "list")
 | frz {a : Addr} {o : Obj} {xs : List V} (e : H a = some (.frz o (.lst xs))) : TyOf K H (.ref a) (.type "list")
 | tup {a : Addr} {xs : List V} (e : H a = some (.tup xs)) : TyOf K H (.ref a) (.type "tuple")
 | dK {a : Addr} {kvs : List (Key × V)} (e : H a = some (.dK kvs)) : TyOf K H (.ref a) (.type "dict")
 | dT {a : Addr} {kvs : List (List Key × V)} (e : H a = some (.dT kvs)) : TyOf K H (.ref a) (.type "dict")
 | ins {a C dx : Addr} {fs : List (Str × V)} (e : H a = some (.ins C dx fs)) (cl : Cls K C) (ha : PySem.W.findIn K (.ref C) "__class__" = some (some (.builtin "object.__class__")))
   (hn : PySem.W.specialIn K (.builtin "object.__class__") "__get__" = some (some (.builtin "getset_descriptor.__get__"))) (htk : PySem.W.takesIn K (.builtin "object.__class__") = some true)
   (hm : PySem.W.mroIn K C (.type "object") = some true) : TyOf K H (.ref a) (.ref C)
theorem isinst_ok {x : V} {u t : Value} (I : Inv X pins σ H s) (rx : RelV x u) (ty : TyOf X.K H x t) (e : PySem.W.kitOne X.K t c = some b) (h : ∀ tk, Q (.bool b) { s with toks := tk }) :
  wpAny (model X.prog X.w) A (call (.builtin "isinstance") [u, c]) Q E s := by
 cases ty with
 | non => cases (show u = Value.none from rx); exact PySem.W.kia_one PySem.W.kitx_none I.kIn True.intro e (fun z => nomatch z) h
 | bl y => cases (show u = Value.bool y from rx); exact PySem.W.kia_one PySem.W.kitx_bool I.kIn True.intro e (fun z => nomatch z) h
 | int i => obtain ⟨t, q⟩ := (show ∃ t, u = Value.int i t from rx); cases q; exact PySem.W.kia_one PySem.W.kitx_int I.kIn True.intro e (fun z => nomatch z) h
 | str y => obtain ⟨t, q⟩ := (show ∃ t, u = Value.str y t from rx); cases q; exact PySem.W.kia_one PySem.W.kitx_str I.kIn True.intro e (fun z => nomatch z) h
 | flt y => obtain ⟨t, q⟩ := (show ∃ t, u = Value.float y t from rx); cases q; exact PySem.W.kia_one PySem.W.kitx_float I.kIn True.intro e (fun z => nomatch z) h
 | @lst a xs ea =>
  cases (show u = Value.ref a from rx)
  obtain ⟨_, _, n, _, h1⟩ := (show ObjOk X.prog X.w H s.heap a (.lst xs) from I.hok a _ ea)
  exact PySem.W.kia_one PySem.W.kitx_list I.kIn ⟨_, h1, rfl⟩ e (fun z => nomatch z) h
 | @frz a ob xs ea =>
  cases (show u = Value.ref a from rx)
  obtain ⟨_, _, _, n, _, h1⟩ := (show ObjOk X.prog X.w H s.heap a (.frz ob (.lst xs)) from I.hok a _ ea)
  exact PySem.W.kia_one PySem.W.kitx_list I.kIn ⟨_, h1, rfl⟩ e (fun z => nomatch z) h
 | @tup a xs ea =>
  cases (show u = Value.ref a from rx)
  obtain ⟨_, _, _, p⟩ := (show ObjOk X.prog X.w H s.heap a (.tup xs) from I.hok a _ ea)
  obtain ⟨o, h1, h2, _⟩ := p
  exact PySem.W.kia_one PySem.W.kitx_tuple I.kIn ⟨o, h1, h2⟩ e (fun z => nomatch z) h
 | @dK a kvs ea =>
  cases (show u = Value.ref a from rx)
  obtain ⟨_, _, vs, _, p⟩ := (show ObjOk X.prog X.w H s.heap a (.dK kvs) from I.hok a _ ea)
  obtain ⟨o, es, ep, h1, h2, _⟩ := p
  exact PySem.W.kia_one PySem.W.kitx_dict I.kIn ⟨o, h1, h2.1⟩ e (fun z => nomatch z) h
 | @dT a kvs ea =>
  cases (show u = Value.ref a from rx)
  obtain ⟨_, _, xs, _, o, es, ep, h1, h2, _⟩ := (show ObjOk X.prog X.w H s.heap a (.dT kvs) from I.hok a _ ea)
  exact PySem.W.kia_one PySem.W.kitx_dict I.kIn ⟨o, h1, h2.1⟩ e (fun z => nomatch z) h
 | @ins a C dx fs ea cl ha hn htk hm =>
  cases (show u = Value.ref a from rx)
  obtain ⟨mA, O, _⟩ := ins_get I.hok ea
  obtain ⟨od, J, _⟩ := O.look
  exact PySem.W.kia_one (PySem.W.kitx_own (cl.get _) cl.hd ha hn htk hm) I.kIn J e (fun z => nomatch z) h
end
end L2
namespace L2
open PySem PySem.Spec PyProof.Rows
structure Room (k : Nat) (A : Around) : Prop where
 hd : A.handled = none
 dp : A.depth + 3 * k + 5 < recursionLimit
 un : A.units + 16 * k + 200 < cLine
 gd : A.guards = some []
theorem Room.mono {j k : Nat} {A : Around} (r : Room k A) (h : j <= k) : Room j A := ⟨r.hd, by have := r.dp; (first | lia | omega), by have := r.un; (first | lia | omega), r.gd⟩
theorem Room.deeper {k : Nat} {A : Around} (r : Room (k + 1) A) (env : Env) : Room k (A.deeper env) :=
 ⟨r.hd, by have := r.dp; show A.depth + 1 + 3 * k + 5 < _; (first | lia | omega), by have := r.un; show A.units + 3 + 16 * k + 200 < _; (first | lia | omega), r.gd⟩
theorem Room.depth {k : Nat} {A : Around} (r : Room k A) : A.depth < recursionLimit := by have := r.dp; (first | lia | omega)
theorem Room.units {k : Nat} {A : Around} (r : Room k A) : A.units + 64 < cLine := by have := r.un; (first | lia | omega)
noncomputable def tNil : TA := fun _ H Q => Q [] H
noncomputable def tCons (ta : TE) (tr : TA) : TA := fun σ H Q => ta σ H fun x H1 => tr σ H1 fun xs H2 => Q (x :: xs) H2
section
variable {X : Cx} {e : Expr} {es : List Expr} {te : TE} {t : TA} {pos : Pos}
theorem pa_nil : PA X [] tNil := fun _ _ _ _ H Q I h => Calls.spliced_nil ⟨[], H, I, .nil, h⟩
theorem pa_cons (ha : PE X e te) (hr : PA X es t) (hs : starEach (e :: es) X.env = (false, eval e X.env) :: starEach es X.env := by rfl) : PA X (e :: es) (tCons te t) := by
 intro pos pins s σ H Q I h
 rw [hs]
 show wpAny _ _ (spliced ((false, eval e X.env) :: backTo pos (starEach es X.env))) _ _ s
 refine Calls.spliced_cons (thn (ha pins s σ H _ I h) fun u s1 zq => ?_)
 obtain ⟨x, H1, I1, r1, q1⟩ := zq
 exact thn (hr pos pins s1 σ H1 _ I1 q1) fun us s2 ⟨xs, H2, I2, r2, q2⟩ => ⟨x :: xs, H2, I2, .cons r1 r2, q2⟩
noncomputable def tTup (t : TA) : TE := fun σ H Q => t σ H fun xs H1 => xs.length <= sizeLine /\ ∀ p, H1 p = none -> Q (.ref p) (upd H1 p (.tup xs))
noncomputable def tLst (t : TA) : TE := fun σ H Q => t σ H fun xs H1 => xs.length <= sizeLine /\ ∀ p, H1 p = none -> Q (.ref p) (upd H1 p (.lst xs))
theorem pe_tup {x1} (h : PA X es t) : PE X (.Tuple es x1 pos) (tTup t) := by
 intro pins s σ H Q I hq
 refine wpAny_Tuple_spliced (thn (h pos pins s σ H _ I hq) fun us s1 ⟨xs, H1, I1, r, z, q⟩ => ⟨by rw [<- r.length]; exact z, ?_⟩)
 have hf : H1 s1.heap.objs.size = none := I1.hok.fresh (Nat.le_refl _)
 refine ⟨.ref s1.heap.objs.size, upd H1 s1.heap.objs.size (.tup xs), I1.laid (t' := s1.toks) (fun b u e => Heap.get?_push_of_some _ e) (Nat.le_refl _) ?_, rfl, q _ hf⟩
 exact ⟨z, us, r, PTup.new⟩
theorem pe_lst (h : PA X es t) : PE X (.List es pos) (tLst t) := by
 intro pins s σ H Q I hq
 refine wpAny_List_spliced (thn (h pos pins s σ H _ I hq) fun us s1 ⟨xs, H1, I1, r, z, q⟩ => ⟨by rw [<- r.length]; exact z, ?_⟩)
 have hf : H1 s1.heap.objs.size = none := I1.hok.fresh (Nat.le_refl _)
 refine ⟨.ref s1.heap.objs.size, upd H1 s1.heap.objs.size (.lst xs), I1.laid (t' := s1.toks) (fun b u e => Heap.get?_push_of_some _ e) (Nat.le_refl _) ?_, rfl, q _ hf⟩
 exact ⟨z, us, 0, r, Heap.get?_push_size _ rfl⟩
end
noncomputable abbrev Sp := List V -> Hp -> VK -> XK -> Prop
noncomputable abbrev CXT := List Env -> Hp -> Shared -> XK -> Value -> Shared -> Prop
structure Env0 (P : Program) (w : World) (K : PySem.W.Frag) (mg : Str -> Option Value) (base : Heap) (A : Around) (outer : List Env) (s : Shared) (H : Hp) : Prop where
 frames : A.frames = some outer
 mod : Mod K mg base
 bs : ∀ b o, base.get? b = some o -> s.heap.get? b = some o /\ H b = none
 bsz : base.objs.size <= s.heap.objs.size
 funs : s.heap.FunFrames base outer
 frf : ∀ b ∈ frs outer, H b = none
 hok : HOk P w H s.heap
 bare : AllBare s.gens
noncomputable def CE (outer : List Env) (P : Program) (w : World) (H : Hp) (s : Shared) (Q : VK) (u : Value) (s' : Shared) : Prop :=
 ∃ v H', s'.os = s.os /\ AllBare s'.gens /\ Un (frs outer) [] H H' s.heap s'.heap /\ HOk P w H' s'.heap /\ RelV v u /\ Q v H'
noncomputable def CR (CX : CXT) (outer : List Env) (P : Program) (w : World) (H : Hp) (s : Shared) (Q : VK) (E : XK) (r : Result) (s' : Shared) : Prop :=
 match r with
 | .ok (.ret u) => CE outer P w H s Q u s'
 | .ok _ => False
 | .error e => CX outer H s E e s'
structure FnOk (P : Program) (w : World) (K : PySem.W.Frag) (mg : Str -> Option Value) (base : Heap) (CX : CXT) (k : Nat) (f : Addr) (fd : FuncData) (ps : List Str) (sp : Sp) : Prop where
 len : ∀ vs H Q E, sp vs H Q E -> vs.length = ps.length
 run : ∀ (A : Around) (outer : List Env) (s : Shared) (H : Hp) (args : Args) (us : List Value) (vs : List V) (Q : VK) (E : XK), Room k A -> Env0 P w K mg base A outer s H -> BindsTo s fd args (ps.zip us) -> Vals vs us -> sp vs H Q E ->
  codeAny (model P w) A (.call (.ref f) args) (CR CX outer P w H s Q E) s
theorem FnOk.mono {P : Program} {w : World} {K : PySem.W.Frag} {mg : Str -> Option Value} {base : Heap} {CX : CXT} {j k : Nat} {f : Addr} {fd : FuncData} {ps : List Str} {sp : Sp} (F : FnOk P w K mg base CX j f fd ps sp) (h : j <= k) :
  FnOk P w K mg base CX k f fd ps sp := ⟨F.len, fun A outer s H args us vs Q E hr => F.run A outer s H args us vs Q E (hr.mono h)⟩
theorem FnOk.imp {P : Program} {w : World} {K : PySem.W.Frag} {mg : Str -> Option Value} {base : Heap} {CX : CXT} {k : Nat} {f : Addr} {fd : FuncData} {ps : List Str} {sp sp' : Sp} (F : FnOk P w K mg base CX k f fd ps sp)
  (h : ∀ vs H Q E, sp' vs H Q E -> sp vs H Q E) : FnOk P w K mg base CX k f fd ps sp' :=
 ⟨fun vs H Q E q => F.len vs H Q E (h _ _ _ _ q), fun A outer s H args us vs Q E hr he hb hv hs => F.run A outer s H args us vs Q E hr he hb hv (h _ _ _ _ hs)⟩
section
variable {X : Cx} {pins : List (Addr × Obj)} {σ : St} {H : Hp} {s s' : Shared}
theorem Inv.env0 (I : Inv X pins σ H s) : Env0 X.prog X.w X.K X.mg X.base X.A X.stack s H :=
 ⟨I.ok.frames, I.ok.mod, I.bs, Nat.le_trans I.ok.bsz I.sz, I.stack, I.stkFree, I.hok, I.bare⟩
theorem Inv.after {Q : VK} {u : Value} (I : Inv X pins σ H s) (h : CE X.stack X.prog X.w H s Q u s') : EP X pins σ Q u s' := by
 obtain ⟨v, H', os, bare, un, hok, r, q⟩ := h
 obtain ⟨hh, g, d, t, os'⟩ := s'
 obtain rfl : os' = s.os := os
 exact ⟨v, H', I.call (h' := hh) (g' := g) (d' := d) (t' := t) (ch := []) un hok bare (fun b z => absurd z (by simp)), r, q⟩
end
noncomputable def tCall (sp : Sp) (dvs : List V) (E : XK) (t : TA) : TE := fun σ H Q => t σ H fun vs H1 => sp (vs ++ dvs) H1 Q E
noncomputable def Binds (K : PySem.W.Frag) (fd : FuncData) (ps : List Str) (ds : List Value) : Prop :=
 ∀ (s : Shared) (us : List Value), K.In s.heap -> (us ++ ds).length = ps.length -> BindsTo s fd ⟨us, []⟩ (ps.zip (us ++ ds))
theorem Binds.all {K : PySem.W.Frag} {fd : FuncData} {ps : List Str} (h : ∀ us : List Value, us.length = ps.length -> bindArgs fd ⟨us, []⟩ = pure (ps.zip us)) : Binds K fd ps [] := fun s us _ hl => by
 rw [List.append_nil] at hl ⊢
 exact .of_eq (h us hl)
noncomputable def Passes (CX : CXT) (X : Cx) (E : XK) : Prop := ∀ (pins : List (Addr × Obj)) (σ : St) (H : Hp) (s : Shared) (e : Value) (s' : Shared), Inv X pins σ H s -> CX X.stack H s E e s' -> X.xe e s'
section
variable {X : Cx} {CX : CXT} {k : Nat} {f C : Addr} {fd : FuncData} {ps : List Str} {sp : Sp} {dvs : List V} {ds : List Value} {E : XK} {x m : Str} {p pos apos : Pos} {e o : Expr} {es : List Expr} {ta : TE} {t : TA}
theorem run_fn {pins : List (Addr × Obj)} {σ : St} {H : Hp} {s : Shared} {Q : VK} {us : List Value} {vs : List V} (F : FnOk X.prog X.w X.K X.mg X.base CX k f fd ps sp) (hr : Room k X.A) (hb : Binds X.K fd ps ds) (hd : Vals dvs ds) (hx : Passes CX X E)
  (I : Inv X pins σ H s) (r : Vals vs us) (h : sp (vs ++ dvs) H Q E) : wpAny (model X.prog X.w) X.A (call (.ref f) us) (EP X pins σ Q) X.xe s := by
 have r2 : Vals (vs ++ dvs) (us ++ ds) := r.append hd
 have hl : (us ++ ds).length = ps.length := by rw [<- r2.length]; exact F.len _ _ _ _ h
 refine wpAny_call (codeAny_mono (F.run X.A X.stack s H ⟨us, []⟩ (us ++ ds) (vs ++ dvs) Q E hr I.env0 (hb s us I.kIn hl) r2 h) fun r s' hq => ?_)
 cases r with
 | error e => exact hx pins σ H s e s' I hq
 | ok fl =>
  cases fl with
  | ret u => exact I.after hq
  | next => exact False.elim hq
  | brk => exact False.elim hq
  | cont => exact False.elim hq
theorem pe_call (F : FnOk X.prog X.w X.K X.mg X.base CX k f fd ps sp) (hr : Room k X.A) (hg : Gl X x) (hm : X.mg x = some (.ref f)) (hk : PySem.W.keepIn X.K (.ref f) = true) (hb : Binds X.K fd ps ds) (hd : Vals dvs ds) (hx : Passes CX X E)
  (ha : PA X (e :: es) t) (hdb : (x == ("__debug__" : Str)) = false := by decide) (he : starEach (e :: es) X.env = (false, eval e X.env) :: starEach es X.env := by rfl) (hpl : (backTo pos (starEach es X.env)).any (·.1) = false := by rfl) :
  PE X (.Call (.Name x p) (e :: es) [] pos) (tCall sp dvs E t) := by
 intro pins s σ H Q I h
 refine wpAny_Call_Name_kw (ld_glob I hg hm ?_ hdb)
 refine PySem.W.callWith_K (h₀ := X.base) I.ok.mod.kin hk (thn (ha pos pins s σ H _ I h) fun us s1 ⟨vs, H1, I1, r, q⟩ => ⟨I1.kIn, ?_⟩) he hpl
 exact run_fn F hr hb hd hx I1 r q
structure Mk (K : PySem.W.Frag) (C f : Addr) : Prop where
 makes : PySem.W.makesIn K C = true
 init : PySem.W.findIn K (.ref C) "__init__" = some (some (.ref f))
 fn : PySem.W.isFn K (.ref f) = true
 kp : PySem.W.keepIn K (.ref C) = true
end
section
variable {X : Cx} {CX : CXT} {k : Nat} {f C : Addr} {fd : FuncData} {ps ks : List Str} {sp : Sp} {E : XK} {x m : Str} {p pos apos kpos : Pos} {e o : Expr} {es : List Expr} {kws : List Keyword} {te ta : TE} {t tk : TA} {nm : Option Str}
structure KBinds (K : PySem.W.Frag) (fd : FuncData) (ps ks : List Str) (g : List Value -> List Value -> List Value) (gV : List V -> List V -> List V) : Prop where
 to : ∀ (s : Shared) (us ws : List Value), K.In s.heap -> (g us ws).length = ps.length -> BindsTo s fd ⟨us, ks.zip ws⟩ (ps.zip (g us ws))
 rel : ∀ {vs : List V} {us : List Value} {zs : List V} {ws : List Value}, Vals vs us -> Vals zs ws -> Vals (gV vs zs) (g us ws)
variable {g : List Value -> List Value -> List Value} {gV : List V -> List V -> List V}
end
structure FnScope (N P : List Str) (sc : Scope) : Prop where
 kind : sc.kind = .function
 co : sc.isCoroutine = false
 gen : sc.isGenerator = false
 nd : N.Nodup
 pre : N.take P.length = P
 par : ∀ x ∈ P, sc.names.lookup x = some .local ∨ sc.names.lookup x = some .cell
 nofree : ∀ y ∈ sc.names, y.2 ≠ .free
theorem bindL_out {kindOf : Str -> Option NameKind} {x : Str} : ∀ {binds : List (Str × Value)} {m : Str -> Option Value}, (∀ v, (x, v) ∉ binds) -> bindL kindOf binds m x = m x
 | [], _, _ => rfl
 | (n, v) :: r, m, h => by
  unfold bindL
  rw [bindL_out fun w hw => h w (List.mem_cons_of_mem _ hw)]
  split
  ·have : x ≠ n := by rintro rfl; exact h v List.mem_cons_self
   simp [this]
  ·rfl
theorem bindC_out {kindOf : Str -> Option NameKind} {x : Str} : ∀ {binds : List (Str × Value)} {m : Str -> Option Value}, (∀ v, (x, v) ∉ binds) -> bindC kindOf binds m x = m x
 | [], _, _ => rfl
 | (n, v) :: r, m, h => by
  unfold bindC
  rw [bindC_out fun w hw => h w (List.mem_cons_of_mem _ hw)]
  split
  ·rfl
  ·have : x ≠ n := by rintro rfl; exact h v List.mem_cons_self
   simp [this]
theorem bindL_get {kindOf : Str -> Option NameKind} {x : Str} {v : Value} : ∀ {P : List Str} {vs : List Value} {i : Nat} {m : Str -> Option Value}, P.Nodup -> P[i]? = some x -> vs[i]? = some v -> kindOf x = some .local ->
  bindL kindOf (P.zip vs) m x = some v
 | [], _, _, _, _, h, _, _ => by simp at h
 | _ :: _, [], _, _, _, _, h, _ => by simp at h
 | p :: P, w :: vs, 0, m, nd, h1, h2, hk => by
  simp at h1 h2; subst h1; subst h2
  show bindL kindOf ((p, w) :: P.zip vs) m p = _
  unfold bindL
  rw [bindL_out fun v hv => (List.nodup_cons.mp nd).1 (List.of_mem_zip hv).1, if_pos hk]
  simp
 | p :: P, w :: vs, i + 1, m, nd, h1, h2, hk => by
  show bindL kindOf ((p, w) :: P.zip vs) m x = _
  unfold bindL
  exact bindL_get (i := i) (List.nodup_cons.mp nd).2 (by simpa using h1) (by simpa using h2) hk
theorem bindC_get {kindOf : Str -> Option NameKind} {x : Str} {v : Value} : ∀ {P : List Str} {vs : List Value} {i : Nat} {m : Str -> Option Value}, P.Nodup -> P[i]? = some x -> vs[i]? = some v -> kindOf x ≠ some .local ->
  bindC kindOf (P.zip vs) m x = some v
 | [], _, _, _, _, h, _, _ => by simp at h
 | _ :: _, [], _, _, _, _, h, _ => by simp at h
 | p :: P, w :: vs, 0, m, nd, h1, h2, hk => by
  simp at h1 h2; subst h1; subst h2
  show bindC kindOf ((p, w) :: P.zip vs) m p = _
  unfold bindC
  rw [bindC_out fun v hv => (List.nodup_cons.mp nd).1 (List.of_mem_zip hv).1, if_neg hk]
  simp
 | p :: P, w :: vs, i + 1, m, nd, h1, h2, hk => by
  show bindC kindOf ((p, w) :: P.zip vs) m x = _
  unfold bindC
  exact bindC_get (i := i) (List.nodup_cons.mp nd).2 (by simpa using h1) (by simpa using h2) hk
noncomputable def start (N : List Str) (vs : List V) : St := vs.map some ++ List.replicate (N.length - vs.length) none
noncomputable def cxOf (CX : CXT) (P : Program) (w : World) (K : PySem.W.Frag) (mg : Str -> Option Value) (base : Heap) (N : List Str) (qual : Str) (scope : Scope) (f : Addr) (cd : Value) (A : Around) (outer : List Env) (s : Shared) (H : Hp) (E : XK) : Cx where
 prog := P
 w := w
 K := K
 mg := mg
 base := base
 A := A.deeper (envOfC qual scope s.heap.objs.size f cd)
 N := N
 s₀ := s
 H₀ := H
 env := envOfC qual scope s.heap.objs.size f cd
 outer := outer
 stack := envOfC qual scope s.heap.objs.size f cd :: outer
 ex := []
 calm := true
 fn := fun _ => true
 pn := []
 xe := fun e s' => wpAny (model P w) (A.deeper (envOfC qual scope s.heap.objs.size f cd)) (leaving (envOfC qual scope s.heap.objs.size f cd) e) (fun _ s'' => CX outer H s E e s'') (fun e' s'' => CX outer H s E e' s'') s'
theorem cell_has {sc : Scope} {n : Nat} {x : Str} (h : sc.names.lookup x = some .cell) : ∃ c, (cellsFrom n sc.names []).lookup x = some c := by
 have q := PySem.W.cellsFrom_some sc.names n [] (.inl h)
 exact Option.isSome_iff_exists.mp q
theorem inv_start {CX : CXT} {P : Program} {w : World} {K : PySem.W.Frag} {mg : Str -> Option Value} {base : Heap} {N ps : List Str} {qual : Str} {scope : Scope} {f : Addr} {cd : Value} {A : Around} {outer : List Env} {s s1 : Shared} {H : Hp} {E : XK} {us : List Value} {vs : List V}
  (S : FnScope N ps scope) (hd : A.handled = none) (e0 : Env0 P w K mg base A outer s H) (hl : vs.length = ps.length) (r : Vals vs us)
  (x : InCallC s s.heap.objs.size (bindL (envOfC qual scope s.heap.objs.size f cd).kindOf (ps.zip us) fun _ => none) (cellsFrom (s.heap.objs.size + 1) scope.names []) (bindC (envOfC qual scope s.heap.objs.size f cd).kindOf (ps.zip us) fun _ => none) s1) :
  Inv (cxOf CX P w K mg base N qual scope f cd A outer s H E) [] (start N vs) H s1 := by
 have hpl : ps.length <= N.length := by have := congrArg List.length S.pre; rw [List.length_take] at this; (first | lia | omega)
 obtain ⟨h1, tk, rfl, hk⟩ := x.done
 have noA : ∀ b : Addr, b ∉ (cxOf CX P w K mg base N qual scope f cd A outer s H E).ex := fun b z => absurd (show b ∈ ([] : List Addr) from z) (by simp)
 refine ⟨⟨e0.mod, S.kind, rfl, rfl, Nat.le_refl _, fun y z c h1 h2 => ?_, fun y hy => ?_, fun y c _ h => ?_, fun _ => hd, Around.frames_deeper e0.frames, .inr ⟨rfl, rfl⟩, fun b z => absurd z (noA b), e0.bs, e0.bsz, fun b _ _ => noA b, fun b z => absurd z (noA b), e0.funs, e0.frf⟩,
  rfl, e0.bare, Un.kept hk, ⟨_, x.toInCall.ns, fun i y v h1 h2 h3 => ?_⟩, fun y c h => ⟨_, x.cell y c h⟩, e0.hok.fresh (Nat.le_refl _), fun y c h => ?_, fun p hp => absurd (show p ∈ ([] : List (Addr × Obj)) from hp) (by simp), e0.hok.kept hk, ?_⟩
 ·exact name_of_addr x.apart (PySem.mem_of_lookup h1) (PySem.mem_of_lookup h2)
 ·have hy : scope.names.lookup y = some .cell ∨ scope.names.lookup y = some .free := hy
  rcases hy with hy | hy
  ·exact cell_has hy
  ·exact absurd rfl (S.nofree _ (PySem.mem_of_lookup hy))
 ·exact Nat.le_of_lt (x.above y c (PySem.mem_of_lookup h))
 ·have hi : i < vs.length := by
   unfold start at h2
   by_cases hi : i < vs.length
   ·exact hi
   ·rw [List.getElem?_append_right (by simpa using hi)] at h2
    rw [List.getElem?_replicate] at h2
    split at h2 <;> cases h2
  have ha : vs[i]? = some v := by
   unfold start at h2
   rw [List.getElem?_append_left (by simpa using hi), List.getElem?_map] at h2
   cases e : vs[i]? with
   | none => rw [e] at h2; cases h2
   | some a => rw [e] at h2; cases h2; rfl
  obtain ⟨u, hu, rv⟩ := r.get ha
  have hp : ps[i]? = some y := by
   rw [<- S.pre, List.getElem?_take_of_lt (by (first | lia | omega))]; exact h1
  have ndP : ps.Nodup := by rw [<- S.pre]; exact S.nd.sublist (List.take_sublist _ _)
  refine ⟨u, rv, ?_⟩
  rcases S.par y (List.mem_of_getElem? hp) with k | k
  ·exact .inl ⟨k, bindL_get ndP hp hu k⟩
  ·obtain ⟨c, e⟩ := cell_has (n := s.heap.objs.size + 1) k
   refine .inr ⟨.inl k, c, e, ?_⟩
   have q := x.cell y c e
   rw [bindC_get ndP hp hu (by show scope.names.lookup y ≠ _; rw [k]; decide)] at q
   exact q
 ·exact e0.hok.fresh (Nat.le_of_lt (x.above y c (PySem.mem_of_lookup h)))
 ·unfold start
  show _ = N.length
  rw [List.length_append, List.length_map, List.length_replicate]
  (first | lia | omega)
theorem fn_of {CX : CXT} {P : Program} {w : World} {K : PySem.W.Frag} {mg : Str -> Option Value} {base : Heap} {k : Nat} {f : Addr} {name qual : Str} {params : Arguments} {body : List Stmt} {scope : Scope} {dV kV doc pm cdv ct oc : Value} {an od : Option Addr}
  {osl : Array (Option Value)} {N ps : List Str} {sp : Sp} (lk : K.lookup f = some ⟨oc, od, .func (PySem.W.fnOf name qual params body scope dV kV doc pm an cdv ct), osl⟩) (hcd : PySem.W.codeIn K cdv qual = true) (S : FnScope N ps scope)
  (len : ∀ vs H Q E, sp vs H Q E -> vs.length = ps.length)
  (hbody : ∀ (A : Around) (outer : List Env) (s : Shared) (H : Hp) (vs : List V) (Q : VK) (E : XK), Room k (A.deeper (envOfC qual scope s.heap.objs.size f cdv)) -> sp vs H Q E ->
   ∃ t, PSs (cxOf CX P w K mg base N qual scope f cdv A outer s H E) body t /\ t { nx := fun _ H' => Q .non H', rt := Q } (start N vs) H) :
  FnOk P w K mg base CX (k + 1) f (PySem.W.fnOf name qual params body scope dV kV doc pm an cdv ct) ps sp := by
 refine ⟨len, fun A outer s H args us vs Q E hr e0 hb r hsp => ?_⟩
 have hl := len _ _ _ _ hsp
 have KX : K.In s.heap := e0.mod.kin.keeps fun b o e => (e0.bs b o e).1
 have lim : s.heap.NoLimit := e0.mod.nolimit.keeps fun b o e => (e0.bs b o e).1
 have hkind : ∀ y ∈ ps.zip us, scope.names.lookup y.1 = some .local ∨ (scope.names.lookup y.1 = some .cell /\ ((cellsFrom (s.heap.objs.size + 1) scope.names []).lookup y.1).isSome = true) := fun ⟨n, v⟩ hy => by
  rcases S.par n (List.of_mem_zip hy).1 with q | q
  ·exact .inl q
  ·exact .inr ⟨q, PySem.W.cellsFrom_some _ _ _ (.inl q)⟩
 refine codeAny_call_function hr.depth (KX _ _ lk) rfl S.co S.gen rfl (PySem.W.codeRec_of KX hcd) (hb _ _ _ _ ?_)
 refine wpAny_newFunctionEnv_cells S.kind hkind fun env he s1 x => ?_
 subst he
 refine ⟨lim.keeps x.toInCall.keep, codeAny_func ?_⟩
 obtain ⟨t, ht, hq⟩ := hbody A outer s H vs Q E (hr.deeper _) hsp
 have I : Inv (cxOf CX P w K mg base N qual scope f cdv A outer s H E) [] (start N vs) H s1 := inv_start S hr.hd e0 hl r x
 refine wpAny_mono (ht [] s1 (start N vs) H _ I hq) (fun fl s' hs => ?_) fun e s' hs => hs
 have fin : ∀ {σ' : St} {H' : Hp} {v : V} {u : Value}, Inv (cxOf CX P w K mg base N qual scope f cdv A outer s H E) [] σ' H' s' -> RelV v u -> Q v H' -> CE outer P w H s Q u s' :=
  fun {σ' H' v u} J rv q => ⟨v, H', J.os, J.bare, J.base, J.hok, rv, q⟩
 cases fl with
 | ret u =>
  obtain ⟨v, σ', H', J, rv, q⟩ := hs
  exact fin J rv q
 | next =>
  obtain ⟨σ', H', J, q⟩ := hs
  exact fin (v := V.non) (u := Value.none) J rfl q
 | brk =>
  obtain ⟨_, _, _, q⟩ := hs
  exact False.elim q
 | cont =>
  obtain ⟨_, _, _, q⟩ := hs
  exact False.elim q
end L2
namespace L2
open PySem PySem.Spec PyProof.Rows
section
variable {X : Cx} {x : Str} {p pos : Pos} {e : Expr} {es : List Expr} {t : TA} {id T : String} {r : List V -> Hp -> VK -> Prop}
noncomputable def tCB (r : List V -> Hp -> VK -> Prop) (t : TA) : TE := fun σ H Q => t σ H fun vs H1 => r vs H1 Q
theorem pe_callB (hc : CallR X (.builtin id) r) (hg : Gl X x) (hm : X.mg x = none) (hv : bootBuiltins x = some (.builtin id)) (ha : PA X (e :: es) t) (hn : x ≠ "__name__" := by decide) (hdb : (x == ("__debug__" : Str)) = false := by decide)
  (he : starEach (e :: es) X.env = (false, eval e X.env) :: starEach es X.env := by rfl) (hpl : (backTo pos (starEach es X.env)).any (·.1) = false := by rfl) : PE X (.Call (.Name x p) (e :: es) [] pos) (tCB r t) := by
 intro pins s σ H Q I h
 refine wpAny_Call_Name_kw (ld_blt I hg hm hv ?_ hn hdb)
 exact PyProof.Rows.callWith_builtin1 (thn (ha pos pins s σ H _ I h) fun us s1 ⟨vs, H1, I1, r1, q1⟩ => hc pins s1 σ H1 vs us Q I1 r1 q1) he hpl
theorem pe_callTy (hc : CallR X (.type T) r) (hg : Gl X x) (hm : X.mg x = none) (hv : bootBuiltins x = some (.type T)) (ha : PA X (e :: es) t) (hn : x ≠ "__name__" := by decide) (hdb : (x == ("__debug__" : Str)) = false := by decide)
  (he : starEach (e :: es) X.env = (false, eval e X.env) :: starEach es X.env := by rfl) (hpl : (backTo pos (starEach es X.env)).any (·.1) = false := by rfl) : PE X (.Call (.Name x p) (e :: es) [] pos) (tCB r t) := by
 intro pins s σ H Q I h
 refine wpAny_Call_Name_kw (ld_blt I hg hm hv ?_ hn hdb)
 exact PyProof.Rows.callWith_type1 (thn (ha pos pins s σ H _ I h) fun us s1 ⟨vs, H1, I1, r1, q1⟩ => hc pins s1 σ H1 vs us Q I1 r1 q1) he hpl
end
end L2
namespace HT
open PySem PyProof.Rows
section
open PySem.SeqAt
open PySem.AutoSeq1 (wpAny_loadPart')
open PySem.MeetsSeq PySem.MeetsSeq2 PySem.MeetsSeq3
end
section
variable {prog : Program} {w : World} {A : Around} {E : Value -> Shared -> Prop} {s : Shared}
theorem cat_tup {t b : Addr} {vs ws : List Value} {Q : Value -> Shared -> Prop} (ht : IsTup s.heap t vs.toArray) (hb : IsTup s.heap b ws.toArray) (hv : vs ≠ [])
  (h1 : ws = [] -> Q (.ref t) s) (h2 : ws ≠ [] -> Q (.ref s.heap.objs.size) { s with heap := s.heap.push { cls := .type "tuple", data := .seq (vs ++ ws).toArray } })
  (hsz : vs.length + ws.length <= sizeLine) : wpAny (model prog w) A (binaryOp .Add (.ref t) (.ref b)) Q E s := by
 obtain ⟨⟨cls, dd, data, sl⟩, ho, hc, n, hd⟩ := id ht
 obtain ⟨⟨cls2, dd2, data2, sl2⟩, ho2, hc2, n2, hd2⟩ := id hb
 simp only at hc hd hc2 hd2
 subst hc hd hc2 hd2
 have e : vs.toArray ++ ws.toArray = (vs ++ ws).toArray := by simp
 by_cases hw : ws = []
 ·exact concat_meets ⟨_, ho, rfl⟩ ⟨_, ho2, rfl⟩ noFill_tuple_add seq_tuple_add PySem.F.slot_tuple_add PySem.F.entry_tuple_add (PySem.F.args_tuple_add_2 _ _)
   (tuple_addW1 t b vs.toArray ws.toArray n n2 dd dd2 sl sl2 (by simpa using hv) (by simp [hw])) ⟨ho, ho2, h1 hw⟩
 ·refine concat_meets ⟨_, ho, rfl⟩ ⟨_, ho2, rfl⟩ noFill_tuple_add seq_tuple_add PySem.F.slot_tuple_add PySem.F.entry_tuple_add (PySem.F.args_tuple_add_2 _ _)
   (tuple_addW2 t b vs.toArray ws.toArray n n2 dd dd2 sl sl2 (by simpa using hv) (by simpa using hw) (by rw [List.size_toArray, List.size_toArray]; exact hsz)) ⟨ho, ho2, ?_⟩
  rw [e]
  exact h2 hw
noncomputable def sIx (n d : Nat) : Option Int -> Nat
 | none => d
 | some v => if v < 0 then (v + (n : Int)).toNat else min v.toNat n
theorem sIx_none (n d : Nat) : sIx n d none = d := rfl
theorem sIx_nat (n d k : Nat) : sIx n d (some (k : Int)) = min k n := by
 show (if (k : Int) < 0 then ((k : Int) + (n : Int)).toNat else min (k : Int).toNat n) = min k n
 rw [if_neg (by (first | lia | omega)), Int.toNat_natCast]
theorem sIx_le (n d : Nat) (hd : d <= n) (o : Option Int) : sIx n d o <= n := by
 cases o with
 | none => exact hd
 | some v =>
  show (if v < 0 then (v + (n : Int)).toNat else min v.toNat n) <= n
  by_cases hv : v < 0
  ·rw [if_pos hv]; (first | lia | omega)
  ·rw [if_neg hv]; exact Nat.min_le_right _ _
theorem clip_eq (v : Int) (n d : Nat) : (if v < 0 then max (v + (n : Int)) 0 else min v (n : Int)) = ((sIx n d (some v) : Nat) : Int) := by
 show (if v < 0 then max (v + (n : Int)) 0 else min v (n : Int)) = (((if v < 0 then (v + (n : Int)).toNat else min v.toNat n) : Nat) : Int)
 by_cases hv : v < 0
 ·simp only [if_pos hv]; (first | lia | omega)
 ·simp only [if_neg hv]; (first | lia | omega)
theorem adjust_gen (lo hi : Option Int) (n : Nat) : Builtin.Slice.sliceAdjust lo hi 1 (n : Int) = (((sIx n 0 lo : Nat) : Int), ((sIx n n hi : Nat) : Int)) := by
 have h1 : ¬ ((1 : Int) < 0) := by (first | lia | omega)
 unfold Builtin.Slice.sliceAdjust
 simp only [h1, if_false]
 refine Prod.ext ?_ ?_
 ·cases lo with
  | none => rfl
  | some v => exact clip_eq v n 0
 ·cases hi with
  | none => rfl
  | some v => exact clip_eq v n n
theorem places_gen (i j : Nat) : Builtin.Slice.slicePlaces (i : Int) (j : Int) 1 = j - i := by
 unfold Builtin.Slice.slicePlaces
 have h1 : (1 : Int) > 0 := by (first | lia | omega)
 simp only [h1, if_true, Int.ediv_one]
 split <;> (first | lia | omega)
theorem slicePart_ {v : Value} {o : Option Int} {Q : Option Int -> Shared -> Prop} (p : IsPart v o) (h : Q o s) : wpAny (model prog w) A (Builtin.Slice.slicePartIndex v) Q E s := by
 cases p with
 | none => exact slicePart_none h
 | int i t => exact slicePart_int h
theorem sliceApplied_gen {sl : Addr} {vl vu : Value} {lo hi : Option Int} {n : Nat} {Q : Int × Int × Nat -> Shared -> Prop} (hs : s.heap.IsSliceOf sl vl vu .none) (pl : IsPart vl lo) (pu : IsPart vu hi)
  (h : Q (((sIx n 0 lo : Nat) : Int), 1, sIx n n hi - sIx n 0 lo) s) : wpAny (model prog w) A (Builtin.Slice.sliceApplied (.ref sl) (pure (n : Int))) Q E s := by
 obtain ⟨os, hos, hcs, hds⟩ := id hs
 unfold Builtin.Slice.sliceApplied Builtin.Slice.sliceFields
 refine wpAny_bind (wpAny_bind (wpAny_field hos hds (x := vl) rfl (wpAny_bind (wpAny_field hos hds (x := vu) rfl (wpAny_bind (wpAny_field hos hds (x := .none) rfl (wpAny_pure ?_)))))))
 refine wpAny_bind (slicePart_none ?_)
 show wpAny _ _ (if ((1 : Int) == 0) = true then _ else _) _ _ s
 rw [if_neg (by decide)]
 refine wpAny_bind (slicePart_ pl (wpAny_bind (slicePart_ pu (wpAny_bind (wpAny_pure ?_)))))
 show wpAny _ _ (match Builtin.Slice.sliceAdjust lo hi 1 (n : Int) with | (lo, hi) => pure (lo, (1 : Int), Builtin.Slice.slicePlaces lo hi 1)) _ _ s
 rw [adjust_gen lo hi n]
 show wpAny _ _ (pure (((sIx n 0 lo : Nat) : Int), (1 : Int), Builtin.Slice.slicePlaces ((sIx n 0 lo : Nat) : Int) ((sIx n n hi : Nat) : Int) 1)) _ _ s
 rw [places_gen]
 exact wpAny_pure h
theorem pick_gen (xs : Array Value) (i k : Nat) : ((List.range k).filterMap fun (m : Nat) => xs[((i : Int) + (m : Int) * 1).toNat]?).toArray = ((xs.toList.drop i).take k).toArray := by
 have e : (fun (m : Nat) => xs[((i : Int) + (m : Int) * 1).toNat]?) = fun m => xs[i + m]? := by
  funext m
  have : ((i : Int) + (m : Int) * 1).toNat = i + m := by (first | lia | omega)
  rw [this]
 rw [e]
 have := pick_run xs i k
 rw [List.filterMap_map] at this
 have e2 : ((fun x => xs[x]?) ∘ fun x => i + x) = fun m => xs[i + m]? := rfl
 rw [e2] at this
 rw [this]
theorem getItem_tuple_cut {t sl : Addr} {items : Array Value} {vl vu : Value} {lo hi : Option Int} {Q : Value -> Shared -> Prop} (ht : IsTup s.heap t items) (hs : s.heap.IsSliceOf sl vl vu .none) (pl : IsPart vl lo) (pu : IsPart vu hi)
  (hw : ¬ (sIx items.size 0 lo = 0 /\ sIx items.size items.size hi = items.size))
  (h : Q (.ref s.heap.objs.size) { s with heap := s.heap.push { cls := .type "tuple", data := .seq ((items.toList.drop (sIx items.size 0 lo)).take (sIx items.size items.size hi - sIx items.size 0 lo)).toArray } })
  (hsz : items.size <= sizeLine) : wpAny (model prog w) A (getItem (.ref t) (.ref sl)) Q E s := by
 have htake : sizeOk (.seq ((items.toList.drop (sIx items.size 0 lo)).take (sIx items.size items.size hi - sIx items.size 0 lo)).toArray) := by
  show ((items.toList.drop (sIx items.size 0 lo)).take (sIx items.size items.size hi - sIx items.size 0 lo)).toArray.size <= sizeLine
  rw [List.size_toArray, List.length_take, List.length_drop, Array.length_toList]
  (first | lia | omega)
 have hj : sIx items.size items.size hi <= items.size := sIx_le _ _ (Nat.le_refl _) hi
 obtain ⟨os, hos, hcs, hds⟩ := id hs
 have hTs : s.TypeIs (.ref sl) "slice" := ⟨os, hos, hcs⟩
 unfold getItem
 try with_reducible refine wpAny_holding ?_
 first | refine wpAny_bind (wpAny_pure ?_) | skip
 refine wpAny_bind (wpAny_sequenceKey ht.typeIs (by decide) ?_)
 refine wpAny_bind (wpAny_callSpecial?_slot (name := Str.ofString "__getitem__") ht.typeIs PyProof.Rows.slot_tuple_getitem
  (wpAny_call_entry PyProof.Rows.slot_tuple_getitem ht.typeIs entry_tuple_getitem ?_ (args_tuple_getitem _ _)))
 show wpAny _ _ (Builtin.Tuple.tupleItemsOf (.ref t) >>= _) _ _ s
 refine wpAny_bind (tupleItemsOf_ ht ?_)
 refine wpAny_bind (wpAny_typeOf hTs ?_)
 rw [if_pos (by decide)]
 refine wpAny_bind (sliceApplied_gen hs pl pu ?_)
 have hno : ¬ ((((sIx items.size 0 lo : Nat) : Int) == 0 && (1 : Int) == 1 && (sIx items.size items.size hi - sIx items.size 0 lo) == items.size) = true) := by
  intro q
  rw [Bool.and_eq_true, Bool.and_eq_true] at q
  have q1 : ((sIx items.size 0 lo : Nat) : Int) = 0 := eq_of_beq q.1.1
  have q2 : sIx items.size items.size hi - sIx items.size 0 lo = items.size := eq_of_beq q.2
  exact hw ⟨by (first | lia | omega), by (first | lia | omega)⟩
 show wpAny _ _ (if (((sIx items.size 0 lo : Nat) : Int) == 0 && (1 : Int) == 1 && (sIx items.size items.size hi - sIx items.size 0 lo) == items.size) = true then _ else _) _ _ s
 rw [if_neg hno, pick_gen]
 first
  | exact wpAny_bind (m := Builtin.Tuple.tupleExact _) (wpAny_newObj_type (wpAny_pure ⟨_, rfl, wpAny_pure h⟩) htake)
  | exact wpAny_bind (m := Builtin.Tuple.tupleExact _) (wpAny_newObj_type (wpAny_bind (wpAny_pure (wpAny_pure ⟨_, rfl, wpAny_pure h⟩))) htake)
  | exact wpAny_bind (wpAny_bind (m := Builtin.Tuple.tupleExact _) (wpAny_newObj_type (wpAny_pure (wpAny_pure ⟨_, rfl, wpAny_pure h⟩)) htake))
  | exact wpAny_bind (wpAny_bind (m := Builtin.Tuple.tupleExact _) (wpAny_newObj_type (wpAny_pure ⟨_, rfl, wpAny_pure h⟩) htake))
end
end HT
namespace L2
open PySem PySem.Spec PyProof.Rows
noncomputable abbrev TO := St -> Hp -> (Option Int -> Hp -> Prop) -> Prop
noncomputable def PO (X : Cx) (e : Option Expr) (t : TO) : Prop :=
 ∀ (pins : List (Addr × Obj)) (s : Shared) (σ : St) (H : Hp) (Q : Option Int -> Hp -> Prop), Inv X pins σ H s -> t σ H Q ->
  wpAny (model X.prog X.w) X.A (evalPart e X.env) (fun u s' => ∃ o H', Inv X pins σ H' s' /\ IsPart u o /\ Q o H') X.xe s
noncomputable def tNoPart : TO := fun _ H Q => Q none H
noncomputable def tPart (t : TE) : TO := fun σ H Q => t σ H fun x H1 => ∃ i, x = .int i /\ Q (some i) H1
section
variable {X : Cx} {e : Expr} {te : TE} {lo hi : Option Expr} {tl th : TO} {pos p2 : Pos}
theorem po_none : PO X none tNoPart := by
 intro pins s σ H Q I h
 rw [evalPart_none]
 exact wpAny_pure ⟨none, H, I, .none, h⟩
theorem po_some (h : PE X e te) : PO X (some e) (tPart te) := by
 intro pins s σ H Q I hw
 rw [evalPart_some]
 refine thn (h pins s σ H _ I hw) fun u s1 zq => ?_
 obtain ⟨x, H1, I1, r1, q1⟩ := zq
 obtain ⟨i, rfl, q⟩ := q1
 obtain ⟨t, rfl⟩ := r1
 exact ⟨some i, H1, I1, .int i t, q⟩
noncomputable def SlR (X : Cx) (r : V -> Option Int -> Option Int -> Hp -> VK -> Prop) : Prop :=
 ∀ (pins : List (Addr × Obj)) (s : Shared) (σ : St) (H : Hp) (x : V) (v vl vu : Value) (lo hi : Option Int) (sl : Addr) (Q : VK), Inv X pins σ H s -> RelV x v -> s.heap.IsSliceOf sl vl vu .none -> IsPart vl lo -> IsPart vu hi -> r x lo hi H Q ->
  ∃ T id, typeLookup (.type T) "__getitem__" = pure (some (.builtin id)) /\ s.TypeIs v T /\ wpAny (model X.prog X.w) X.A (getItem v (.ref sl)) (EP X pins σ Q) X.xe s
noncomputable def tSl (r : V -> Option Int -> Option Int -> Hp -> VK -> Prop) (te : TE) (tl th : TO) : TE := fun σ H Q => te σ H fun x H1 => tl σ H1 fun l H2 => th σ H2 fun u H3 => r x l u H3 Q
theorem pe_slice {r : V -> Option Int -> Option Int -> Hp -> VK -> Prop} (hr : SlR X r) (he : PE X e te) (hl : PO X lo tl) (hu : PO X hi th) : PE X (.Subscript e (.Slice lo hi none p2) pos) (tSl r te tl th) := by
 intro pins s σ H Q I h
 refine Subscript_ (thn (he pins s σ H _ I h) fun v s1 zq => ?_)
 obtain ⟨x, H1, I1, r1, q1⟩ := zq
 refine wpAny_Slice (thn (hl pins s1 σ H1 _ I1 q1) fun vl s2 ⟨l, H2, I2, pl, q2⟩ => thn (hu pins s2 σ H2 _ I2 q2) fun vu s3 ⟨u, H3, I3, pu, q3⟩ => ?_)
 rw [evalPart_none]
 refine wpAny_pure ?_
 have I4 : Inv X pins σ H3 { s3 with heap := s3.heap.push { cls := .type "slice", data := .fields #[vl, vu, .none] } } := I3.kept (t' := s3.toks) fun b ob q => Heap.get?_push_of_some _ q
 obtain ⟨T, id, hT, ht, hg⟩ := hr pins { s3 with heap := s3.heap.push { cls := .type "slice", data := .fields #[vl, vu, .none] } } σ H3 x v vl vu l u s3.heap.objs.size Q I4 r1 (Heap.IsSliceOf.new ..) pl pu q3
 show wpAny (model X.prog X.w) X.A (subscriptTail e (.Slice lo hi none p2) v (.ref s3.heap.objs.size)) (EP X pins σ Q) X.xe { s3 with heap := s3.heap.push { cls := .type "slice", data := .fields #[vl, vu, .none] } }
 exact tail_any (ops := [.ref s3.heap.objs.size, v]) ht hT hg (by with_unfolding_all rfl)
noncomputable def cutV (xs : List V) (lo hi : Option Int) : List V := (xs.drop (HT.sIx xs.length 0 lo)).take (HT.sIx xs.length xs.length hi - HT.sIx xs.length 0 lo)
theorem cutV_length (xs : List V) (lo hi : Option Int) : (cutV xs lo hi).length <= xs.length := by
 unfold cutV
 rw [List.length_take, List.length_drop]
 (first | lia | omega)
noncomputable def rSlT (K : PySem.W.Frag) : V -> Option Int -> Option Int -> Hp -> VK -> Prop := fun x lo hi H Q => ∃ a xs, x = .ref a /\ SqT K H a xs /\
 ¬ (HT.sIx xs.length 0 lo = 0 /\ HT.sIx xs.length xs.length hi = xs.length) /\ ∀ p, H p = none -> Q (.ref p) (upd H p (.tup (cutV xs lo hi)))
theorem sl_tup : SlR X (rSlT X.K) := by
 intro pins s σ H x v vl vu lo hi sl Q I rx hs pl pu h
 obtain ⟨a, xs, rfl, hx, hw, q⟩ := h
 cases rx
 obtain ⟨its, r, ht, hz⟩ := I.tuple hx
 have hlen : its.toArray.size = xs.length := by rw [List.size_toArray]; exact r.length.symm
 refine ⟨"tuple", _, PyProof.Rows.slot_tuple_getitem.lookup, ht.typeIs, ?_⟩
 refine HT.getItem_tuple_cut ht hs pl pu (by rw [hlen]; exact hw) ?_ (by rw [hlen]; exact hz)
 rw [hlen]
 refine ⟨.ref s.heap.objs.size, _, I.laid (t' := s.toks) (o := .tup (cutV xs lo hi)) (fun b ob q => Heap.get?_push_of_some _ q) (Nat.le_refl _) ?_, rfl, q _ (I.hok.fresh (Nat.le_refl _))⟩
 exact ⟨Nat.le_trans (cutV_length xs lo hi) hz, _, (r.drop (HT.sIx xs.length 0 lo)).take (HT.sIx xs.length xs.length hi - HT.sIx xs.length 0 lo), PTup.new⟩
noncomputable def rCatT (K : PySem.W.Frag) : R2 := fun x y H Q => ∃ a b xs ys, x = .ref a /\ y = .ref b /\ SqT K H a xs /\ SqT K H b ys /\ xs ≠ [] /\ xs.length + ys.length <= sizeLine /\
 (ys = [] -> Q (.ref a) H) /\ (ys ≠ [] -> ∀ p, H p = none -> Q (.ref p) (upd H p (.tup (xs ++ ys))))
theorem Vals.nil_iff {xs : List V} {us : List Value} (r : Vals xs us) : us = [] ↔ xs = [] := by
 cases r with
 | nil => simp
 | cons _ _ => simp
theorem op_catT : OpR X (binaryOp .Add) (rCatT X.K) := by
 intro pins s σ H x y v u Q I rx ry h
 obtain ⟨a, b, xs, ys, rfl, rfl, ha, hb, hx, hz, q1, q2⟩ := h
 cases rx
 cases ry
 obtain ⟨its, r1, p1, _⟩ := I.tuple ha
 obtain ⟨its2, r2, p2, _⟩ := I.tuple hb
 refine HT.cat_tup p1 p2 (fun z => hx (r1.nil_iff.mp z)) (fun z => ⟨.ref a, H, I, rfl, q1 (r2.nil_iff.mp z)⟩) (fun z => ?_) (by rw [<- r1.length, <- r2.length]; exact hz)
 refine ⟨.ref s.heap.objs.size, _, I.laid (t' := s.toks) (o := .tup (xs ++ ys)) (fun b ob q => Heap.get?_push_of_some _ q) (Nat.le_refl _) ?_, rfl, q2 (fun w => z (r2.nil_iff.mpr w)) _ (I.hok.fresh (Nat.le_refl _))⟩
 exact ⟨by rw [List.length_append]; exact hz, _, r1.append r2, PTup.new⟩
end
end L2
namespace L2
open PySem PySem.Spec PyProof.Rows
noncomputable def ixN (n : Nat) (i : Int) : Option Nat := if 0 <= i then (if i < n then some i.toNat else none) else if -(n : Int) <= i then some (i + n).toNat else none
noncomputable def atI {α : Type} (xs : List α) (i : Int) : Option α := (ixN xs.length i).bind fun j => xs[j]?
theorem ixN_seq {n : Nat} {i : Int} {j : Nat} (h : ixN n i = some j) : seqIndex? i n = some j /\ j < n /\ -(n : Int) <= i /\ i < n := by
 unfold ixN at h
 by_cases h0 : 0 <= i
 ·rw [if_pos h0] at h
  by_cases h1 : i < n
  ·rw [if_pos h1] at h
   have e : i.toNat = j := Option.some.inj h
   exact ⟨by rw [seqIndex_of h0 h1, e], by (first | lia | omega), by (first | lia | omega), h1⟩
  ·rw [if_neg h1] at h; cases h
 ·rw [if_neg h0] at h
  by_cases h1 : -(n : Int) <= i
  ·rw [if_pos h1] at h
   have e : (i + n).toNat = j := Option.some.inj h
   exact ⟨by rw [seqIndex_neg (by (first | lia | omega)) h1, e], by (first | lia | omega), h1, by (first | lia | omega)⟩
  ·rw [if_neg h1] at h; cases h
theorem atI_get {α : Type} {xs : List α} {i : Int} {v : α} (h : atI xs i = some v) : ∃ j, seqIndex? i xs.length = some j /\ xs[j]? = some v /\ j < xs.length /\ -(xs.length : Int) <= i /\ i < xs.length := by
 unfold atI at h
 cases e : ixN xs.length i with
 | none => rw [e] at h; cases h
 | some j =>
  rw [e] at h
  obtain ⟨h1, h2, h3, h4⟩ := ixN_seq e
  exact ⟨j, h1, h, h2, h3, h4⟩
theorem atI_nat {α : Type} {xs : List α} {j : Nat} {v : α} (h : xs[j]? = some v) : atI xs (j : Int) = some v := by
 have hj : j < xs.length := (List.getElem?_eq_some_iff.mp h).1
 have e : ixN xs.length (j : Int) = some j := by
  unfold ixN
  rw [if_pos (by (first | lia | omega)), if_pos (by (first | lia | omega))]; simp
 unfold atI; rw [e]; exact h
noncomputable def PlainIx (b : Expr) : Prop := ∀ o i, subscripted b false o i = operate [o, i] (getItem o i)
noncomputable def IxR (X : Cx) (r : R2) : Prop :=
 ∀ (value slice : Expr) (pins : List (Addr × Obj)) (s : Shared) (σ : St) (H : Hp) (x y : V) (v u : Value) (Q : VK), Inv X pins σ H s -> RelV x v -> RelV y u -> r x y H Q ->
  subscripted slice false v u = operate [v, u] (getItem v u) -> wpAny (model X.prog X.w) X.A (subscriptTail value slice v u) (EP X pins σ Q) X.xe s
noncomputable def MtR (X : Cx) (id : String) (r : V -> List V -> Hp -> VK -> Prop) : Prop :=
 ∀ (pins : List (Addr × Obj)) (s : Shared) (σ : St) (H : Hp) (x : V) (xs : List V) (v : Value) (us : List Value) (Q : VK), Inv X pins σ H s -> RelV x v -> Vals xs us -> r x xs H Q ->
  wpAny (model X.prog X.w) X.A (call (.builtin id) (v :: us)) (EP X pins σ Q) X.xe s
section
variable {X : Cx} {a b : Expr} {ta tb : TE} {pos : Pos}
theorem pe_ix {r : R2} (hr : IxR X r) (ha : PE X a ta) (hb : PE X b tb) (hs : PlainIx b) : PE X (.Subscript a b pos) (tOp r ta tb) := by
 intro pins s σ H Q I h
 exact Subscript_ (binT ha hb I h fun v u s2 x y H2 I2 rx ry q => hr a b pins s2 σ H2 x y v u Q I2 rx ry q (hs _ _))
noncomputable def rIxL (K : PySem.W.Frag) : R2 := fun x y H Q => ∃ p xs i v, x = .ref p /\ y = .int i /\ SqL K H p xs /\ atI xs i = some v /\ Q v H
noncomputable def rIxT (K : PySem.W.Frag) : R2 := fun x y H Q => ∃ p xs i v, x = .ref p /\ y = .int i /\ SqT K H p xs /\ atI xs i = some v /\ Q v H
theorem ix_list : IxR X (rIxL X.K) := by
 intro value slice pins s σ H x y v u Q I rx ry h hs
 obtain ⟨p, xs, i, z, rfl, rfl, hq, he, q⟩ := h
 cases rx
 obtain ⟨t, rfl⟩ := ry
 obtain ⟨its, r, pl, hz⟩ := I.list hq
 obtain ⟨j, h1, h2, h3, h4, h5⟩ := atI_get he
 obtain ⟨w, ew, rw'⟩ := r.get h2
 have hl := r.length
 have hn := line63
 have fin : EP X pins σ Q w s := ⟨z, H, I, rw', q⟩
 by_cases h0 : 0 <= i
 ·have hj : i.toNat = j := by
   rw [seqIndex_of h0 h5] at h1
   exact Option.some.inj h1
  exact item_listR pl.isList h0 (by (first | lia | omega)) (by rw [hj]; simpa using ew) fin hs
 ·have hj : (i + (its.toArray.size : Int)).toNat = j := by
   rw [seqIndex_neg (by (first | lia | omega)) h4] at h1
   rw [List.size_toArray, <- hl]
   exact Option.some.inj h1
  exact subscriptTail_builtinR (x := w) pl.isList.typeIs slot_list_getitem.lookup
   (wpAny_getItem_list_neg (Q := fun r s' => r = w /\ EP X pins σ Q r s') pl.isList (by (first | lia | omega)) (by rw [List.size_toArray] <;> (first | lia | omega)) (by (first | lia | omega)) (by rw [hj]; simpa using ew) ⟨rfl, fin⟩) hs
theorem ix_tup : IxR X (rIxT X.K) := by
 intro value slice pins s σ H x y v u Q I rx ry h hs
 obtain ⟨p, xs, i, z, rfl, rfl, hq, he, q⟩ := h
 cases rx
 obtain ⟨t, rfl⟩ := ry
 obtain ⟨its, r, pl, hz⟩ := I.tuple hq
 obtain ⟨j, h1, h2, h3, h4, h5⟩ := atI_get he
 obtain ⟨w, ew, rw'⟩ := r.get h2
 have hl := r.length
 have hn := line63
 have fin : EP X pins σ Q w s := ⟨z, H, I, rw', q⟩
 exact subscriptTail_builtinR (x := w) pl.typeIs slot_tuple_getitem.lookup
  (getItem_tuple (j := j) (Q := fun r s' => r = w /\ EP X pins σ Q r s') pl (by (first | lia | omega)) (by (first | lia | omega)) (by rw [List.size_toArray, <- hl]; exact h1) (by simpa using ew) ⟨rfl, fin⟩) hs
theorem mapSeq_set (its : List Value) (n j : Nat) (u : Value) : Obj.mapSeq (·.setIfInBounds j u) { cls := .type "list", data := .seq its.toArray n } = { cls := .type "list", data := .seq (its.set j u).toArray n } := by
 simp [Obj.mapSeq]
theorem Inv.lst {pins : List (Addr × Obj)} {σ : St} {H : Hp} {s : Shared} {p : Addr} {xs : List V} (I : Inv X pins σ H s) (h : H p = some (.lst xs)) :
  ∃ (its : List Value) (n : Nat), Vals xs its /\ s.heap.get? p = some { cls := .type "list", data := .seq its.toArray n } /\ xs.length <= sizeLine := by
 obtain ⟨z, its, n, r, e⟩ := I.hok p _ h
 exact ⟨its, n, r, e, z⟩
theorem Inv.lstUpd {pins : List (Addr × Obj)} {σ : St} {H : Hp} {s : Shared} {p : Addr} {xs ys : List V} {its its' : List Value} {n n' : Nat} {f : Obj -> Obj} (I : Inv X pins σ H s) (h : H p = some (.lst xs))
  (ho : s.heap.get? p = some { cls := .type "list", data := .seq its.toArray n }) (hf : f { cls := .type "list", data := .seq its.toArray n } = { cls := .type "list", data := .seq its'.toArray n' }) (r : Vals ys its') (hz : ys.length <= sizeLine) (t : Nat) :
  Inv X pins σ (upd H p (.lst ys)) { s with heap := s.heap.update p f, toks := t } := by
 have e : (s.heap.update p f).get? p = some { cls := .type "list", data := .seq its'.toArray n' } := by
  rw [Heap.get?_update_self f ho (by rw [hf] <;> rfl), hf]
 refine I.write (x := p) (e := p) (by rw [h]; trivial) (.inl rfl) (fun b u hb q => (Heap.get?_update_other _ _ (Ne.symm hb)).trans q) ⟨_, e⟩ ?_
 exact ⟨hz, its', n', r, e⟩
noncomputable def rSetL : V -> V -> V -> Hp -> (Hp -> Prop) -> Prop := fun o i v H Q => ∃ p xs k j, o = .ref p /\ i = .int k /\ H p = some (.lst xs) /\ ixN xs.length k = some j /\ Q (upd H p (.lst (xs.set j v)))
theorem set_list : PSet X rSetL := by
 intro pins s σ H o i v ov iv u Q I ro ri rv h
 obtain ⟨p, xs, k, j, rfl, rfl, hp, hj, q⟩ := h
 cases ro
 obtain ⟨t, rfl⟩ := ri
 obtain ⟨its, n, r, ho, hz⟩ := I.lst hp
 obtain ⟨h1, h2, h3, h4⟩ := ixN_seq hj
 have hl := r.length
 have hn := line63
 have I' : Inv X pins σ (upd H p (.lst (xs.set j v))) { s with heap := s.heap.update p (Obj.mapSeq (·.setIfInBounds j u)) } :=
  I.lstUpd hp ho (mapSeq_set its n j u) (r.set rv j) (by rw [List.length_set]; exact hz) s.toks
 by_cases h0 : 0 <= k
 ·have hk : k.toNat = j := by
   rw [seqIndex_of h0 h4] at h1
   exact Option.some.inj h1
  exact PySem.W.ki_setAt ho h0 (by (first | lia | omega)) (by rw [List.size_toArray, <- hl]; exact h4) (by rw [hk]; exact ⟨_, I', q⟩)
 ·have hk : (k + (its.toArray.size : Int)).toNat = j := by
   rw [seqIndex_neg (by (first | lia | omega)) h3] at h1
   rw [List.size_toArray, <- hl]
   exact Option.some.inj h1
  exact PySem.W.ki_setBack ho (by (first | lia | omega)) (by rw [List.size_toArray, <- hl]; exact h3) (by (first | lia | omega)) (by rw [hk]; exact ⟨_, I', q⟩)
theorem call_len_seq : CallR X (.builtin "len") (fun xs H Q => ∃ p ys, xs = [.ref p] /\ (SqL X.K H p ys ∨ SqT X.K H p ys) /\ Q (.int ys.length) H) := by
 intro pins s σ H xs us Q I r h
 obtain ⟨p, ys, rfl, hq, q⟩ := h
 obtain ⟨u, rfl, rx⟩ := vals1 r
 cases rx
 have hn := line63
 rcases hq with hq | hq
 ·obtain ⟨its, r', pl, hz⟩ := I.list hq
  have hlen := r'.length
  exact Calls.call_len_list pl.isList (by simp only [List.size_toArray] <;> (first | lia | omega)) ⟨.int ys.length, H, I.tok _, ⟨s.toks + 1, by rw [List.size_toArray, hlen]⟩, q⟩
 ·obtain ⟨its, r', pl, hz⟩ := I.tuple hq
  have hlen := r'.length
  exact len_tuple pl (by simp only [List.size_toArray] <;> (first | lia | omega)) ⟨.int ys.length, H, I.tok _, ⟨s.toks + 1, by rw [List.size_toArray, hlen]⟩, q⟩
theorem call_list_of : CallR X (.type "list") (fun xs H Q => ∃ p ys, xs = [.ref p] /\ (SqL X.K H p ys ∨ SqT X.K H p ys) /\ ∀ l, H l = none -> Q (.ref l) (upd H l (.lst ys))) := by
 intro pins s σ H xs us Q I r h
 obtain ⟨p, ys, rfl, hq, q⟩ := h
 obtain ⟨u, rfl, rx⟩ := vals1 r
 cases rx
 have fin : ∀ (its : List Value), Vals ys its -> ys.length <= sizeLine -> ∀ (h' : Heap) (c' : Nat), (∀ b o', s.heap.get? b = some o' -> h'.get? b = some o') ->
   h'.get? s.heap.objs.size = some { cls := .type "list", dict := none, data := .seq its.toArray c', slots := #[] } -> EP X pins σ Q (.ref s.heap.objs.size) { s with heap := h' } := fun its r' hz h' c' kp e =>
  ⟨.ref s.heap.objs.size, _, I.laid (t' := s.toks) kp (Nat.le_refl _) (show ObjOk X.prog X.w _ h' _ (.lst ys) from ⟨hz, its, c', r', e⟩), rfl, q _ (I.hok.fresh (Nat.le_refl _))⟩
 rcases hq with hq | hq
 ·obtain ⟨its, r', pl, hz⟩ := I.list hq
  have hlen := r'.length
  obtain ⟨o, ho, hc, n, hd⟩ := pl.isList
  exact call_list_seq p (.inl rfl) ho hc hd (fun h' c' kp e => fin its r' hz h' c' kp e) (by simp only [List.size_toArray] <;> (first | lia | omega))
 ·obtain ⟨its, r', pl, hz⟩ := I.tuple hq
  have hlen := r'.length
  obtain ⟨o, ho, hc, n, hd⟩ := pl
  exact call_list_seq p (.inr rfl) ho hc hd (fun h' c' kp e => fin its r' hz h' c' kp e) (by simp only [List.size_toArray] <;> (first | lia | omega))
noncomputable def tyV (K : PySem.W.Frag) (T : String) (x : V) (H : Hp) : Prop := match x with
 | .str _ => T = "str"
 | .int _ => T = "int"
 | .ref p => (T = "list" /\ ∃ xs, SqL K H p xs) ∨ (T = "tuple" /\ ∃ o, K.lookup p = some o /\ o.cls = .type "tuple" /\ o.dict = none) ∨
   (T = "dict" /\ ((∃ kvs, H p = some (.dK kvs)) ∨ ∃ kvs, H p = some (.dT kvs))) ∨ (T = "set" /\ ∃ S n, H p = some (.set S n))
 | _ => False
theorem tyV_is {pins : List (Addr × Obj)} {σ : St} {H : Hp} {s : Shared} {T : String} {x : V} {v : Value} (I : Inv X pins σ H s) (r : RelV x v) (ty : tyV X.K T x H) :
  s.TypeIs v T /\ ∀ a, v = .ref a -> ∃ ob, s.heap.get? a = some ob /\ ob.dict = none := by
 cases x with
 | str z =>
  obtain ⟨t, rfl⟩ := r
  cases (show T = "str" from ty)
  exact ⟨typeIs_str s z t, fun _ e => nomatch e⟩
 | int i =>
  obtain ⟨t, rfl⟩ := r
  cases (show T = "int" from ty)
  exact ⟨typeIs_int s i t, fun _ e => nomatch e⟩
 | ref p =>
  cases r
  rcases ty with ⟨rfl, xs, hq⟩ | ⟨rfl, o, hk, hc, hd⟩ | ⟨rfl, hk⟩ | ⟨rfl, S, n, hk⟩
  ·obtain ⟨its, _, pl, _⟩ := I.list hq
   refine ⟨pl.isList.typeIs, fun a e => ?_⟩
   cases e
   obtain ⟨o, n, e, c, hd, _⟩ := pl
   exact ⟨o, e, hd⟩
  ·refine ⟨⟨o, I.kIn p o hk, hc⟩, fun a e => ?_⟩
   cases e
   exact ⟨o, I.kIn _ o hk, hd⟩
  ·have z : ∃ o, s.heap.get? p = some o /\ o.ExactDict := by
    rcases hk with ⟨kvs, hk⟩ | ⟨kvs, hk⟩
    ·obtain ⟨_, _, _, _, o, _, _, e, ex, _⟩ := I.hok p _ hk
     exact ⟨o, e, ex⟩
    ·obtain ⟨_, _, _, _, o, _, _, e, ex, _⟩ := I.hok p _ hk
     exact ⟨o, e, ex⟩
   obtain ⟨o, e, ex⟩ := z
   refine ⟨⟨o, e, ex.1⟩, fun a e2 => ?_⟩
   cases e2
   exact ⟨o, e, ex.2.1⟩
  ·obtain ⟨o, _, _, _, e, ex, _⟩ := I.hok p _ hk
   refine ⟨⟨o, e, ex.1⟩, fun a e2 => ?_⟩
   cases e2
   exact ⟨o, e, ex.2.1⟩
 | _ => exact False.elim ty
noncomputable def tBM0 (K : PySem.W.Frag) (T : String) (r : V -> List V -> Hp -> VK -> Prop) (to : TE) : TE := fun σ H Q => to σ H fun x H1 => tyV K T x H1 /\ r x [] H1 Q
noncomputable def tBM (K : PySem.W.Frag) (T : String) (r : V -> List V -> Hp -> VK -> Prop) (to : TE) (t : TA) : TE := fun σ H Q => to σ H fun x H1 => tyV K T x H1 /\ t σ H1 fun xs H2 => r x xs H2 Q
variable {o e : Expr} {es : List Expr} {to : TE} {t : TA} {name : Str} {apos cpos : Pos} {T id : String} {r : V -> List V -> Hp -> VK -> Prop}
theorem pe_bm0 (pa : PlainAttrs T) (slot : Slot T name id) (hty : typeOf (.builtin id) = pure (.type "method_descriptor")) (hm : MtR X id r) (ho : PE X o to)
  (hbase : attributeBase o name X.env (eval o X.env) = eval o X.env := by rfl) (hline : (apos.endLine == cpos.line) = true := by rfl) : PE X (.Call (.Attribute o name apos) [] [] cpos) (tBM0 X.K T r to) := by
 intro pins s σ H Q I h
 refine wpAny_Call_method0_late hbase hline (thn (ho pins s σ H _ I h) fun v s1 zq => ?_)
 obtain ⟨x, H1, I1, r1, ty, q1⟩ := zq
 obtain ⟨h1, h2⟩ := tyV_is I1 r1 ty
 exact ⟨T, id, pa, slot, hty, h1, h2, Calls.callWith_builtin rfl (PySem.evalArgs_none (hm pins s1 σ H1 x [] v [] Q I1 r1 .nil q1))⟩
theorem pe_bm (pa : PlainAttrs T) (slot : Slot T name id) (hty : typeOf (.builtin id) = pure (.type "method_descriptor")) (hm : MtR X id r) (ho : PE X o to) (ha : PA X (e :: es) t)
  (hbase : attributeBase o name X.env (eval o X.env) = eval o X.env := by rfl)
  (hfew : ((backTo cpos (starEach (e :: es) X.env)).all (fun x => !x.1) && (backToKw cpos (keywordEach [] X.env)).all (fun x => x.1.isSome)
   && decide ((e :: es).length + ([] : List Keyword).length + (if ([] : List Keyword).isEmpty then 0 else 1) < 30)) = true := by rfl)
  (hline : (apos.endLine == cpos.line) = true := by rfl) (hs : starEach (e :: es) X.env = (false, eval e X.env) :: starEach es X.env := by rfl) (hplain : (backTo cpos (starEach es X.env)).any (·.1) = false := by rfl) :
  PE X (.Call (.Attribute o name apos) (e :: es) [] cpos) (tBM X.K T r to t) := by
 intro pins s σ H Q I h
 refine wpAny_Call_method_late hbase hfew hline rfl (thn (ho pins s σ H _ I h) fun v s1 zq => ?_)
 obtain ⟨x, H1, I1, r1, ty, q1⟩ := zq
 obtain ⟨h1, h2⟩ := tyV_is I1 r1 ty
 refine ⟨T, id, pa, slot, hty, h1, h2, ?_⟩
 have hA := ha cpos pins s1 σ H1 _ I1 q1
 rw [hs] at hA ⊢
 refine Calls.callWith_builtin (by show (false || (backTo cpos (starEach es X.env)).any (·.1)) = false; rw [hplain] <;> rfl) (Calls.evalArgs_plain ?_)
 exact thn hA fun us s2 ⟨vs, H2, I2, r2, q2⟩ => hm pins s2 σ H2 x vs v us Q I2 r1 r2 q2
end
end L2
namespace L2
open PySem PySem.Spec PyProof.Rows
noncomputable def MtM (X : Cx) (id : String) (r : V -> List V -> Hp -> VK -> Prop) : Prop :=
 ∀ (pins : List (Addr × Obj)) (s : Shared) (σ : St) (H : Hp) (x : V) (xs : List V) (v : Value) (us : List Value) (Q : VK), Inv X pins σ H s -> RelV x v -> Vals xs us -> r x xs H Q ->
  wpAny (model X.prog X.w) X.A (call (.builtin id) (v :: us)) (EP X pins σ Q) X.xe s
theorem Vals.one : ∀ {x : V} {us : List Value}, Vals [x] us -> ∃ u, us = [u] /\ RelV x u
 | _, _, .cons r .nil => ⟨_, rfl, r⟩
section
variable {X : Cx} {pins : List (Addr × Obj)} {σ : St} {H : Hp} {s : Shared} {l b : Addr} {xs ys zs : List V}
theorem Inv.lset {its its' : List Value} {n : Nat} {f : Array Value -> Array Value} {t' : Nat} (I : Inv X pins σ H s) (hH : H l = some (.lst xs))
  (e : s.heap.get? l = some { cls := .type "list", data := .seq its.toArray n }) (hf : f its.toArray = its'.toArray) (hv : Vals ys its') (hz : ys.length <= sizeLine) :
  Inv X pins σ (upd H l (.lst ys)) { s with heap := s.heap.update l (Obj.mapSeq f), toks := t' } := by
 have q := PySem.IsL.update e f
 rw [hf] at q
 refine I.write (x := l) (e := l) (by rw [hH]; exact trivial) (.inl rfl) (fun b' u hb hu => (Heap.get?_update_other s.heap (Obj.mapSeq f) (Ne.symm hb)).trans hu) ⟨_, q⟩ ?_
 exact ⟨hz, its', _, hv, q⟩
theorem Inv.lnew {its : List Value} {t' : Nat} (I : Inv X pins σ H s) (hv : Vals ys its) (hz : ys.length <= sizeLine) :
  Inv X pins σ (upd H s.heap.objs.size (.lst ys)) { s with heap := s.heap.push { cls := .type "list", data := .seq its.toArray }, toks := t' } :=
 I.laid (fun _ _ q => Heap.get?_push_of_some _ q) (Nat.le_refl _) ⟨hz, its, 0, hv, Heap.get?_push_size _ rfl⟩
theorem Inv.fresh (I : Inv X pins σ H s) : H s.heap.objs.size = none := I.hok.fresh (Nat.le_refl _)
theorem Inv.lstM (I : Inv X pins σ H s) (hH : H l = some (.lst xs)) : xs.length <= sizeLine /\ ∃ (its : List Value) (n : Nat), Vals xs its /\ xs.length = its.length /\ s.heap.get? l = some { cls := .type "list", data := .seq its.toArray n } := by
 obtain ⟨z, its, n, r, e⟩ := I.hok l _ hH
 exact ⟨z, its, n, r, r.length, e⟩
end
section
variable {X : Cx}
noncomputable def rAppend : V -> List V -> Hp -> VK -> Prop := fun x vs H Q => ∃ l xs y, x = .ref l /\ vs = [y] /\ H l = some (.lst xs) /\ xs.length < sizeLine /\ Q .non (upd H l (.lst (xs ++ [y])))
theorem mt_append : MtM X "list.append" rAppend := by
 intro pins s σ H x vs v us Q I rx rv h
 obtain ⟨l, xs, y, rfl, rfl, hH, hz, q⟩ := h
 cases rx
 obtain ⟨u, rfl, ru⟩ := rv.one
 obtain ⟨z, its, n, r, hl, e⟩ := I.lstM hH
 refine call_meets F.slot_list_append ⟨_, e, rfl⟩ F.entry_list_append (F.args_list_append_2 _ _) (PySem.list_append l its.toArray n u (by rw [List.size_toArray]; (first | lia | omega))) ⟨e, ?_⟩
 refine ⟨.non, _, I.lset (its' := its ++ [u]) hH e (by simp) (r.append (.cons ru .nil)) ?_, rfl, q⟩
 rw [List.length_append, List.length_singleton]
 (first | lia | omega)
noncomputable def rCat : R2 := fun x y H Q => ∃ l b xs zs, x = .ref l /\ y = .ref b /\ H l = some (.lst xs) /\ H b = some (.lst zs) /\ xs.length + zs.length <= sizeLine /\ ∀ p, H p = none -> Q (.ref p) (upd H p (.lst (xs ++ zs)))
theorem op_cat : OpR X (binaryOp .Add) rCat := by
 intro pins s σ H x y v u Q I rx ry h
 obtain ⟨l, b, xs, zs, rfl, rfl, hH, hB, hz, q⟩ := h
 cases rx
 cases ry
 obtain ⟨z, its, n, r, hl, e⟩ := I.lstM hH
 obtain ⟨z2, its2, n2, r2, hl2, e2⟩ := I.lstM hB
 refine PySem.P.add_list e e2 ?_ (by rw [List.size_toArray, List.size_toArray]; (first | lia | omega))
 have ea : its.toArray ++ its2.toArray = (its ++ its2).toArray := by simp
 rw [ea]
 exact ⟨.ref _, _, I.lnew (t' := s.toks) (r.append r2) (by rw [List.length_append]; (first | lia | omega)), rfl, q _ I.fresh⟩
end
section
variable {prog : Program} {w : World} {A : Around} {E : Value -> Shared -> Prop} {s : Shared}
end
section
variable {X : Cx}
end
end L2
namespace Att
open PySem PySem.W PySem.Calls PyProof.Rows
theorem ints_of_wellAll {P : Params} {h : Heap} : ∀ (ns : List Int) (vs : List Value), WellAll P h vs (ns.map WData.int) -> IntsAre vs ns := by
 intro ns
 induction ns with
 | nil =>
  intro vs w
  rw [List.map_nil] at w
  cases w
  exact .nil
 | cons n ns ih =>
  intro vs w
  rw [List.map_cons] at w
  cases w with
  | cons a b =>
   cases a
   exact .cons _ _ (ih _ b)
theorem script_of {l : OpenLaw} {n : Nat} (hn : l.most = some n) {P : Params} {h : Heap} {args : List WData} {vals : List Value}
  (hpre : l.row.toRowW.claim.pre args = true) (hwl : WellAll P h vals args) :
  ∃ a vs ns, vals = [Value.ref a] /\ args = [WData.list (ns.map WData.int)] /\ h.get? a = some { cls := .type "list", data := .seq vs.toArray } /\ IntsAre vs ns /\ ns.length <= n := by
 have hsh : WShape.hasAll [] args [.list .int] = true := (pre_splitW hpre).1
 have hc : l.pre.holds [] { args := args } = true := (pre_splitW hpre).2
 obtain ⟨d, r, rfl, h1, h2⟩ := hasAllW_cons hsh
 obtain rfl := hasAllW_nil h2
 obtain ⟨xs, rfl, h3⟩ := hasW_list h1
 obtain ⟨ns, rfl⟩ := items_int h3
 have hlen : ns.length <= n := by
  unfold OpenLaw.pre at hc
  have h4 : (WTm.not (.lt (.lit (.int (n : Int))) (.len (.arg 0)))).holds [] { args := [.list (ns.map .int)] } = true := by
   have h4 := (holds_andW hc).1
   rw [hn] at h4
   exact h4
  have h5 := condW_of h4 (w_not (w_lt w_lit (w_len_list (w_arg rfl))))
  rw [List.length_map] at h5
  refine Nat.le_of_not_lt fun q => ?_
  have q' : (n : Int) < ((ns.length : Nat) : Int) := by (first | lia | omega)
  first
   | (rw [decide_eq_true q'] at h5; exact absurd h5 (by decide))
   | (simp at h5; (first | lia | omega))
 cases hwl with
 | cons w1 w2 =>
  cases w2
  cases w1 with
  | list ho hall => exact ⟨_, _, ns, rfl, rfl, ho, ints_of_wellAll ns _ hall, hlen⟩
theorem post_true (l : OpenLaw) (args : List WData) : l.row.toRowW.claim.post args (.bool true) args = true :=
 postW_of (r := l.row.toRowW) (X := (true == true))
  (show WShape.has [] (.bool true) .bool = true by first | rfl | decide | simp [WShape.has, WShape.arms, WShape.armsAll])
  (show (WTm.eq .res (.lit (.bool true))).value [] { args := args, res := some (.bool true), after := args } = some (.bool (true == true)) from w_eq_bool (w_res rfl) w_lit) rfl
theorem attach_call {l : OpenLaw} {n : Nat} {q : Program} {loose : List Str} {XP : (Str -> Option Value) -> Heap -> Prop} {YP : World -> Heap -> Prop} {d : DefRec}
  (hn : l.most = some n) (hdf : d.params.defaults = [])
  (call : ∀ (w : World) (s₀ s₁ : Shared) (mg mb : Str -> Option Value) (fa : Addr) (o : Obj) (pm cd doc : Value) (a : Addr) (vs : List Value) (ns : List Int),
   Ground q loose [] XP w s₀ mg mb s₁.heap -> YP w s₁.heap ->
   s₁.heap.get? fa = some o -> o.data = .func (docDef d.name d.params d.body d.scope pm cd doc) -> s₁.heap.CodeRec cd d.name -> mg d.name = some (.ref fa) ->
   s₁.heap.get? a = some { cls := .type "list", data := .seq vs.toArray } -> IntsAre vs ns -> ns.length <= n -> s₁.gens = #[] ->
   codeAny (model l.prog w) callerA (.call (.ref fa) ⟨[.ref a], []⟩) (fun r s' => r = .ok (.ret (.bool true)) /\ OldK s₁.heap s'.heap /\ s'.os = s₁.os /\ AllBare s'.gens) s₁) :
  WalkO q loose XP YP l.row.toRowW d [] (fun f vs => PySem.call f vs) := by
 intro w s₀ s₁ mg mb G Y fa o pm cd doc dV kV ho hd hcd hD hmg hg args vals as hpre hlay hrd hwl hlo
 obtain rfl : dV = .none := Dflts.none hD hdf
 obtain rfl : kV = .none := Dflts.noKw hD
 obtain ⟨a, vs, ns, rfl, rfl, hobj, hints, hlen⟩ := script_of hn hpre hwl
 refine enter_call (codeAny_mono (call w s₀ s₁ mg mb fa o pm cd doc a vs ns G Y ho (fd_plain hd) hcd hmg hobj hints hlen hg) fun r s' hq => ?_)
 obtain ⟨rfl, h2, h3, h4⟩ := hq
 exact ⟨.inl ⟨.bool true, .bool true, [], rfl, fun _ => rfl, .bool true, post_true l _, fun _ => ⟨List.Pairwise.nil, fun _ hm => (nomatch hm)⟩⟩, h2, h3, h4⟩
section
variable {prog : Program} {w : World} {A : Around} {E : Value -> Shared -> Prop} {s : Shared} {K : Frag}
end
end Att
namespace L2
open PySem PySem.Spec PyProof.Rows
theorem vals_ints : ∀ {vs : List Value} {ns : List Int}, IntsAre vs ns -> Vals (ns.map V.int) vs
 | _, _, .nil => .nil
 | _, _, .cons n t h => .cons ⟨t, rfl⟩ (vals_ints h)
noncomputable def Only (H : Hp) : Prop := ∀ b, H b = none ∨ ∃ o xs, H b = some (.frz o (.lst xs))
theorem law_call {P : Program} {w : World} {K : PySem.W.Frag} {mg mb : Str -> Option Value} {CX : CXT} {k : Nat} {fa a : Addr} {fd : FuncData} {x : Str} {sp : Sp} {s₁ : Shared} {vs : List Value} {ns : List Int}
  (KX : K.In s₁.heap) (hns : s₁.heap.Ns mainGlobals mg) (hb : s₁.heap.Ns builtinsNs mb) (hbb : ∀ x : Str, x ≠ "__name__" -> mb x = bootBuiltins x) (hlim : s₁.heap.NoLimit) (hg : s₁.gens = #[])
  (ha : s₁.heap.get? a = some { cls := .type "list", data := .seq vs.toArray }) (hi : IntsAre vs ns) (hl : ns.length <= sizeLine) (hr : Room k callerA)
  (F : ∀ base : Heap, K.In base -> base.Ns mainGlobals mg -> FnOk P w K mg base CX k fa fd [x] sp) (hbind : ∀ (s : Shared) (u : Value), BindsTo s fd ⟨[u], []⟩ [(x, u)])
  (hsp : ∀ H : Hp, Only H -> SqL K H a (ns.map V.int) -> sp [.ref a] H (fun v _ => v = .bl true) fun _ _ _ => False)
  (hCX : ∀ H e s', CX [] H s₁ (fun _ _ _ => False) e s' -> False) :
  codeAny (model P w) callerA (.call (.ref fa) ⟨[.ref a], []⟩) (fun r s' => r = .ok (.ret (.bool true)) /\ OldK s₁.heap s'.heap /\ s'.os = s₁.os /\ AllBare s'.gens) s₁ := by
 have rv := vals_ints hi
 have lenV := hi.length
 have core : ∀ H : Hp, Only H -> SqL K H a (ns.map V.int) -> HOk P w H s₁.heap -> (∀ b, H b ≠ none -> b = a) -> (H a ≠ none -> K.lookup a = none) ->
   codeAny (model P w) callerA (.call (.ref fa) ⟨[.ref a], []⟩) (fun r s' => r = .ok (.ret (.bool true)) /\ OldK s₁.heap s'.heap /\ s'.os = s₁.os /\ AllBare s'.gens) s₁ := by
  intro H hO hS hok hA hK
  have base_of : ∀ {b : Addr} {o : Obj}, s₁.heap.get? b = some o -> H b = none -> (hidT s₁.heap H).get? b = some o := fun e n => hidT_get e n
  have noA : ∀ {b : Addr} {o : Obj} {es : Array DictEntry} {ep : Nat}, s₁.heap.get? b = some o -> o.data = .dict es ep -> H b = none := fun {b o es ep} e d => by
   cases q : H b with
   | none => rfl
   | some u =>
    have e' : b = a := hA b (by rw [q]; simp)
    subst e'
    rw [ha] at e; cases e
    have d' : Data.seq vs.toArray _ = Data.dict es ep := d
    cases d'
  have nsK : ∀ {b : Addr} {m : Str -> Option Value}, s₁.heap.Ns b m -> (hidT s₁.heap H).Ns b m := fun {b m} ⟨o, es, ep, e, d, r⟩ => ⟨o, es, ep, base_of e (noA e d), d, r⟩
  have hKb : K.In (hidT s₁.heap H) := fun b o e => base_of (KX b o e) (by
   cases q : H b with
   | none => rfl
   | some u =>
    have e' : b = a := hA b (by rw [q]; simp)
    subst e'
    rw [hK (by rw [q]; simp)] at e; cases e)
  have hM : Mod K mg (hidT s₁.heap H) := ⟨hKb, nsK hns, ⟨mb, nsK hb, hbb⟩, let ⟨mc, h1, h2⟩ := hlim; ⟨mc, nsK h1, h2⟩⟩
  have e0 : Env0 P w K mg (hidT s₁.heap H) callerA [] s₁ H := ⟨rfl, hM, fun b o e => of_hidT e, Nat.le_of_eq (hidT_size _ _), trivial, fun b hb => absurd (show b ∈ ([] : List Addr) from hb) (by simp), hok, .of_eq hg⟩
  refine codeAny_mono ((F _ hKb (nsK hns)).run callerA [] s₁ H ⟨[.ref a], []⟩ [.ref a] [.ref a] _ _ hr e0 (hbind s₁ (.ref a)) (.cons rfl .nil) (hsp H hO hS)) fun r s' h => ?_
  cases r with
  | error e => exact (hCX H e s' h).elim
  | ok fl =>
   cases fl with
   | next => exact False.elim h
   | brk => exact False.elim h
   | cont => exact False.elim h
   | ret u =>
    obtain ⟨v, H', os, bare, un, hok', r', q⟩ := h
    have q' : v = .bl true := q
    subst q'
    obtain rfl : u = Value.bool true := r'
    refine ⟨rfl, OldK.of_keep fun b o e => ?_, os, bare⟩
    cases q : H b with
    | none => exact un.keep b o e q (by intro z; exact absurd (show b ∈ ([] : List Addr) from z) (by simp)) (by simp)
    | some u =>
     rcases hO b with z | ⟨ob, xs, z⟩
     ·rw [q] at z; cases z
     ·have z2 := un.frzs b ob _ z
      obtain ⟨e1, _⟩ := hok b _ z
      obtain ⟨e2, _⟩ := hok' b _ z2
      rw [e] at e1; cases e1
      exact e2
 cases hk : K.lookup a with
 | some o =>
  have e := KX a o hk
  rw [ha] at e
  cases e
  refine core (fun _ => none) (fun _ => .inl rfl) (.inr ⟨_, vs.toArray, _, hk, rfl, rfl, rfl, by rw [List.size_toArray, lenV]; exact hl, by simpa using rv⟩) (fun b u z => by have z' : (none : Option HO) = some u := z; cases z') (fun b z => absurd rfl z) fun z => absurd rfl z
 | none =>
  refine core (fun b => if b = a then some (.frz { cls := .type "list", data := .seq vs.toArray } (.lst (ns.map V.int))) else none) (fun b => ?_) (.inl (.inr ⟨{ cls := .type "list", data := .seq vs.toArray }, if_pos rfl⟩)) (fun b u z => ?_) (fun b z => ?_) fun _ => hk
  ·by_cases hb : b = a
   ·exact .inr ⟨_, _, if_pos hb⟩
   ·exact .inl (if_neg hb)
  ·by_cases hb : b = a
   ·have z' := (if_pos hb).symm.trans z
    cases z'
    subst hb
    exact ⟨ha, by rw [List.length_map]; exact hl, vs, _, rv, ha⟩
   ·have z' := (if_neg hb).symm.trans z
    cases z'
  ·by_cases hb : b = a
   ·exact hb
   ·exact absurd (if_neg hb) z
end L2
namespace L2
open PySem PySem.Spec PyProof.Rows
theorem walk_of {l : PySem.W.OpenLaw} {n k : Nat} {q : Program} {loose : List Str} {XP : (Str -> Option Value) -> Heap -> Prop} {YP : World -> Heap -> Prop} {d : DefRec} {K : Params -> PySem.W.Frag} {CX : World -> CXT} {sp : World -> Sp} {x : Str}
  (hn : l.most = some n) (hn2 : n <= sizeLine) (hdf : d.params.defaults = []) (hr : Room k callerA)
  (hY : ∀ (w : World) (h : Heap), YP w h -> (K w.params).In h)
  (F : ∀ (w : World) (mg : Str -> Option Value) (fa : Addr) (h : Heap), (K w.params).In h -> h.Ns mainGlobals mg -> mg d.name = some (.ref fa) ->
   ∃ fd : FuncData, (∀ (s : Shared) (u : Value), BindsTo s fd ⟨[u], []⟩ [(x, u)]) /\
    ∀ base : Heap, (K w.params).In base -> base.Ns mainGlobals mg -> FnOk l.prog w (K w.params) mg base (CX w) k fa fd [x] (sp w))
  (hsp : ∀ (w : World) (H : Hp) (a : Addr) (ns : List Int), ns.length <= n -> Only H -> SqL (K w.params) H a (ns.map V.int) -> sp w [.ref a] H (fun v _ => v = .bl true) fun _ _ _ => False)
  (hCX : ∀ (w : World) (H : Hp) (s : Shared) (e : Value) (s' : Shared), CX w [] H s (fun _ _ _ => False) e s' -> False) :
  PySem.W.WalkO q loose XP YP l.row.toRowW d [] (fun f vs => PySem.call f vs) := by
 refine Att.attach_call hn hdf fun w s₀ s₁ mg mb fa o pm cd doc a vs ns G Y ho hd hcd hmg hobj hints hlen hg => ?_
 have KX := hY w _ Y
 obtain ⟨fd, hb, hF⟩ := F w mg fa _ KX G.T.g hmg
 exact law_call KX G.T.g G.T.b G.T.builtins G.T.nolimit hg hobj hints (Nat.le_trans hlen hn2) hr hF hb (fun H hO hS => hsp w H a ns hlen hO hS) fun H e s' => hCX w H s₁ e s'
end L2
namespace L2
open PySem PySem.Spec PyProof.Rows
noncomputable def defArgs (s : Stmt) : Arguments := match s with
 | .FunctionDef _ a _ _ _ _ _ _ _ _ => a
 | _ => { posonlyargs := [], args := [], vararg := none, kwonlyargs := [], kw_defaults := [], kwarg := none, defaults := [] }
noncomputable def defBody (s : Stmt) : List Stmt := match s with
 | .FunctionDef _ _ b _ _ _ _ _ _ _ => b
 | _ => []
noncomputable def defScope (s : Stmt) : Scope := match s with
 | .FunctionDef _ _ _ _ _ _ sc _ _ _ => sc
 | _ => { kind := .function, names := [], isGenerator := false, isCoroutine := false }
noncomputable abbrev CX0 : CXT := fun _ _ _ _ _ _ => False
noncomputable abbrev E0 : XK := fun _ _ _ => False
theorem pass0 {X : Cx} : Passes CX0 X E0 := fun _ _ _ _ _ _ _ h => h.elim
structure Fun (K : PySem.W.Frag) (x qual : Str) (st : Stmt) (f : Addr) (fd : FuncData) : Prop where
 ex : ∃ (oc : Value) (od : Option Addr) (kV doc pm : Value) (an : Option Addr) (cdv ct : Value) (osl : Array (Option Value)),
  fd = PySem.W.fnOf x qual (defArgs st) (defBody st) (defScope st) .none kV doc pm an cdv ct /\ K.lookup f = some ⟨oc, od, .func fd, osl⟩ /\ PySem.W.codeIn K cdv qual = true
 kp : PySem.W.keepIn K (.ref f) = true
section
variable {P : Program} {w : World} {K : PySem.W.Frag} {mg : Str -> Option Value} {base : Heap}
theorem Fun.ok {x qual : Str} {st : Stmt} {f : Addr} {fd : FuncData} {N ps : List Str} {k : Nat} {sp : Sp} (F : Fun K x qual st f fd) (S : FnScope N ps (defScope st)) (len : ∀ vs H Q E, sp vs H Q E -> vs.length = ps.length)
  (hbody : ∀ (cdv : Value) (A : Around) (outer : List Env) (s : Shared) (H : Hp) (vs : List V) (Q : VK) (E : XK), Room k (A.deeper (envOfC qual (defScope st) s.heap.objs.size f cdv)) -> sp vs H Q E ->
   ∃ t, PSs (cxOf CX0 P w K mg base N qual (defScope st) f cdv A outer s H E).nox (defBody st) t /\ t { nx := fun _ H' => Q .non H', rt := Q } (start N vs) H) : FnOk P w K mg base CX0 (k + 1) f fd ps sp := by
 obtain ⟨oc, od, kV, doc, pm, an, cdv, ct, osl, rfl, lk, hcd⟩ := F.ex
 refine fn_of lk hcd S len fun A outer s H vs Q E hr hsp => ?_
 obtain ⟨t, h, q⟩ := hbody cdv A outer s H vs Q E hr hsp
 exact ⟨t, h.nox, q⟩
theorem Fun.binds {x qual : Str} {st : Stmt} {f : Addr} {fd : FuncData} {ps : List Str} (F : Fun K x qual st f fd)
  (h : ∀ (kV doc pm : Value) (an : Option Addr) (cdv ct : Value) (us : List Value), us.length = ps.length -> bindArgs (PySem.W.fnOf x qual (defArgs st) (defBody st) (defScope st) .none kV doc pm an cdv ct) ⟨us, []⟩ = pure (ps.zip us)) : Binds K fd ps [] := by
 obtain ⟨oc, od, kV, doc, pm, an, cdv, ct, osl, rfl, lk, hcd⟩ := F.ex
 exact .all (h kV doc pm an cdv ct)
theorem fun_mk {x qual : Str} {st : Stmt} {f : Addr} {oc : Value} {od an : Option Addr} {osl : Array (Option Value)} {kV doc pm cdv ct : Value} (l : K.lookup f = some ⟨oc, od, .func (PySem.W.fnOf x qual (defArgs st) (defBody st) (defScope st) .none kV doc pm an cdv ct), osl⟩)
  (c : PySem.W.codeIn K cdv qual = true) (k : PySem.W.keepIn K (.ref f) = true) : Fun K x qual st f (PySem.W.fnOf x qual (defArgs st) (defBody st) (defScope st) .none kV doc pm an cdv ct) := ⟨⟨oc, od, kV, doc, pm, an, cdv, ct, osl, rfl, l, c⟩, k⟩
end
section
variable {X : Cx}
theorem pv (i : Nat) {x : Str} {pos : Pos} (hN : X.N[i]? = some x := by rfl) (hv : Vis X.env.scope x := by first | exact Or.inl rfl | exact Or.inr (Or.inl rfl) | exact Or.inr (Or.inr rfl)) (hd : (x == ("__debug__" : Str)) = false := by decide)
  (hcd : (x == ("__classdict__" : Str)) = false := by decide) : PE X (.Name x pos) (tVar i) := pe_var hN hv hd hcd
end
theorem iteF {A B : Prop} (h : B) : if false = true then A else B := by
 rw [if_neg Bool.false_ne_true]
 exact h
theorem iteT {A B : Prop} (h : A) : if true = true then A else B := by
 rw [if_pos rfl]
 exact h
theorem ite2 {c A B : Prop} [Decidable c] (h1 : c -> A) (h2 : ¬ c -> B) : if c then A else B := by
 by_cases h : c
 ·rw [if_pos h]
  exact h1 h
 ·rw [if_neg h]
  exact h2 h
noncomputable def Same (H H' : Hp) : Prop := ∀ b o, H b = some o -> H' b = some o
theorem Same.refl (H : Hp) : Same H H := fun _ _ h => h
theorem Same.trans {H H1 H2 : Hp} (a : Same H H1) (b : Same H1 H2) : Same H H2 := fun c o h => b c o (a c o h)
theorem Same.free {H H' : Hp} (e : Same H H') {l : Addr} (h : H' l = Option.none) : H l = Option.none := by
 cases q : H l with
 | none => rfl
 | some o =>
  rw [e l o q] at h
  cases h
theorem Same.seq {K : PySem.W.Frag} {H H' : Hp} {a : Addr} {xs : List V} (e : Same H H') (h : SqL K H a xs) : SqL K H' a xs := by
 rcases h with (h | ⟨o, h⟩) | h
 ·exact .inl (.inl (e _ _ h))
 ·exact .inl (.inr ⟨o, e _ _ h⟩)
 ·exact .inr h
end L2
namespace L2
open PySem PySem.Spec PyProof.Rows
theorem closure_ok {env : Env} {scope : Scope} (h : ∀ y ∈ scope.names, y.2 = .free -> ∃ c, env.cells.lookup y.1 = some c) :
  ∃ cl, closureFor scope env = pure cl /\ (∀ x c, cl.lookup x = some c -> env.cells.lookup x = some c) /\ ∀ y ∈ scope.names, y.2 = .free -> cl.lookup y.1 = env.cells.lookup y.1 := by
 have go : ∀ (names : List (Str × NameKind)) (acc : List (Str × Addr)), (∀ y ∈ names, y.2 = .free -> ∃ c, env.cells.lookup y.1 = some c) ->
   (∀ x c, acc.lookup x = some c -> env.cells.lookup x = some c) ->
   ∃ cl, (forIn names acc (fun (y : Str × NameKind) (cs : List (Str × Addr)) => if (y.2 == .free) = true then (do let c <- cellOf env y.1; pure (ForInStep.yield ((y.1, c) :: cs))) else pure (ForInStep.yield cs)) : Sem (List (Str × Addr))) = pure cl /\
    (∀ x c, cl.lookup x = some c -> env.cells.lookup x = some c) /\ (∀ x c, acc.lookup x = some c -> cl.lookup x = some c) /\ ∀ y ∈ names, y.2 = .free -> cl.lookup y.1 = env.cells.lookup y.1 := by
  intro names
  induction names with
  | nil => intro acc _ ha; exact ⟨acc, rfl, ha, fun _ _ h => h, fun y hy => nomatch hy⟩
  | cons y r ih =>
   intro acc hn ha
   obtain ⟨n, k⟩ := y
   by_cases hk : k = .free
   ·subst hk
    obtain ⟨c, hc⟩ := hn (n, .free) List.mem_cons_self rfl
    have ha' : ∀ x d, (((n, c) :: acc : List (Str × Addr))).lookup x = some d -> env.cells.lookup x = some d := fun x d e => by
     rw [List.lookup_cons] at e
     cases hx : x == n with
     | true =>
      rw [hx] at e
      have e1 : x = n := eq_of_beq hx
      subst e1
      cases e
      exact hc
     | false => rw [hx] at e; exact ha x d e
    obtain ⟨cl, e, h1, h2, h3⟩ := ih ((n, c) :: acc) (fun y hy => hn y (List.mem_cons_of_mem _ hy)) ha'
    refine ⟨cl, ?_, h1, fun x d e => ?_, fun y hy hf => ?_⟩
    ·rw [List.forIn_cons]
     have ec : cellOf env n = pure c := by unfold cellOf; rw [hc]
     simp only [beq_self_eq_true, if_true]
     rw [ec]
     exact e
    ·have e' := ha x d e
     by_cases hx : x = n
     ·subst hx
      rw [hc] at e'; cases e'
      exact h2 x c (by rw [List.lookup_cons]; simp)
     ·exact h2 x d (by rw [List.lookup_cons, beq_eq_false_iff_ne.mpr hx]; exact e)
    ·rcases List.mem_cons.mp hy with rfl | hy
     ·show cl.lookup n = env.cells.lookup n
      rw [hc]
      exact h2 n c (by rw [List.lookup_cons]; simp)
     ·exact h3 y hy hf
   ·obtain ⟨cl, e, h1, h2, h3⟩ := ih acc (fun y hy => hn y (List.mem_cons_of_mem _ hy)) ha
    refine ⟨cl, ?_, h1, h2, fun y hy hf => ?_⟩
    ·rw [List.forIn_cons]
     have : (k == NameKind.free) = false := by simpa using hk
     simp only [this, Bool.false_eq_true, if_false]
     exact e
    ·rcases List.mem_cons.mp hy with rfl | hy
     ·exact absurd hf hk
     ·exact h3 y hy hf
 obtain ⟨cl, e, h1, _, h3⟩ := go scope.names [] h (fun x c e => by simp at e)
 refine ⟨cl, ?_, h1, h3⟩
 unfold closureFor
 exact (congrArg (fun m => m >>= fun r => pure r) e).trans rfl
noncomputable def compSt (n : Nat) (ix : List Nat) (σ : St) : St := List.replicate n none ++ ix.map fun i => σ.getD i none
noncomputable def Cx.comp (X : Cx) (s₂ : Shared) (H₂ : Hp) (N' : List Str) (scope : Scope) (cl : List (Str × Addr)) (C : Addr) (fp : List Addr) : Cx :=
 { X with N := N', s₀ := s₂, H₀ := H₂, env := compEnvC scope cl C X.env, outer := X.stack, stack := X.stack, ex := fp, fn := fun _ => false, pn := [], xe := fun _ _ => False }
structure CompScope (X : Cx) (scope : Scope) (N' : List Str) (n : Nat) (ix : List Nat) : Prop where
 kind : scope.kind = .function
 nocell : ∀ y ∈ scope.names, y.2 ≠ .cell
 names : ∀ y ∈ scope.names, y.2 = .local -> scope.names.lookup y.1 = some .local
 free : ∀ y ∈ scope.names, y.2 = .free -> X.env.scope.names.lookup y.1 = some .cell ∨ X.env.scope.names.lookup y.1 = some .free
 nodup : ∀ y : Str, (y, NameKind.free) ∈ scope.names -> scope.names.lookup y = some .local -> False
 len : N'.length = n + ix.length
 at_ : ∀ (j i : Nat), ix[j]? = some i -> ∃ x, N'[n + j]? = some x /\ X.N[i]? = some x /\ (x, NameKind.free) ∈ scope.names
end L2
namespace L2
open PySem PySem.Spec PyProof.Rows
theorem relabel_lookup {env : Env} {scope : Scope} (x : Str) : (relabel scope env).names.lookup x = (scope.names.lookup x).map fun k => if (k == .free && env.scope.kind == .function && env.kindOf x == some .cell) then .cell else k := by
 show (scope.names.map fun (n, k) => if (k == NameKind.free && env.scope.kind == .function && env.kindOf n == some .cell) then (n, NameKind.cell) else (n, k)).lookup x = _
 generalize scope.names = l
 induction l with
 | nil => rfl
 | cons y r ih =>
  obtain ⟨n, k⟩ := y
  rw [List.map_cons, List.lookup_cons]
  cases hx : x == n with
  | true =>
   have e : x = n := eq_of_beq hx
   subst e
   by_cases hc : (k == NameKind.free && env.scope.kind == .function && env.kindOf x == some .cell) = true
   ·rw [if_pos hc, List.lookup_cons]
    simp only [beq_self_eq_true]
    show some NameKind.cell = some (ite _ _ _)
    rw [if_pos hc]
   ·rw [if_neg hc, List.lookup_cons]
    simp only [beq_self_eq_true]
    show some k = some (ite _ _ _)
    rw [if_neg hc]
  | false =>
   by_cases hc : (k == NameKind.free && env.scope.kind == .function && env.kindOf n == some .cell) = true
   ·rw [if_pos hc, List.lookup_cons, hx]; exact ih
   ·rw [if_neg hc, List.lookup_cons, hx]; exact ih
section
variable {X : Cx} {pins : List (Addr × Obj)} {σ : St} {H : Hp} {s : Shared}
theorem relabel_free {env : Env} {scope : Scope} {x : Str} (h : scope.names.lookup x = some .free) : (relabel scope env).names.lookup x = some .cell ∨ (relabel scope env).names.lookup x = some .free := by
 rw [relabel_lookup, h]
 by_cases hc : (NameKind.free == NameKind.free && env.scope.kind == .function && env.kindOf x == some .cell) = true
 ·exact .inl (by show some (ite _ _ _) = _; rw [if_pos hc])
 ·exact .inr (by show some (ite _ _ _) = _; rw [if_neg hc])
theorem of_relabel {env : Env} {scope : Scope} {x : Str} (hn : ∀ y ∈ scope.names, y.2 ≠ .cell) (h : (relabel scope env).names.lookup x = some .cell ∨ (relabel scope env).names.lookup x = some .free) : scope.names.lookup x = some .free := by
 rw [relabel_lookup] at h
 cases e : scope.names.lookup x with
 | none => rw [e] at h; rcases h with h | h <;> cases h
 | some k =>
  rw [e] at h
  have hk := hn _ (PySem.mem_of_lookup e)
  by_cases hf : k = .free
  ·rw [hf]
  ·have hb : (k == NameKind.free) = false := by simpa using hf
   have hr : Option.map (fun k => if (k == NameKind.free && env.scope.kind == .function && env.kindOf x == some .cell) = true then NameKind.cell else k) (some k) = some k := by
    show some (ite _ _ _) = _
    rw [if_neg (by rw [hb]; simp)]
   rw [hr] at h
   rcases h with h | h
   ·cases h; exact absurd rfl hk
   ·exact h
theorem inv_comp {scope : Scope} {N' : List Str} {n : Nat} {ix : List Nat} {cl : List (Str × Addr)} {fp : List Addr} {h₁ : Heap} {acc C : Addr} {na : Nat} {m : Str -> Option Value} {tk : Nat}
  (I : Inv X pins σ H s) (S : CompScope X scope N' n ix) (hcl1 : ∀ x c, cl.lookup x = some c -> X.env.cells.lookup x = some c) (hcl2 : ∀ y ∈ scope.names, y.2 = .free -> cl.lookup y.1 = X.env.cells.lookup y.1)
  (hf : ∀ b ∈ fp, FpOk X pins H b) (hlt : ∀ b ∈ fp, b < s.heap.objs.size) (ha : s.heap.objs.size <= acc) (hC : s.heap.objs.size <= C) (hne : C ≠ acc)
  (k : ∀ b u, s.heap.get? b = some u -> h₁.get? b = some u) (hacc : h₁.get? acc = some { cls := .type "list", data := .seq ([] : List Value).toArray na }) (hns : h₁.Ns C m) :
  Inv (X.comp s H N' scope cl C fp) [] (compSt n ix σ) (upd H acc (.lst [])) { s with heap := h₁, toks := tk } := by
 have fr : ∀ b : Addr, s.heap.objs.size <= b -> H b = none := fun b hb => I.hok.fresh hb
 have cellLt : ∀ x c, cl.lookup x = some c -> c < s.heap.objs.size := fun x c e => by
  obtain ⟨v, q⟩ := I.cell x c (hcl1 x c e)
  exact q.lt
 refine ⟨⟨I.ok.mod, S.kind, I.ok.glob, I.ok.blt, hC, fun x y c e1 e2 => I.ok.inj x y c (hcl1 x c e1) (hcl1 y c e2), fun x hx => ?_, fun x c e _ => absurd e Bool.false_ne_true, I.ok.hd, I.ok.frames, .inl rfl, fun b hb => ⟨Nat.ne_of_lt (Nat.lt_of_lt_of_le (hlt b hb) hC), fun x c e => (hf b hb).2.2.2.2.1 x c (hcl1 x c e)⟩,
   I.bs, Nat.le_trans I.ok.bsz I.sz, fun b o e hb => ?_, fun b hb hs => ?_, I.stack, I.stkFree⟩,
  rfl, I.bare, Un.laid k ha (fr acc ha), ⟨m, hns, fun i x v e1 e2 e3 => ?_⟩, fun x c e => ?_, ?_, fun x c e => ?_, fun p hp => absurd (show p ∈ ([] : List (Addr × Obj)) from hp) (by simp), I.hok.laid k ha ⟨Nat.zero_le _, [], na, .nil, hacc⟩, ?_⟩
 ·have hx' : scope.names.lookup x = some .free := of_relabel (env := X.env) S.nocell hx
  have hm := PySem.mem_of_lookup hx'
  obtain ⟨c, e⟩ := I.ok.has x (S.free _ hm rfl)
  exact ⟨c, (hcl2 _ hm rfl).trans e⟩
 ·rcases (hf b hb).2.2.2.1 with z | z
  ·exact I.ok.noex b o e z
  ·exact absurd (Nat.lt_of_lt_of_le (Heap.lt_size e) (Nat.le_trans I.ok.bsz z)) (Nat.lt_irrefl _)
 ·rcases List.mem_cons.mp (I.stkSub b hs) with z | z
  ·exact (hf b hb).2.1 z
  ·exact (hf b hb).2.2.1 z
 ·-- a name of the frame, seen through its cell
  have hi : n <= i := by
   by_cases hi : n <= i
   ·exact hi
   ·unfold compSt at e2
    rw [List.getElem?_append_left (by simp; (first | lia | omega)), List.getElem?_replicate] at e2
    split at e2 <;> cases e2
  obtain ⟨j, rfl⟩ : ∃ j, i = n + j := ⟨i - n, by (first | lia | omega)⟩
  unfold compSt at e2
  rw [List.getElem?_append_right (by simp), List.length_replicate, Nat.add_sub_cancel_left, List.getElem?_map] at e2
  cases ej : ix[j]? with
  | none => rw [ej] at e2; cases e2
  | some q =>
   rw [ej] at e2
   have e2' : σ.getD q none = some v := Option.some.inj e2
   have e2'' : σ[q]? = some (some v) := by
    rw [List.getD_eq_getElem?_getD] at e2'
    cases eq : σ[q]? with
    | none => rw [eq] at e2'; cases e2'
    | some z => rw [eq] at e2'; exact congrArg some e2'
   obtain ⟨y, h1, h2, h3⟩ := S.at_ j q ej
   have ey : y = x := Option.some.inj (h1.symm.trans e1)
   subst ey
   have hk := S.free _ h3 rfl
   obtain ⟨mX, _, hl⟩ := I.loc
   obtain ⟨u, r, l⟩ := hl q y v h2 e2'' (.inr hk)
   refine ⟨u, r, .inr ?_⟩
   have hkc : X.env.kindOf y = some .cell ∨ X.env.kindOf y = some .free := hk
   have l' : ∃ c, X.env.cells.lookup y = some c /\ s.heap.IsCell c (some u) := by
    rcases l with ⟨z, _⟩ | ⟨_, c, ec, hc⟩
    ·rcases hkc with q | q <;> (rw [q] at z; cases z)
    ·exact ⟨c, ec, hc⟩
   obtain ⟨c, ec, o, ho, hd⟩ := l'
   have e3' : Vis (relabel scope X.env) y := e3
   refine ⟨?_, c, (hcl2 _ h3 rfl).trans ec, o, k _ _ ho, hd⟩
   have nl : scope.names.lookup y ≠ some .local := fun z => ?_
   ·cases el : scope.names.lookup y with
    | none =>
     have : (relabel scope X.env).names.lookup y = none := by rw [relabel_lookup, el]; rfl
     rcases e3' with z | z | z <;> (rw [this] at z; cases z)
    | some kk =>
     have hmem := PySem.mem_of_lookup el
     have ncell := S.nocell _ hmem
     have hr : (relabel scope X.env).names.lookup y = some (if (kk == NameKind.free && X.env.scope.kind == .function && X.env.kindOf y == some .cell) = true then .cell else kk) := by rw [relabel_lookup, el]; rfl
     by_cases hkf : kk = .free
     ·subst hkf
      exact relabel_free (env := X.env) el
     ·have hb : (kk == NameKind.free) = false := by simpa using hkf
      have hr' : (relabel scope X.env).names.lookup y = some kk := by rw [hr, hb]; rfl
      rcases e3' with z | z | z
      ·rw [hr'] at z; cases z; exact absurd el nl
      ·rw [hr'] at z; cases z; exact absurd rfl ncell
      ·rw [hr'] at z; cases z; exact absurd rfl hkf
   ·exact S.nodup _ h3 z
 ·obtain ⟨v, o, ho, hd⟩ := I.cell x c (hcl1 x c e)
  exact ⟨v, o, k _ _ ho, hd⟩
 ·show upd H acc (.lst []) C = none
  rw [upd_ne hne]; exact fr C hC
 ·show upd H acc (.lst []) c = none
  have := cellLt x c e
  rw [upd_ne (Nat.ne_of_lt (Nat.lt_of_lt_of_le this ha))]
  exact I.freeC x c (hcl1 x c e)
 ·show (compSt n ix σ).length = N'.length
  unfold compSt
  rw [List.length_append, List.length_replicate, List.length_map, S.len]
end
end L2
namespace L2
open PySem PySem.Spec PyProof.Rows
noncomputable def Wk (σ σ' : St) : Prop := σ.length = σ'.length /\ ∀ (i : Nat) v, σ[i]? = some (some v) -> σ'[i]? = some (some v)
noncomputable def PTs (Y : Cx) (ifs : List Expr) (t : TT) : Prop :=
 ∀ (pins : List (Addr × Obj)) (s : Shared) (σ : St) (H : Hp) (Q : Bool -> Hp -> Prop), Inv Y pins σ H s -> t σ H Q ->
  wpAny (model Y.prog Y.w) Y.A (forIn ifs true fun c r => if r = true then do let ok <- isTrue c Y.env (eval c Y.env); pure (ForInStep.yield ok) else pure (ForInStep.yield r)) (TP Y pins σ Q) Y.xe s
noncomputable def tNoTest : TT := fun _ H Q => Q true H
theorem pts_nil {Y : Cx} : PTs Y [] tNoTest := fun _ _ _ H _ I h => wpAny_tests_nil ⟨H, I, h⟩
theorem compLoop_gen {prog : Program} {w : World} {A : Around} {R : Result -> Shared -> Prop} {s : Shared} {elt target iter : Expr} {ifs : List Expr} {scope : Scope} {pos : Pos} {it acc : Value} {env : Env} (I : Nat -> Shared -> Prop)
  (turn : ∀ n s, I n s -> wpAny (model prog w) A (pyNext it) (fun r s₁ => match r with
   | none => R (.ok .next) s₁
   | some v => wpAny (model prog w) A (letOwnedTupleGo target it v) (fun _ s₂ => wpAny (model prog w) A (assign target env v) (fun _ s₃ =>
     wpAny (model prog w) A (forIn ifs true fun c r => if r = true then do let ok <- isTrue c env (eval c env); pure (ForInStep.yield ok) else pure (ForInStep.yield r)) (fun ok s₄ =>
      if ok = true then wpAny (model prog w) A (eval elt env) (fun x s₅ =>
       wpAny (model prog w) A (call (.builtin "list.append") [acc, x]) (fun _ s₆ => ∃ m, m < n /\ I m s₆) (fun _ _ => False) s₅) (fun _ _ => False) s₄
      else ∃ m, m < n /\ I m s₄) (fun _ _ => False) s₃) (fun _ _ => False) s₂) (fun _ _ => False) s₁) (fun _ _ => False) s)
  (n : Nat) (h : I n s) :
  codeAny (model prog w) A (.compLoop (.ListComp elt [⟨target, iter, ifs, 0⟩] scope pos) 0 it acc env) R s := by
 refine codeAny_loop rfl I (fun n s hI => ?_) n h
 show wpAny _ A ((compTurn (.ListComp elt [⟨target, iter, ifs, 0⟩] scope pos) 0 it acc env).onRaise (fun x => do noteFrame x env; theTreesLotGoes x)) _ _ s
 refine wpAny_noted (wpAny_noRaise ?_)
 rw [compTurn_list]
 refine wpAny_bind (wpAny_standAt (wpAny_bind (thn (turn n s hI) fun r s₁ h₁ => ?_)))
 cases r with
 | none => exact wpAny_pure h₁
 | some v =>
  refine wpAny_bind (thn h₁ fun _ s₂ h₂ => wpAny_bind (thn h₂ fun _ s₃ h₃ => wpAny_bind (thn h₃ fun ok s₄ h₄ => ?_)))
  cases ok with
  | false => exact wpAny_pure ⟨rfl, h₄⟩
  | true => exact wpAny_bind (wpAny_bind (thn h₄ fun x s₅ h₅ => wpAny_bind (thn h₅ fun _ s₆ h₆ => wpAny_pure (wpAny_pure ⟨rfl, h₆⟩))))
noncomputable def LcW (J : It) (H1 : Hp) (g : TG) (tt : TT) (te : TE) (n : Nat) (ix : List Nat) (σ : St) (Q : VK) : Prop := ∀ acc, H1 acc = none ->
 ∃ W : Nat -> Nat -> Hp -> Prop, (∃ m, W 0 m (upd H1 acc (.lst []))) /\ ∀ i m H, W i m H ->
  (J.stop i H /\ Q (.ref acc) H) ∨ (J.go i H /\ ∀ x H', J.yld i H x H' -> g x (compSt n ix σ) H' fun σ2 H2 => Wk (compSt n ix σ) σ2 /\ tt σ2 H2 fun b H3 =>
   if b = true then te σ2 H3 fun v H4 => ∃ ys, H4 acc = some (.lst ys) /\ ys.length < sizeLine /\ ∃ m', m' < m /\ W (i + 1) m' (upd H4 acc (.lst (ys ++ [v])))
   else ∃ m', m' < m /\ W (i + 1) m' H3)
noncomputable def tLc (wi : TI) (g : TG) (tt : TT) (te : TE) (n : Nat) (ix : List Nat) : TE := fun σ H Q => wi σ H fun J H1 => LcW J H1 g tt te n ix σ Q
section
variable {X : Cx} {elt tg iter : Expr} {ifs : List Expr} {scope : Scope} {pos : Pos} {wi : TI} {g : TG} {tt : TT} {te : TE} {N' : List Str} {n : Nat} {ix : List Nat}
theorem lc_core {pins : List (Addr × Obj)} {σ : St} {H2 : Hp} {s2 : Shared} {cl : List (Str × Addr)} {it : Addr} {fp : List Addr} {tn : Nat -> Heap -> Prop} {J : It} {Q : VK} {R : Value -> Addr -> Result -> Shared -> Prop}
  (hc : X.calm = true) (S : CompScope X scope N' n ix)
  (hY : ∀ s₂ H₂ cl C fp, PG (X.comp s₂ H₂ N' scope cl C fp) tg g /\ PTs (X.comp s₂ H₂ N' scope cl C fp) ifs tt /\ PE (X.comp s₂ H₂ N' scope cl C fp) elt te)
  (I2 : Inv X pins σ H2 s2) (hcl1 : ∀ x c, cl.lookup x = some c -> X.env.cells.lookup x = some c) (hcl2 : ∀ y ∈ scope.names, y.2 = .free -> cl.lookup y.1 = X.env.cells.lookup y.1)
  (T : Turn X.prog X.w X.K tg J fp it tn) (st2 : tn 0 s2.heap) (f2 : ∀ b ∈ fp, FpOk X pins H2 b)
  (hW : LcW J H2 g tt te n ix σ Q)
  (hR : ∀ acc C s' H' m, s'.heap.Ns C m -> Inv X pins σ H' s' -> H' C = none -> C ≠ X.env.locals -> (C ∈ X.ex ∨ X.s₀.heap.objs.size <= C) -> (∀ x c, X.env.cells.lookup x = some c -> c ≠ C) -> (∀ p ∈ X.pn ++ pins, p.1 ≠ C) -> C ∉ X.fs -> Q (.ref acc) H' -> R (.ref acc) C (.ok .next) s') :
  wpAny (model X.prog X.w) X.A (newList []) (fun acc s₃ => wpAny (model X.prog X.w) X.A (newFunctionEnv scope X.env.globals cl [] X.env.qual none .none (some X.env)) (fun cenv s₄ =>
   codeAny (model X.prog X.w) X.A (.compStart (.ListComp elt [⟨tg, iter, ifs, 0⟩] scope pos) 0 (.ref it) acc { cenv with scope := relabel scope X.env }) (R acc cenv.locals) s₄) X.xe s₃) X.xe s2 := by
 refine wpAny_newObj_type (wpAny_newFunctionEnv S.nocell (by intro y hy; simp at hy) (fun h₁ hns₁ hsb₁ => ?_) S.kind)
 dsimp only at hns₁ hsb₁ ⊢
 generalize hH2 : s2.heap.push { cls := .type "list", dict := none, data := .seq ([] : List Value).toArray } = G at hns₁ hsb₁ ⊢
 have hC : G.objs.size = s2.heap.objs.size + 1 := by rw [<- hH2, Heap.size_push]
 have hlt : ∀ b ∈ fp, b < s2.heap.objs.size := fun b hb => by
  obtain ⟨o, e, _⟩ := T.obj _ _ st2 b hb
  exact Heap.lt_size e
 have old : ∀ b o, s2.heap.get? b = some o -> h₁.get? b = some o := fun b o e => hsb₁.extBut b o (by rw [hC]; exact Nat.ne_of_lt (Nat.lt_succ_of_lt (Heap.lt_size e))) (Heap.get?_push_of_some _ (hH2 ▸ Heap.get?_push_of_some _ e))
 have hacc : h₁.get? s2.heap.objs.size = some { cls := .type "list", dict := none, data := .seq ([] : List Value).toArray } := hsb₁.extBut _ _ (by rw [hC]; exact Nat.ne_of_lt (Nat.lt_succ_self _)) (Heap.get?_push_of_some _ (hH2 ▸ Heap.get?_push_size _ rfl))
 obtain ⟨W, ⟨m0, w0⟩, turn⟩ := hW s2.heap.objs.size (I2.hok.fresh (Nat.le_refl _))
 obtain ⟨hYg, hYt, hYe⟩ := hY s2 H2 cl G.objs.size fp
 have fpY : ∀ {H' : Hp}, (∀ b ∈ fp, H' b = none) -> ∀ b ∈ fp, FpOk (X.comp s2 H2 N' scope cl G.objs.size fp) [] H' b := fun {H'} hn b hb => by
  obtain ⟨_, q1, q2, q3, q4, q5⟩ := f2 b hb
  refine ⟨hn b hb, ?_, fun z => ?_, .inl hb, fun x c e => q4 x c (hcl1 x c e), fun p hp => absurd (show p ∈ ([] : List (Addr × Obj)) from hp) (by simp)⟩
  ·show b ≠ G.objs.size
   rw [hC]
   exact Nat.ne_of_lt (Nat.lt_succ_of_lt (hlt b hb))
  ·rcases List.mem_cons.mp (I2.stkSub b z) with y | y
   ·exact q1 y
   ·exact q2 y
 have loop : ∀ s₃ : Shared, s₃ = { s2 with heap := h₁, toks := s2.toks + ([] : List (Str × Value)).length } ->
   codeAny (model X.prog X.w) X.A (.compLoop (.ListComp elt [⟨tg, iter, ifs, 0⟩] scope pos) 0 (.ref it) (.ref s2.heap.objs.size) (compEnvC scope cl G.objs.size X.env)) (R (.ref s2.heap.objs.size) G.objs.size) s₃ := by
  rintro s₃ rfl
  have I4 := inv_comp (tk := s2.toks + ([] : List (Str × Value)).length) I2 S hcl1 hcl2 f2 hlt (Nat.le_refl _) (by rw [hC]; exact Nat.le_succ _) (by rw [hC]; exact Nat.ne_of_gt (Nat.lt_succ_self _)) old hacc hns₁
  refine compLoop_gen (fun n' s' => ∃ i H', Inv (X.comp s2 H2 N' scope cl G.objs.size fp) [] (compSt n ix σ) H' s' /\ tn i s'.heap /\ (∀ b ∈ fp, H' b = none) /\ W i n' H') ?_ m0
   ⟨0, _, I4, T.keep _ _ _ st2 fun b hb o e => old b o e, fun b hb => ?_, w0⟩
  ·rintro n' s3 ⟨i, H3, I3, st3, fr3, w3⟩
   rcases turn i n' H3 w3 with ⟨stop, q⟩ | ⟨go, step⟩
   ·refine thn (T.done (X.comp s2 H2 N' scope cl G.objs.size fp) rfl rfl rfl hc i [] s3 _ H3 _ I3 (fpY fr3) st3 stop) fun r s4 zq => ?_
    obtain ⟨hr, I5⟩ := zq
    subst hr
    obtain ⟨mC, hnC, _⟩ := I5.loc
    have IX : Inv X pins σ H3 s4 := I2.call' I5.os I5.base I5.hok I5.bare fun b hb => by
     obtain ⟨_, q1, q2, q3, q4, q5⟩ := f2 b hb
     exact ⟨q3, q1, q4, q5⟩
    refine hR _ _ s4 H3 mC hnC IX I5.free ?_ (.inr ?_) (fun x c e z => ?_) (fun p hp z => ?_) (I2.nofs (by rw [hC]; exact Nat.le_succ _)) q
    ·rw [hC]
     exact Nat.ne_of_gt (Nat.lt_succ_of_lt I2.lt)
    ·rw [hC]
     exact Nat.le_succ_of_le I2.sz
    ·obtain ⟨v, q⟩ := I2.cell x c e
     rw [hC] at z
     exact absurd z (Nat.ne_of_lt (Nat.lt_succ_of_lt q.lt))
    ·rw [hC] at z
     exact absurd z (Nat.ne_of_lt (Nat.lt_succ_of_lt (Heap.lt_size (I2.pin p hp).1)))
   ·refine thn (T.item (X.comp s2 H2 N' scope cl G.objs.size fp) rfl rfl rfl hc i [] s3 _ H3 _ I3 (fpY fr3) st3 go) fun r s4 zq => ?_
    obtain ⟨u, hr, h4⟩ := zq
    subst hr
    refine thn h4 fun _ s5 zq => ?_
    obtain ⟨x, H5, I5, r5, y5, st5, fr5⟩ := zq
    have I5' := I5.pinned (fpY fr5) (T.obj _ _ st5)
    refine thn (hYg _ s5 _ H5 x u _ I5' r5 (step x H5 y5)) fun _ s6 zq => ?_
    obtain ⟨σ6, H6, I6, wk, q6⟩ := zq
    have back : ∀ {H' : Hp} {s' : Shared}, Inv (X.comp s2 H2 N' scope cl G.objs.size fp) ([] ++ pinsAt fp s5.heap) σ6 H' s' ->
      Inv (X.comp s2 H2 N' scope cl G.objs.size fp) [] (compSt n ix σ) H' s' /\ tn (i + 1) s'.heap /\ ∀ b ∈ fp, H' b = none := fun {H' s'} I7 => by
     refine ⟨I7.unpinned.weak wk.1 wk.2, T.keep _ _ _ st5 fun b hb o e => (I7.pin (b, o) (List.mem_append_right _ (List.mem_append_right _ (mem_pinsAt hb e)))).1, fun b hb => ?_⟩
     obtain ⟨o, e, d⟩ := T.obj _ _ st5 b hb
     exact (I7.pin (b, o) (List.mem_append_right _ (List.mem_append_right _ (mem_pinsAt hb e)))).2.1
    refine thn (hYt _ s6 σ6 H6 _ I6 q6) fun ok s7 zq => ?_
    obtain ⟨H7, I7, q7⟩ := zq
    cases ok with
    | false =>
     rw [if_neg Bool.false_ne_true] at q7 ⊢
     obtain ⟨m', hm, w7⟩ := q7
     obtain ⟨b1, b2, b3⟩ := back I7
     exact ⟨m', hm, i + 1, H7, b1, b2, b3, w7⟩
    | true =>
     rw [if_pos rfl] at q7 ⊢
     refine thn (hYe _ s7 σ6 H7 _ I7 q7) fun xv s8 zq => ?_
     obtain ⟨v8, H8, I8, r8, ys, ha, hz, m', hm, w8⟩ := zq
     refine thn (mt_append _ s8 σ6 H8 (.ref s2.heap.objs.size) [v8] (.ref s2.heap.objs.size) [xv] (fun _ H' => H' = upd H8 s2.heap.objs.size (.lst (ys ++ [v8]))) I8 rfl (.cons r8 .nil) ⟨_, ys, v8, rfl, rfl, ha, hz, rfl⟩) fun _ s9 zq => ?_
     obtain ⟨_, H9, I9, _, e9⟩ := zq
     subst e9
     obtain ⟨b1, b2, b3⟩ := back I9
     exact ⟨m', hm, i + 1, _, b1, b2, b3, w8⟩
  ·rw [upd_ne (Nat.ne_of_lt (hlt b hb))]
   exact (f2 b hb).1
 exact codeAny_compStart_list (loop _ rfl) (T.self _ 0 _ _ _ (T.keep _ _ _ st2 fun b hb o e => old b o e) (loop _ rfl))
theorem pe_lc (hc : X.calm = true) (S : CompScope X scope N' n ix) (hi : PI X tg iter wi)
  (hY : ∀ s₂ H₂ cl C fp, PG (X.comp s₂ H₂ N' scope cl C fp) tg g /\ PTs (X.comp s₂ H₂ N' scope cl C fp) ifs tt /\ PE (X.comp s₂ H₂ N' scope cl C fp) elt te)
  (hs : ∀ x, foldedSetIterable iter X.env x = pure x := by intro _; rfl) : PE X (.ListComp elt [⟨tg, iter, ifs, 0⟩] scope pos) (tLc wi g tt te n ix) := by
 intro pins s σ H Q I h
 obtain ⟨cl, hcl, hcl1, hcl2⟩ := closure_ok (env := X.env) (scope := scope) fun y hy hf => I.ok.has _ (S.free y hy hf)
 rw [eval_ListComp]
 refine wpAny_comprehension_free (use := none) rfl hs hcl S.kind S.names (thn (hi pins s σ H _ I h) fun v s1 h1 => thn h1 fun itv s2 h2 => ?_)
 obtain ⟨it, fp, tn, J, H2, rfl, I2, T, st2, f2, hW⟩ := h2
 refine lc_core (R := fun acc C => compPost (model X.prog X.w) X.A X.xe none (EP X pins σ Q) acc C) hc S hY I2 hcl1 hcl2 T st2 f2 hW ?_
 intro acc C s' H' m hn IX hf hL h1 h2 h3 h4 q
 exact ⟨m, hn, fun h' sb => ⟨.ref acc, H', IX.turned (t' := s'.toks) (fun b o hb e => sb.extBut b o hb e) hf hL h1 h2 h3, rfl, q⟩⟩
end
end L2
namespace L2
open PySem PySem.Spec PyProof.Rows
theorem PE.mono {X : Cx} {e : Expr} {t t' : TE} (h : PE X e t) (m : ∀ σ H Q, t' σ H Q -> t σ H Q) : PE X e t' := fun pins s σ H Q I q => h pins s σ H Q I (m σ H Q q)
theorem same_upd {H : Hp} {a : Addr} {o : HO} (h : H a = none) : Same H (upd H a o) := fun b u e => by
 rw [upd_ne (ne_of_none e h)]; exact e
theorem same_updR {H H' : Hp} {a : Addr} {o : HO} (s : Same H H') (h : H a = none) : Same H (upd H' a o) := fun b u e => by
 rw [upd_ne (ne_of_none e h)]; exact s b u e
noncomputable def SameT (H H' : Hp) : Prop := ∀ b xs, H b = some (.tup xs) -> H' b = some (.tup xs)
theorem Same.t {H H' : Hp} (h : Same H H') : SameT H H' := fun b xs e => h b _ e
theorem SameT.trans {H H1 H2 : Hp} (a : SameT H H1) (b : SameT H1 H2) : SameT H H2 := fun c o h => b c o (a c o h)
theorem sameT_lst {H : Hp} {a : Addr} {xs ys : List V} (h : H a = some (.lst xs)) : SameT H (upd H a (.lst ys)) := fun b zs e => by
 rw [upd_ne (ne_of e h (by intro z; cases z))]; exact e
structure Yields (J : It) (Ok : Hp -> Prop) (xs : List V) : Prop where
 go : ∀ i H, Ok H -> i < xs.length -> J.go i H
 yld : ∀ i H x H', Ok H -> i < xs.length -> J.yld i H x H' -> H' = H /\ xs[i]? = some x
 stop : ∀ H, Ok H -> J.stop xs.length H
theorem yields_tup {K : PySem.W.Frag} {a : Addr} {xs : List V} : Yields (Itt K a) (fun H => SqT K H a xs) xs :=
 ⟨fun i H q h => ⟨xs, xs[i], q, by simp [h]⟩, fun i H x H' q _ y => ⟨y.1, y.2 xs q⟩, fun H q => ⟨xs, q, Nat.le_refl _⟩⟩
section
variable {J : It} {Ok : Hp -> Prop} {xs : List V} {tt : TT} {te : TE} {ix : List Nat} {σ : St} {H1 : Hp} {Q : VK}
end
end L2
namespace L2
open PySem PySem.Spec PyProof.Rows
section
variable {prog : Program} {w : World} {A : Around} {E : Value -> Shared -> Prop} {s : Shared}
theorem nextT_item {it t : Addr} {i : Nat} {its : Array Value} {x : Value} {Q : Value -> Shared -> Prop} (hi : s.heap.IsTupleIter it t i) (ht : s.heap.IsTuple t its) (hx : its[i]? = some x)
  (q : ∀ h', h'.IsTupleIter it t (i + 1) -> Heap.SameBut it s.heap h' -> Q x { s with heap := h' }) : wpAny (model prog w) A (Builtin.SmallTypes.nextOf (.ref it)) Q E s := by
 obtain ⟨o, e1, e2, e3⟩ := id hi
 obtain ⟨u, f1, f2, nu, f3⟩ := ht
 unfold Builtin.SmallTypes.nextOf
 refine wpAny_bind (wpAny_callSpecial?_slot (name := Str.ofString "__next__") hi.typeIs F.slot_tuple_iterator_next (wpAny_call_entry F.slot_tuple_iterator_next hi.typeIs F.entry_tuple_iterator_next ?_ (F.args_tuple_iterator_next_1 _)))
 show wpAny _ _ (field (.ref it) 0 >>= _) _ _ s
 refine wpAny_bind (wpAny_field e1 e3 (x := .ref t) rfl ?_)
 show wpAny _ _ (if (Value.ref t == Value.none) = true then _ else _) _ _ s
 rw [if_neg (show ¬ ((Value.ref t == Value.none) = true) from Bool.false_ne_true)]
 show wpAny _ _ (field (.ref it) 1 >>= _) _ _ s
 refine wpAny_bind (wpAny_field e1 e3 (x := .int i 0) rfl ?_)
 show wpAny _ _ (seqItems? (.ref t) >>= _) _ _ s
 refine wpAny_bind (wpAny_seqItems f1 f3 ?_)
 simp only [Int.toNat_natCast, hx]
 refine wpAny_bind (wpAny_setField e1 e3 (by simp) (wpAny_pure ⟨x, rfl, wpAny_pure (q _ ⟨_, Heap.get?_update_self _ e1 (Obj.isFreed_of_fields (Obj.data_mapFields e3 _)), (Obj.cls_mapFields ..).trans e2, ?_⟩ (Heap.SameBut.update ..))⟩))
 rw [Obj.data_mapFields e3]
 simp [rawInt]
theorem nextT_end {it t : Addr} {i : Nat} {its : Array Value} {Q : Value -> Shared -> Prop} (hh : A.handled = none) (hi : s.heap.IsTupleIter it t i) (ht : s.heap.IsTuple t its) (hx : its[i]? = none)
  (q : ∀ h' e, Heap.ExtBut it s.heap h' -> (∃ o, h'.get? e = some o /\ o.cls = .type "StopIteration") -> E (.ref e) { s with heap := h' }) : wpAny (model prog w) A (Builtin.SmallTypes.nextOf (.ref it)) Q E s := by
 obtain ⟨o, e1, e2, e3⟩ := id hi
 obtain ⟨u, f1, f2, nu, f3⟩ := ht
 unfold Builtin.SmallTypes.nextOf
 refine wpAny_bind (wpAny_callSpecial?_slot (name := Str.ofString "__next__") hi.typeIs F.slot_tuple_iterator_next (wpAny_call_entry F.slot_tuple_iterator_next hi.typeIs F.entry_tuple_iterator_next ?_ (F.args_tuple_iterator_next_1 _)))
 show wpAny _ _ (field (.ref it) 0 >>= _) _ _ s
 refine wpAny_bind (wpAny_field e1 e3 (x := .ref t) rfl ?_)
 show wpAny _ _ (if (Value.ref t == Value.none) = true then _ else _) _ _ s
 rw [if_neg (show ¬ ((Value.ref t == Value.none) = true) from Bool.false_ne_true)]
 show wpAny _ _ (field (.ref it) 1 >>= _) _ _ s
 refine wpAny_bind (wpAny_field e1 e3 (x := .int i 0) rfl ?_)
 show wpAny _ _ (seqItems? (.ref t) >>= _) _ _ s
 refine wpAny_bind (wpAny_seqItems f1 f3 ?_)
 simp only [Int.toNat_natCast, hx]
 refine wpAny_bind (wpAny_rule (wpAny_bind (wpAny_setField e1 e3 (by simp) ?_)))
 show wpAny _ _ (newExc (.type "StopIteration") [] >>= _) _ _ _
 refine wpAny_bind ?_
 simp only [newExc, newTuple]
 refine wpAny_bind (wpAny_newObj_type ?_ (by size_fits))
 refine wpAny_bind (m := firstArgMember _ _) (wpAny_of_eq (a := Value.none) (by first | rfl | (simp only [firstArgMember]; rfl)) ?_)
 refine wpAny_newObj_type ?_ (by size_fits)
 simp only [raiseNew]
 refine wpAny_bind (wpAny_handled ?_)
 first | rw [show A.in1.handled = none from hh] | rw [hh]
 refine wpAny_bind (wpAny_pure (wpAny_throw ?_))
 exact q _ _ (((Heap.SameBut.update ..).extBut.push _).push _) ⟨_, Heap.get?_push_size _ rfl, rfl⟩
end
end L2
namespace L2
open PySem PySem.Spec PyProof.Rows
section
variable {X : Cx} {pins : List (Addr × Obj)} {σ : St} {H : Hp} {s : Shared} {h' : Heap}
theorem Inv.turnedN {t' : Nat} {fp : List Addr} (I : Inv X pins σ H s) (hf : ∀ b ∈ fp, FpOk X pins H b) (k : ∀ b o, b ∉ fp -> s.heap.get? b = some o -> h'.get? b = some o) : Inv X pins σ H { s with heap := h', toks := t' } := by
 have nit : ∀ b u, H b = some u -> b ∉ fp := fun b u e z => by rw [(hf b z).1] at e; cases e
 refine I.step (g' := s.gens) (d' := s.drawn) (ch := fp) (fun b hb => ?_) (fun b o _ _ hc e _ => k b o hc e) (fun b o _ _ hc e _ => ⟨o.slots, k b o hc e⟩) (fun _ _ _ _ n => n)
  (fun b o hc e => ⟨o, k b o hc e⟩) (fun _ _ e => e) (fun _ _ _ e => e) (fun b ps e => ⟨#[], by rw [e]; simp⟩) (fun m hm => ?_) (fun b u e => ?_) I.bare
 ·obtain ⟨_, q1, q2, q3, q4, q5⟩ := hf b hb
  exact ⟨q3, q1, q4, q5⟩
 ·obtain ⟨o, es, ep, ho, r⟩ := hm
  exact ⟨o, es, ep, k _ o (fun z => (hf _ z).2.1 rfl) ho, r⟩
 ·refine (I.hok b u e).stay (fun c v hc q => k c v ?_ q) (fun _ q => q) fun _ _ q => q
  rcases hc with z | z
  ·rw [z]; exact nit b u e
  ·exact nit c _ z
theorem Inv.trackT {a : Addr} {xs : List V} {its : List Value} (I : Inv X pins σ H s) (hn : H a = none) (hs : X.s₀.heap.objs.size <= a) (hL : a ≠ X.env.locals) (hc : ∀ x c, X.env.cells.lookup x = some c -> c ≠ a) (hp : ∀ p ∈ X.pn ++ pins, p.1 ≠ a)
  (rv : Vals xs its) (ht : PTup s.heap a its.toArray) (hz : xs.length <= sizeLine) : Inv X pins σ (upd H a (.tup xs)) s := by
 have ne : ∀ {b u}, H b = some u -> b ≠ a := fun e => ne_of_none e hn
 refine ⟨I.ok, I.os, I.bare, ⟨I.base.keep, I.base.slot, fun b o e n hx => ?_, I.base.there, fun b ys e => ?_, fun b o u e => ?_, fun b ps e => ?_⟩, I.loc, I.cell, ?_, fun x c e => ?_, fun p hp' => ?_, fun b u e => ?_, I.len⟩
 ·rw [upd_ne (Nat.ne_of_lt (Nat.lt_of_lt_of_le (Heap.lt_size e) hs))]
  exact I.base.free b o e n hx
 ·have q := I.base.tups b ys e
  rw [upd_ne (ne q)]; exact q
 ·have q := I.base.frzs b o u e
  rw [upd_ne (ne q)]; exact q
 ·obtain ⟨m, q⟩ := I.base.tbls b ps e
  exact ⟨m, by rw [upd_ne (ne q)]; exact q⟩
 ·rw [upd_ne (Ne.symm hL)]; exact I.free
 ·rw [upd_ne (hc x c e)]; exact I.freeC x c e
 ·obtain ⟨q1, q2, q3⟩ := I.pin p hp'
  exact ⟨q1, by rw [upd_ne (hp p hp')]; exact q2, q3⟩
 ·by_cases hb : b = a
  ·subst hb
   rw [upd_same] at e; cases e
   exact ⟨hz, its, rv, ht⟩
  ·rw [upd_ne hb] at e
   exact (I.hok b u e).stay (fun _ _ _ q => q) (fun c q => by rw [upd_ne (ne q)]; exact q) fun c ys q => by rw [upd_ne (ne q)]; exact q
theorem Inv.turnedT {t' : Nat} {fp : List Addr} {xs : List V} {its : List Value} (I : Inv X pins σ H s) (hf : ∀ b ∈ fp, FpOk X pins H b) (k : ∀ b o, b ∉ fp -> s.heap.get? b = some o -> h'.get? b = some o)
  (rv : Vals xs its) (ht : PTup h' s.heap.objs.size its.toArray) (hz : xs.length <= sizeLine) : Inv X pins σ (upd H s.heap.objs.size (.tup xs)) { s with heap := h', toks := t' } := by
 refine (I.turnedN (t' := t') hf k).trackT (I.hok.fresh (Nat.le_refl _)) I.sz (Nat.ne_of_gt I.lt) (fun x c e => ?_) (fun p hp => ?_) rv ht hz
 ·obtain ⟨v, q⟩ := I.cell x c e
  exact Nat.ne_of_lt q.lt
 ·exact Nat.ne_of_lt (Heap.lt_size (I.pin p hp).1)
end
section
variable {X : Cx}
end
end L2
namespace L2
open PySem PySem.Spec PyProof.Rows
structure ZipT (h : Heap) (z TI TO i1 i2 a b : Addr) (i : Nat) : Prop where
 z : IsZip h z TI TO .none
 ti : IsPair h TI (.ref i1) (.ref i2)
 to : ∃ x y, IsPair h TO x y
 one : h.IsTupleIter i1 a i
 two : h.IsTupleIter i2 b i
structure ZipNe (z TI TO i1 i2 : Addr) : Prop where
 az : TI ≠ z
 bz : TO ≠ z
 cz : i1 ≠ z
 dz : i2 ≠ z
 ab : TI ≠ TO
 ac : TI ≠ i1
 ad : TI ≠ i2
 bc : TO ≠ i1
 bd : TO ≠ i2
 cd : i1 ≠ i2
section
variable {prog : Program} {w : World} {A : Around} {E : Value -> Shared -> Prop} {s : Shared} {z TI TO i1 i2 a b : Addr} {i : Nat} {xs ys : Array Value}
theorem pairSet {T : Addr} {p q x : Value} {k : Nat} {Q : Unit -> Shared -> Prop} (hT : IsPair s.heap T p q) (h : ∀ h', h'.get? T = some { cls := .type "tuple", data := .seq ((#[p, q] : Array Value).setIfInBounds k x) } -> Heap.SameBut T s.heap h' -> Q () { s with heap := h' }) :
  wpAny (model prog w) A (updateSeq T (·.setIfInBounds k x)) Q E s := wpAny_updateSeq_pair hT h
theorem tupNe {h : Heap} {t j : Addr} {k : Nat} {its : Array Value} {u : Addr} (ht : h.IsTuple t its) (hj : h.IsTupleIter j u k) : t ≠ j := fun e => by
 obtain ⟨o, e1, e2, _⟩ := ht
 obtain ⟨o', f1, f2, _⟩ := hj
 rw [e, f1] at e1; cases e1; rw [f2] at e2; injection e2 with z2; revert z2; decide
theorem zipT_item {x y : Value} {Q : Option Value -> Shared -> Prop} (D : ZipNe z TI TO i1 i2) (S : ZipT s.heap z TI TO i1 i2 a b i) (ha : s.heap.IsTuple a xs) (hb : s.heap.IsTuple b ys) (haz : a ≠ z /\ a ≠ TO) (hbz : b ≠ z /\ b ≠ TO) (hx : xs[i]? = some x) (hy : ys[i]? = some y)
  (q : ∀ h', IsZip h' z TI TO (rawInt s.heap.objs.size) -> IsPair h' TI (.ref i1) (.ref i2) -> IsPair h' TO x y -> h'.IsTupleIter i1 a (i + 1) -> h'.IsTupleIter i2 b (i + 1) -> IsPair h' s.heap.objs.size x y ->
   (∀ c o, c ≠ z -> c ≠ TO -> c ≠ i1 -> c ≠ i2 -> s.heap.get? c = some o -> h'.get? c = some o) -> Q (some (.ref s.heap.objs.size)) { s with heap := h' }) :
  wpAny (model prog w) A (pyNext (.ref z)) Q E s := by
 obtain ⟨hz, hti, ⟨p0, p1, hto⟩, h1, h2⟩ := S
 have ai1 := tupNe ha h1
 have ai2 := tupNe ha h2
 have bi1 := tupNe hb h1
 have bi2 := tupNe hb h2
 have hT : s.TypeIs (.ref z) "zip" := ⟨_, hz, rfl⟩
 unfold pyNext
 refine wpAny_bind (wpAny_attempt (wpAny_callSpecial?_slot (name := Str.ofString "__next__") hT F.slot_zip_next (wpAny_call_entry F.slot_zip_next hT F.entry_zip_next ?_ (F.args_zip_next_1 _))))
 show wpAny _ _ (field (.ref z) 2 >>= _) _ _ _
 refine wpAny_bind (wpAny_field hz rfl (x := .bool false) rfl ?_); show wpAny _ _ (field (.ref z) 3 >>= _) _ _ _
 refine wpAny_bind (wpAny_field hz rfl (x := .ref TI) rfl (wpAny_bind (wpAny_seqItems hti rfl ?_)))
 show wpAny _ _ (Builtin.SmallTypes.ownedTupleIsFree (.ref z) >>= _) _ _ _
 refine wpAny_bind ?_
 unfold Builtin.SmallTypes.ownedTupleIsFree
 refine wpAny_bind (wpAny_field hz rfl (x := .none) rfl (wpAny_pure ?_)); simp only [if_true]
 refine wpAny_bind (wpAny_rule (wpAny_bind (wpAny_field hz rfl (x := .ref TO) rfl (wpAny_bind (wpAny_setField_rec hz (by simp) fun g1 k1 s1 => ?_)))))
 replace k1 : IsZip g1 z TI TO .ellipsis := k1
 refine wpAny_bind ?_
 simp only [List.zipIdx_cons, List.zipIdx_nil, List.forIn_cons, List.forIn_nil]
 refine wpAny_bind (wpAny_bind (wpAny_onRaise ?_)); show wpAny _ _ (Builtin.SmallTypes.nextOf (.ref i1) >>= _) _ _ _
 refine wpAny_bind (nextT_item (h1.extBut s1.extBut D.cz) (ha.extBut s1.extBut haz.1) hx fun g2 j2 s2 => wpAny_pure ?_)
 have t2 : IsPair g2 TO p0 p1 := s2.extBut _ _ D.bc (s1.extBut _ _ D.bz hto)
 refine wpAny_bind (wpAny_seqItems t2 rfl (wpAny_bind (pairSet t2 fun g3 t3 s3 => ?_)))
 replace t3 : IsPair g3 TO x p1 := t3
 refine wpAny_bind (wpAny_letGo (wpAny_pure ?_))
 refine wpAny_bind (wpAny_bind (wpAny_onRaise ?_)); show wpAny _ _ (Builtin.SmallTypes.nextOf (.ref i2) >>= _) _ _ _
 have e3 : ∀ c o, c ≠ z -> c ≠ i1 -> c ≠ TO -> s.heap.get? c = some o -> g3.get? c = some o := fun c o c1 c2 c3 e => s3.extBut _ _ c3 (s2.extBut _ _ c2 (s1.extBut _ _ c1 e))
 have h23 : g3.IsTupleIter i2 b i := let ⟨o, ho, r⟩ := h2; ⟨o, e3 _ _ D.dz D.cd.symm D.bd.symm ho, r⟩
 have hb3 : g3.IsTuple b ys := let ⟨o, ho, r⟩ := hb; ⟨o, e3 _ _ hbz.1 bi1 hbz.2 ho, r⟩
 refine wpAny_bind (nextT_item h23 hb3 hy fun g4 j4 s4 => wpAny_pure ?_)
 have t4 : IsPair g4 TO x p1 := s4.extBut _ _ D.bd t3
 refine wpAny_bind (wpAny_seqItems t4 rfl (wpAny_bind (pairSet t4 fun g5 t5 s5 => ?_)))
 replace t5 : IsPair g5 TO x y := t5
 refine wpAny_bind (wpAny_letGo (wpAny_pure (wpAny_pure ?_)))
 refine wpAny_bind (wpAny_seqItems t5 rfl (wpAny_bind (wpAny_newTuple ?_)))
 have z5 : g5.objs.size = s.heap.objs.size := by rw [s5.1, s4.1, s3.1, s2.1, s1.1]
 have e5 : ∀ c o, c ≠ z -> c ≠ TO -> c ≠ i1 -> c ≠ i2 -> s.heap.get? c = some o -> g5.get? c = some o := fun c o c1 c2 c3 c4 e => s5.extBut _ _ c2 (s4.extBut _ _ c4 (e3 c o c1 c3 c2 e))
 have k5 : IsZip g5 z TI TO .ellipsis := s5.extBut _ _ D.bz.symm (s4.extBut _ _ D.dz.symm (s3.extBut _ _ D.bz.symm (s2.extBut _ _ D.cz.symm k1)))
 have m1 : g5.IsTupleIter i1 a (i + 1) := ((j2.extBut s3.extBut D.bc.symm).extBut s4.extBut D.cd).extBut s5.extBut D.bc.symm
 have m2 : g5.IsTupleIter i2 b (i + 1) := j4.extBut s5.extBut D.bd.symm
 have zlt : z < g5.objs.size := Heap.lt_size k5
 show wpAny _ _ (Builtin.SmallTypes.ownedTupleHandOut (.ref z) (.ref g5.objs.size) >>= _) _ _ _
 refine wpAny_bind ?_
 unfold Builtin.SmallTypes.ownedTupleHandOut
 have k6 : IsZip (g5.push { cls := .type "tuple", data := .seq #[x, y] }) z TI TO .ellipsis := Heap.get?_push_of_some _ k5
 refine wpAny_bind (wpAny_setField_rec k6 (by simp) fun g7 k7 s7 => ?_)
 replace k7 : IsZip g7 z TI TO (rawInt g5.objs.size) := k7
 refine wpAny_setField_rec k7 (by simp) fun g8 k8 s8 => ?_
 replace k8 : IsZip g8 z TI TO (rawInt g5.objs.size) := k8
 have up : ∀ c o, c ≠ z -> g5.get? c = some o -> g8.get? c = some o := fun c o c1 e => s8.extBut _ _ c1 (s7.extBut _ _ c1 (Heap.get?_push_of_some _ e))
 have t8 : IsPair g8 g5.objs.size x y := s8.extBut _ _ (Nat.ne_of_gt zlt) (s7.extBut _ _ (Nat.ne_of_gt zlt) (Heap.get?_push_size _ rfl))
 rw [z5] at k8 t8
 refine wpAny_pure ⟨_, rfl, wpAny_pure ?_⟩
 show Q (some (.ref g5.objs.size)) _
 rw [z5]
 exact q g8 k8 (up _ _ D.az (e5 _ _ D.az D.ab D.ac D.ad hti)) (up _ _ D.bz t5) (let ⟨o, ho, r⟩ := m1; ⟨o, up _ _ D.cz ho, r⟩) (let ⟨o, ho, r⟩ := m2; ⟨o, up _ _ D.dz ho, r⟩) t8 fun c o c1 c2 c3 c4 e => up c o c1 (e5 c o c1 c2 c3 c4 e)
end
end L2
namespace L2
open PySem PySem.Spec PyProof.Rows
section
variable {prog : Program} {w : World} {A : Around} {E : Value -> Shared -> Prop} {s : Shared} {z TI TO i1 i2 a b : Addr} {i : Nat} {xs ys : Array Value}
theorem zipT_end {Q : Option Value -> Shared -> Prop} (hh : A.in1.handled = none) (D : ZipNe z TI TO i1 i2) (S : ZipT s.heap z TI TO i1 i2 a b i) (ha : s.heap.IsTuple a xs) (hb : s.heap.IsTuple b ys) (haz : a ≠ z /\ a ≠ TO) (hbz : b ≠ z /\ b ≠ TO) (hend : xs[i]? = none ∨ ys[i]? = none)
  (q : ∀ h', (∀ c o, c ≠ z -> c ≠ TO -> c ≠ i1 -> c ≠ i2 -> s.heap.get? c = some o -> h'.get? c = some o) -> Q none { s with heap := h' }) :
  wpAny (model prog w) A (pyNext (.ref z)) Q E s := by
 obtain ⟨hz, hti, ⟨p0, p1, hto⟩, h1, h2⟩ := S
 have bi1 := tupNe hb h1
 have hT : s.TypeIs (.ref z) "zip" := ⟨_, hz, rfl⟩
 unfold pyNext
 refine wpAny_bind (wpAny_attempt (wpAny_callSpecial?_slot (name := Str.ofString "__next__") hT F.slot_zip_next (wpAny_call_entry F.slot_zip_next hT F.entry_zip_next ?_ (F.args_zip_next_1 _))))
 show wpAny _ _ (field (.ref z) 2 >>= _) _ _ _
 refine wpAny_bind (wpAny_field hz rfl (x := .bool false) rfl ?_); show wpAny _ _ (field (.ref z) 3 >>= _) _ _ _
 refine wpAny_bind (wpAny_field hz rfl (x := .ref TI) rfl (wpAny_bind (wpAny_seqItems hti rfl ?_)))
 show wpAny _ _ (Builtin.SmallTypes.ownedTupleIsFree (.ref z) >>= _) _ _ _
 refine wpAny_bind ?_
 unfold Builtin.SmallTypes.ownedTupleIsFree
 refine wpAny_bind (wpAny_field hz rfl (x := .none) rfl (wpAny_pure ?_)); simp only [if_true]
 refine wpAny_bind (wpAny_rule (wpAny_bind (wpAny_field hz rfl (x := .ref TO) rfl (wpAny_bind (wpAny_setField_rec hz (by simp) fun g1 k1 s1 => ?_)))))
 replace k1 : IsZip g1 z TI TO .ellipsis := k1
 refine wpAny_bind ?_
 simp only [List.zipIdx_cons, List.zipIdx_nil, List.forIn_cons, List.forIn_nil]
 have fin : ∀ (g : Heap) (e : Addr), IsZip g z TI TO .ellipsis -> (∀ c o, c ≠ z -> c ≠ TO -> c ≠ i1 -> c ≠ i2 -> s.heap.get? c = some o -> g.get? c = some o) -> (∃ o, g.get? e = some o /\ o.cls = .type "StopIteration") ->
   wpAny (model prog w) A.in1 (setField (.ref z) 0 .none) (fun _ s' => wpAny (model prog w) A (do if <- isInstance (.ref e) (.type "StopIteration") then pure none else throw (Value.ref e)) Q E s') (fun e' s' => wpAny (model prog w) A (do if <- isInstance e' (.type "StopIteration") then pure none else throw e') Q E s') { s with heap := g } := by
  rintro g e kz kk ⟨oe, f1, f2⟩
  have ez : e ≠ z := fun y => by subst y; rw [kz] at f1; cases f1; injection f2 with z2; revert z2; decide
  refine wpAny_setField_rec kz (by simp) fun g' _ s' => ?_
  refine wpAny_bind (wpAny_isInstance (T := "StopIteration") (b := true) ⟨oe, s'.extBut _ _ ez f1, f2⟩ isSubtype_stop ?_)
  exact wpAny_pure (q g' fun c o c1 c2 c3 c4 y => s'.extBut _ _ c1 (kk c o c1 c2 c3 c4 y))
 refine wpAny_bind (wpAny_bind (wpAny_onRaise ?_)); show wpAny _ _ (Builtin.SmallTypes.nextOf (.ref i1) >>= _) _ _ _
 cases hx : xs[i]? with
 | none =>
  refine wpAny_bind (nextT_end hh (h1.extBut s1.extBut D.cz) (ha.extBut s1.extBut haz.1) hx fun g2 e s2 he => ?_)
  exact fin g2 e (s2 _ _ D.cz.symm k1) (fun c o c1 _ c3 _ y => s2 _ _ c3 (s1.extBut _ _ c1 y)) he
 | some x =>
  have hy : ys[i]? = none := by rcases hend with h | h; rw [hx] at h; cases h; exact h
  refine wpAny_bind (nextT_item (h1.extBut s1.extBut D.cz) (ha.extBut s1.extBut haz.1) hx fun g2 j2 s2 => wpAny_pure ?_)
  have t2 : IsPair g2 TO p0 p1 := s2.extBut _ _ D.bc (s1.extBut _ _ D.bz hto)
  refine wpAny_bind (wpAny_seqItems t2 rfl (wpAny_bind (pairSet t2 fun g3 t3 s3 => ?_)))
  refine wpAny_bind (wpAny_letGo (wpAny_pure ?_))
  refine wpAny_bind (wpAny_bind (wpAny_onRaise ?_)); show wpAny _ _ (Builtin.SmallTypes.nextOf (.ref i2) >>= _) _ _ _
  have e3 : ∀ c o, c ≠ z -> c ≠ i1 -> c ≠ TO -> s.heap.get? c = some o -> g3.get? c = some o := fun c o c1 c2 c3 e => s3.extBut _ _ c3 (s2.extBut _ _ c2 (s1.extBut _ _ c1 e))
  have h23 : g3.IsTupleIter i2 b i := let ⟨o, ho, r⟩ := h2; ⟨o, e3 _ _ D.dz D.cd.symm D.bd.symm ho, r⟩
  have hb3 : g3.IsTuple b ys := let ⟨o, ho, r⟩ := hb; ⟨o, e3 _ _ hbz.1 bi1 hbz.2 ho, r⟩
  refine wpAny_bind (nextT_end hh h23 hb3 hy fun g4 e s4 he => ?_)
  exact fin g4 e (s4 _ _ D.dz.symm (s3.extBut _ _ D.bz.symm (s2.extBut _ _ D.cz.symm k1))) (fun c o c1 c2 c3 c4 y => s4 _ _ c4 (e3 c o c1 c3 c2 y)) he
noncomputable abbrev zT1 (h : Heap) (l1 : Addr) : Heap := h.push { cls := .type "tuple_iterator", data := .fields #[.ref l1, .int 0 0] }
noncomputable abbrev zT2 (h : Heap) (l1 l2 : Addr) : Heap := (zT1 h l1).push { cls := .type "tuple_iterator", data := .fields #[.ref l2, .int 0 0] }
noncomputable abbrev zT3 (h : Heap) (l1 l2 : Addr) : Heap := (zT2 h l1 l2).push { cls := .type "tuple", data := .seq #[.ref h.objs.size, .ref (zT1 h l1).objs.size] }
noncomputable abbrev zT4 (h : Heap) (l1 l2 : Addr) : Heap := (zT3 h l1 l2).push { cls := .type "tuple", data := .seq #[.none, .none] }
noncomputable abbrev zT5 (h : Heap) (l1 l2 : Addr) : Heap := (zT4 h l1 l2).push { cls := .type "zip", data := .fields #[.none, .bool false, .bool false, .ref (zT2 h l1 l2).objs.size, .ref (zT3 h l1 l2).objs.size] }
theorem zip_newT (l1 l2 : Addr) (xs ys : Array Value) :
  Meets (Builtin.«zip.__new__» ⟨[.type "zip", .ref l1, .ref l2], []⟩) (fun _ R s => s.heap.IsTuple l1 xs /\ s.heap.IsTuple l2 ys /\ R (.ok (.ret (.ref (zT4 s.heap l1 l2).objs.size))) { s with heap := zT5 s.heap l1 l2 }) :=
 .of_wp fun prog w A R s h => by
  obtain ⟨hp, g, d, tk, os⟩ := s; obtain ⟨hl1, hl2, h⟩ := h
  have hsub := sub_zip
  have hL1 : Heap.IsTuple (Shared.heap ⟨hp, g, d, tk, os⟩) l1 xs := hl1
  have hL2 : Heap.IsTuple (Shared.heap ⟨hp.push { cls := .type "tuple_iterator", data := .fields #[.ref l1, .int 0 0] }, g, d, tk, os⟩) l2 ys := Heap.IsTuple.push hl2 _
  wp_walk using wpAny_pyIter_tuple hL1, wpAny_pyIter_tuple hL2
  exact ⟨_, rfl, h⟩
theorem call_zipT {l1 l2 : Addr} {Q : Value -> Shared -> Prop} (hl1 : s.heap.IsTuple l1 xs) (hl2 : s.heap.IsTuple l2 ys)
  (h : ∀ h', ZipT h' (s.heap.objs.size + 4) (s.heap.objs.size + 2) (s.heap.objs.size + 3) s.heap.objs.size (s.heap.objs.size + 1) l1 l2 0 -> (∀ c o, s.heap.get? c = some o -> h'.get? c = some o) -> Q (.ref (s.heap.objs.size + 4)) { s with heap := h' }) :
  wpAny (model prog w) A (call (.type "zip") [.ref l1, .ref l2]) Q E s := by
 refine callType_new F.called_zip (by decide) (F.typeCall_zip_2 _ _) (F.newCall_zip_2 _ _) (fun obj => F.args_object_init_3 obj _ _) F.entry_zip_new (zip_newT l1 l2 xs ys) ⟨hl1, hl2, ?_⟩
 have z1 : (zT1 s.heap l1).objs.size = s.heap.objs.size + 1 := Heap.size_push ..
 have z2 : (zT2 s.heap l1 l2).objs.size = s.heap.objs.size + 2 := by rw [Heap.size_push, z1]
 have z3 : (zT3 s.heap l1 l2).objs.size = s.heap.objs.size + 3 := by rw [Heap.size_push, z2]
 have z4 : (zT4 s.heap l1 l2).objs.size = s.heap.objs.size + 4 := by rw [Heap.size_push, z3]
 have p1 : ∀ {g : Heap} {c o u}, g.get? c = some o -> (g.push u).get? c = some o := fun e => Heap.get?_push_of_some _ e
 have g5 : (zT5 s.heap l1 l2).get? (zT4 s.heap l1 l2).objs.size = some _ := Heap.get?_push_size _ rfl
 have g4 : (zT5 s.heap l1 l2).get? (zT3 s.heap l1 l2).objs.size = some _ := p1 (Heap.get?_push_size _ rfl)
 have g3 : (zT5 s.heap l1 l2).get? (zT2 s.heap l1 l2).objs.size = some _ := p1 (p1 (Heap.get?_push_size _ rfl))
 have g2 : (zT5 s.heap l1 l2).get? (zT1 s.heap l1).objs.size = some _ := p1 (p1 (p1 (Heap.get?_push_size _ rfl)))
 have g1 : (zT5 s.heap l1 l2).get? s.heap.objs.size = some _ := p1 (p1 (p1 (p1 (Heap.get?_push_size _ rfl))))
 show _ /\ _
 rw [z2, z3, z4] at g5
 rw [z1, z2] at g3
 rw [z3] at g4
 rw [z1] at g2
 rw [z4]
 exact ⟨⟨_, g5, rfl⟩, h _ ⟨g5, g3, ⟨_, _, g4⟩, ⟨_, g1, rfl, rfl⟩, ⟨_, g2, rfl, rfl⟩⟩ fun c o x => p1 (p1 (p1 (p1 (p1 x))))⟩
end
noncomputable def Itz (K : PySem.W.Frag) (a b : Addr) : It :=
 ⟨fun i H => ∃ xs ys x y, SqT K H a xs /\ SqT K H b ys /\ xs[i]? = some x /\ ys[i]? = some y, fun i H v H' => ∃ t x y, H t = none /\ v = .ref t /\ H' = upd H t (.tup [x, y]) /\ ∀ xs ys, SqT K H a xs -> SqT K H b ys -> xs[i]? = some x /\ ys[i]? = some y,
  fun i H => ∃ xs ys, SqT K H a xs /\ SqT K H b ys /\ (xs[i]? = none ∨ ys[i]? = none)⟩
theorem zipNe_of {z TI TO i1 i2 : Addr} {h : Heap} {a b : Addr} {i : Nat} (S : ZipT h z TI TO i1 i2 a b i) (h1 : TI ≠ TO) (h2 : i1 ≠ i2) : ZipNe z TI TO i1 i2 := by
 obtain ⟨hz, hti, ⟨p0, p1, hto⟩, ⟨o1, e1, c1, d1⟩, ⟨o2, e2, c2, d2⟩⟩ := S
 refine ⟨fun e => ?_, fun e => ?_, fun e => ?_, fun e => ?_, h1, fun e => ?_, fun e => ?_, fun e => ?_, fun e => ?_, h2⟩
 ·have q := (show h.get? TI = _ from hti); rw [e, show h.get? z = _ from hz] at q; injection q with q; injection q with q1; injection q1 with q2; revert q2; decide
 ·have q := (show h.get? TO = _ from hto); rw [e, show h.get? z = _ from hz] at q; injection q with q; injection q with q1; injection q1 with q2; revert q2; decide
 ·rw [e, hz] at e1; cases e1; injection c1 with q2; revert q2; decide
 ·rw [e, hz] at e2; cases e2; injection c2 with q2; revert q2; decide
 ·rw [<- e, hti] at e1; cases e1; injection c1 with q2; revert q2; decide
 ·rw [<- e, hti] at e2; cases e2; injection c2 with q2; revert q2; decide
 ·rw [<- e, hto] at e1; cases e1; injection c1 with q2; revert q2; decide
 ·rw [<- e, hto] at e2; cases e2; injection c2 with q2; revert q2; decide
theorem SqT.fpNe {X : Cx} {pins : List (Addr × Obj)} {σ : St} {H : Hp} {s : Shared} {t c : Addr} {zs : List V} (I : Inv X pins σ H s) (hq : SqT X.K H t zs) (f : FpOk X pins H c) : t ≠ c := by
 rintro rfl
 rcases hq with (h | ⟨o, h⟩) | h
 ·rw [f.1] at h; cases h
 ·rw [f.1] at h; cases h
 ·obtain ⟨o, _, _, hl, _⟩ := h
  have e := I.ok.mod.kin _ _ hl
  rcases f.2.2.2.1 with z | z
  ·exact I.ok.noex _ _ e z
  ·exact absurd (Nat.lt_of_lt_of_le (Heap.lt_size e) (Nat.le_trans I.ok.bsz z)) (Nat.lt_irrefl _)
theorem turn_zipT {P : Program} {w : World} {K : PySem.W.Frag} {els : List Expr} {kx} {tp : Pos} (a b z TI TO i1 i2 : Addr) (h1 : TI ≠ TO) (h2 : i1 ≠ i2) : Turn P w K (.Tuple els kx tp) (Itz K a b) [z, TI, TO, i1, i2] z (fun i h => ZipT h z TI TO i1 i2 a b i) where
 mem := by simp
 obj := fun i h st c hc => by
  obtain ⟨hz, hti, ⟨p0, p1, hto⟩, ⟨o1, e1, c1, d1⟩, ⟨o2, e2, c2, d2⟩⟩ := st
  simp only [List.mem_cons, List.not_mem_nil, or_false] at hc
  rcases hc with rfl | rfl | rfl | rfl | rfl
  ·exact ⟨_, hz, fun v q => by cases q⟩
  ·exact ⟨_, hti, fun v q => by cases q⟩
  ·exact ⟨_, hto, fun v q => by cases q⟩
  ·exact ⟨_, e1, fun v q => by rw [d1] at q; cases q⟩
  ·exact ⟨_, e2, fun v q => by rw [d2] at q; cases q⟩
 keep := fun i h h' st k => by
  obtain ⟨hz, hti, ⟨p0, p1, hto⟩, ⟨o1, e1, r1⟩, ⟨o2, e2, r2⟩⟩ := st
  exact ⟨k _ (by simp) _ hz, k _ (by simp) _ hti, ⟨p0, p1, k _ (by simp) _ hto⟩, ⟨o1, k _ (by simp) _ e1, r1⟩, ⟨o2, k _ (by simp) _ e2, r2⟩⟩
 item := by
  intro X hP hw hK hc i pins s σ H E I hf st hg
  subst hP hw hK
  obtain ⟨xs, ys, x, y, hqa, hqb, hx, hy⟩ := hg
  obtain ⟨its, rv, p, _⟩ := I.tuple hqa
  obtain ⟨jts, rw', p', _⟩ := I.tuple hqb
  obtain ⟨u, hu, ru⟩ := rv.get hx
  obtain ⟨v, hv, rvv⟩ := rw'.get hy
  have D := zipNe_of st h1 h2
  obtain ⟨hz, hti, ⟨p0, p1, hto⟩, hi1, hi2⟩ := id st
  have apart : ∀ {t : Addr} {zs : List V}, SqT X.K H t zs -> t ≠ z /\ t ≠ TO := fun hq => ⟨SqT.fpNe I hq (hf z (by simp)), SqT.fpNe I hq (hf TO (by simp))⟩
  refine zipT_item D st p p' (apart hqa) (apart hqb) (by simpa using hu) (by simpa using hv) fun g k1 k2 k3 k4 k5 k6 k7 => ?_
  refine ⟨_, rfl, wpAny_letOwnedTupleGo_zip k1 fun g2 l1 s2 => ?_⟩
  have hne0 : s.heap.objs.size ≠ z := Nat.ne_of_gt (Heap.lt_size hz)
  have keep : ∀ c o, c ∉ [z, TI, TO, i1, i2] -> s.heap.get? c = some o -> g2.get? c = some o := fun c o hc e => s2.extBut _ _ (fun q => hc (by simp [q])) (k7 c o (fun q => hc (by simp [q])) (fun q => hc (by simp [q])) (fun q => hc (by simp [q])) (fun q => hc (by simp [q])) e)
  refine ⟨.ref s.heap.objs.size, _, I.turnedT (h' := g2) (t' := s.toks) (xs := [x, y]) hf keep (.cons ru (.cons rvv .nil)) ⟨_, s2.extBut _ _ hne0 k6, rfl, ⟨_, rfl⟩, rfl, rfl⟩ (by show 2 <= sizeLine; decide), rfl,
   ⟨_, x, y, I.hok.fresh (Nat.le_refl _), rfl, rfl, fun as bs ha hb => ⟨by rw [I.tuple_inj ha hqa]; exact hx, by rw [I.tuple_inj hb hqb]; exact hy⟩⟩, ⟨l1, s2.extBut _ _ D.az k2, ⟨_, _, s2.extBut _ _ D.bz k3⟩, k4.extBut s2.extBut D.cz, k5.extBut s2.extBut D.dz⟩, fun c hc => ?_⟩
  have : c < s.heap.objs.size := by
   obtain ⟨o1, e1, _⟩ := hi1
   obtain ⟨o2, e2, _⟩ := hi2
   simp only [List.mem_cons, List.not_mem_nil, or_false] at hc
   rcases hc with rfl | rfl | rfl | rfl | rfl
   ·exact Heap.lt_size hz
   ·exact Heap.lt_size hti
   ·exact Heap.lt_size hto
   ·exact Heap.lt_size e1
   ·exact Heap.lt_size e2
  rw [upd_ne (Nat.ne_of_lt this)]
  exact (hf c hc).1
 done := by
  intro X hP hw hK hc i pins s σ H E I hf st hg
  subst hP hw hK
  obtain ⟨xs, ys, hqa, hqb, hx⟩ := hg
  obtain ⟨its, rv, p, _⟩ := I.tuple hqa
  obtain ⟨jts, rw', p', _⟩ := I.tuple hqb
  have D := zipNe_of st h1 h2
  have apart : ∀ {t : Addr} {zs : List V}, SqT X.K H t zs -> t ≠ z /\ t ≠ TO := fun hq => ⟨SqT.fpNe I hq (hf z (by simp)), SqT.fpNe I hq (hf TO (by simp))⟩
  refine zipT_end (I.ok.hd hc) D st p p' (apart hqa) (apart hqb) (hx.elim (fun q => .inl (by simpa using rv.none_of q)) fun q => .inr (by simpa using rw'.none_of q)) fun g k => ⟨rfl, ?_⟩
  exact I.turnedN (t' := s.toks) hf fun c o hc e => k c o (fun q => hc (by simp [q])) (fun q => hc (by simp [q])) (fun q => hc (by simp [q])) (fun q => hc (by simp [q])) e
 self := fun _ _ _ _ _ st h => wpAny_pyIter_zip st.z h
section
variable {X : Cx}
noncomputable def iZip (K : PySem.W.Frag) (ta : TA) : TI := fun σ H R => ta σ H fun vs H1 => ∃ a b, vs = [.ref a, .ref b] /\ (∃ xs, SqT K H1 a xs) /\ (∃ ys, SqT K H1 b ys) /\ R (Itz K a b) H1
theorem pi_zipT {els : List Expr} {kx} {tp : Pos} {l l' : Expr} {ta : TA} {p pos : Pos} (hg : Gl X "zip") (hm : X.mg "zip" = none) (ha : PA X [l, l'] ta) (hs : starEach [l, l'] X.env = [(false, eval l X.env), (false, eval l' X.env)] := by rfl) (hs2 : starEach [l'] X.env = [(false, eval l' X.env)] := by rfl) :
  PI X (.Tuple els kx tp) (.Call (.Name "zip" p) [l, l'] [] pos) (iZip X.K ta) := by
 intro pins s σ H R I h
 refine Call_ (ld_blt I hg hm boot_zip (PyProof.Rows.callWith_type1 (thn (ha pos pins s σ H _ I h) fun us s1 zq => ?_) (by rw [hs, hs2]) (by rw [hs2]; rfl)))
 obtain ⟨vs, H1, I1, r1, q1⟩ := zq
 obtain ⟨a, b, rfl, ⟨xs, hqa⟩, ⟨ys, hqb⟩, q⟩ := q1
 obtain ⟨u, v, rfl, ru, rv⟩ := vals2 r1
 cases (show u = Value.ref a from ru)
 cases (show v = Value.ref b from rv)
 obtain ⟨its, _, p1, _⟩ := I1.tuple hqa
 obtain ⟨jts, _, p2, _⟩ := I1.tuple hqb
 refine call_zipT (show s1.heap.IsTuple a its.toArray from p1) (show s1.heap.IsTuple b jts.toArray from p2) fun h' S hk => wpAny_pyIter_zip S.z ?_
 have I2 : Inv X pins σ H1 { s1 with heap := h' } := I1.kept (t' := s1.toks) hk
 refine ⟨_, _, _, _, H1, rfl, I2, turn_zipT a b _ _ _ _ _ (Nat.ne_of_lt (Nat.lt_succ_self _)) (Nat.ne_of_lt (Nat.lt_succ_self _)), S, fun c hc => ?_, q⟩
 have : s1.heap.objs.size <= c := by
  simp only [List.mem_cons, List.not_mem_nil, or_false] at hc
  rcases hc with rfl | rfl | rfl | rfl | rfl <;> first | exact Nat.le_refl _ | exact Nat.le_add_right _ _ | exact Nat.le_succ _ | exact Nat.le_succ_of_le (Nat.le_add_right _ _)
 exact I1.fpOk this (I1.hok.fresh this)
end
end L2
namespace L2
open PySem PySem.Spec PyProof.Rows
section
variable {X : Cx} {e : Expr} {te : TE} {p2 pos : Pos}
end
end L2
namespace L2
open PySem PySem.Spec PyProof.Rows
section
variable {X : Cx}
end
end L2
namespace L2
open PySem PySem.Spec PyProof.Rows
theorem range_all_getD (f : Nat -> Bool) : ∀ (bs : List Bool), (∀ i, i < bs.length -> f i = bs.getD i false) -> (List.range bs.length).all f = bs.all id := by
 intro bs h
 rw [Bool.eq_iff_iff, List.all_eq_true, List.all_eq_true]
 constructor
 ·intro q b hb
  obtain ⟨i, hi, e⟩ := List.getElem_of_mem hb
  have := q i (List.mem_range.mpr hi)
  rw [h i hi, List.getD_eq_getElem?_getD, List.getElem?_eq_getElem hi, e] at this
  exact this
 ·intro q i hi
  have hi' := List.mem_range.mp hi
  rw [h i hi', List.getD_eq_getElem?_getD, List.getElem?_eq_getElem hi']
  exact q _ (List.getElem_mem hi')
section
variable {X : Cx}
noncomputable def rIsi (K : PySem.W.Frag) : List V -> Hp -> VK -> Prop := fun xs H Q => ∃ x T t b, xs = [x, .ty T] /\ TyOf K H x t /\ PySem.W.kitOne K t (.type T) = some b /\ Q (.bl b) H
theorem call_isi : CallR X (.builtin "isinstance") (rIsi X.K) := by
 intro pins s σ H xs us Q I rs h
 obtain ⟨x, T, t, b, rfl, ty, e, q⟩ := h
 obtain ⟨u, c, rfl, ru, rc⟩ := vals2 rs
 cases (show c = Value.type T from rc)
 exact isinst_ok I ru ty e fun tk => ⟨.bl b, H, I.tok tk, rfl, q⟩
noncomputable def rAll : List V -> Hp -> VK -> Prop := fun xs H Q => ∃ (a : Addr) (bs : List Bool), xs = [.ref a] /\ H a = some (.lst (bs.map V.bl)) /\ Q (.bl (bs.all id)) H
theorem call_all (hc : X.calm = true) : CallR X (.builtin "all") rAll := by
 intro pins s σ H xs us Q I rs h
 obtain ⟨a, bs, rfl, ha, q⟩ := h
 obtain ⟨u, rfl, ru⟩ := vals1 rs
 cases (show u = Value.ref a from ru)
 obtain ⟨hz, its, n, rv, ho⟩ := (show ObjOk X.prog X.w H s.heap a (.lst (bs.map V.bl)) from I.hok a _ ha)
 have hl : s.heap.IsList a its.toArray := ⟨_, ho, rfl, n, rfl⟩
 have hh : X.A.in1.handled = none := I.ok.hd hc
 have hlen : its.length = bs.length := by rw [<- rv.length, List.length_map]
 have hne : a ≠ s.heap.objs.size := Nat.ne_of_lt (Heap.lt_size ho)
 have hit : ∀ (i : Nat) v, its.toArray[i]? = some v -> v = Value.bool (bs.getD i false) := fun i v e => by
  have e' : its[i]? = some v := by simpa using e
  have hi : i < bs.length := by rw [<- hlen]; exact (List.getElem?_eq_some_iff.mp e').1
  obtain ⟨u, hu, ru⟩ := rv.get (i := i) (x := V.bl bs[i]) (by rw [List.getElem?_map, List.getElem?_eq_getElem hi]; rfl)
  rw [e'] at hu; cases hu
  cases (show v = Value.bool bs[i] from ru)
  rw [List.getD_eq_getElem?_getD, List.getElem?_eq_getElem hi]
  rfl
 refine call_all_walk (wpAny_pyIter_list hl ⟨s.heap.objs.size, _, _, _, _, _, fun i => bs.getD i false, rfl, Walks.list hh _ a hne its.toArray, ⟨⟨_, Heap.get?_push_size _ rfl, rfl, rfl⟩, hl.push _⟩, ?_, fun h' tk hk => ?_⟩)
 ·intro i v s' Q' E' hP hQ
  rw [hit i v hP]
  exact wpAny_truthy_bool hQ
 ·refine ⟨.bl (bs.all id), H, I.kept (t' := tk) fun b o e => hk b o ?_ (Heap.get?_push_of_some _ e), ?_, q⟩
  ·exact fun hm => absurd (List.mem_singleton.mp hm) (Nat.ne_of_lt (Heap.lt_size e))
  ·show Value.bool _ = Value.bool _
   have hs : its.toArray.size = bs.length := by simpa using hlen
   rw [hs, range_all_getD _ bs fun i _ => rfl]
end
end L2
namespace L2
open PySem PySem.Spec PyProof.Rows
mutual
inductive Is (H : Hp) : V -> PyData -> Prop
 | non : Is H .non .none
 | bl (b : Bool) : Is H (.bl b) (.bool b)
 | int (i : Int) : Is H (.int i) (.int i)
 | str (x : Str) : Is H (.str x) (.str x)
 | tup {a : Addr} {vs : List V} {ds : List PyData} : H a = some (.tup vs) -> IsAll H vs ds -> Is H (.ref a) (.tuple ds)
 | lst {a : Addr} {vs : List V} {ds : List PyData} : H a = some (.lst vs) -> IsAll H vs ds -> Is H (.ref a) (.list ds)
inductive IsAll (H : Hp) : List V -> List PyData -> Prop
 | nil : IsAll H [] []
 | cons {v : V} {vs : List V} {d : PyData} {ds : List PyData} : Is H v d -> IsAll H vs ds -> IsAll H (v :: vs) (d :: ds)
end
theorem IsAll.ints {H : Hp} : ∀ ns : List Int, IsAll H (ns.map V.int) (ns.map PyData.int)
 | [] => .nil
 | n :: r => .cons (.int n) (IsAll.ints r)
theorem Is.ints {H : Hp} {a : Addr} {ns : List Int} (h : H a = some (.tup (ns.map V.int))) : Is H (.ref a) (.tuple (ns.map PyData.int)) := .tup h (IsAll.ints ns)
section
variable {X : Cx} {pins : List (Addr × Obj)} {σ : St} {H : Hp} {s : Shared}
mutual
theorem Inv.reads (I : Inv X pins σ H s) : ∀ {v : V} {d : PyData} {u : Value}, Is H v d -> RelV v u -> ∃ as, Reads s.heap u d as
 | _, _, _, .non, r => by cases (show _ = Value.none from r); exact ⟨_, .none⟩
 | _, _, _, .bl b, r => by cases (show _ = Value.bool b from r); exact ⟨_, .bool b⟩
 | _, _, _, .int i, r => by obtain ⟨t, rfl⟩ := r; exact ⟨_, .int i t⟩
 | _, _, _, .str x, r => by obtain ⟨t, rfl⟩ := r; exact ⟨_, .str x t⟩
 | _, _, _, .tup (a := a) (vs := vs) h al, r => by
  cases (show _ = Value.ref a from r)
  obtain ⟨_, its, rv, o, ho, hc, ⟨n, hd⟩, _⟩ := (show ObjOk X.prog X.w H s.heap a (.tup vs) from I.hok a _ h)
  obtain ⟨as, q⟩ := Inv.readsAll I al rv
  exact ⟨as, .tuple ho hc hd (by simpa using q)⟩
 | _, _, _, .lst (a := a) (vs := vs) h al, r => by
  cases (show _ = Value.ref a from r)
  obtain ⟨_, its, n, rv, ho⟩ := (show ObjOk X.prog X.w H s.heap a (.lst vs) from I.hok a _ h)
  obtain ⟨as, q⟩ := Inv.readsAll I al rv
  exact ⟨_, .list ho rfl rfl (by simpa using q)⟩
theorem Inv.readsAll (I : Inv X pins σ H s) : ∀ {vs : List V} {ds : List PyData} {us : List Value}, IsAll H vs ds -> Vals vs us -> ∃ as, ReadsAll s.heap us ds as
 | _, _, _, .nil, .nil => ⟨_, .nil⟩
 | _, _, _, .cons h al, .cons r rs => by
  obtain ⟨as, q⟩ := Inv.reads I h r
  obtain ⟨bs, q'⟩ := Inv.readsAll I al rs
  exact ⟨_, .cons q q'⟩
end
noncomputable def rEqD : R2 := fun x y H Q => ∃ d e, Is H x d /\ Is H y e /\ SeqAt.shaped d = true /\ SeqAt.shaped e = true /\ Q (.bl (PyData.eqv d e)) H
theorem op_eqD (hu : X.A.units + 64 < cLine) : OpR X (compareOp .Eq) rEqD := by
 intro pins s σ H x y v u Q I rx ry h
 obtain ⟨d, e, hd, he, sd, se, q⟩ := h
 obtain ⟨as, ra⟩ := I.reads hd rx
 obtain ⟨bs, rb⟩ := I.reads he ry
 exact eq_dataH ra rb sd se hu ⟨.bl _, H, I, rfl, q⟩
end
theorem lay_ints : ∀ ns : List Int, PyData.canLayAll0 (ns.map PyData.int) = true
 | [] => rfl
 | _ :: r => by simp [PyData.canLayAll0, PyData.canLay0, lay_ints r]
theorem deep_ints : ∀ ns : List Int, PyData.depthAll (ns.map PyData.int) = 0
 | [] => rfl
 | _ :: r => by simp [PyData.depthAll, PyData.depth, deep_ints r]
theorem shaped_tints (ns : List Int) : SeqAt.shaped (.tuple (ns.map PyData.int)) = true := by
 simp [SeqAt.shaped, PyData.canLay0, PyData.depth, lay_ints, deep_ints]
theorem eqv_ints : ∀ ns ms : List Int, PyData.eqvAll (ns.map PyData.int) (ms.map PyData.int) = decide (ns = ms)
 | [], [] => by simp [PyData.eqvAll]
 | [], _ :: _ => by simp [PyData.eqvAll]
 | _ :: _, [] => by simp [PyData.eqvAll]
 | a :: r, b :: t => by
  simp only [List.map_cons, PyData.eqvAll, PyData.eqv, eqv_ints r t]
  by_cases h : a = b <;> by_cases h' : r = t <;> simp [h, h']
end L2
namespace L2
open PySem PySem.Spec PyProof.Rows
noncomputable def cscopeB (sc : Scope) (N : List Str) (scope : Scope) (N' : List Str) (n : Nat) (ix : List Nat) : Bool :=
 scope.kind == .function && scope.names.all (fun y => y.2 != .cell) && scope.names.all (fun y => y.2 != .local || scope.names.lookup y.1 == some .local) &&
 scope.names.all (fun y => y.2 != .free || (sc.names.lookup y.1 == some .cell || sc.names.lookup y.1 == some .free)) && scope.names.all (fun y => y.2 != .free || scope.names.lookup y.1 != some .local) &&
 N'.length == n + ix.length && (List.range ix.length).all fun j => match ix[j]?, N'[n + j]? with
  | some i, some x => N[i]? == some x && scope.names.contains (x, .free)
  | _, _ => false
theorem CompScope.of {X : Cx} {sc : Scope} {N : List Str} {scope : Scope} {N' : List Str} {n : Nat} {ix : List Nat} (h : cscopeB sc N scope N' n ix = true) (hs : X.env.scope = sc) (hN : X.N = N) : CompScope X scope N' n ix := by
 unfold cscopeB at h
 simp only [Bool.and_eq_true, List.all_eq_true] at h
 obtain ⟨⟨⟨⟨⟨⟨h1, h2⟩, h3⟩, h4⟩, h5⟩, h6⟩, h7⟩ := h
 subst hs hN
 refine ⟨eq_of_beq h1, fun y hy => by simpa using h2 y hy, fun y hy hl => ?_, fun y hy hf => ?_, fun y hy hl => ?_, eq_of_beq h6, fun j i e => ?_⟩
 ·have := h3 y hy
  rw [hl] at this
  simpa using this
 ·have := h4 y hy
  rw [hf] at this
  simpa using this
 ·have := h5 _ hy
  rw [hl] at this
  simp at this
 ·have hj : j < ix.length := (List.getElem?_eq_some_iff.mp e).1
  have := h7 j (List.mem_range.mpr hj)
  rw [e] at this
  cases hx : N'[n + j]? with
  | none => rw [hx] at this; simp at this
  | some x =>
   rw [hx] at this
   simp only [Bool.and_eq_true] at this
   exact ⟨x, rfl, eq_of_beq this.1, by simpa using this.2⟩
structure Cal (P : Program) (w : World) (K : PySem.W.Frag) (mg : Str -> Option Value) (base : Heap) (k : Nat) (x : Str) (ps : List Str) (sp : Sp) : Prop where
 ex : ∃ f fd, FnOk P w K mg base CX0 k f fd ps sp /\ mg x = some (.ref f) /\ PySem.W.keepIn K (.ref f) = true /\ Binds K fd ps []
section
variable {X : Cx} {k : Nat} {ps : List Str} {sp : Sp} {x : Str} {p pos : Pos} {e : Expr} {es : List Expr} {t : TA}
theorem pe_cal (C : Cal X.prog X.w X.K X.mg X.base k x ps sp) (hr : Room k X.A) (hg : Gl X x) (ha : PA X (e :: es) t) (hdb : (x == ("__debug__" : Str)) = false := by decide) (he : starEach (e :: es) X.env = (false, eval e X.env) :: starEach es X.env := by rfl)
  (hpl : (backTo pos (starEach es X.env)).any (·.1) = false := by rfl) : PE X (.Call (.Name x p) (e :: es) [] pos) (fun σ H Q => t σ H fun vs H1 => sp vs H1 Q E0) := by
 obtain ⟨f, fd, F, hm, hk, hb⟩ := C.ex
 exact (pe_call F hr hg hm hk hb .nil pass0 ha hdb he hpl).mono fun σ H Q q => by
  have e : (fun (vs : List V) (H1 : Hp) => sp (vs ++ []) H1 Q E0) = fun vs H1 => sp vs H1 Q E0 := by funext vs H1; rw [List.append_nil]
  show t σ H fun vs H1 => sp (vs ++ []) H1 Q E0
  rw [e]
  exact q
end
structure Top (mg : Str -> Option Value) : Prop where
 n_len : mg "len" = none
 n_tuple : mg "tuple" = none
 n_list : mg "list" = none
 n_range : mg "range" = none
 n_int : mg "int" = none
 n_bool : mg "bool" = none
 n_isinstance : mg "isinstance" = none
 n_all : mg "all" = none
 n_zip : mg "zip" = none
 n_enumerate : mg "enumerate" = none
 n_min : mg "min" = none
 n_sum : mg "sum" = none
 n_max : mg "max" = none
 n_abs : mg "abs" = none
 n_sorted : mg "sorted" = none
end L2
namespace L2
open PySem PySem.Spec PyProof.Rows
section
variable {X : Cx}
noncomputable def rCat2 : R2 := fun x y H Q => ∃ a b xs ys, x = .ref a /\ y = .ref b /\ H a = some (.tup xs) /\ H b = some (.tup ys) /\ xs.length + ys.length <= sizeLine /\ ∀ p H', Same H H' -> H' p = some (.tup (xs ++ ys)) -> Q (.ref p) H'
theorem op_cat2 : OpR X (binaryOp .Add) rCat2 := by
 intro pins s σ H x y v u Q I rx ry h
 obtain ⟨a, b, xs, ys, rfl, rfl, ha, hb, hz, q⟩ := h
 have ha' : SqT X.K H a xs := SqT.of ha
 have hb' : SqT X.K H b ys := SqT.of hb
 by_cases hx : xs = []
 ·subst hx
  cases rx
  cases ry
  obtain ⟨its, r1, p1, _⟩ := I.tuple ha'
  obtain ⟨its2, r2, p2, _⟩ := I.tuple hb'
  cases r1
  obtain ⟨⟨cls, dd, data, sl⟩, ho, hc, n, hd⟩ := id p1
  obtain ⟨⟨cls2, dd2, data2, sl2⟩, ho2, hc2, n2, hd2⟩ := id p2
  simp only at hc hd hc2 hd2
  subst hc hd hc2 hd2
  exact concat_meets ⟨_, ho, rfl⟩ ⟨_, ho2, rfl⟩ noFill_tuple_add seq_tuple_add PySem.F.slot_tuple_add PySem.F.entry_tuple_add (PySem.F.args_tuple_add_2 _ _)
   (tuple_addW0 a b #[] its2.toArray n n2 dd dd2 sl sl2 rfl) ⟨ho, ho2, ⟨.ref b, H, I, rfl, q b H (Same.refl H) hb⟩⟩
 ·refine op_catT pins s σ H _ _ v u Q I rx ry ⟨a, b, xs, ys, rfl, rfl, ha', hb', hx, hz, fun hy => ?_, fun _ p hp => ?_⟩
  ·subst hy
   exact q a H (Same.refl H) (by rw [List.append_nil]; exact ha)
  ·exact q p _ (same_upd hp) upd_same
end
theorem small1 {n : Nat} (h : n <= 1000) : n < sizeLine := Nat.lt_of_le_of_lt h (by decide)
theorem mapI_len (ns : List Int) : (ns.map V.int).length = ns.length := List.length_map ..
end L2
namespace L2
open PySem PySem.Spec PyProof.Rows
noncomputable def Keep (p q : Addr) (H H' : Hp) : Prop := ∀ b o, H b = some o -> b ≠ p -> b ≠ q -> H' b = some o
theorem Keep.refl (p q : Addr) (H : Hp) : Keep p q H H := fun _ _ h _ _ => h
theorem Keep.trans {p q : Addr} {H H1 H2 : Hp} (a : Keep p q H H1) (b : Keep p q H1 H2) : Keep p q H H2 := fun c o h h1 h2 => b c o (a c o h h1 h2) h1 h2
theorem Same.keep {p q : Addr} {H H' : Hp} (s : Same H H') : Keep p q H H' := fun b o h _ _ => s b o h
noncomputable def num0 (n : Nat) : List Int := (List.range n).map fun (i : Nat) => (i : Int)
end L2
namespace L2
open PySem PySem.Spec PyProof.Rows
end L2
namespace L2
open PySem PySem.Spec PyProof.Rows
theorem kit_tt {K : PySem.W.Frag} {a b : String} {r : Bool} (h : (if (Value.type a == Value.type b) = true then some true else if PySem.W.kitMeta b = true then (fastBuiltinMro a).map (·.contains (Value.type b)) else none) = some r) : PySem.W.kitOne K (.type a) (.type b) = some r := h
theorem pg_pairK {X : Cx} (K : PySem.W.Frag) {i j : Nat} {x y : Str} {px py pt : Pos} {kt : Nat} (hK : X.K = K) (hc : X.calm = true) (hN : X.N.Nodup) (hi : X.N[i]? = some x) (hj : X.N[j]? = some y) (hx : Loc X.env.scope x) (hy : Loc X.env.scope y) (fx : X.fn x = true ∨ X.env.scope.names.lookup x = some .local) (fy : X.fn y = true ∨ X.env.scope.names.lookup y = some .local) :
  PG X (.Tuple [.Name x px, .Name y py] kt pt) (gTup K 2 (gCons (gName i) (gCons (gName j) gNil))) := hK ▸ pg_tup hc (pgs_cons (pg_name hN hi hx fx) (pgs_cons (pg_name hN hj hy fy) pgs_nil))
end L2
namespace L2
open PySem PySem.Spec PyProof.Rows
end L2
namespace L2
open PySem PySem.Spec PyProof.Rows
structure Def (K : PySem.W.Frag) (x : Str) (st : Stmt) : Prop where
 ex : ∃ (f : Addr) (oc : Value) (od an : Option Addr) (kV doc pm cdv ct : Value) (osl : Array (Option Value)), PySem.W.nsIn K mainGlobals x = some (some (.ref f)) /\
  K.lookup f = some ⟨oc, od, .func (PySem.W.fnOf x x (defArgs st) (defBody st) (defScope st) .none kV doc pm an cdv ct), osl⟩ /\ PySem.W.codeIn K cdv x = true /\ PySem.W.keepIn K (.ref f) = true
section
variable {K : PySem.W.Frag} {h : Heap} {mg : Str -> Option Value} {x : Str} {st : Stmt}
theorem Def.of {f : Addr} {oc : Value} {od an : Option Addr} {kV doc pm cdv ct : Value} {osl : Array (Option Value)} (a : PySem.W.nsIn K mainGlobals x = some (some (.ref f)))
  (l : K.lookup f = some ⟨oc, od, .func (PySem.W.fnOf x x (defArgs st) (defBody st) (defScope st) .none kV doc pm an cdv ct), osl⟩) (c : PySem.W.codeIn K cdv x = true) (k : PySem.W.keepIn K (.ref f) = true) : Def K x st :=
 ⟨f, oc, od, an, kV, doc, pm, cdv, ct, osl, a, l, c, k⟩
theorem Def.fn (D : Def K x st) (X : K.In h) (G : h.Ns mainGlobals mg) : ∃ f fd, Fun K x x st f fd /\ mg x = some (.ref f) := by
 obtain ⟨f, oc, od, an, kV, doc, pm, cdv, ct, osl, a, l, c, k⟩ := D.ex
 exact ⟨f, _, fun_mk (st := st) l c k, PySem.W.mg_of X G a⟩
end
structure TopK (K : PySem.W.Frag) : Prop where
 k_len : PySem.W.nsIn K mainGlobals "len" = some none
 k_tuple : PySem.W.nsIn K mainGlobals "tuple" = some none
 k_list : PySem.W.nsIn K mainGlobals "list" = some none
 k_range : PySem.W.nsIn K mainGlobals "range" = some none
 k_int : PySem.W.nsIn K mainGlobals "int" = some none
 k_bool : PySem.W.nsIn K mainGlobals "bool" = some none
 k_isinstance : PySem.W.nsIn K mainGlobals "isinstance" = some none
 k_all : PySem.W.nsIn K mainGlobals "all" = some none
 k_zip : PySem.W.nsIn K mainGlobals "zip" = some none
 k_enumerate : PySem.W.nsIn K mainGlobals "enumerate" = some none
 k_min : PySem.W.nsIn K mainGlobals "min" = some none
 k_sum : PySem.W.nsIn K mainGlobals "sum" = some none
 k_max : PySem.W.nsIn K mainGlobals "max" = some none
 k_abs : PySem.W.nsIn K mainGlobals "abs" = some none
 k_sorted : PySem.W.nsIn K mainGlobals "sorted" = some none
theorem TopK.top {K : PySem.W.Frag} {h : Heap} {mg : Str -> Option Value} (T : TopK K) (X : K.In h) (G : h.Ns mainGlobals mg) : Top mg :=
  ⟨PySem.W.mg_none_of X G T.k_len, PySem.W.mg_none_of X G T.k_tuple, PySem.W.mg_none_of X G T.k_list, PySem.W.mg_none_of X G T.k_range, PySem.W.mg_none_of X G T.k_int, PySem.W.mg_none_of X G T.k_bool, PySem.W.mg_none_of X G T.k_isinstance,
   PySem.W.mg_none_of X G T.k_all, PySem.W.mg_none_of X G T.k_zip, PySem.W.mg_none_of X G T.k_enumerate, PySem.W.mg_none_of X G T.k_min, PySem.W.mg_none_of X G T.k_sum, PySem.W.mg_none_of X G T.k_max, PySem.W.mg_none_of X G T.k_abs, PySem.W.mg_none_of X G T.k_sorted⟩
end L2
namespace L2
open PySem PySem.Spec PyProof.Rows
open Sem (wp)
open AutoSeq1 (wpAny_loadPart')
section
variable {prog : Program} {w : World} {A : Around} {E : Value -> Shared -> Prop} {s : Shared}
end
section
variable {X : Cx}
end
end L2
namespace L2
open PySem PySem.Spec PyProof.Rows
open Sem (wp)
open AutoSeq1 (wpAny_loadPart')
section
variable {prog : Program} {w : World} {A : Around} {E : Value -> Shared -> Prop} {s : Shared}
end
section
variable {X : Cx} {pos : Pos}
end
section
variable {prog : Program} {w : World} {A : Around} {E : Value -> Shared -> Prop} {s : Shared}
end
section
variable {X : Cx}
end
end L2
namespace L2
open PySem PySem.Spec PyProof.Rows
noncomputable def atO (ns : List Int) (x : Int) : Int := ns.getD x.toNat 0
section
variable {m : Nat} {ns ms ks : List Int} {x : Int}
end
end L2
namespace L2
open PySem PySem.Spec PyProof.Rows
noncomputable def itO (ns : List Int) (x : Int) : Nat -> Int
 | 0 => x
 | k + 1 => atO ns (itO ns x k)
noncomputable def orbO (ns : List Int) (x : Int) (k : Nat) : List Int := (List.range k).map (itO ns x)
structure IsRound (ns : List Int) (x : Int) (row : List Int) : Prop where
 ex : ∃ k, row = orbO ns x (k + 1) /\ itO ns x (k + 1) = x
 nd : row.Nodup
section
variable {m : Nat} {ns : List Int} {x y : Int}
open Classical in
noncomputable def rowO (ns : List Int) (x : Int) : List Int := if h : ∃ row, IsRound ns x row then choose h else []
structure MetO (ns : List Int) (m : Nat) (rows : List (List Int)) : Prop where
 nd : rows.flatten.Nodup
 rng : ∀ y ∈ rows.flatten, 0 <= y /\ y < m
 clo : ∀ y ∈ rows.flatten, atO ns y ∈ rows.flatten
 row : ∀ r ∈ rows, ∃ f : Int, 0 <= f /\ f < m /\ r = rowO ns f
end
end L2
namespace L2
open PySem PySem.Spec PyProof.Rows
section
variable {X : Cx}
end
section
variable {prog : Program} {w : World} {A : Around} {E : Value -> Shared -> Prop} {s : Shared}
theorem getItem_tuple_whole {t sl : Addr} {items : Array Value} {vl vu : Value} {lo hi : Option Int} {Q : Value -> Shared -> Prop} (ht : IsTup s.heap t items) (hs : s.heap.IsSliceOf sl vl vu .none) (pl : IsPart vl lo) (pu : IsPart vu hi)
  (hw : HT.sIx items.size 0 lo = 0 /\ HT.sIx items.size items.size hi = items.size) (h : Q (.ref t) s) : wpAny (model prog w) A (getItem (.ref t) (.ref sl)) Q E s := by
 obtain ⟨os, hos, hcs, hds⟩ := id hs
 have hTs : s.TypeIs (.ref sl) "slice" := ⟨os, hos, hcs⟩
 unfold getItem
 try with_reducible refine wpAny_holding ?_
 first | refine wpAny_bind (wpAny_pure ?_) | skip
 refine wpAny_bind (wpAny_sequenceKey ht.typeIs (by decide) ?_)
 refine wpAny_bind (wpAny_callSpecial?_slot (name := Str.ofString "__getitem__") ht.typeIs PyProof.Rows.slot_tuple_getitem
  (wpAny_call_entry PyProof.Rows.slot_tuple_getitem ht.typeIs entry_tuple_getitem ?_ (args_tuple_getitem _ _)))
 show wpAny _ _ (Builtin.Tuple.tupleItemsOf (.ref t) >>= _) _ _ s
 refine wpAny_bind (tupleItemsOf_ ht ?_)
 refine wpAny_bind (wpAny_typeOf hTs ?_)
 rw [if_pos (by decide)]
 refine wpAny_bind (HT.sliceApplied_gen hs pl pu ?_)
 show wpAny _ _ (if (((HT.sIx items.size 0 lo : Nat) : Int) == 0 && (1 : Int) == 1 && (HT.sIx items.size items.size hi - HT.sIx items.size 0 lo) == items.size) = true then _ else _) _ _ s
 rw [if_pos (by rw [hw.1, hw.2]; simp)]
 unfold Builtin.Tuple.tupleIsExact
 refine wpAny_bind (wpAny_bind (wpAny_typeOf ht.typeIs (wpAny_pure ?_)))
 rw [if_pos (by decide)]
 refine wpAny_bind (wpAny_rule ?_)
 exact wpAny_pure ⟨_, rfl, wpAny_pure h⟩
end
section
variable {X : Cx} {e : Expr} {te : TE} {p2 pos : Pos}
end
end L2
namespace L2
open PySem PySem.Spec PyProof.Rows
structure Bits (bs : List Bool) (m : Nat) (S : List Int) : Prop where
 len : bs.length = m
 bit : ∀ i, i < m -> bs[i]? = some (decide ((i : Int) ∈ S))
end L2
namespace L2
open PySem PySem.Spec PyProof.Rows
inductive Ents (P : Params) : List DictEntry -> List (Str × Addr) -> Prop
 | nil : Ents P [] []
 | cons {x : Str} {t : Tok} {f : Addr} {es : List DictEntry} {kvs : List (Str × Addr)} : Ents P es kvs -> Ents P (⟨PyData.keyHash P x, .str x t, .ref f⟩ :: es) ((x, f) :: kvs)
structure GDict (K : PySem.W.Frag) (P : Params) (C : Addr) (kvs : List (Str × Addr)) : Prop where
 ex : ∃ es n, K.lookup C = some { cls := .type "dict", data := .dict es n } /\ Ents P es.toList kvs
 nd : (kvs.map (·.1)).Nodup
theorem Ents.keys {prog : Program} {w : World} : ∀ {es : List DictEntry} {kvs : List (Str × Addr)}, Ents w.params es kvs -> ∀ e ∈ es, ∃ k, (PySem.strKind prog w).is k e.key = true /\ e.hash = (PySem.strKind prog w).hash k
 | _, _, .nil, _, h => by cases h
 | _, _, .cons (x := x) t, e, h => by
  rcases List.mem_cons.mp h with rfl | h
  ·exact ⟨x, by simp [PySem.strKind, Value.isStrOf], rfl⟩
  ·exact Ents.keys t e h
theorem Ents.pairs {prog : Program} {w : World} : ∀ {es : List DictEntry} {kvs : List (Str × Addr)}, Ents w.params es kvs -> Pairs (PySem.strKind prog w) es (kvs.map fun kv => (kv.1, Value.ref kv.2))
 | _, _, .nil => .nil
 | _, _, .cons t => .cons (by simp [PySem.strKind, Value.isStrOf]) rfl (Ents.pairs t)
theorem value_lookup : ∀ (kvs : List (Str × Addr)) (x : Str), valueAt (kvs.map fun kv => (kv.1, Value.ref kv.2)) x = (kvs.lookup x).map Value.ref
 | [], _ => rfl
 | (y, f) :: t, x => by
  have ih := value_lookup t x
  unfold valueAt at ih ⊢
  rw [List.map_cons, List.find?_cons, List.lookup_cons]
  by_cases h : y = x
  ·subst h
   simp
  ·have h2 : (x == y) = false := beq_eq_false_iff_ne.mpr fun z => h z.symm
   simp only [decide_eq_false h, h2]
   exact ih
section
variable {X : Cx}
noncomputable def rGd (K : PySem.W.Frag) (P : Params) : R2 := fun x y H Q => ∃ C kvs z f, x = .ref C /\ y = .str z /\ GDict K P C kvs /\ kvs.lookup z = some f /\ Q (.ref f) H
theorem ix_gd : IxR X (rGd X.K X.w.params) := by
 intro value slice pins s σ H x y v u Q I rx ry h hs
 obtain ⟨C, kvs, z, f, rfl, rfl, ⟨⟨es, n, hk, en⟩, nd⟩, hl, q⟩ := h
 cases rx
 obtain ⟨t, rfl⟩ := ry
 have hg := I.kIn C _ hk
 have hD : s.heap.DictOf (PySem.strKind X.prog X.w) C (kvs.map fun kv => (kv.1, Value.ref kv.2)) :=
  ⟨_, es, n, hg, ⟨rfl, rfl, rfl⟩, rfl, fun e he => en.keys e (by simpa using he), en.pairs, by rw [List.map_map]; exact nd⟩
 have fin : EP X pins σ Q (.ref f) { s with toks := s.toks + 1 } := ⟨.ref f, H, I.tok _, rfl, q⟩
 exact subscriptTail_builtinR (x := .ref f) hD.typeIs PySem.F.slot_dict_getitem.lookup
  (wpAny_getItem_of (k := z) (knd := PySem.strKind X.prog X.w) (Q := fun r s' => r = .ref f /\ EP X pins σ Q r s') (by simp [PySem.strKind, Value.isStrOf]) hD.mapOf (by rw [value_lookup, hl]; rfl) ⟨rfl, fin⟩) hs
end
structure CalF (P : Program) (w : World) (K : PySem.W.Frag) (mg : Str -> Option Value) (base : Heap) (k : Nat) (f : Addr) (ps : List Str) (sp : Sp) : Prop where
 ex : ∃ fd, FnOk P w K mg base CX0 k f fd ps sp /\ PySem.W.keepIn K (.ref f) = true /\ Binds K fd ps []
section
variable {X : Cx} {k : Nat} {x : Str} {p pos : Pos} {e : Expr} {es : List Expr} {t : TA} {tf : TE}
noncomputable def tCallV (P : Program) (w : World) (K : PySem.W.Frag) (mg : Str -> Option Value) (base : Heap) (k : Nat) (tf : TE) (t : TA) : TE := fun σ H Q => tf σ H fun v H1 => ∃ f ps sp, v = .ref f /\ CalF P w K mg base k f ps sp /\ t σ H1 fun vs H2 => sp vs H2 Q E0
theorem pe_callV (hf : PE X (.Name x p) tf) (hr : Room k X.A) (ha : PA X (e :: es) t) (he : starEach (e :: es) X.env = (false, eval e X.env) :: starEach es X.env := by rfl)
  (hpl : (backTo pos (starEach es X.env)).any (·.1) = false := by rfl) : PE X (.Call (.Name x p) (e :: es) [] pos) (tCallV X.prog X.w X.K X.mg X.base k tf t) := by
 intro pins s σ H Q I h
 refine wpAny_Call_Name_kw (thn (hf pins s σ H _ I h) fun v s1 zq => ?_)
 obtain ⟨y, H1, I1, r1, f, ps, sp, ey, ⟨fd, F, hk, hb⟩, q1⟩ := zq
 subst ey
 cases (show v = Value.ref f from r1)
 refine PySem.W.callWith_K (h₀ := X.base) I1.ok.mod.kin hk (thn (ha pos pins s1 σ H1 _ I1 q1) fun us s2 ⟨vs, H2, I2, r2, q2⟩ => ⟨I2.kIn, ?_⟩) he hpl
 exact run_fn F hr hb .nil pass0 I2 r2 (by rw [List.append_nil]; exact q2)
end
end L2
namespace L2
open PySem PySem.Spec PyProof.Rows
section
variable {prog : Program} {w : World} {A : Around} {R : Result -> Shared -> Prop} {s : Shared} {elt tg iter tg2 iter2 : Expr} {ifs ifs2 : List Expr} {scope : Scope} {pos : Pos} {it acc : Value} {env : Env}
end
end L2
namespace L2
open PySem PySem.Spec PyProof.Rows
section
variable {X : Cx} {elt tg iter tg2 iter2 : Expr} {ifs ifs2 : List Expr} {scope : Scope} {pos : Pos} {wi wi2 : TI} {g g2 : TG} {tt tt2 : TT} {te : TE} {N' : List Str} {n : Nat} {ix : List Nat}
end
end L2
namespace L2
open PySem PySem.Spec PyProof.Rows
section
variable {X : Cx}
end
end L2
namespace L2
open PySem PySem.Spec PyProof.Rows
end L2
namespace L2
open PySem PySem.Spec PyProof.Rows
section
variable {X : Cx}
noncomputable def rSlA : V -> Option Int -> Option Int -> Hp -> VK -> Prop := fun x lo hi H Q => ∃ a xs, x = .ref a /\ H a = some (.tup xs) /\ ∀ p H', Same H H' -> H' p = some (.tup (cutV xs lo hi)) -> Q (.ref p) H'
theorem sl_tupA : SlR X rSlA := by
 intro pins s σ H x v vl vu lo hi sl Q I rx hs pl pu h
 obtain ⟨a, xs, rfl, ha, q⟩ := h
 by_cases hw : HT.sIx xs.length 0 lo = 0 /\ HT.sIx xs.length xs.length hi = xs.length
 ·cases rx
  obtain ⟨its, r, ht, hz⟩ := I.tuple (SqT.of (K := X.K) ha)
  have hl : its.toArray.size = xs.length := by rw [List.size_toArray]; exact r.length.symm
  refine ⟨"tuple", _, PyProof.Rows.slot_tuple_getitem.lookup, ht.typeIs, ?_⟩
  refine getItem_tuple_whole ht hs pl pu (by rw [hl]; exact hw) ⟨.ref a, H, I, rfl, q a H (Same.refl H) ?_⟩
  unfold cutV
  rw [hw.1, hw.2, List.drop_zero, Nat.sub_zero, List.take_length]
  exact ha
 ·exact sl_tup pins s σ H _ v vl vu lo hi sl Q I rx hs pl pu ⟨a, xs, rfl, SqT.of ha, hw, fun p hp => q p _ (same_upd hp) upd_same⟩
end
section
variable {X : Cx} {elt tg iter tg2 iter2 : Expr} {ifs ifs2 : List Expr} {scope : Scope} {pos : Pos} {wi wi2 : TI} {g g2 : TG} {tt tt2 : TT} {te : TE} {N' : List Str} {n : Nat} {ix : List Nat}
end
end L2
namespace L2
open PySem PySem.Spec PyProof.Rows
noncomputable def freeO (m : Nat) (b : List Int) : List Int := (num0 m).filter fun x => decide (x ∉ b)
structure Beg (m k : Nat) (b : List Int) : Prop where
 len : b.length = k
 nd : b.Nodup
 rng : ∀ y ∈ b, 0 <= y /\ y < m
 free : (freeO m b).length + k = m
end L2
namespace L2
open PySem PySem.Spec PyProof.Rows
end L2
namespace L2
open PySem PySem.Spec PyProof.Rows
end L2
namespace L2
open PySem PySem.Spec PyProof.Rows
section
variable {X : Cx}
end
end L2
namespace L2
open PySem PySem.Spec PyProof.Rows
end L2
namespace L2
open PySem PySem.Spec PyProof.Rows
structure Heaps (ns : List Int) (L : List Int) (es : List Int) : Prop where
 inc : L.Pairwise (· < ·)
 len : es.length = ns.length
 up : ∀ (j : Nat) a, L[j]? = some a -> ∃ k : Nat, ns[k]? = some a /\ es[k]? = some ((j : Int) + 1)
 dn : ∀ (k : Nat) e, es[k]? = some e -> ∃ (j : Nat) (a b : Int), e = (j : Int) + 1 /\ L[j]? = some a /\ ns[k]? = some b /\ a <= b
end L2
namespace L2
open PySem PySem.Spec PyProof.Rows
structure CompScopeZ (X : Cx) (scope : Scope) (N' : List Str) (n : Nat) (ix : List Nat) (z : Str) : Prop where
 kind : scope.kind = .function
 onecell : ∀ y ∈ scope.names, y.2 = .cell -> y.1 = z
 nz : ∀ y : Str, (y, NameKind.free) ∈ scope.names -> y ≠ z
 cf : ∀ (a : Addr) (cl : List (Str × Addr)), cellsFrom a scope.names cl = (z, a) :: cl
 pc : ∀ h : Heap, pushCells h scope.names = h.push { cls := .type "cell", data := .cell none }
 names : ∀ y ∈ scope.names, y.2 = .local -> scope.names.lookup y.1 = some .local
 free : ∀ y ∈ scope.names, y.2 = .free -> X.env.scope.names.lookup y.1 = some .cell ∨ X.env.scope.names.lookup y.1 = some .free
 nodup : ∀ y : Str, (y, NameKind.free) ∈ scope.names -> scope.names.lookup y = some .local -> False
 len : N'.length = n + ix.length
 at_ : ∀ (j i : Nat), ix[j]? = some i -> ∃ x, N'[n + j]? = some x /\ X.N[i]? = some x /\ (x, NameKind.free) ∈ scope.names
section
variable {X : Cx} {pins : List (Addr × Obj)} {σ : St} {H : Hp} {s : Shared}
end
section
variable {X : Cx} {elt tg iter : Expr} {ifs : List Expr} {scope : Scope} {pos : Pos} {wi : TI} {g : TG} {tt : TT} {te : TE} {N' : List Str} {n : Nat} {ix : List Nat}
end
end L2
namespace L2
open PySem PySem.Spec PyProof.Rows
mutual
inductive IsK (K : PySem.W.Frag) (H : Hp) : V -> PyData -> Prop
 | non : IsK K H .non .none
 | bl (b : Bool) : IsK K H (.bl b) (.bool b)
 | int (i : Int) : IsK K H (.int i) (.int i)
 | str (x : Str) : IsK K H (.str x) (.str x)
 | tup {a : Addr} {vs : List V} {ds : List PyData} : SqT K H a vs -> IsAllK K H vs ds -> IsK K H (.ref a) (.tuple ds)
 | lst {a : Addr} {vs : List V} {ds : List PyData} : H a = some (.lst vs) -> IsAllK K H vs ds -> IsK K H (.ref a) (.list ds)
inductive IsAllK (K : PySem.W.Frag) (H : Hp) : List V -> List PyData -> Prop
 | nil : IsAllK K H [] []
 | cons {v : V} {vs : List V} {d : PyData} {ds : List PyData} : IsK K H v d -> IsAllK K H vs ds -> IsAllK K H (v :: vs) (d :: ds)
end
section
variable {X : Cx} {pins : List (Addr × Obj)} {σ : St} {H : Hp} {s : Shared}
end
noncomputable def rIsiA (K : PySem.W.Frag) : List V -> Hp -> VK -> Prop := fun xs H Q => ∃ x T t b, xs = [x, .ty T] /\ (TyOf K H x t ∨ ∃ a ys, x = .ref a /\ SqT K H a ys /\ t = .type "tuple") /\ PySem.W.kitOne K t (.type T) = some b /\ Q (.bl b) H
theorem call_isiA {X : Cx} : CallR X (.builtin "isinstance") (rIsiA X.K) := by
 intro pins s σ H xs us Q I rs h
 obtain ⟨x, T, t, b, rfl, ty, hk, q⟩ := h
 rcases ty with ty | ⟨a, ys, rfl, hq, rfl⟩
 ·exact call_isi pins s σ H _ us Q I rs ⟨x, T, t, b, rfl, ty, hk, q⟩
 ·obtain ⟨u, u', rfl, ru, ru'⟩ := vals2 rs
  cases (show u = Value.ref a from ru)
  cases (show u' = Value.type T from ru')
  obtain ⟨its, _, ⟨o, h1, h2, _⟩, _⟩ := I.tuple hq
  exact PySem.W.kia_one PySem.W.kitx_tuple I.kIn ⟨o, h1, h2⟩ hk (fun z => nomatch z) fun tk => ⟨.bl b, H, I.tok _, rfl, q⟩
theorem Same.seqT {K : PySem.W.Frag} {H H' : Hp} {a : Addr} {xs : List V} (e : Same H H') (h : SqT K H a xs) : SqT K H' a xs := by
 rcases h with (h | ⟨o, h⟩) | h
 ·exact .inl (.inl (e _ _ h))
 ·exact .inl (.inr ⟨o, e _ _ h⟩)
 ·exact .inr h
end L2
namespace L2
open PySem PySem.Spec PyProof.Rows
end L2
namespace L2
open PySem PySem.Spec PyProof.Rows
end L2
namespace L2
open PySem PySem.Spec PyProof.Rows
end L2
namespace L2
open PySem PySem.Spec PyProof.Rows
section
variable {X : Cx}
end
end L2
namespace L2
open PySem PySem.Spec PyProof.Rows
end L2
namespace L2
open PySem PySem.Spec PyProof.Rows
end L2
namespace L2
end L2
namespace L2
open PySem PySem.Spec PyProof.Rows
end L2
namespace L2
open PySem PySem.Spec PyProof.Rows
end L2
namespace L2
open PySem PySem.Spec PyProof.Rows
theorem GDict.of {K : PySem.W.Frag} {P : Params} {C : Addr} {kvs : List (Str × Addr)} {es : Array DictEntry} {n : Nat} (l : K.lookup C = some { cls := .type "dict", data := .dict es n }) (en : Ents P es.toList kvs) (nd : (kvs.map (·.1)).Nodup) : GDict K P C kvs := ⟨⟨es, n, l, en⟩, nd⟩
theorem CalF.of {P : Program} {w : World} {K : PySem.W.Frag} {mg : Str -> Option Value} {base : Heap} {k k' : Nat} {x : Str} {f : Addr} {ps : List Str} {sp : Sp} (C : Cal P w K mg base k x ps sp) (h : mg x = some (.ref f)) (hk : k <= k') : CalF P w K mg base k' f ps sp := by
 obtain ⟨f', fd, F, hm, kp, hb⟩ := C.ex
 rw [h] at hm
 cases hm
 exact ⟨fd, F.mono hk, kp, hb⟩
theorem sqT_ofK {K : PySem.W.Frag} {a : Addr} {xs : List V} {its : Array Value} {n : Nat} (l : K.lookup a = some { cls := .type "tuple", data := .seq its n }) (hz : its.size <= sizeLine) (r : Vals xs its.toList) : ∀ H, SqT K H a xs := fun _ => .inr ⟨_, its, n, l, rfl, rfl, hz, r⟩
end L2
namespace L2
open PySem PySem.Spec PyProof.Rows
theorem op_powW {X : Cx} : OpR X (binaryOp .Pow) (rI (fun i j => 0 <= j /\ (Builtin.Int.intBits i : Int) * j <= 2 ^ 27) fun i j => .int (i ^ j.toNat)) := opI fun _ _ _ _ _ _ _ hc q => pow_int hc.1 hc.2 q
structure TopX (mg : Str -> Option Value) : Prop where
 n_str : mg "str" = none
 n_repr : mg "repr" = none
 n_divmod : mg "divmod" = none
structure TopXK (K : PySem.W.Frag) : Prop where
 k_str : PySem.W.nsIn K mainGlobals "str" = some none
 k_repr : PySem.W.nsIn K mainGlobals "repr" = some none
 k_divmod : PySem.W.nsIn K mainGlobals "divmod" = some none
theorem TopXK.top {K : PySem.W.Frag} {h : Heap} {mg : Str -> Option Value} (T : TopXK K) (X : K.In h) (G : h.Ns mainGlobals mg) : TopX mg :=
 ⟨PySem.W.mg_none_of X G T.k_str, PySem.W.mg_none_of X G T.k_repr, PySem.W.mg_none_of X G T.k_divmod⟩
noncomputable def Pot2 (H : Hp) (p : Addr) : Prop := ∃ own mixed : Int, H p = some (.lst [.int own, .int mixed]) /\ 0 <= own /\ 0 <= mixed /\ mixed < 18446744073709551557
theorem Pot2.same {p : Addr} {H H' : Hp} (h : Pot2 H p) (s : Same H H') : Pot2 H' p := by
 obtain ⟨o, m, h1, h2⟩ := h
 exact ⟨o, m, s _ _ h1, h2⟩
noncomputable def spPot2 (K : PySem.W.Frag) : Sp := fun vs H Q _ => ∃ (a : Addr) (ns : List Int) (k : Int), vs = [.ref a, .int k] /\ SqL K H a (ns.map V.int) /\ 0 <= k /\ k <= 1000 /\ ∀ p H', Same H H' -> Pot2 H' p -> H p = none -> Q (.ref p) H'
noncomputable def spNext2 : Sp := fun vs H Q _ => ∃ (p : Addr) (m : Int), vs = [.ref p, .int m] /\ 0 < m /\ m < 1073741824 /\ Pot2 H p /\ ∀ d H', 0 <= d -> d < m -> Pot2 H' p -> Keep p p H H' -> Q (.int d) H'
noncomputable def spOf2 : Sp := fun vs H Q _ => ∃ (p l : Addr) (xs : List V), vs = [.ref p, .ref l] /\ H l = some (.lst xs) /\ l ≠ p /\ 0 < xs.length /\ xs.length <= 1000 /\ Pot2 H p /\ ∀ x ∈ xs, ∀ H', Pot2 H' p -> Keep p p H H' -> Q x H'
theorem far2_bits : Builtin.Int.intBits (((10 : Int) ^ (60 : Int).toNat) ^ (15 : Int).toNat) <= 3616 := by
 have h10 : Builtin.Int.intBits (10 : Int) <= 4 := intBits_le_iff.mpr (by decide)
 have h1 : Builtin.Int.intBits ((10 : Int) ^ (60 : Int).toNat) <= 241 := intBits_pow_le h10 60
 exact intBits_pow_le h1 15
theorem far2_pow : (Builtin.Int.intBits ((10 : Int) ^ (60 : Int).toNat) : Int) * 15 <= 2 ^ 27 := by
 have h10 : Builtin.Int.intBits (10 : Int) <= 4 := intBits_le_iff.mpr (by decide)
 have h1 : Builtin.Int.intBits ((10 : Int) ^ (60 : Int).toNat) <= 241 := intBits_pow_le h10 60
 (first | lia | omega)
theorem far2_pos : (0 : Int) < ((10 : Int) ^ (60 : Int).toNat) ^ (15 : Int).toNat := Int.pow_pos (Int.pow_pos (by decide))
theorem pot2_bits {F r k e : Int} (hF : Builtin.Int.intBits F <= 3616) (r0 : 0 <= r) (r1 : r < F) (k0 : 0 <= k) (k1 : k <= 1000) (e0 : 0 <= e) (e1 : e <= 1) : (Builtin.Int.intBits (2 * r + e + 7919 * k + 13) : Int) * 3 <= 2 ^ 27 := by
 have h1 := intBits_le_iff.mp hF
 have h3 : 2 ^ 3616 * 2 + 7920000 <= 2 ^ 3700 := by decide +kernel
 have h2 : Builtin.Int.intBits (2 * r + e + 7919 * k + 13) <= 3700 := by
  refine intBits_le_iff.mpr ?_
  generalize (2 : Nat) ^ 3616 = N at *
  generalize (2 : Nat) ^ 3700 = M at *
  (first | lia | omega)
 (first | lia | omega)
end L2
namespace L2
open PySem PySem.Spec PyProof.Rows
end L2
namespace L2
open PySem PySem.Spec PyProof.Rows
end L2
namespace L2
open PySem PySem.Spec PyProof.Rows
end L2
namespace L2
open PySem PySem.Spec PyProof.Rows
noncomputable abbrev Sm (x : Int) (n : Nat) : Prop := Builtin.Int.intBits x <= n
theorem Sm.of {x : Int} {n : Nat} (h : x.natAbs < 2 ^ n) : Sm x n := intBits_le_iff.mpr h
theorem Sm.lt {x : Int} {n : Nat} (h : Sm x n) : x.natAbs < 2 ^ n := intBits_le_iff.mp h
theorem Sm.mono {x : Int} {m n : Nat} (h : Sm x m) (k : m <= n) : Sm x n := Nat.le_trans h k
theorem Sm.mul {x y : Int} {m n : Nat} (h : Sm x m) (k : Sm y n) : Sm (x * y) (m + n) := by
 refine Sm.of ?_
 rw [Int.natAbs_mul, Nat.pow_add]
 have h1 := h.lt
 have h2 := k.lt
 exact Nat.lt_of_le_of_lt (Nat.mul_le_mul_right _ (Nat.le_of_lt h1)) (Nat.mul_lt_mul_of_pos_left h2 (Nat.two_pow_pos _))
theorem Sm.sub {x y : Int} {n : Nat} (h : Sm x n) (k : Sm y n) : Sm (x - y) (n + 1) := by
 refine Sm.of ?_
 have h1 := h.lt
 have h2 := k.lt
 rw [Nat.pow_succ]
 generalize (2 : Nat) ^ n = N at *
 (first | lia | omega)
theorem Sm.le {x y : Int} {n : Nat} (h : Sm y n) (k : x.natAbs <= y.natAbs) : Sm x n := Sm.of (Nat.lt_of_le_of_lt k h.lt)
theorem op_mulC {X : Cx} : OpR X (binaryOp .Mult) (rI (fun i j => Sm i 8000 /\ Sm j 8000) fun i j => .int (i * j)) := opI fun _ _ _ _ _ _ _ hc q => mul_int q (IntMulOk.of_le hc.1 hc.2 (by decide))
theorem op_fdivC {X : Cx} : OpR X (binaryOp .FloorDiv) (rI (fun _ j => 0 < j /\ Sm j 8000) fun i j => .int (i / j)) := opI fun i j _ _ _ _ _ hc q => by
 have e : i / j = i.fdiv j := (Int.fdiv_eq_ediv_of_nonneg _ (Int.le_of_lt hc.1)).symm
 rw [e] at q
 have h1 := hc.1
 refine floordiv_int (by (first | lia | omega)) q (.inl (PyProof.noPylong_of_log2 ?_))
 have h0 : j.natAbs ≠ 0 := by (first | lia | omega)
 rw [Nat.log2_lt h0]
 exact (hc.2.mono (by decide)).lt
noncomputable def gcdZ (a b : Int) : Int := (Int.gcd a b : Int)
noncomputable def lowZ (a b : Int) : Int × Int := (a / gcdZ a b, b / gcdZ a b)
theorem gcdZ_pos {a b : Int} (h : 0 < b) : 0 < gcdZ a b := by
 unfold gcdZ
 have := Int.gcd_pos_of_ne_zero_right (a := a) (b := b) (by (first | lia | omega))
 (first | lia | omega)
theorem gcdZ_le {a b : Int} (h : 0 < b) : gcdZ a b <= b := Int.le_of_dvd h (Int.gcd_dvd_right ..)
theorem gcdZ_step {a b : Int} (h : 0 < b) : gcdZ b (a % b) = gcdZ a b := by
 unfold gcdZ
 have e : a % b = a + b * (-(a / b)) := by
  have := Int.mul_ediv_add_emod a b
  have e2 : b * (-(a / b)) = -(b * (a / b)) := Int.mul_neg ..
  (first | lia | omega)
 rw [e, Int.gcd_add_mul_left_right, Int.gcd_comm]
theorem gcdZ_zero {a : Int} (h : 0 <= a) : gcdZ a 0 = a := by
 unfold gcdZ
 rw [Int.gcd_zero_right]
 (first | lia | omega)
theorem low1 {a b : Int} : (lowZ a b).1 * gcdZ a b = a := Int.ediv_mul_cancel (Int.gcd_dvd_left ..)
theorem low2 {a b : Int} : (lowZ a b).2 * gcdZ a b = b := Int.ediv_mul_cancel (Int.gcd_dvd_right ..)
theorem low_pos {a b : Int} (h : 0 < b) : 0 < (lowZ a b).2 := by
 have h1 := gcdZ_pos (a := a) h
 have h2 := low2 (a := a) (b := b)
 refine Int.pos_of_mul_pos_left ?_ h1
 rw [h2]; exact h
theorem low_cross {a b : Int} (h : 0 < b) : (lowZ a b).1 * b = a * (lowZ a b).2 := by
 have h1 := low1 (a := a) (b := b)
 have h2 := low2 (a := a) (b := b)
 generalize (lowZ a b).1 = x at *
 generalize (lowZ a b).2 = y at *
 generalize gcdZ a b = g at *
 subst h1 h2
 rw [Int.mul_assoc, Int.mul_comm g y]
theorem low_scale {a b c : Int} (hb : 0 < b) (hc : 0 < c) : lowZ (a * c) (b * c) = lowZ a b := by
 unfold lowZ gcdZ
 rw [Int.gcd_mul_right]
 have e : (((a.gcd b * c.natAbs : Nat)) : Int) = (a.gcd b : Int) * c := by
  rw [Int.natCast_mul]
  congr 1
  (first | lia | omega)
 rw [e, Int.mul_ediv_mul_of_pos_left _ _ hc, Int.mul_ediv_mul_of_pos_left _ _ hc]
theorem low_eq {a b c d : Int} (hb : 0 < b) (hd : 0 < d) (h : a * d = c * b) : lowZ a b = lowZ c d := by
 rw [<- low_scale hb hd, <- low_scale hd hb, h, Int.mul_comm b d]
theorem low_low {a b : Int} (hb : 0 < b) : lowZ (lowZ a b).1 (lowZ a b).2 = lowZ a b := low_eq (low_pos hb) hb (low_cross hb)
theorem low_abs1 {a b : Int} (h : 0 < b) : (lowZ a b).1.natAbs <= a.natAbs := by
 have h1 := low1 (a := a) (b := b)
 have h2 := gcdZ_pos (a := a) h
 generalize (lowZ a b).1 = x at *
 generalize gcdZ a b = g at *
 subst h1
 rw [Int.natAbs_mul]
 exact Nat.le_mul_of_pos_right _ (by (first | lia | omega))
theorem low_abs2 {a b : Int} (h : 0 < b) : (lowZ a b).2.natAbs <= b.natAbs := by
 have h1 := low2 (a := a) (b := b)
 have h2 := gcdZ_pos (a := a) h
 generalize (lowZ a b).2 = x at *
 generalize gcdZ a b = g at *
 subst h1
 rw [Int.natAbs_mul]
 exact Nat.le_mul_of_pos_right _ (by (first | lia | omega))
theorem low_lt {a b c d : Int} (hb : 0 < b) (hd : 0 < d) : (lowZ a b).1 * (lowZ c d).2 < (lowZ c d).1 * (lowZ a b).2 ↔ a * d < c * b := by
 have h1 := low1 (a := a) (b := b)
 have h2 := low2 (a := a) (b := b)
 have h3 := low1 (a := c) (b := d)
 have h4 := low2 (a := c) (b := d)
 have g1 := gcdZ_pos (a := a) hb
 have g2 := gcdZ_pos (a := c) hd
 generalize (lowZ a b).1 = x at *
 generalize (lowZ a b).2 = y at *
 generalize (lowZ c d).1 = z at *
 generalize (lowZ c d).2 = u at *
 generalize gcdZ a b = g at *
 generalize gcdZ c d = k at *
 subst h1 h2 h3 h4
 have e1 : x * g * (u * k) = (x * u) * (g * k) := by rw [Int.mul_assoc, Int.mul_assoc, Int.mul_left_comm g u k]
 have e2 : z * k * (y * g) = (z * y) * (g * k) := by rw [Int.mul_assoc, Int.mul_assoc, Int.mul_left_comm k y g, Int.mul_comm k g]
 rw [e1, e2]
 exact (Int.mul_lt_mul_right (Int.mul_pos g1 g2)).symm
noncomputable abbrev Shr (H : Hp) (z : Addr) (p : Int × Int) : Prop := H z = some (.tup [.int p.1, .int p.2])
structure ShB (p : Int × Int) (n : Nat) : Prop where
 pos : 0 < p.2
 s1 : Sm p.1 n
 s2 : Sm p.2 n
theorem ShB.mono {p : Int × Int} {m n : Nat} (h : ShB p m) (k : m <= n) : ShB p n := ⟨h.pos, h.s1.mono k, h.s2.mono k⟩
theorem ShB.low {a b : Int} {n : Nat} (h : 0 < b) (ha : Sm a n) (hb : Sm b n) : ShB (lowZ a b) n := ⟨low_pos h, ha.le (low_abs1 h), hb.le (low_abs2 h)⟩
noncomputable def leZ (p q : Int × Int) : Int × Int := lowZ (p.1 * q.2 - q.1 * p.2) (p.2 * q.2)
noncomputable def tmZ (p q : Int × Int) : Int × Int := lowZ (p.1 * q.1) (p.2 * q.2)
noncomputable def ptZ (p q : Int × Int) : Int × Int := lowZ (p.1 * q.2) (p.2 * q.1)
noncomputable def ltZ (p q : Int × Int) : Bool := decide (p.1 * q.2 < q.1 * p.2)
noncomputable def minZ (p q : Int × Int) : Int × Int := if ltZ q p then q else p
theorem lt_low {a b c d : Int} (hb : 0 < b) (hd : 0 < d) : ltZ (lowZ a b) (lowZ c d) = decide (a * d < c * b) := by
 unfold ltZ
 exact decide_eq_decide.mpr (low_lt hb hd)
noncomputable def spGcd : Sp := fun vs H Q _ => ∃ a b : Int, vs = [.int a, .int b] /\ 0 < b /\ Q (.int (gcdZ a b)) H
noncomputable def spLow : Sp := fun vs H Q _ => ∃ a b : Int, vs = [.int a, .int b] /\ 0 < b /\ Sm b 8000 /\ ∀ z H', Same H H' -> Shr H' z (lowZ a b) -> Q (.ref z) H'
noncomputable def spSh (g : Int × Int -> Int × Int -> Int × Int) : Sp := fun vs H Q _ => ∃ (x y : Addr) (p q : Int × Int), vs = [.ref x, .ref y] /\ Shr H x p /\ Shr H y q /\ ShB p 3900 /\ ShB q 3900 /\ ∀ z H', Same H H' -> Shr H' z (g p q) -> Q (.ref z) H'
noncomputable def spPt : Sp := fun vs H Q _ => ∃ (x y : Addr) (p q : Int × Int), vs = [.ref x, .ref y] /\ Shr H x p /\ Shr H y q /\ ShB p 3900 /\ ShB q 3900 /\ 0 < q.1 /\ ∀ z H', Same H H' -> Shr H' z (ptZ p q) -> Q (.ref z) H'
noncomputable def fcZ : Nat -> Int
 | 0 => 1
 | n + 1 => fcZ n * ((n : Int) + 1)
theorem fcZ_pos : ∀ n, 0 < fcZ n
 | 0 => by decide
 | n + 1 => Int.mul_pos (fcZ_pos n) (by (first | lia | omega))
theorem fcZ_le {m n : Nat} (h : m <= n) : fcZ m <= fcZ n := by
  induction n with
  | zero => have : m = 0 := by (first | lia | omega)
            rw [this]; exact Int.le_refl _
  | succ n ih =>
    by_cases e : m = n + 1
    · rw [e]; exact Int.le_refl _
    · refine Int.le_trans (ih (by (first | lia | omega))) ?_
      show fcZ n <= fcZ n * ((n : Int) + 1)
      have := fcZ_pos n
      have h2 := Int.mul_le_mul_of_nonneg_left (show (1 : Int) <= (n : Int) + 1 by (first | lia | omega)) (Int.le_of_lt this)
      (first | lia | omega)
theorem fcZ_smS {n : Nat} (h : n <= 70) : Sm (fcZ n) 340 := by
 have h1 : Sm (fcZ 70) 340 := Sm.of (by decide +kernel)
 refine h1.le ?_
 have := fcZ_le h
 have := fcZ_pos n
 (first | lia | omega)
end L2
namespace L2
open PySem PySem.Spec PyProof.Rows
noncomputable def spPr : Sp := fun vs H Q _ => ∃ n : Nat, vs = [.int 1, .int n] /\ n <= 300 /\ Q (.int (fcZ n)) H
end L2
namespace L2
open PySem PySem.Spec PyProof.Rows
noncomputable def rBitLen : V -> List V -> Hp -> VK -> Prop := fun x vs H Q => ∃ i, x = .int i /\ vs = [] /\ Q (.int (Builtin.Int.intBits i)) H
theorem mt_bitlen {X : Cx} : MtR X "int.bit_length" rBitLen := by
 intro pins s σ H x vs v us Q I rx rv h
 obtain ⟨i, rfl, rfl, q⟩ := h
 obtain ⟨t, rfl⟩ := rx
 cases rv
 exact call_gives PySem.F.slot_int_bit_length (typeIs_int s i t) PySem.F.entry_int_bit_length (PySem.F.args_int_bit_length_1 _) (AutoIntG2.int_bit_length_int_0 i t) ⟨.int _, H, I.tok _, ⟨_, rfl⟩, q⟩
theorem sm1 : Sm 1 3900 := Sm.of (by decide +kernel)
noncomputable def spNone : Sp := fun _ _ _ _ => False
theorem low_one {c : Int} : lowZ c 1 = (c, 1) := by
 unfold lowZ gcdZ
 rw [show (c.gcd 1 : Nat) = 1 from by rw [Int.gcd_one]]
 simp
noncomputable def figZ (x : Int) : Int := (Builtin.Int.intBits x : Int)
end L2
namespace L2
open PySem PySem.Spec PyProof.Rows
theorem low_tm {a b c d : Int} (hb : 0 < b) (hd : 0 < d) : tmZ (lowZ a b) (lowZ c d) = lowZ (a * c) (b * d) := by
 unfold tmZ
 have h1 := low1 (a := a) (b := b)
 have h2 := low2 (a := a) (b := b)
 have h3 := low1 (a := c) (b := d)
 have h4 := low2 (a := c) (b := d)
 have g1 := gcdZ_pos (a := a) hb
 have g2 := gcdZ_pos (a := c) hd
 have p1 := low_pos (a := a) hb
 have p2 := low_pos (a := c) hd
 generalize (lowZ a b).1 = x at *
 generalize (lowZ a b).2 = y at *
 generalize (lowZ c d).1 = z at *
 generalize (lowZ c d).2 = u at *
 generalize gcdZ a b = g at *
 generalize gcdZ c d = k at *
 subst h1 h2 h3 h4
 rw [<- low_scale (Int.mul_pos p1 p2) (Int.mul_pos g1 g2)]
 congr 1
 ·rw [Int.mul_assoc, Int.mul_assoc, Int.mul_left_comm g z k]
 ·rw [Int.mul_assoc, Int.mul_assoc, Int.mul_left_comm g u k]
theorem low_pt {a b c d : Int} (hb : 0 < b) (hd : 0 < d) (hc : 0 < c) : ptZ (lowZ a b) (lowZ c d) = lowZ (a * d) (b * c) := by
 unfold ptZ
 have h1 := low1 (a := a) (b := b)
 have h2 := low2 (a := a) (b := b)
 have h3 := low1 (a := c) (b := d)
 have h4 := low2 (a := c) (b := d)
 have g1 := gcdZ_pos (a := a) hb
 have g2 := gcdZ_pos (a := c) hd
 have p1 := low_pos (a := a) hb
 have p2 := low_pos (a := c) hd
 have p3 : 0 < (lowZ c d).1 := by
  refine Int.pos_of_mul_pos_left ?_ g2
  rw [h3]; exact hc
 generalize (lowZ a b).1 = x at *
 generalize (lowZ a b).2 = y at *
 generalize (lowZ c d).1 = z at *
 generalize (lowZ c d).2 = u at *
 generalize gcdZ a b = g at *
 generalize gcdZ c d = k at *
 subst h1 h2 h3 h4
 rw [<- low_scale (Int.mul_pos p1 p3) (Int.mul_pos g1 g2)]
 congr 1
 ·rw [Int.mul_assoc, Int.mul_assoc, Int.mul_left_comm g u k]
 ·rw [Int.mul_assoc, Int.mul_assoc, Int.mul_left_comm g z k]
theorem low_fst_pos {c d : Int} (hd : 0 < d) (hc : 0 < c) : 0 < (lowZ c d).1 := by
 have g2 := gcdZ_pos (a := c) hd
 refine Int.pos_of_mul_pos_left ?_ g2
 rw [low1]; exact hc
theorem low_self {b : Int} (hb : 0 < b) : lowZ b b = (1, 1) := by
 rw [low_eq hb (by decide : (0 : Int) < 1) (show b * 1 = 1 * b by (first | lia | omega)), low_one]
noncomputable def capZ (a b : Int) : Int × Int := if b < a then (1, 1) else lowZ a b
theorem min_cap {a b : Int} (hb : 0 < b) : minZ (1, 1) (lowZ a b) = capZ a b := by
 unfold minZ capZ
 rw [show ((1, 1) : Int × Int) = lowZ 1 1 from low_one.symm, lt_low hb (by decide), Int.mul_one, Int.one_mul]
 by_cases h : a < b
 ·rw [if_pos (decide_eq_true h), if_neg (by (first | lia | omega))]
 ·rw [if_neg (fun z => h (of_decide_eq_true z))]
  by_cases h2 : b < a
  ·rw [if_pos h2]
  ·rw [if_neg h2, show a = b by (first | lia | omega), low_self hb, low_one]
noncomputable def sZ (N : Int) : Nat -> Int
 | 0 => 1
 | i + 1 => sZ N i * (N - (i : Int)) / ((i : Int) + 1)
theorem sZ_nn {N : Int} (h : 0 <= N) : ∀ i : Nat, 0 <= sZ N i /\ (N < (i : Int) -> sZ N i = 0)
 | 0 => ⟨(by decide : (0 : Int) <= 1), fun z => absurd z (by (first | lia | omega))⟩
 | i + 1 => by
  obtain ⟨h1, h2⟩ := sZ_nn h i
  show 0 <= sZ N i * (N - (i : Int)) / ((i : Int) + 1) /\ (_ -> sZ N i * (N - (i : Int)) / ((i : Int) + 1) = 0)
  by_cases c : N < (i : Int)
  ·rw [h2 c, Int.zero_mul, Int.zero_ediv]
   exact ⟨Int.le_refl _, fun _ => rfl⟩
  ·refine ⟨Int.ediv_nonneg (Int.mul_nonneg h1 (by (first | lia | omega))) (by (first | lia | omega)), fun z => ?_⟩
   rw [show N - (i : Int) = 0 by (first | lia | omega), Int.mul_zero, Int.zero_ediv]
theorem sm_N {N : Int} (h0 : 0 <= N) (h1 : N <= 10 ^ 30) : Sm N 100 := Sm.of (by
 have : (10 : Int) ^ 30 < 2 ^ 100 := by decide +kernel
 (first | lia | omega))
theorem sm_Ni {N : Int} {i : Nat} (h0 : 0 <= N) (h1 : N <= 10 ^ 30) (hi : i <= 60) : Sm (N - (i : Int)) 100 := Sm.of (by
 have : (10 : Int) ^ 30 + 60 < 2 ^ 100 := by decide +kernel
 (first | lia | omega))
theorem sZ_sm {N : Int} (h0 : 0 <= N) (h1 : N <= 10 ^ 30) : ∀ i : Nat, i <= 60 -> Sm (sZ N i) (100 * i + 1)
 | 0, _ => Sm.of (show (1 : Int).natAbs < 2 ^ 1 by decide)
 | i + 1, h => by
  obtain ⟨a1, a2⟩ := sZ_nn h0 i
  have ih := sZ_sm h0 h1 i (by (first | lia | omega))
  have hm := (ih.mul (sm_Ni h0 h1 (i := i) (by (first | lia | omega)))).mono (show 100 * i + 1 + 100 <= 100 * (i + 1) + 1 by (first | lia | omega))
  refine Sm.le hm ?_
  show (sZ N i * (N - (i : Int)) / ((i : Int) + 1)).natAbs <= _
  by_cases c : N < (i : Int)
  ·rw [a2 c, Int.zero_mul, Int.zero_ediv]
   exact Nat.le_refl _
  ·have p : 0 <= sZ N i * (N - (i : Int)) := Int.mul_nonneg a1 (by (first | lia | omega))
   have q := Int.ediv_le_self ((i : Int) + 1) p
   have r := Int.ediv_nonneg p (show (0 : Int) <= (i : Int) + 1 by (first | lia | omega))
   (first | lia | omega)
noncomputable def mxZ (N : Int) : Int := if N - 1 > 0 then N - 1 else 0
noncomputable def mnZ (kind : Str) (N : Int) : Int × Int := if kind = "rises" then lowZ (mxZ N) 2 else lowZ (N * (N - 1)) 4
noncomputable def sdZ (kind : Str) (N : Int) : Int × Int := if kind = "rises" then lowZ ((if decide (1 < N) = true then 1 else 0) * (N + 1)) 12 else lowZ (N * (N - 1) * (2 * N + 5)) 72
theorem tw_even (N : Int) : N * (N - 1) / 2 * 2 = N * (N - 1) := by
 refine Int.ediv_mul_cancel ?_
 have h := Int.emod_two_eq N
 rcases h with h | h
 ·exact Int.dvd_mul_of_dvd_left (Int.dvd_of_emod_eq_zero h)
 ·exact Int.dvd_mul_of_dvd_right (Int.dvd_of_emod_eq_zero (by (first | lia | omega)))
theorem th_three (N : Int) : N * (N - 1) / 2 * (N - 2) / 3 * 3 = N * (N - 1) / 2 * (N - 2) := by
 refine Int.ediv_mul_cancel ?_
 have e := tw_even N
 generalize N * (N - 1) / 2 = t at *
 have h : N % 3 = 0 ∨ N % 3 = 1 ∨ N % 3 = 2 := by (first | lia | omega)
 have two : ∀ x : Int, (3 : Int) ∣ x * 2 -> 3 ∣ x := fun x hx => by (first | lia | omega)
 rcases h with h | h | h
 ·refine Int.dvd_mul_of_dvd_left (two t ?_)
  rw [e]
  exact Int.dvd_mul_of_dvd_left (Int.dvd_of_emod_eq_zero h)
 ·refine Int.dvd_mul_of_dvd_left (two t ?_)
  rw [e]
  exact Int.dvd_mul_of_dvd_right (Int.dvd_of_emod_eq_zero (by (first | lia | omega)))
 ·exact Int.dvd_mul_of_dvd_right (Int.dvd_of_emod_eq_zero (by (first | lia | omega)))
theorem mean_c (N : Int) : lowZ (N * (N - 1) / 2) 2 = lowZ (N * (N - 1)) 4 := by
 refine low_eq (by decide) (by decide) ?_
 have e := tw_even N
 (first | lia | omega)
theorem spread_c (N : Int) : lowZ (3 * (N * (N - 1) / 2) + 2 * (N * (N - 1) / 2 * (N - 2) / 3)) 12 = lowZ (N * (N - 1) * (2 * N + 5)) 72 := by
 refine low_eq (by decide) (by decide) ?_
 have e := tw_even N
 have e3 := th_three N
 generalize N * (N - 1) / 2 = t at *
 rw [<- e]
 generalize t * (N - 2) / 3 = u at *
 have x1 : t * (N - 2) = t * N - t * 2 := Int.mul_sub ..
 have x2 : t * 2 * (2 * N + 5) = 4 * (t * N) + 10 * t := by
  rw [Int.mul_add, Int.mul_comm 2 N, <- Int.mul_assoc, Int.mul_right_comm t 2 N]
  (first | lia | omega)
 rw [x2]
 (first | lia | omega)
theorem mean_r (N : Int) (h0 : 0 <= N) : lowZ (if (0 : Int) > N - 1 then 0 else N - 1) 2 = lowZ (mxZ N) 2 := by
 unfold mxZ
 congr 1
 split <;> split <;> (first | lia | omega)
theorem spread_r (N : Int) (h0 : 0 <= N) : lowZ (3 * (if (0 : Int) > N - 1 then 0 else N - 1) - 2 * (if (0 : Int) > N - 2 then 0 else N - 2)) 12 = lowZ ((if decide (1 < N) = true then 1 else 0) * (N + 1)) 12 := by
 congr 1
 by_cases h : 1 < N
 ·rw [if_pos (decide_eq_true h), if_neg (by (first | lia | omega)), if_neg (by (first | lia | omega))]
  (first | lia | omega)
 ·rw [show decide (1 < N) = false from decide_eq_false h]
  by_cases e : N = 0
  ·subst e; decide
  ·rw [show N = 1 by (first | lia | omega)]; decide
theorem mn_sh {kind : Str} {N : Int} (h0 : 0 <= N) (h1 : N <= 10 ^ 30) : ShB (mnZ kind N) 600 := by
 have a := sm_N h0 h1
 have b := sm_Ni (i := 1) h0 h1 (by decide)
 unfold mnZ
 split
 ·refine ShB.low (by decide) ?_ (Sm.of (by decide +kernel))
  unfold mxZ
  split
  ·exact b.mono (by decide)
  ·exact Sm.of (by decide +kernel)
 ·exact ShB.low (by decide) ((a.mul b).mono (by decide)) (Sm.of (by decide +kernel))
theorem sm_2N {N : Int} (h0 : 0 <= N) (h1 : N <= 10 ^ 30) : Sm (2 * N + 5) 110 := Sm.of (by
 have : 2 * (10 : Int) ^ 30 + 5 < 2 ^ 110 := by decide +kernel
 (first | lia | omega))
theorem sm_N1 {N : Int} (h0 : 0 <= N) (h1 : N <= 10 ^ 30) : Sm (N + 1) 110 := Sm.of (by
 have : (10 : Int) ^ 30 + 1 < 2 ^ 110 := by decide +kernel
 (first | lia | omega))
theorem sm_b01 (b : Bool) : Sm (if b = true then 1 else 0) 10 := by cases b <;> exact Sm.of (by decide)
theorem sd_sh {kind : Str} {N : Int} (h0 : 0 <= N) (h1 : N <= 10 ^ 30) : ShB (sdZ kind N) 600 := by
 have a := sm_N h0 h1
 have b := sm_Ni (i := 1) h0 h1 (by decide)
 unfold sdZ
 split
 ·exact ShB.low (by decide) (((sm_b01 _).mul (sm_N1 h0 h1)).mono (by decide)) (Sm.of (by decide +kernel))
 ·exact ShB.low (by decide) (((a.mul b).mul (sm_2N h0 h1)).mono (by decide)) (Sm.of (by decide +kernel))
theorem sd_low {kind : Str} {N : Int} : lowZ (sdZ kind N).1 (sdZ kind N).2 = sdZ kind N := by
 unfold sdZ
 split <;> exact low_low (by decide)
noncomputable def farZ (kind : Str) (N k : Int) : Int := k * (mnZ kind N).2 - (mnZ kind N).1
noncomputable def ovZ (kind : Str) (N : Int) : Int := (sdZ kind N).1 * (mnZ kind N).2 * (mnZ kind N).2
noncomputable def unZ (kind : Str) (N k : Int) : Int := (sdZ kind N).2 * farZ kind N k * farZ kind N k
noncomputable def sbZ (kind : Str) (N k : Int) : Int × Int := if farZ kind N k <= 0 then (1, 1) else lowZ (ovZ kind N) (unZ kind N k)
theorem far_sm {kind : Str} {N k : Int} (h0 : 0 <= N) (h1 : N <= 10 ^ 30) (k0 : 0 <= k) (k1 : k <= 60) : Sm (farZ kind N k) 700 := by
 have b := mn_sh (kind := kind) h0 h1
 have hk : Sm k 6 := Sm.of (by (first | lia | omega))
 unfold farZ
 exact (Sm.sub ((hk.mul b.s2).mono (show 6 + 600 <= 606 by decide)) (b.s1.mono (by decide))).mono (by decide)
theorem un_pos {kind : Str} {N k : Int} (h0 : 0 <= N) (h1 : N <= 10 ^ 30) (hf : 0 < farZ kind N k) : 0 < unZ kind N k := Int.mul_pos (Int.mul_pos (sd_sh h0 h1).pos hf) hf
theorem beyond_eq {kind : Str} {N k : Int} : leZ (k, 1) (mnZ kind N) = lowZ (farZ kind N k) (mnZ kind N).2 := by
 unfold leZ farZ
 dsimp only
 rw [Int.mul_one, Int.one_mul]
theorem beyond_lt {a b : Int} (hb : 0 < b) : ltZ (0, 1) (lowZ a b) = decide (0 < a) := by
 rw [show ((0, 1) : Int × Int) = lowZ 0 1 from low_one.symm, lt_low (by decide) hb, Int.zero_mul, Int.mul_one]
theorem bound_eq {kind : Str} {N k : Int} (h0 : 0 <= N) (h1 : N <= 10 ^ 30) (hf : 0 < farZ kind N k) : ptZ (sdZ kind N) (tmZ (lowZ (farZ kind N k) (mnZ kind N).2) (lowZ (farZ kind N k) (mnZ kind N).2)) = lowZ (ovZ kind N) (unZ kind N k) := by
 have m0 := (mn_sh (kind := kind) h0 h1).pos
 rw [low_tm m0 m0]
 have e := sd_low (kind := kind) (N := N)
 have s0 := (sd_sh (kind := kind) h0 h1).pos
 unfold ovZ unZ
 generalize sdZ kind N = s at *
 conv => lhs; rw [<- e]
 rw [low_pt s0 (Int.mul_pos m0 m0) (Int.mul_pos hf hf), Int.mul_assoc, Int.mul_assoc]
theorem sb_sh {kind : Str} {N k : Int} (h0 : 0 <= N) (h1 : N <= 10 ^ 30) (k0 : 0 <= k) (k1 : k <= 60) : ShB (sbZ kind N k) 2500 := by
 have m := mn_sh (kind := kind) h0 h1
 have d := sd_sh (kind := kind) h0 h1
 have f := far_sm (kind := kind) h0 h1 k0 k1
 unfold sbZ
 by_cases hf : farZ kind N k <= 0
 ·rw [if_pos hf]
  exact ⟨by decide, Sm.of (by decide +kernel), Sm.of (by decide +kernel)⟩
 ·rw [if_neg hf]
  refine ShB.low (un_pos h0 h1 (by (first | lia | omega))) ?_ ?_
  ·unfold ovZ
   exact ((d.s1.mul m.s2).mul m.s2).mono (by decide)
  ·unfold unZ
   exact ((d.s2.mul f).mul f).mono (by decide)
noncomputable def bSt (N : Int) (k : Nat) : Int × Int := if (k : Int) <= N then (1, fcZ k) else (0, 1)
noncomputable def bLg (N : Int) (k : Nat) : Int × Int := lowZ (sZ N k) (fcZ k)
noncomputable def bGr (N : Int) (k : Nat) : Int × Int := lowZ (figZ N ^ k) (fcZ k)
noncomputable def mostZ (kind : Str) (N : Int) (k : Nat) : Int × Int := if k = 0 then (1, 1) else if kind = "stays" then bSt N k else if kind = "longest" then capZ (sZ N k) (fcZ k) else if kind = "rounds" ∨ kind = "highs" then capZ (figZ N ^ k) (fcZ k) else if farZ kind N k <= 0 then (1, 1) else capZ (ovZ kind N) (unZ kind N k)
theorem min_st {N : Int} {k : Nat} : minZ (1, 1) (bSt N k) = bSt N k := by
 unfold minZ bSt ltZ
 have f := fcZ_pos k
 by_cases h : (k : Int) <= N
 ·rw [if_pos h]
  dsimp only
  by_cases c : fcZ k = 1
  ·rw [c]; rfl
  ·rw [if_pos (decide_eq_true (by (first | lia | omega)))]
 ·rw [if_neg h]
  rfl
theorem min_sb {kind : Str} {N : Int} {k : Nat} (h0 : 0 <= N) (h1 : N <= 10 ^ 30) : minZ (1, 1) (sbZ kind N k) = if farZ kind N k <= 0 then (1, 1) else capZ (ovZ kind N) (unZ kind N k) := by
 unfold sbZ
 by_cases h : farZ kind N k <= 0
 ·rw [if_pos h, if_pos h]
  rfl
 ·rw [if_neg h, if_neg h]
  exact min_cap (un_pos h0 h1 (by (first | lia | omega)))
theorem st_sh {N : Int} {k : Nat} (hk : k <= 60) : ShB (bSt N k) 8000 := by
 unfold bSt
 split
 ·exact ⟨fcZ_pos k, sm1.mono (by decide), (fcZ_smS (by (first | lia | omega))).mono (by decide)⟩
 ·exact ⟨by decide, Sm.of (by decide +kernel), Sm.of (by decide +kernel)⟩
theorem fig_le {N : Int} (h0 : 0 <= N) (h1 : N <= 10 ^ 30) : 0 <= figZ N /\ figZ N <= 100 := by
 have := sm_N h0 h1
 unfold figZ
 unfold Sm at this
 (first | lia | omega)
theorem fig_sm {N : Int} (h0 : 0 <= N) (h1 : N <= 10 ^ 30) : ∀ k : Nat, Sm (figZ N ^ k) (7 * k + 1)
 | 0 => Sm.of (show (1 : Int).natAbs < 2 ^ 1 by decide)
 | k + 1 => by
  have f := fig_le h0 h1
  rw [Int.pow_succ]
  exact ((fig_sm h0 h1 k).mul (show Sm (figZ N) 7 from Sm.of (by (first | lia | omega)))).mono (by (first | lia | omega))
theorem lg_sh {N : Int} {k : Nat} (h0 : 0 <= N) (h1 : N <= 10 ^ 30) (hk : k <= 60) : ShB (bLg N k) 8000 := ShB.low (fcZ_pos k) ((sZ_sm h0 h1 k hk).mono (by (first | lia | omega))) ((fcZ_smS (by (first | lia | omega))).mono (by decide))
theorem gr_sh {N : Int} {k : Nat} (h0 : 0 <= N) (h1 : N <= 10 ^ 30) (hk : k <= 60) : ShB (bGr N k) 8000 := ShB.low (fcZ_pos k) ((fig_sm h0 h1 k).mono (by (first | lia | omega))) ((fcZ_smS (by (first | lia | omega))).mono (by decide))
noncomputable def spLt8 : Sp := fun vs H Q _ => ∃ (x y : Addr) (p q : Int × Int), vs = [.ref x, .ref y] /\ Shr H x p /\ Shr H y q /\ ShB p 8000 /\ ShB q 8000 /\ ∀ H', Same H H' -> Q (.bl (ltZ p q)) H'
noncomputable def spMm8 (g : Int × Int -> Int × Int -> Int × Int) : Sp := fun vs H Q _ => ∃ (x y : Addr) (p q : Int × Int), vs = [.ref x, .ref y] /\ Shr H x p /\ Shr H y q /\ ShB p 8000 /\ ShB q 8000 /\ ∀ z H', Same H H' -> Shr H' z (g p q) -> Q (.ref z) H'
noncomputable def spN1 (g : Int -> Int × Int) : Sp := fun vs H Q _ => ∃ N : Int, vs = [.int N] /\ 0 <= N /\ N <= 10 ^ 30 /\ ∀ z H', Same H H' -> Shr H' z (g N) -> Q (.ref z) H'
noncomputable def spKN (g : Str -> Int -> Int × Int) : Sp := fun vs H Q _ => ∃ (kind : Str) (N : Int), vs = [.str kind, .int N] /\ (kind = "rises" ∨ kind = "crossed") /\ 0 <= N /\ N <= 10 ^ 30 /\ ∀ z H', Same H H' -> Shr H' z (g kind N) -> Q (.ref z) H'
noncomputable def spNK (g : Int -> Nat -> Int × Int) : Sp := fun vs H Q _ => ∃ (N : Int) (k : Nat), vs = [.int N, .int k] /\ 0 <= N /\ N <= 10 ^ 30 /\ k <= 60 /\ ∀ z H', Same H H' -> Shr H' z (g N k) -> Q (.ref z) H'
noncomputable def spKNK : Sp := fun vs H Q _ => ∃ (kind : Str) (N : Int) (k : Nat), vs = [.str kind, .int N, .int k] /\ (kind = "rises" ∨ kind = "crossed") /\ 0 <= N /\ N <= 10 ^ 30 /\ k <= 60 /\ ∀ z H', Same H H' -> Shr H' z (sbZ kind N k) -> Q (.ref z) H'
noncomputable def kinds6S : List Str := ["rounds", "stays", "rises", "highs", "crossed", "longest"]
noncomputable def spMost : Sp := fun vs H Q _ => ∃ (kind : Str) (N : Int) (k : Nat), vs = [.str kind, .int N, .int k] /\ kind ∈ kinds6S /\ 0 <= N /\ N <= 10 ^ 30 /\ k <= 60 /\ ∀ z H', Same H H' -> Shr H' z (mostZ kind N k) -> Q (.ref z) H'
noncomputable def spSets : Sp := fun vs H Q _ => ∃ (N : Int) (k : Nat), vs = [.int N, .int k] /\ 0 <= N /\ N <= 10 ^ 30 /\ k <= 60 /\ Q (.int (sZ N k)) H
noncomputable def spPow : Sp := fun vs H Q _ => ∃ (b : Int) (k : Nat), vs = [.int b, .int k] /\ 0 <= b /\ b <= 1000 /\ k <= 60 /\ Q (.int (b ^ k)) H
end L2
namespace L2
open PySem PySem.Spec PyProof.Rows
noncomputable abbrev Sh := Int × Int
end L2
namespace L2
open PySem PySem.Spec PyProof.Rows
end L2
namespace L2
open PySem PySem.Spec PyProof.Rows
noncomputable def Shows (d : PyData) : Prop := d.showable = true /\ d.depth <= 60 /\ d.shown.length <= sizeLine
noncomputable def Shw (n : Int) : Prop := n.natAbs.log2 < 1920
end L2
namespace L2
open PySem PySem.Spec PyProof.Rows
end L2
namespace L2
open PySem PySem.Spec PyProof.Rows
section
variable {κ : Type} [DecidableEq κ]
end
theorem kV_is {P : Program} {w : World} {k : Key} {u : Value} (r : RelV (kV k) u) : (mixKind P w).is k u = true := by
 cases k with
 | inl i => obtain ⟨t, e⟩ := (show ∃ t, u = Value.int i t from r); subst e; exact mixKind_int P w i t
 | inr x => obtain ⟨t, e⟩ := (show ∃ t, u = Value.str x t from r); subst e; exact mixKind_str P w x t
section
variable {P : Program} {w : World} {H : Hp} {h : Heap} {a : Addr}
theorem rd_of {u : HO} (ok : HOk P w H h) (e : Rd H a u) : ObjOk P w H h a u := e.ok ok
theorem dk_rd {kvs : List (Key × V)} (ok : HOk P w H h) (e : Rd H a (.dK kvs)) : kvs.length <= sizeLine /\ (a == sysModules) = false /\ ∃ vs, KV kvs vs /\ h.DictOf (mixKind P w) a vs :=
 show ObjOk P w H h a (.dK kvs) from rd_of ok e
theorem dk_of {kvs : List (Key × V)} (ok : HOk P w H h) (e : H a = some (.dK kvs)) : kvs.length <= sizeLine /\ (a == sysModules) = false /\ ∃ vs, KV kvs vs /\ h.DictOf (mixKind P w) a vs := dk_rd ok (.inl e)
end
section
variable {X : Cx} {pins : List (Addr × Obj)} {σ : St} {H : Hp} {s : Shared} {a : Addr} {y v : V} {u r : Value} {o : Option V} {A : Around} {E : Value -> Shared -> Prop}
theorem Inv.big (I : Inv X pins σ H s) : sysModules < s.heap.objs.size := by
 have h : mainGlobals < s.heap.objs.size := (I.mod.glob.keeps I.bk).lt
 exact Nat.lt_trans (by decide) h
theorem d_write {h' : Heap} {t' : Nat} {ob : HO} (I : Inv X pins σ H s) (mu : Mut (H a)) (hs : Heap.SameBut a s.heap h') (he : ∃ q, h'.get? a = some q) (new : ObjOk X.prog X.w (upd H a ob) h' a ob) :
  Inv X pins σ (upd H a ob) { s with heap := h', toks := t' } :=
 I.write (x := a) (e := a) mu (.inl rfl) (fun b q hb z => (hs.2 b hb).trans z) he new
theorem dk_new {P : Program} {w : World} {H' : Hp} {h' : Heap} {kvs : List (Key × V)} {vs : List (Key × Value)} (z : kvs.length <= sizeLine) (hd : (a == sysModules) = false) (rel : KV kvs vs) (dd : h'.DictOf (mixKind P w) a vs) :
  ObjOk P w H' h' a (.dK kvs) := ⟨z, hd, vs, rel, dd⟩
end
section
variable {X : Cx} {pins : List (Addr × Obj)} {σ : St} {H : Hp} {s : Shared} {a : Addr} {kvs : List (Key × V)} {k : Key} {u : Value} {A : Around} {E : Value -> Shared -> Prop}
end
section
variable {X : Cx} {o i e value : Expr} {pos pos' tpos : Pos} {td ty tv : TE}
end
theorem dk_empty {P : Program} {w : World} {H : Hp} (h : Heap) (hb : sysModules < h.objs.size) : ObjOk P w H (h.push { cls := .type "dict", data := .dict #[] }) h.objs.size (.dK []) :=
 ⟨Nat.zero_le _, beq_eq_false_iff_ne.mpr (Ne.symm (Nat.ne_of_lt hb)), [], .nil, Heap.DictOf.new h⟩
noncomputable def tDNewK : TE := fun _ H Q => ∀ p, H p = none -> Q (.ref p) (upd H p (.dK []))
section
variable {X : Cx} {pos : Pos}
theorem pe_dnewK : PE X (.Dict [] [] pos) tDNewK := fun pins s σ H Q I h =>
 wpAny_Dict_empty ⟨.ref s.heap.objs.size, _, I.laid (a := s.heap.objs.size) (o := .dK []) (t' := s.toks) (fun _ _ q => Heap.get?_push_of_some _ q) (Nat.le_refl _) (dk_empty s.heap I.big), rfl, h _ (I.hok.fresh (Nat.le_refl _))⟩
end
structure M1 (X : Cx) (o : Expr) (m : Str) (apos : Pos) (e : Expr) (cpos : Pos) : Prop where
 base : attributeBase o m X.env (eval o X.env) = eval o X.env
 few : ((backTo cpos (starEach [e] X.env)).all (fun x => !x.1) && (backToKw cpos (keywordEach [] X.env)).all (fun x => x.1.isSome)
  && decide (([e] : List Expr).length + ([] : List Keyword).length + (if ([] : List Keyword).isEmpty then 0 else 1) < 30)) = true
 line : (apos.endLine == cpos.line) = true
 trees : backTo cpos (starEach [e] X.env) = [(false, eval e X.env)]
structure M2 (X : Cx) (o : Expr) (m : Str) (apos : Pos) (e f : Expr) (cpos : Pos) : Prop where
 base : attributeBase o m X.env (eval o X.env) = eval o X.env
 few : ((backTo cpos (starEach [e, f] X.env)).all (fun x => !x.1) && (backToKw cpos (keywordEach [] X.env)).all (fun x => x.1.isSome)
  && decide (([e, f] : List Expr).length + ([] : List Keyword).length + (if ([] : List Keyword).isEmpty then 0 else 1) < 30)) = true
 line : (apos.endLine == cpos.line) = true
 trees : backTo cpos (starEach [e, f] X.env) = [(false, eval e X.env), (false, eval f X.env)]
section
variable {X : Cx} {pins : List (Addr × Obj)} {σ : St} {H : Hp} {s : Shared} {a : Addr} {y d : V} {u r : Value} {o : Option V} {A : Around} {E : Value -> Shared -> Prop}
end
section
variable {X : Cx} {o e f : Expr} {apos cpos : Pos} {td ty tx : TE}
end
section
variable {X : Cx} {pins : List (Addr × Obj)} {σ : St} {H : Hp} {s : Shared} {a : Addr} {kvs : List (Key × V)} {A : Around} {E : Value -> Shared -> Prop}
end
section
variable {X : Cx} {pins : List (Addr × Obj)} {σ : St} {H : Hp} {s : Shared} {a : Addr} {y : V} {u : Value} {A : Around} {E : Value -> Shared -> Prop}
end
end L2
namespace L2
open PySem PySem.Spec PyProof.Rows
noncomputable def kD : Key -> PyData
 | .inl i => .int i
 | .inr x => .str x
mutual
inductive IsY (S : Addr -> Prop) (H : Hp) : V -> PyData -> Prop
 | non : IsY S H .non .none
 | bl (b : Bool) : IsY S H (.bl b) (.bool b)
 | int (i : Int) : IsY S H (.int i) (.int i)
 | str (x : Str) : IsY S H (.str x) (.str x)
 | tup {a : Addr} {vs : List V} {ds : List PyData} : H a = some (.tup vs) -> IsAllY S H vs ds -> IsY S H (.ref a) (.tuple ds)
 | lst {a : Addr} {vs : List V} {ds : List PyData} : H a = some (.lst vs) -> S a -> IsAllY S H vs ds -> IsY S H (.ref a) (.list ds)
 | d0 {a : Addr} : H a = some (.dK []) -> IsY S H (.ref a) (.dict [])
 | d1 {a : Addr} {k : Key} {v : V} {d : PyData} : H a = some (.dK [(k, v)]) -> IsY S H v d -> IsY S H (.ref a) (.dict [(kD k, d)])
inductive IsAllY (S : Addr -> Prop) (H : Hp) : List V -> List PyData -> Prop
 | nil : IsAllY S H [] []
 | cons {v : V} {vs : List V} {d : PyData} {ds : List PyData} : IsY S H v d -> IsAllY S H vs ds -> IsAllY S H (v :: vs) (d :: ds)
end
noncomputable def tyD : PyData -> String
 | .none => "NoneType" | .bool _ => "bool" | .int _ => "int" | .str _ => "str" | .list _ => "list" | .tuple _ => "tuple" | .dict _ => "dict"
noncomputable def kinds7 : List String := ["NoneType", "bool", "int", "str", "list", "tuple", "dict"]
theorem tyD_in (d : PyData) : tyD d ∈ kinds7 := by cases d <;> simp [tyD, kinds7]
theorem IsY.ty {K : PySem.W.Frag} {S : Addr -> Prop} {H : Hp} {v : V} {d : PyData} (h : IsY S H v d) : TyOf K H v (.type (tyD d)) := by
 cases h with
 | non => exact .non
 | bl b => exact .bl b
 | int i => exact .int i
 | str x => exact .str x
 | tup e _ => exact .tup e
 | lst e _ _ => exact .lst e
 | d0 e => exact .dK e
 | d1 e _ => exact .dK e
theorem kit7 {K : PySem.W.Frag} {t : String} (h : t ∈ kinds7) :
  PySem.W.kitOne K (.type t) (.type "int") = some (t == "bool" || t == "int") /\ PySem.W.kitOne K (.type t) (.type "bool") = some (t == "bool") /\ PySem.W.kitOne K (.type t) (.type "tuple") = some (t == "tuple") := by
 have : t = "NoneType" ∨ t = "bool" ∨ t = "int" ∨ t = "str" ∨ t = "list" ∨ t = "tuple" ∨ t = "dict" := by simpa [kinds7] using h
 rcases this with rfl | rfl | rfl | rfl | rfl | rfl | rfl <;> exact ⟨kit_tt (by decide +kernel), kit_tt (by decide +kernel), kit_tt (by decide +kernel)⟩
mutual
theorem IsY.map {S S' : Addr -> Prop} {H H' : Hp} (hS : ∀ a, S a -> S' a) (ht : ∀ a xs, H a = some (.tup xs) -> H' a = some (.tup xs)) (hl : ∀ a xs, S a -> H a = some (.lst xs) -> H' a = some (.lst xs)) (hd : ∀ a xs, H a = some (.dK xs) -> H' a = some (.dK xs)) : ∀ {v : V} {d : PyData}, IsY S H v d -> IsY S' H' v d
 | _, _, .non => .non
 | _, _, .bl b => .bl b
 | _, _, .int i => .int i
 | _, _, .str x => .str x
 | _, _, .tup e al => .tup (ht _ _ e) (IsAllY.map hS ht hl hd al)
 | _, _, .lst e s al => .lst (hl _ _ s e) (hS _ s) (IsAllY.map hS ht hl hd al)
 | _, _, .d0 e => .d0 (hd _ _ e)
 | _, _, .d1 e al => .d1 (hd _ _ e) (IsY.map hS ht hl hd al)
theorem IsAllY.map {S S' : Addr -> Prop} {H H' : Hp} (hS : ∀ a, S a -> S' a) (ht : ∀ a xs, H a = some (.tup xs) -> H' a = some (.tup xs)) (hl : ∀ a xs, S a -> H a = some (.lst xs) -> H' a = some (.lst xs)) (hd : ∀ a xs, H a = some (.dK xs) -> H' a = some (.dK xs)) : ∀ {vs : List V} {ds : List PyData}, IsAllY S H vs ds -> IsAllY S' H' vs ds
 | _, _, .nil => .nil
 | _, _, .cons h t => .cons (IsY.map hS ht hl hd h) (IsAllY.map hS ht hl hd t)
end
theorem IsY.same {S : Addr -> Prop} {H H' : Hp} (s : Same H H') {v : V} {d : PyData} (h : IsY S H v d) : IsY S H' v d := IsY.map (fun _ z => z) (fun a _ => s a _) (fun a _ _ => s a _) (fun a _ => s a _) h
theorem IsAllY.same {S : Addr -> Prop} {H H' : Hp} (s : Same H H') {v : List V} {d : List PyData} (h : IsAllY S H v d) : IsAllY S H' v d := IsAllY.map (fun _ z => z) (fun a _ => s a _) (fun a _ _ => s a _) (fun a _ => s a _) h
theorem IsY.wide {S S' : Addr -> Prop} {H : Hp} (hS : ∀ a, S a -> S' a) {v : V} {d : PyData} (h : IsY S H v d) : IsY S' H v d := IsY.map hS (fun _ _ e => e) (fun _ _ _ e => e) (fun _ _ e => e) h
theorem IsY.keep {S : Addr -> Prop} {H H' : Hp} {p q : Addr} {ps qs : List V} (k : Keep p q H H') (hp : H p = some (.lst ps)) (hq : H q = some (.lst qs)) (hS : ∀ a, S a -> a ≠ p /\ a ≠ q) {v : V} {d : PyData} (h : IsY S H v d) : IsY S H' v d :=
 IsY.map (fun _ z => z) (fun a _ e => k a _ e (ne_of e hp (by intro z; cases z)) (ne_of e hq (by intro z; cases z))) (fun a _ s e => k a _ e (hS a s).1 (hS a s).2) (fun a _ e => k a _ e (ne_of e hp (by intro z; cases z)) (ne_of e hq (by intro z; cases z))) h
theorem IsAllY.append {S : Addr -> Prop} {H : Hp} : ∀ {v w : List V} {d e : List PyData}, IsAllY S H v d -> IsAllY S H w e -> IsAllY S H (v ++ w) (d ++ e)
 | _, _, _, _, .nil, h => h
 | _, _, _, _, .cons a t, h => .cons a (IsAllY.append t h)
theorem IsAllY.len {S : Addr -> Prop} {H : Hp} : ∀ {v : List V} {d : List PyData}, IsAllY S H v d -> v.length = d.length
 | _, _, .nil => rfl
 | _, _, .cons _ t => by rw [List.length_cons, List.length_cons, IsAllY.len t]
theorem IsAllY.at {S : Addr -> Prop} {H : Hp} : ∀ {v : List V} {d : List PyData} {i : Nat} {x : V}, IsAllY S H v d -> v[i]? = some x -> ∃ e, d[i]? = some e /\ IsY S H x e
 | _, _, _, _, .nil, h => by simp at h
 | _, _, 0, _, .cons a _, h => by
  simp at h
  subst h
  exact ⟨_, rfl, a⟩
 | _, _, i + 1, _, .cons _ t, h => by
  obtain ⟨e, h1, h2⟩ := IsAllY.at (i := i) t (by simpa using h)
  exact ⟨e, by simpa using h1, h2⟩
noncomputable def OkD (m k : Nat) (d : PyData) : Prop := d.showable = true /\ d.leavesShort 1921 = true /\ d.bulk <= m /\ d.depth <= k
noncomputable def OkDs (m k : Nat) (ds : List PyData) : Prop := PyData.showableAll ds = true /\ PyData.leavesShortAll 1921 ds = true /\ PyData.bulkAll ds <= m /\ PyData.depthAll ds <= k
theorem shw_abs {n : Int} (h : n.natAbs < 2 ^ 1900) : Shw n := by
 unfold Shw
 by_cases h0 : n.natAbs = 0
 ·rw [h0]; decide
 ·rw [Nat.log2_lt h0]
  exact Nat.lt_of_lt_of_le h (Nat.pow_le_pow_right (by decide) (by decide))
theorem OkD.int {m k : Nat} {n : Int} (h : Shw n) : OkD m k (.int n) := by
 refine ⟨?_, ?_, Nat.zero_le _, Nat.zero_le _⟩
 ·simp only [PyData.showable, decide_eq_true_eq]; exact h
 ·simp only [PyData.leavesShort, decide_eq_true_eq]; exact int_text_len_1921 h
theorem OkDs.nil {m k : Nat} : OkDs m k [] := ⟨rfl, rfl, Nat.zero_le _, Nat.zero_le _⟩
theorem OkDs.cons {m m' k : Nat} {d : PyData} {ds : List PyData} (h : OkD m k d) (t : OkDs m' k ds) : OkDs (m + 1 + m') k (d :: ds) := by
 obtain ⟨a, b, c, e⟩ := h
 obtain ⟨a', b', c', e'⟩ := t
 refine ⟨?_, ?_, ?_, ?_⟩
 ·simp only [PyData.showableAll, a, a', Bool.and_self]
 ·simp only [PyData.leavesShortAll, b, b', Bool.and_self]
 ·simp only [PyData.bulkAll]; (first | lia | omega)
 ·simp only [PyData.depthAll]; (first | lia | omega)
theorem OkDs.tup {m k : Nat} {ds : List PyData} (h : OkDs m k ds) : OkD m (k + 1) (.tuple ds) := by
 obtain ⟨a, b, c, e⟩ := h
 exact ⟨by simpa only [PyData.showable] using a, by simpa only [PyData.leavesShort] using b, by simpa only [PyData.bulk] using c, by simpa only [PyData.depth] using Nat.succ_le_succ e⟩
theorem OkD.shows {m k : Nat} {d : PyData} (h : OkD m k d) (hm : m <= 2000) (hk : k <= 60) : Shows d := by
 obtain ⟨a, b, c, e⟩ := h
 refine ⟨a, Nat.le_trans e hk, ?_⟩
 refine Nat.le_trans (PyData.shown_le_bulk 1921 (by decide) d b) (Nat.le_trans (Nat.add_le_add_right (Nat.mul_le_mul_left _ (Nat.le_trans c hm)) _) (by decide))
section
variable {X : Cx} {pins : List (Addr × Obj)} {σ : St} {H : Hp} {s : Shared}
theorem pairs_vals : ∀ {es : List DictEntry} {kvs : List (Key × V)} {vs : List (Key × Value)}, Pairs (mixKind X.prog X.w) es vs -> KV kvs vs -> Vals (kvs.map fun p => kV p.1) (es.map (·.key)) /\ Vals (kvs.map (·.2)) (es.map (·.val))
 | _, _, _, .nil, .nil => ⟨.nil, .nil⟩
 | _, _, _, .cons h1 h2 t, .cons r rs => by
  obtain ⟨i1, i2⟩ := pairs_vals t rs
  refine ⟨.cons ?_ i1, .cons (by show RelV _ _; dsimp only; rw [h2]; exact r.2) i2⟩
  rename_i e kv es vs a as
  obtain ⟨k, v⟩ := a
  obtain ⟨k', v'⟩ := kv
  cases (show k = k' from r.1)
  rcases keyIs_shape h1 with ⟨i, t, rfl, e1⟩ | ⟨x, t, rfl, e1⟩
  ·exact ⟨t, e1⟩
  ·exact ⟨t, e1⟩
mutual
theorem Inv.readsY {S : Addr -> Prop} (I : Inv X pins σ H s) : ∀ {v : V} {d : PyData} {u : Value}, IsY S H v d -> RelV v u -> ∃ as, Reads s.heap u d as /\ ∀ a ∈ as, a ≠ sysModules ∨ S a
 | _, _, _, .non, r => by cases (show _ = Value.none from r); exact ⟨_, .none, fun _ h => nomatch h⟩
 | _, _, _, .bl b, r => by cases (show _ = Value.bool b from r); exact ⟨_, .bool b, fun _ h => nomatch h⟩
 | _, _, _, .int i, r => by obtain ⟨t, rfl⟩ := r; exact ⟨_, .int i t, fun _ h => nomatch h⟩
 | _, _, _, .str x, r => by obtain ⟨t, rfl⟩ := r; exact ⟨_, .str x t, fun _ h => nomatch h⟩
 | _, _, _, .tup (a := a) (vs := vs) h al, r => by
  cases (show _ = Value.ref a from r)
  obtain ⟨its, rv, ⟨o, ho, hc, n, hd⟩, _⟩ := I.tuple (SqT.of h)
  obtain ⟨as, q, hs⟩ := Inv.readsAllY I al rv
  exact ⟨as, .tuple ho hc hd (by simpa using q), hs⟩
 | _, _, _, .lst (a := a) (vs := vs) h sa al, r => by
  cases (show _ = Value.ref a from r)
  obtain ⟨_, its, n, rv, ho⟩ := (show ObjOk X.prog X.w H s.heap a (.lst vs) from I.hok a _ h)
  obtain ⟨as, q, hs⟩ := Inv.readsAllY I al rv
  refine ⟨_, .list ho rfl rfl (by simpa using q), fun b hb => ?_⟩
  rcases List.mem_cons.mp hb with rfl | hb
  ·exact .inr sa
  ·exact hs b hb
 | _, _, _, .d0 (a := a) h, r => by
  cases (show _ = Value.ref a from r)
  obtain ⟨_, hne, vs, rk, o, es, ep, ho, hx, hd, _, hp, _⟩ := dk_of I.hok h
  cases rk
  have he : es.toList = [] := List.eq_nil_of_length_eq_zero (by rw [hp.length]; rfl)
  refine ⟨_, .dict (kvs := []) ho hx.1 hd (by rw [he]; exact .nil) (by rw [he]; exact .nil), fun b hb => ?_⟩
  rcases List.mem_cons.mp hb with rfl | hb
  ·exact .inl (by simpa using hne)
  ·exact absurd hb (by simp)
 | _, _, _, .d1 (a := a) (k := k) (v := v) (d := d) h al, r => by
  cases (show _ = Value.ref a from r)
  obtain ⟨_, hne, vs, rk, o, es, ep, ho, hx, hd, _, hp, _⟩ := dk_of I.hok h
  obtain ⟨p1, p2⟩ := pairs_vals hp rk
  have q1 : IsY S H (kV k) (kD k) := by cases k <;> constructor
  generalize hks : es.toList.map (·.key) = ks at p1
  generalize hvs : es.toList.map (·.val) = ws at p2
  cases p1 with
  | cons r1 t1 =>
   cases t1
   rename_i u1
   cases p2 with
   | cons r2 t2 =>
    cases t2
    obtain ⟨as2, q2, hs2⟩ := Inv.readsY I al r2
    have q3 : ∃ as, Reads s.heap u1 (kD k) as /\ ∀ a ∈ as, a ≠ sysModules ∨ S a := by
     cases k with
     | inl i => obtain ⟨t, e⟩ := r1; rw [e]; exact ⟨_, .int i t, fun _ h => nomatch h⟩
     | inr x => obtain ⟨t, e⟩ := r1; rw [e]; exact ⟨_, .str x t, fun _ h => nomatch h⟩
    obtain ⟨as1, q1, hs1⟩ := q3
    refine ⟨_, .dict (kvs := [(kD k, d)]) ho hx.1 hd (by rw [hks]; exact .cons q1 .nil) (by rw [hvs]; exact .cons q2 .nil), fun b hb => ?_⟩
    simp only [List.append_nil, List.mem_cons, List.mem_append, List.cons_append] at hb
    rcases hb with rfl | hb | hb
    ·exact .inl (by simpa using hne)
    ·exact hs1 b hb
    ·exact hs2 b hb
theorem Inv.readsAllY {S : Addr -> Prop} (I : Inv X pins σ H s) : ∀ {vs : List V} {ds : List PyData} {us : List Value}, IsAllY S H vs ds -> Vals vs us -> ∃ as, ReadsAll s.heap us ds as /\ ∀ a ∈ as, a ≠ sysModules ∨ S a
 | _, _, _, .nil, .nil => ⟨_, .nil, fun _ h => nomatch h⟩
 | _, _, _, .cons h al, .cons r rs => by
  obtain ⟨as, q, h1⟩ := Inv.readsY I h r
  obtain ⟨bs, q', h2⟩ := Inv.readsAllY I al rs
  exact ⟨_, .cons q q', fun a ha => (List.mem_append.mp ha).elim (h1 a) (h2 a)⟩
end
end
noncomputable def tLstN (t : TA) : TE := fun σ H Q => t σ H fun xs H1 => xs.length <= sizeLine /\ ∀ l, H1 l = none -> l ≠ sysModules -> Q (.ref l) (upd H1 l (.lst xs))
theorem pe_lstN {X : Cx} {pos : Pos} {es : List Expr} {t : TA} (h : PA X es t) : PE X (.List es pos) (tLstN t) := by
 intro pins s σ H Q I hq
 refine wpAny_List_spliced (thn (h pos pins s σ H _ I hq) fun us s1 ⟨xs, H1, I1, r, z, q⟩ => ⟨by rw [<- r.length]; exact z, ?_⟩)
 have hf : H1 s1.heap.objs.size = none := I1.hok.fresh (Nat.le_refl _)
 refine ⟨.ref s1.heap.objs.size, upd H1 s1.heap.objs.size (.lst xs), I1.laid (t' := s1.toks) (fun b u e => Heap.get?_push_of_some _ e) (Nat.le_refl _) ?_, rfl, q _ hf (Nat.ne_of_gt I1.big)⟩
 exact ⟨z, us, 0, r, Heap.get?_push_size _ rfl⟩
end L2
namespace L2
open PySem PySem.Spec PyProof.Rows
end L2
namespace L2
open PySem PySem.Spec PyProof.Rows
end L2
namespace L2
open PySem PySem.Spec PyProof.Rows
end L2
namespace L2
open PySem PySem.Spec PyProof.Rows
theorem op_isnot_bl {X : Cx} : OpR X (compareOp .IsNot) (fun x y H Q => ∃ a b, x = .bl a /\ y = .bl b /\ Q (.bl (!(a == b))) H) := by
 intro pins s σ H x y v u Q I rx ry h
 obtain ⟨a, b, rfl, rfl, q⟩ := h
 cases (show v = Value.bool a from rx)
 cases (show u = Value.bool b from ry)
 refine wpAny_pure ⟨.bl (!(a == b)), H, I, ?_, q⟩
 show Value.bool _ = Value.bool _
 cases a <;> cases b <;> rfl
end L2
namespace L2
open PySem PySem.Spec PyProof.Rows
end L2
namespace L2
open PySem PySem.Spec PyProof.Rows
end L2
namespace L2
open PySem PySem.Spec PyProof.Rows
open Classical in
noncomputable def Kn (K : PySem.W.Frag) (H : Hp) (y : V) : Prop := ∃ t : String, TyOf K H y (.type t) /\ t ∈ kinds7
theorem IsY.kn {K : PySem.W.Frag} {S : Addr -> Prop} {H : Hp} {x : V} {d : PyData} (h : IsY S H x d) : Kn K H x := ⟨_, h.ty, tyD_in d⟩
theorem tyI {K : PySem.W.Frag} {H : Hp} {y : V} {t : String} (h : TyOf K H y (.type t)) : t = "int" ↔ ∃ n : Int, y = .int n := by
 cases h <;> simp
noncomputable def isIv : V -> Bool
 | .int _ => true
 | _ => false
noncomputable def spWhA (K : PySem.W.Frag) : Sp := fun vs H Q _ => ∃ x, vs = [x] /\ Kn K H x /\ Q (.bl (isIv x)) H
theorem isIv_iff {y : V} : isIv y = true ↔ ∃ n : Int, y = .int n := by
 cases y <;> simp [isIv]
noncomputable def notStar : Expr -> Bool
 | .Starred _ _ => false
 | _ => true
theorem star_cons {e : Expr} {es : List Expr} {env : Env} (h : notStar e = true) : starEach (e :: es) env = (false, eval e env) :: starEach es env := by
 cases e <;> first | rfl | cases h
theorem pa_consQ {X : Cx} {e : Expr} {es : List Expr} {te : TE} {t : TA} (ha : PE X e te) (hr : PA X es t) (h : notStar e = true := by rfl) : PA X (e :: es) (tCons te t) := pa_cons ha hr (star_cons h)
end L2
namespace L2
open PySem PySem.Spec PyProof.Rows
noncomputable def lit : Nat -> Expr -> Option PyData
 | 0, _ => none
 | _ + 1, .Constant .none _ _ => some .none
 | _ + 1, .Constant (.bool b) _ _ => some (.bool b)
 | _ + 1, .Constant (.int i) _ _ => some (.int i)
 | _ + 1, .Constant (.str x) _ _ => some (.str x)
 | _ + 1, .UnaryOp .USub (.Constant (.int i) _ _) _ => some (.int (-i))
 | n + 1, .Tuple es _ _ => if es.length <= 100 then (es.mapM (lit n)).map PyData.tuple else none
 | n + 1, .List es _ => if es.length <= 100 then (es.mapM (lit n)).map PyData.list else none
 | _ + 1, .Dict [] [] _ => some (.dict [])
 | _ + 1, _ => none
noncomputable def Fr (H : Hp) : Addr -> Prop := fun a => H a = none /\ a ≠ sysModules
theorem Fr.back {H H' : Hp} (s : Same H H') {a : Addr} (h : Fr H' a) : Fr H a := ⟨s.free h.1, h.2⟩
noncomputable def tLit (d : PyData) : TE := fun _ H Q => ∀ x H', Same H H' -> IsY (Fr H) H' x d -> Q x H'
noncomputable def tLits (ds : List PyData) : TA := fun _ H Q => ∀ xs H', Same H H' -> IsAllY (Fr H) H' xs ds -> Q xs H'
theorem PE.weak {X : Cx} {e : Expr} {t t' : TE} (h : PE X e t) (m : ∀ σ H Q, t' σ H Q -> t σ H Q) : PE X e t' := fun pins s σ H Q I q => h pins s σ H Q I (m σ H Q q)
theorem PA.weak {X : Cx} {e : List Expr} {t t' : TA} (h : PA X e t) (m : ∀ σ H Q, t' σ H Q -> t σ H Q) : PA X e t' := fun pos pins s σ H Q I q => h pos pins s σ H Q I (m σ H Q q)
theorem IsAllY.wide {S S' : Addr -> Prop} {H : Hp} (hS : ∀ a, S a -> S' a) {v : List V} {d : List PyData} (h : IsAllY S H v d) : IsAllY S' H v d := IsAllY.map hS (fun _ _ e => e) (fun _ _ _ e => e) (fun _ _ e => e) h
theorem lit_star {n : Nat} {e : Expr} {d : PyData} (h : lit n e = some d) : notStar e = true := by
 cases n with
 | zero => cases h
 | succ n => cases e <;> first | rfl | cases h
theorem pa_lits {X : Cx} {n : Nat} (ih : ∀ e d, lit n e = some d -> PE X e (tLit d)) : ∀ (es : List Expr) (ds : List PyData), es.mapM (lit n) = some ds -> PA X es (tLits ds)
 | [], ds, h => by
  simp at h
  subst h
  exact PA.weak pa_nil fun σ H Q q => q [] H (Same.refl H) .nil
 | e :: es, ds, h => by
  rw [List.mapM_cons] at h
  cases h1 : lit n e with
  | none => rw [h1] at h; cases h
  | some d =>
   rw [h1] at h
   cases h2 : es.mapM (lit n) with
   | none => rw [h2] at h; cases h
   | some ds' =>
    rw [h2] at h
    cases h
    refine PA.weak (pa_consQ (ih e d h1) (pa_lits ih es ds' h2) (lit_star h1)) fun σ H Q q x H1 s1 y1 xs H2 s2 y2 => ?_
    exact q _ H2 (s1.trans s2) (.cons (y1.same s2) (y2.wide fun a h => h.back s1))
theorem mapM_len {α β : Type} {f : α -> Option β} : ∀ {l : List α} {r : List β}, l.mapM f = some r -> r.length = l.length
 | [], r, h => by simp at h; subst h; rfl
 | a :: l, r, h => by
  rw [List.mapM_cons] at h
  cases h1 : f a with
  | none => rw [h1] at h; cases h
  | some b =>
   rw [h1] at h
   cases h2 : l.mapM f with
   | none => rw [h2] at h; cases h
   | some r' =>
    rw [h2] at h
    cases h
    rw [List.length_cons, List.length_cons, mapM_len h2]
theorem pe_lit {X : Cx} : ∀ (n : Nat) (e : Expr) (d : PyData), lit n e = some d -> PE X e (tLit d)
 | 0, _, _, h => by cases h
 | n + 1, e, d, h => by
  have ih := pe_lit (X := X) n
  unfold lit at h
  split at h
  ·cases ‹_ + 1 = 0›
  ·cases h
   exact PE.weak pe_non fun σ H Q q => q _ H (Same.refl H) .non
  ·cases h
   exact PE.weak pe_bl fun σ H Q q => q _ H (Same.refl H) (.bl _)
  ·cases h
   exact PE.weak pe_int fun σ H Q q => q _ H (Same.refl H) (.int _)
  ·cases h
   exact PE.weak pe_str fun σ H Q q => q _ H (Same.refl H) (.str _)
  ·cases h
   exact PE.weak (pe_un un_neg pe_int) fun σ H Q q => ⟨_, rfl, q _ H (Same.refl H) (.int _)⟩
  ·rename_i k es _ _ heq
   cases heq
   split at h
   ·rename_i hl
    cases h2 : es.mapM (lit n) with
    | none => rw [h2] at h; cases h
    | some ds =>
     rw [h2] at h
     cases h
     refine PE.weak (pe_tup (pa_lits ih es ds h2)) fun σ H Q q xs H1 s1 y1 => ?_
     have hz : xs.length <= sizeLine := by rw [y1.len, mapM_len h2, sizeLine_eq]; (first | lia | omega)
     refine ⟨hz, fun t ht => q _ _ (s1.trans (same_upd ht)) (.tup upd_same (y1.same (same_upd ht)))⟩
   ·cases h
  ·rename_i k es _ heq
   cases heq
   split at h
   ·rename_i hl
    cases h2 : es.mapM (lit n) with
    | none => rw [h2] at h; cases h
    | some ds =>
     rw [h2] at h
     cases h
     refine PE.weak (pe_lstN (pa_lits ih es ds h2)) fun σ H Q q xs H1 s1 y1 => ?_
     have hz : xs.length <= sizeLine := by rw [y1.len, mapM_len h2, sizeLine_eq]; (first | lia | omega)
     refine ⟨hz, fun t ht hn => q _ _ (s1.trans (same_upd ht)) (.lst upd_same ⟨s1.free ht, hn⟩ (y1.same (same_upd ht)))⟩
   ·cases h
  ·cases h
   exact PE.weak pe_dnewK fun σ H Q q d hd => q _ _ (same_upd hd) (.d0 upd_same)
  ·cases h
end L2
namespace L2
open PySem PySem.Spec PyProof.Rows
theorem lc_growI {J : It} {Ok : Hp -> Prop} {xs : List V} {te : TE} {ix : List Nat} {σ : L2.St} {H1 : Hp} {Q : VK} (Y : Yields J Ok xs) (small : xs.length < sizeLine) (bs : List Bool) (hbs : bs.length = xs.length) (hok : ∀ H, Same H1 H -> Ok H)
  (he : ∀ (i : Nat) (x : V) (b : Bool) (H : Hp), xs[i]? = some x -> bs[i]? = some b -> Same H1 H -> ∀ (QT : VK), (∀ H', Same H H' -> QT (.bl b) H') -> te (some x :: ix.map fun i => σ.getD i none) H QT)
  (fin : ∀ acc H', H1 acc = none -> Same H1 H' -> H' acc = some (.lst (bs.map V.bl)) -> Q (.ref acc) H') :
  LcW J H1 (gName 0) tNoTest te 1 ix σ Q := by
 intro acc ha
 refine ⟨fun i m H => m = xs.length - i /\ i <= xs.length /\ Same H1 H /\ H acc = some (.lst ((bs.take i).map V.bl)), ⟨xs.length, by simp, Nat.zero_le _, same_upd ha, upd_same⟩, ?_⟩
 rintro i m H ⟨rfl, hi, sm, hacc⟩
 have o := hok _ sm
 by_cases hlt : i < xs.length
 ·refine .inr ⟨Y.go i _ o hlt, fun x H' y => ?_⟩
  obtain ⟨rfl, hx⟩ := Y.yld i _ x H' o hlt y
  refine ⟨⟨rfl, fun j v e => ?_⟩, ?_⟩
  ·cases j with
   | zero => cases e
   | succ j => exact e
  ·unfold tNoTest
   dsimp only
   rw [if_pos rfl]
   have hb : bs[i]? = some bs[i] := List.getElem?_eq_getElem (by (first | lia | omega))
   refine he i x bs[i] H' hx hb sm _ (fun H4 s4 => ?_)
   have h4 := s4 _ _ hacc
   refine ⟨_, h4, by rw [List.length_map, List.length_take]; (first | lia | omega), xs.length - (i + 1), by (first | lia | omega), rfl, hlt, fun b o' hb' => ?_, ?_⟩
   ·have hba : b ≠ acc := fun e => by rw [e, ha] at hb'; cases hb'
    rw [upd_ne hba]
    exact s4 b _ (sm b _ hb')
   ·rw [upd_same, List.take_succ, hb, List.map_append]
    rfl
 ·have e : i = xs.length := by (first | lia | omega)
  subst e
  rw [<- hbs, List.take_length] at hacc
  exact .inl ⟨Y.stop _ o, fin acc H ha sm hacc⟩
noncomputable def whD : PyData -> Bool
 | .int _ => true
 | _ => false
noncomputable def wholesD : PyData -> Bool
 | .tuple ds => ds.all whD
 | _ => false
noncomputable def asI : PyData -> Int
 | .int n => n
 | _ => 0
theorem ints_of {S : Addr -> Prop} {H : Hp} : ∀ {vs : List V} {ds : List PyData}, IsAllY S H vs ds -> ds.all whD = true -> vs = (ds.map asI).map V.int
 | _, _, .nil, _ => rfl
 | _, _, .cons (d := d) h t, a => by
  rw [List.all_cons, Bool.and_eq_true] at a
  rw [ints_of t a.2]
  cases h with
  | int i => rfl
  | _ => cases a.1
noncomputable def Sz (n : Nat) (d : PyData) : Prop := d.bulk <= n
theorem bulk_lenY : ∀ ds : List PyData, ds.length <= PyData.bulkAll ds
 | [] => Nat.zero_le _
 | d :: r => by
  have := bulk_lenY r
  simp only [PyData.bulkAll, List.length_cons]; (first | lia | omega)
theorem Sz.tup {n : Nat} {ds : List PyData} (h : Sz n (.tuple ds)) : ds.length <= n /\ ∀ d ∈ ds, Sz n d := by
 have h : PyData.bulkAll ds <= n := by simpa only [Sz, PyData.bulk] using h
 induction ds with
 | nil => exact ⟨Nat.zero_le _, fun _ h => by cases h⟩
 | cons d r ih =>
  simp only [PyData.bulkAll] at h
  have := ih (by simpa only [Sz, PyData.bulk] using (by (first | lia | omega) : PyData.bulkAll r <= n)) (by (first | lia | omega))
  have hl := bulk_lenY r
  refine ⟨by rw [List.length_cons]; (first | lia | omega), fun e he => ?_⟩
  rcases List.mem_cons.mp he with rfl | he
  ·show e.bulk <= n
   (first | lia | omega)
  ·exact this.2 e he
noncomputable def spWhsD : Sp := fun vs H Q _ => ∃ S x d, vs = [x] /\ IsY S H x d /\ Sz 1000 d /\ ∀ H', Same H H' -> Q (.bl (wholesD d)) H'
theorem IsY.isT {S : Addr -> Prop} {H : Hp} {x : V} {d : PyData} (h : IsY S H x d) : (∃ a vs ds, x = .ref a /\ d = .tuple ds /\ H a = some (.tup vs) /\ IsAllY S H vs ds) ∨ (tyD d ≠ "tuple" /\ ∀ ds, d ≠ .tuple ds) := by
 cases h with
 | tup e al => exact .inl ⟨_, _, _, rfl, rfl, e, al⟩
 | _ => exact .inr ⟨(by simp [tyD]), fun _ => (by intro z; cases z)⟩
end L2
namespace L2
open PySem PySem.Spec PyProof.Rows
structure PEw (X : Cx) (e : Expr) (t : TE) : Prop where
 h : PE X e t
structure PAw (X : Cx) (e : List Expr) (t : TA) : Prop where
 h : PA X e t
structure PTw (X : Cx) (e : Expr) (t : TT) : Prop where
 h : PT X e t
structure PWw (X : Cx) (e : Expr) (t : TT) : Prop where
 h : PW X e t
structure PSw (X : Cx) (e : Stmt) (t : TS) : Prop where
 h : PS X e t
structure PSsw (X : Cx) (e : List Stmt) (t : TS) : Prop where
 h : PSs X e t
end L2
namespace Wr
open PySem PySem.Spec PyProof.Rows L2
theorem pss_cons {X : Cx} {st : PySem.Stmt} {rest : List PySem.Stmt} {t u : TS} (h1 : PSw X st t) (h2 : PSsw X rest u) : PSsw X (st :: rest) (tSeq t u) := ⟨L2.pss_cons h1.h h2.h⟩
theorem pss_one {X : Cx} {st : PySem.Stmt} {t : TS} (h1 : PSw X st t) : PSsw X [st] t := ⟨L2.pss_one h1.h⟩
theorem pss_nil {X : Cx} : PSsw X [] tNext := ⟨L2.pss_nil ⟩
theorem ps_set {X : Cx} {pos : PySem.Pos} {i : Nat} {x : Str} {e : Expr} {te : TE} {pos' : Pos} (hN : X.N.Nodup) (hi : X.N[i]? = some x) (hx : Loc X.env.scope x) (he : PEw X e te) (hs : swapsWith e (some (.Name x pos')) pos.line X.env = pure false := by rfl) (hf : X.fn x = true ∨ X.env.scope.names.lookup x = some .local := by first | exact .inl rfl | exact .inr rfl | assumption) : PSw X (.Assign [.Name x pos'] e pos) (tAsg te (gName i)) := ⟨L2.ps_set hN hi hx he.h hs hf⟩
theorem ps_par {X : Cx} {pos : PySem.Pos} {i j : Nat} {x y : Str} {a b : Expr} {ta : TA} {px py pt : Pos} {kt k2 pt2} (hc : X.calm = true) (hN : X.N.Nodup) (hi : X.N[i]? = some x) (hj : X.N[j]? = some y) (hij : i ≠ j) (hx : X.env.scope.names.lookup x = some .local) (hy : X.env.scope.names.lookup y = some .local) (ha : PAw X [a, b] ta) (hw : swappedStores [.Tuple [.Name x px, .Name y py] kt pt] (.Tuple [a, b] k2 pt2) X.env = pure (some [x, y])) (hs : swapsWithSole [.Tuple [.Name x px, .Name y py] kt pt] (.Tuple [a, b] k2 pt2) pos.line X.env = pure false := by rfl) : PSw X (.Assign [.Tuple [.Name x px, .Name y py] kt pt] (.Tuple [a, b] k2 pt2) pos) (tPar i j ta) := ⟨L2.ps_par hc hN hi hj hij hx hy ha.h hw hs⟩
theorem ps_if {X : Cx} {t u : TS} {pos : PySem.Pos} {c : Expr} {a b : List Stmt} {tc : TT} (hc : PTw X c tc) (ha : PSsw X a t) (hb : PSsw X b u) : PSw X (.If c a b pos) (tIfS tc t u) := ⟨L2.ps_if hc.h ha.h hb.h⟩
theorem ps_ret {X : Cx} {e : PySem.Expr} {te : TE} {pos : PySem.Pos} (he : PEw X e te) : PSw X (.Return (some e) pos) (tRet te) := ⟨L2.ps_ret he.h⟩
theorem ps_expr {X : Cx} {e : PySem.Expr} {te : TE} {pos : PySem.Pos} (he : PEw X e te) (hs : swapsWith e none pos.line X.env = pure false := by rfl) : PSw X (.Expr e pos) (tDrop te) := ⟨L2.ps_expr he.h hs⟩
theorem pe_int {X : Cx} {i j pos} : PEw X (.Constant (.int i) j pos) (tC (.int i)) := ⟨L2.pe_int ⟩
theorem pe_bl {X : Cx} {b j pos} : PEw X (.Constant (.bool b) j pos) (tC (.bl b)) := ⟨L2.pe_bl ⟩
theorem pe_non {X : Cx} {j pos} : PEw X (.Constant .none j pos) (tC .non) := ⟨L2.pe_non ⟩
theorem pe_str {X : Cx} {x j pos} : PEw X (.Constant (.str x) j pos) (tC (.str x)) := ⟨L2.pe_str ⟩
theorem pv {X : Cx} (i : Nat) {x : Str} {pos : Pos} (hN : X.N[i]? = some x := by rfl) (hv : Vis X.env.scope x := by first | exact Or.inl rfl | exact Or.inr (Or.inl rfl) | exact Or.inr (Or.inr rfl)) (hd : (x == ("__debug__" : Str)) = false := by decide) (hcd : (x == ("__classdict__" : Str)) = false := by decide) : PEw X (.Name x pos) (tVar i) := ⟨L2.pv i hN hv hd hcd⟩
theorem pe_ix {X : Cx} {a b : PySem.Expr} {ta tb : TE} {pos : PySem.Pos} {r : R2} (hr : IxR X r) (ha : PEw X a ta) (hb : PEw X b tb) (hs : PlainIx b) : PEw X (.Subscript a b pos) (tOp r ta tb) := ⟨L2.pe_ix hr ha.h hb.h hs⟩
theorem pe_slice {X : Cx} {e : PySem.Expr} {te : TE} {lo hi : Option PySem.Expr} {tl th : TO} {pos p2 : PySem.Pos} {r : V -> Option Int -> Option Int -> Hp -> VK -> Prop} (hr : SlR X r) (he : PEw X e te) (hl : PO X lo tl) (hu : PO X hi th) : PEw X (.Subscript e (.Slice lo hi none p2) pos) (tSl r te tl th) := ⟨L2.pe_slice hr he.h hl hu⟩
theorem po_some {X : Cx} {e : PySem.Expr} {te : TE} (h : PEw X e te) : PO X (some e) (tPart te) := L2.po_some h.h
theorem pe_op {X : Cx} {a b : PySem.Expr} {ta tb : TE} {pos : PySem.Pos} {op : Operator} {r : R2} (ho : OpR X (binaryOp op) r) (ha : PEw X a ta) (hb : PEw X b tb) : PEw X (.BinOp a op b pos) (tOp r ta tb) := ⟨L2.pe_op ho ha.h hb.h⟩
theorem pe_lst {X : Cx} {es : List PySem.Expr} {t : TA} {pos : PySem.Pos} (h : PAw X es t) : PEw X (.List es pos) (tLst t) := ⟨L2.pe_lst h.h⟩
theorem pe_tup {X : Cx} {es : List PySem.Expr} {t : TA} {pos : PySem.Pos} {x1} (h : PAw X es t) : PEw X (.Tuple es x1 pos) (tTup t) := ⟨L2.pe_tup h.h⟩
theorem pe_cal {X : Cx} {k : Nat} {ps : List PySem.Str} {sp : Sp} {x : PySem.Str} {p pos : PySem.Pos} {e : PySem.Expr} {es : List PySem.Expr} {t : TA} (C : Cal X.prog X.w X.K X.mg X.base k x ps sp) (hr : Room k X.A) (hg : Gl X x) (ha : PAw X (e :: es) t) (hdb : (x == ("__debug__" : Str)) = false := by decide) (he : starEach (e :: es) X.env = (false, eval e X.env) :: starEach es X.env := by rfl) (hpl : (backTo pos (starEach es X.env)).any (·.1) = false := by rfl) : PEw X (.Call (.Name x p) (e :: es) [] pos) (fun σ H Q => t σ H fun vs H1 => sp vs H1 Q E0) := ⟨L2.pe_cal C hr hg ha.h hdb he hpl⟩
theorem pe_callB {X : Cx} {x : PySem.Str} {p pos : PySem.Pos} {e : PySem.Expr} {es : List PySem.Expr} {t : TA} {id : String} {r : List V -> Hp -> VK -> Prop} (hc : CallR X (.builtin id) r) (hg : Gl X x) (hm : X.mg x = none) (hv : bootBuiltins x = some (.builtin id)) (ha : PAw X (e :: es) t) (hn : x ≠ "__name__" := by decide) (hdb : (x == ("__debug__" : Str)) = false := by decide) (he : starEach (e :: es) X.env = (false, eval e X.env) :: starEach es X.env := by rfl) (hpl : (backTo pos (starEach es X.env)).any (·.1) = false := by rfl) : PEw X (.Call (.Name x p) (e :: es) [] pos) (tCB r t) := ⟨L2.pe_callB hc hg hm hv ha.h hn hdb he hpl⟩
theorem pe_callTy {X : Cx} {x : PySem.Str} {p pos : PySem.Pos} {e : PySem.Expr} {es : List PySem.Expr} {t : TA} {T : String} {r : List V -> Hp -> VK -> Prop} (hc : CallR X (.type T) r) (hg : Gl X x) (hm : X.mg x = none) (hv : bootBuiltins x = some (.type T)) (ha : PAw X (e :: es) t) (hn : x ≠ "__name__" := by decide) (hdb : (x == ("__debug__" : Str)) = false := by decide) (he : starEach (e :: es) X.env = (false, eval e X.env) :: starEach es X.env := by rfl) (hpl : (backTo pos (starEach es X.env)).any (·.1) = false := by rfl) : PEw X (.Call (.Name x p) (e :: es) [] pos) (tCB r t) := ⟨L2.pe_callTy hc hg hm hv ha.h hn hdb he hpl⟩
theorem pe_bm {X : Cx} {o e : PySem.Expr} {es : List PySem.Expr} {to : TE} {t : TA} {name : PySem.Str} {apos cpos : PySem.Pos} {T id : String} {r : V -> List V -> Hp -> VK -> Prop} (pa : PlainAttrs T) (slot : Slot T name id) (hty : typeOf (.builtin id) = pure (.type "method_descriptor")) (hm : MtR X id r) (ho : PEw X o to) (ha : PAw X (e :: es) t) (hbase : attributeBase o name X.env (eval o X.env) = eval o X.env := by rfl) (hfew : ((backTo cpos (starEach (e :: es) X.env)).all (fun x => !x.1) && (backToKw cpos (keywordEach [] X.env)).all (fun x => x.1.isSome)
   && decide ((e :: es).length + ([] : List Keyword).length + (if ([] : List Keyword).isEmpty then 0 else 1) < 30)) = true := by rfl) (hline : (apos.endLine == cpos.line) = true := by rfl) (hs : starEach (e :: es) X.env = (false, eval e X.env) :: starEach es X.env := by rfl) (hplain : (backTo cpos (starEach es X.env)).any (·.1) = false := by rfl) : PEw X (.Call (.Attribute o name apos) (e :: es) [] cpos) (tBM X.K T r to t) := ⟨L2.pe_bm pa slot hty hm ho.h ha.h hbase hfew hline hs hplain⟩
theorem pa_nil {X : Cx} : PAw X [] tNil := ⟨L2.pa_nil ⟩
theorem pa_cons {X : Cx} {e : PySem.Expr} {es : List PySem.Expr} {te : TE} {t : TA} (ha : PEw X e te) (hr : PAw X es t) (hs : starEach (e :: es) X.env = (false, eval e X.env) :: starEach es X.env := by rfl) : PAw X (e :: es) (tCons te t) := ⟨L2.pa_cons ha.h hr.h hs⟩
theorem pt_cmpR {X : Cx} {a b : PySem.Expr} {ta tb : TE} {pos : PySem.Pos} {op : CmpOp} {r : R2} (ho : OpR X (compareOp op) r) (ha : PEw X a ta) (hb : PEw X b tb) (hm : behindInMarks op b = false) : PTw X (.Compare a [op] [b] pos) (tTest (tOp r ta tb)) := ⟨L2.pt_cmpR ho ha.h hb.h hm⟩
theorem pt_not {X : Cx} {a : PySem.Expr} {pos : PySem.Pos} {tA : TT} (ha : PTw X a tA) : PTw X (.UnaryOp .Not a pos) (tNot tA) := ⟨L2.pt_not ha.h⟩
theorem pt_val {X : Cx} {e : Expr} {t : TE} (h : PEw X e t) (he : ∀ whole, isTrue e X.env whole = (do let v <- whole; standAt e.pos; holding [v] (truthy v)) := by intro _; rfl) : PTw X e (tB t) := ⟨L2.pt_val h.h he⟩
theorem pw_and {X : Cx} {a b : PySem.Expr} {pos : PySem.Pos} {tA tB' : TT} {rest : List PySem.Expr} (ha : PTw X a tA) (hb : PWw X (.BoolOp .And (b :: rest) pos) tB') : PWw X (.BoolOp .And (a :: b :: rest) pos) (tAnd tA tB') := ⟨L2.pw_and ha.h hb.h⟩
theorem pw_and1 {X : Cx} {a : PySem.Expr} {pos : PySem.Pos} {tA : TT} (ha : PTw X a tA) : PWw X (.BoolOp .And [a] pos) tA := ⟨L2.pw_and1 ha.h⟩
theorem PWpt {X : Cx} {e : Expr} {t : TT} (h : PWw X e t) : PTw X e t := ⟨L2.PW.pt h.h⟩
end Wr
namespace L2
open PySem PySem.Spec PyProof.Rows
structure TopY (mg : Str -> Option Value) : Prop where
 n_any : mg "any" = none
structure TopYK (K : PySem.W.Frag) : Prop where
 k_any : PySem.W.nsIn K mainGlobals "any" = some none
noncomputable def NoS : Addr -> Prop := fun _ => False
noncomputable def shD (p : Sh) : PyData := .tuple [.int p.1, .int p.2]
theorem Shr.isY {S : Addr -> Prop} {H : Hp} {z : Addr} {p : Sh} (h : Shr H z p) : IsY S H (.ref z) (shD p) := .tup h (.cons (.int _) (.cons (.int _) .nil))
theorem isY_shr {S : Addr -> Prop} {H : Hp} {x : V} {p : Sh} (h : IsY S H x (shD p)) : ∃ z, x = .ref z /\ Shr H z p := by
 cases h with
 | tup e al =>
  cases al with
  | cons h1 t1 =>
   cases t1 with
   | cons h2 t2 =>
    cases t2
    cases h1
    cases h2
    exact ⟨_, rfl, e⟩
end L2
namespace L2
open PySem PySem.Spec PyProof.Rows PySem.SeqAt
open AutoSeq1 (wpAny_loadPart')
noncomputable abbrev dObj (dd : Option Addr) (es : Array DictEntry) (k : Nat) (sl : Array (Option Value)) : Obj := { cls := .type "dict", dict := dd, data := .dict es k, slots := sl }
noncomputable abbrev tObj (dd : Option Addr) (its : Array Value) (k : Nat) (sl : Array (Option Value)) : Obj := { cls := .type "tuple", dict := dd, data := .seq its k, slots := sl }
theorem dictEqStr (a : Addr) (es : Array DictEntry) (k : Nat) (dd : Option Addr) (sl : Array (Option Value)) (x : Str) (t : Tok) :
  Meets (Builtin.«dict.__eq__» ⟨[.ref a, .str x t], []⟩) (fun _ R s => s.heap.get? a = some (dObj dd es k sl) /\ R (.ok (.ret .notImplemented)) s) :=
 .of_wp fun pr w A R s q => by
  obtain ⟨h1, h2, h3, h4, h5⟩ := s
  obtain ⟨ha, q⟩ := q
  have f1 := F.sub_str_dict
  wp_walk using wpAny_loadPart' ha, wpAny_load ha
  exact ⟨_, rfl, q⟩
theorem dictNeStr (a : Addr) (es : Array DictEntry) (k : Nat) (dd : Option Addr) (sl : Array (Option Value)) (x : Str) (t : Tok) :
  Meets (Builtin.«dict.__ne__» ⟨[.ref a, .str x t], []⟩) (fun _ R s => s.heap.get? a = some (dObj dd es k sl) /\ R (.ok (.ret .notImplemented)) s) :=
 .of_wp fun pr w A R s q => by
  obtain ⟨h1, h2, h3, h4, h5⟩ := s
  obtain ⟨ha, q⟩ := q
  have f1 := F.sub_str_dict
  wp_walk using wpAny_loadPart' ha, wpAny_load ha
  exact ⟨_, rfl, q⟩
theorem strEqDict (a : Addr) (es : Array DictEntry) (k : Nat) (dd : Option Addr) (sl : Array (Option Value)) (x : Str) (t : Tok) :
  Meets (Builtin.«str.__eq__» ⟨[.str x t, .ref a], []⟩) (fun _ R s => s.heap.get? a = some (dObj dd es k sl) /\ R (.ok (.ret .notImplemented)) s) :=
 .of_wp fun pr w A R s q => by
  obtain ⟨h1, h2, h3, h4, h5⟩ := s
  obtain ⟨ha, q⟩ := q
  wp_walk using wpAny_loadPart' ha, wpAny_load ha
  exact ⟨_, rfl, q⟩
theorem strNeDict (a : Addr) (es : Array DictEntry) (k : Nat) (dd : Option Addr) (sl : Array (Option Value)) (x : Str) (t : Tok) :
  Meets (Builtin.«str.__ne__» ⟨[.str x t, .ref a], []⟩) (fun _ R s => s.heap.get? a = some (dObj dd es k sl) /\ R (.ok (.ret .notImplemented)) s) :=
 .of_wp fun pr w A R s q => by
  obtain ⟨h1, h2, h3, h4, h5⟩ := s
  obtain ⟨ha, q⟩ := q
  wp_walk using wpAny_loadPart' ha, wpAny_load ha
  exact ⟨_, rfl, q⟩
theorem dictNeTup (a b : Addr) (es : Array DictEntry) (k : Nat) (dd : Option Addr) (sl : Array (Option Value)) (its : Array Value) (n : Nat) (dd2 : Option Addr) (sl2 : Array (Option Value)) :
  Meets (Builtin.«dict.__ne__» ⟨[.ref a, .ref b], []⟩) (fun _ R s => s.heap.get? a = some (dObj dd es k sl) /\ s.heap.get? b = some (tObj dd2 its n sl2) /\ R (.ok (.ret .notImplemented)) s) :=
 .of_wp fun pr w A R s q => by
  obtain ⟨h1, h2, h3, h4, h5⟩ := s
  obtain ⟨ha, hb, q⟩ := q
  have f1 := F.sub_tuple_dict
  wp_walk using wpAny_loadPart' ha, wpAny_load ha, wpAny_loadPart' hb, wpAny_load hb
  exact ⟨_, rfl, q⟩
theorem tupNeDict (a b : Addr) (es : Array DictEntry) (k : Nat) (dd : Option Addr) (sl : Array (Option Value)) (its : Array Value) (n : Nat) (dd2 : Option Addr) (sl2 : Array (Option Value)) :
  Meets (Builtin.«tuple.__ne__» ⟨[.ref b, .ref a], []⟩) (fun _ R s => s.heap.get? a = some (dObj dd es k sl) /\ s.heap.get? b = some (tObj dd2 its n sl2) /\ R (.ok (.ret .notImplemented)) s) :=
 .of_wp fun pr w A R s q => by
  obtain ⟨h1, h2, h3, h4, h5⟩ := s
  obtain ⟨ha, hb, q⟩ := q
  have f1 := F.sub_dict_tuple
  wp_walk using wpAny_loadPart' ha, wpAny_load ha, wpAny_loadPart' hb, wpAny_load hb
  exact ⟨_, rfl, q⟩
section
variable {A : Around} {s : Shared}
theorem rcEq_dict_str {a : Addr} {es : Array DictEntry} {k : Nat} {dd : Option Addr} {sl : Array (Option Value)} (x : Str) (t : Tok) (ha : s.heap.get? a = some (dObj dd es k sl)) (hu : A.units < cLine) : RcAt A s (.ref a) (.str x t) false := fun pr w E Q q =>
 rc_eq_decline_or (k := false) ⟨_, ha, rfl⟩ (typeIs_str s x t) (by decide) F.sub_str_dict F.slot_dict_eq F.slot_str_eq_refl
  (fun _ z => call_meets F.slot_dict_eq ⟨_, ha, rfl⟩ F.entry_dict_eq (F.args_dict_eq_2 _ _) (dictEqStr a es k dd sl x t) ⟨ha, z⟩)
  (fun _ z => call_meets F.slot_str_eq_refl (typeIs_str s x t) F.entry_str_eq (F.args_str_eq_2 _ _) (strEqDict a es k dd sl x t) ⟨ha, z⟩)
  (fun _ z => wpAny_of_eq (rfl : isSame (.ref a) (.str x t) = pure false) z) (.inr hu) q
theorem eq_dict_str {a : Addr} {es : Array DictEntry} {k : Nat} {dd : Option Addr} {sl : Array (Option Value)} (x : Str) (t : Tok) (ha : s.heap.get? a = some (dObj dd es k sl)) (hu : A.units < cLine) : EqAt A s (.ref a) (.str x t) false := fun pr w E Q q => by
 unfold eqBool
 refine wpAny_holding (wpAny_ite_split (fun z => absurd (eq_of_beq z) nofun) fun _ => ?_)
 exact wpAny_bind (rcEq_dict_str x t ha hu pr w E _ (wpAny_truthy_bool q))
theorem rcNe_dict_str {a : Addr} {es : Array DictEntry} {k : Nat} {dd : Option Addr} {sl : Array (Option Value)} (x : Str) (t : Tok) (ha : s.heap.get? a = some (dObj dd es k sl)) (hu : A.units < cLine) : RcNeAt A s (.ref a) (.str x t) true := fun pr w E Q q =>
 rc_ne_decline_or (k := false) ⟨_, ha, rfl⟩ (typeIs_str s x t) (by decide) F.sub_str_dict F.slot_dict_ne F.slot_str_ne_refl
  (fun _ z => call_meets F.slot_dict_ne ⟨_, ha, rfl⟩ F.entry_dict_ne (F.args_dict_ne_2 _ _) (dictNeStr a es k dd sl x t) ⟨ha, z⟩)
  (fun _ z => call_meets F.slot_str_ne_refl (typeIs_str s x t) F.entry_str_ne (F.args_str_ne_2 _ _) (strNeDict a es k dd sl x t) ⟨ha, z⟩)
  (fun _ z => wpAny_of_eq (rfl : isSame (.ref a) (.str x t) = pure false) z) (.inr hu) q
theorem rcNe_dict_tup {a b : Addr} {es : Array DictEntry} {k : Nat} {dd : Option Addr} {sl : Array (Option Value)} {its : Array Value} (ha : s.heap.get? a = some (dObj dd es k sl)) (hb : s.heap.IsTuple b its) (hu : A.units < cLine) : RcNeAt A s (.ref a) (.ref b) true := fun pr w E Q q => by
 obtain ⟨⟨c2, dd2, da2, sl2⟩, ho, hc, n, hd⟩ := hb
 simp only at hc hd
 subst hc hd
 have hne : a ≠ b := fun e => by
  rw [e] at ha
  have := congrArg Obj.cls (Option.some.inj (ha.symm.trans ho))
  exact absurd this (by simp)
 exact rc_ne_decline_or (k := false) ⟨_, ha, rfl⟩ ⟨_, ho, rfl⟩ (by decide) F.sub_tuple_dict F.slot_dict_ne F.slot_tuple_ne_refl
  (fun _ z => call_meets F.slot_dict_ne ⟨_, ha, rfl⟩ F.entry_dict_ne (F.args_dict_ne_2 _ _) (dictNeTup a b es k dd sl its n dd2 sl2) ⟨ha, ho, z⟩)
  (fun _ z => call_meets F.slot_tuple_ne_refl ⟨_, ho, rfl⟩ F.entry_tuple_ne (F.args_tuple_ne_2 _ _) (tupNeDict a b es k dd sl its n dd2 sl2) ⟨ha, ho, z⟩)
  (fun _ z => wpAny_isSame_ref_other hne ha ho (by simp) z) (.inr hu) q
end
noncomputable def isStD (t : Str) : PyData -> Bool
 | .str y => y == t
 | _ => false
noncomputable def isTxD (t : Str) : PyData -> Bool
 | .tuple [d] => isStD t d
 | _ => false
section
variable {X : Cx} {pins : List (Addr × Obj)} {σ : St} {H : Hp} {s : Shared}
theorem Inv.dictAt (I : Inv X pins σ H s) {a : Addr} {kvs : List (Key × V)} (h : H a = some (.dK kvs)) : ∃ dd es k sl, s.heap.get? a = some (dObj dd es k sl) := by
 obtain ⟨_, _, vs, _, o, es, ep, ho, hx, hd, _⟩ := dk_of I.hok h
 obtain ⟨c, dd, da, sl⟩ := o
 have hc : c = .type "dict" := hx.1
 have hd : da = .dict es ep := hd
 subst hc hd
 exact ⟨dd, es, ep, sl, ho⟩
theorem Inv.tupAt (I : Inv X pins σ H s) {a : Addr} {xs : List V} (h : SqT X.K H a xs) : ∃ its : List Value, Vals xs its /\ s.heap.IsTuple a its.toArray := by
 obtain ⟨its, rv, ⟨o, ho, hc, n, hd⟩, _⟩ := I.tuple h
 exact ⟨its, rv, ⟨o, ho, hc, n, hd⟩⟩
theorem Inv.lstAt (I : Inv X pins σ H s) {a : Addr} {xs : List V} (h : H a = some (.lst xs)) : ∃ its : List Value, s.heap.IsList a its.toArray := by
 obtain ⟨_, its, n, rv, ho⟩ := (show ObjOk X.prog X.w H s.heap a (.lst xs) from I.hok a _ h)
 exact ⟨its, ⟨_, ho, rfl, n, rfl⟩⟩
theorem Inv.eqTx (I : Inv X pins σ H s) {S : Addr -> Prop} {v : V} {d : PyData} {u : Value} {A : Around} (hd : IsY S H v d) (r : RelV v u) (t : Str) (tk : Tok) (hu : A.units < cLine) : EqAt A s u (.str t tk) (isStD t d) := by
 cases hd with
 | non => cases (show u = Value.none from r); exact EqAt.none_str t tk
 | bl b => cases (show u = Value.bool b from r); exact EqAt.bool_str b t tk
 | int i => obtain ⟨q, rfl⟩ := r; exact EqAt.int_str i q t tk
 | str x => obtain ⟨q, rfl⟩ := r; exact EqAt.str_str x q t tk
 | @tup a _ _ e _ =>
  cases (show u = Value.ref a from r)
  obtain ⟨its, _, h⟩ := I.tupAt (SqT.of e)
  exact EqAt.tuple_str t tk h hu
 | @lst a _ _ e _ _ =>
  cases (show u = Value.ref a from r)
  obtain ⟨its, h⟩ := I.lstAt e
  exact EqAt.list_str t tk h hu
 | @d0 a e =>
  cases (show u = Value.ref a from r)
  obtain ⟨dd, es, k, sl, h⟩ := I.dictAt e
  exact eq_dict_str t tk h hu
 | @d1 a _ _ _ e _ =>
  cases (show u = Value.ref a from r)
  obtain ⟨dd, es, k, sl, h⟩ := I.dictAt e
  exact eq_dict_str t tk h hu
theorem Inv.neTx (I : Inv X pins σ H s) {S : Addr -> Prop} {v : V} {d : PyData} {u : Value} {A : Around} (hd : IsY S H v d) (r : RelV v u) (t : Str) (tk : Tok) (hu : A.units < cLine) : RcNeAt A s u (.str t tk) (!isStD t d) := by
 cases hd with
 | non => cases (show u = Value.none from r); exact RcNeAt.none_str t tk
 | bl b => cases (show u = Value.bool b from r); exact RcNeAt.bool_str b t tk
 | int i => obtain ⟨q, rfl⟩ := r; exact RcNeAt.int_str i q t tk
 | str x => obtain ⟨q, rfl⟩ := r; exact RcNeAt.str_str x q t tk
 | @tup a _ _ e _ =>
  cases (show u = Value.ref a from r)
  obtain ⟨its, _, h⟩ := I.tupAt (SqT.of e)
  exact RcNeAt.tuple_str t tk h hu
 | @lst a _ _ e _ _ =>
  cases (show u = Value.ref a from r)
  obtain ⟨its, h⟩ := I.lstAt e
  exact RcNeAt.list_str t tk h hu
 | @d0 a e =>
  cases (show u = Value.ref a from r)
  obtain ⟨dd, es, k, sl, h⟩ := I.dictAt e
  exact rcNe_dict_str t tk h hu
 | @d1 a _ _ _ e _ =>
  cases (show u = Value.ref a from r)
  obtain ⟨dd, es, k, sl, h⟩ := I.dictAt e
  exact rcNe_dict_str t tk h hu
theorem tx_all {ds : List PyData} {n : Nat} (t : Str) (h : n = ds.length) : (((List.range (min n 1)).all fun j => isStD t (ds.getD j .none)) && n == 1) = isTxD t (.tuple ds) := by
 subst h
 match ds with
 | [] => rfl
 | [d] => simp [isTxD, List.range_succ]
 | _ :: _ :: _ => simp [isTxD]
end
noncomputable def rEqTx (K : PySem.W.Frag) : R2 := fun x y H Q => ∃ (S : Addr -> Prop) (a b : Addr) (vs : List V) (ds : List PyData) (t : Str), x = .ref a /\ y = .ref b /\ H a = some (.tup vs) /\ IsAllY S H vs ds /\ SqT K H b [.str t] /\ Q (.bl (isTxD t (.tuple ds))) H
noncomputable def rNeTx (K : PySem.W.Frag) : R2 := fun x y H Q => ∃ (S : Addr -> Prop) (b : Addr) (d : PyData) (t : Str), y = .ref b /\ IsY S H x d /\ SqT K H b [.str t] /\ Q (.bl (!isTxD t d)) H
noncomputable def rNeSt : R2 := fun x y H Q => ∃ (S : Addr -> Prop) (d : PyData) (t : Str), y = .str t /\ IsY S H x d /\ Q (.bl (!isStD t d)) H
section
variable {X : Cx}
theorem txPairs {pins : List (Addr × Obj)} {σ : St} {H : Hp} {s : Shared} (I : Inv X pins σ H s) {S : Addr -> Prop} {vs : List V} {ds : List PyData} {its its2 : List Value} {t : Str} {A : Around} (al : IsAllY S H vs ds) (rv : Vals vs its) (r2 : Vals [.str t] its2) (hu : A.units < cLine) (j : Nat) (h1 : j < its.toArray.size) (h2 : j < its2.toArray.size) : EqAt A s its.toArray[j] its2.toArray[j] (isStD t (ds.getD j .none)) := by
 obtain ⟨w, rfl, q, rfl⟩ := vals1 r2
 have j0 : j = 0 := by simpa using h2
 subst j0
 have hl := rv.length
 have h1' : 0 < vs.length := by rw [hl]; simpa using h1
 obtain ⟨u, hu1, ru⟩ := rv.get (i := 0) (x := vs[0]) (List.getElem?_eq_getElem h1')
 obtain ⟨d, hd, yd⟩ := al.at (i := 0) (x := vs[0]) (List.getElem?_eq_getElem h1')
 have e1 : its.toArray[0] = u := by
  have := List.getElem?_eq_some_iff.mp hu1
  simpa using this.2
 have e2 : ds.getD 0 .none = d := by rw [List.getD_eq_getElem?_getD, hd]; rfl
 rw [e1, e2]
 exact I.eqTx yd ru t q hu
theorem op_eqTx (hu : X.A.units + 64 < cLine) : OpR X (compareOp .Eq) (rEqTx X.K) := by
 intro pins s σ H x y v u Q I rx ry h
 obtain ⟨S, a, b, vs, ds, t, rfl, rfl, ha, al, hb, q⟩ := h
 cases rx
 cases ry
 obtain ⟨its, rv, h1⟩ := I.tupAt (SqT.of ha)
 obtain ⟨its2, r2, h2⟩ := I.tupAt hb
 have n2 : its2.toArray.size = 1 := by have := r2.length; simpa using this.symm
 have e := tx_all (ds := ds) (n := its.toArray.size) t (by have := rv.length; have := al.len; simp; (first | lia | omega))
 have := RcAt.tuples (A := X.A) h1 h2 (by (first | lia | omega)) (fun j j1 j2 => txPairs I al rv r2 (by show X.A.in1.units < cLine; unfold Around.in1; simp; (first | lia | omega)) j j1 j2) X.prog X.w
 rw [n2, e] at this
 exact this _ _ ⟨.bl _, H, I, rfl, q⟩
theorem op_neTx (hu : X.A.units + 64 < cLine) : OpR X (compareOp .NotEq) (rNeTx X.K) := by
 intro pins s σ H x y v u Q I rx ry h
 obtain ⟨S, b, d, t, rfl, yd, hb, q⟩ := h
 cases ry
 obtain ⟨its2, r2, h2⟩ := I.tupAt hb
 have n2 : its2.toArray.size = 1 := by have := r2.length; simpa using this.symm
 have hu' : X.A.units < cLine := by (first | lia | omega)
 have fin : ∀ {w : Value}, RcNeAt X.A s w (.ref b) (!isTxD t d) -> wpAny (model X.prog X.w) X.A (compareOp .NotEq w (.ref b)) (EP X pins σ Q) X.xe s := fun k => k X.prog X.w _ _ ⟨.bl (!isTxD t d), H, I, rfl, q⟩
 cases yd with
 | non => cases (show v = Value.none from rx); exact fin (RcNeAt.none_tuple h2 hu')
 | bl b => cases (show v = Value.bool b from rx); exact fin (RcNeAt.bool_tuple b h2 hu')
 | int i => obtain ⟨q, rfl⟩ := rx; exact fin (RcNeAt.int_tuple i q h2 hu')
 | str x => obtain ⟨q, rfl⟩ := rx; exact fin (RcNeAt.str_tuple x q h2 hu')
 | @tup a vs ds e al =>
  cases (show v = Value.ref a from rx)
  obtain ⟨its, rv, h1⟩ := I.tupAt (SqT.of e)
  have e := tx_all (ds := ds) (n := its.toArray.size) t (by have := rv.length; have := al.len; simp; (first | lia | omega))
  have := RcNeAt.tuples (A := X.A) h1 h2 hu' (fun j j1 j2 => txPairs I al rv r2 (by show X.A.in1.units < cLine; unfold Around.in1; simp; (first | lia | omega)) j j1 j2)
  rw [n2, e] at this
  exact fin this
 | @lst a _ _ e _ _ =>
  cases (show v = Value.ref a from rx)
  obtain ⟨its, h⟩ := I.lstAt e
  exact fin (RcNeAt.list_tuple h h2 hu')
 | @d0 a e =>
  cases (show v = Value.ref a from rx)
  obtain ⟨dd, es, k, sl, h⟩ := I.dictAt e
  exact fin (rcNe_dict_tup h h2 hu')
 | @d1 a _ _ _ e _ =>
  cases (show v = Value.ref a from rx)
  obtain ⟨dd, es, k, sl, h⟩ := I.dictAt e
  exact fin (rcNe_dict_tup h h2 hu')
theorem op_neSt (hu : X.A.units + 64 < cLine) : OpR X (compareOp .NotEq) rNeSt := by
 intro pins s σ H x y v u Q I rx ry h
 obtain ⟨S, d, t, rfl, yd, q⟩ := h
 obtain ⟨tk, rfl⟩ := ry
 exact I.neTx yd rx t tk (by (first | lia | omega)) X.prog X.w _ _ ⟨.bl _, H, I, rfl, q⟩
end
end L2
namespace L2
open PySem PySem.Spec PyProof.Rows
noncomputable def strD : PyData -> Str
 | .str x => x
 | d => d.shown
noncomputable def rStrD : List V -> Hp -> VK -> Prop := fun xs H Q => ∃ (x : V) (d : PyData), xs = [x] /\ IsY (fun _ => False) H x d /\ ((∃ t, d = .str t) ∨ (∃ n, d = .int n) ∨ (∃ ds, d = .tuple ds)) /\ d.hasDict = false /\ Shows d /\ Q (.str (strD d)) H
theorem call_strD {X : Cx} (hg : X.A.guards = some []) (hu : X.A.units + 64 < cLine) : CallR X (.type "str") rStrD := by
 intro pins s σ H xs us Q I rs h
 obtain ⟨x, d, rfl, hd, hk, hnd, ⟨hs, hdep, hl⟩, q⟩ := h
 obtain ⟨u, rfl, ru⟩ := vals1 rs
 cases hd with
 | int i =>
  obtain ⟨t, rfl⟩ := ru
  exact PySem.P.str_of_int (by simpa only [PyData.showable, decide_eq_true_eq] using hs) ⟨.str _, H, I.tok _, ⟨_, rfl⟩, q⟩
 | str y =>
  obtain ⟨t, rfl⟩ := ru
  exact PySem.P.str_of_str ⟨.str y, H, I, ⟨t, rfl⟩, q⟩
 | @tup a vs ds e al =>
  cases (show u = Value.ref a from ru)
  obtain ⟨as, r, ha⟩ := I.readsY (IsY.tup (S := fun _ => False) e al) (show RelV (.ref a) (Value.ref a) from rfl)
  exact str_of_reads r hs (fun z => by rw [hnd] at z; cases z) hg (by (first | lia | omega)) (fun _ _ e => e) (fun h' u tk hk => ⟨.str _, H, I.kept (t' := tk) hk, ⟨_, rfl⟩, q⟩) hl
 | non => obtain ⟨t, z⟩ | ⟨t, z⟩ | ⟨t, z⟩ := hk <;> cases z
 | bl b => obtain ⟨t, z⟩ | ⟨t, z⟩ | ⟨t, z⟩ := hk <;> cases z
 | lst _ s _ => exact s.elim
 | d0 _ => obtain ⟨t, z⟩ | ⟨t, z⟩ | ⟨t, z⟩ := hk <;> cases z
 | d1 _ _ => obtain ⟨t, z⟩ | ⟨t, z⟩ | ⟨t, z⟩ := hk <;> cases z
noncomputable def tD1I (k1 : Int) (t1 : TE) : TE := fun σ H Q => ∀ d, H d = none -> t1 σ (upd H d (.dK [])) fun v1 H1 => H1 d = some (.dK []) /\ Q (.ref d) (upd H1 d (.dK [(.inl k1, v1)]))
theorem pe_dict1I {X : Cx} {pos : Pos} {k1 : Int} {a1 b1 : Expr} {t1 : TE} (q1 : PE X a1 (tC (.int k1))) (p1 : PE X b1 t1) : PE X (.Dict [some a1] [b1] pos) (tD1I k1 t1) := by
 intro pins s σ H Q I h
 have hd0 : H s.heap.objs.size = none := I.hok.fresh (Nat.le_refl _)
 have h := h _ hd0
 refine wpAny_Dict_walk (knd := mixKind X.prog X.w) rfl rfl (by simp) (by show 1 <= 15; decide) ?_
 have I0 : Inv X pins σ (upd H s.heap.objs.size (.dK [])) { s with heap := s.heap.push { cls := .type "dict", data := .dict #[] } } := I.laid (a := s.heap.objs.size) (o := .dK []) (t' := s.toks) (fun _ _ q => Heap.get?_push_of_some _ q) (Nat.le_refl _) (dk_empty s.heap I.big)
 refine evalPairs_cons (thn (q1 pins _ σ _ (fun x H' => x = .int k1 /\ H' = upd H s.heap.objs.size (.dK [])) I0 ⟨rfl, rfl⟩) fun u1 s1 zq => ?_)
 obtain ⟨x1, H1, I1, r1, e1, e1'⟩ := zq
 subst e1 e1'
 refine wpAny_bind (thn (p1 pins s1 σ _ _ I1 h) fun w1 s2 ⟨v1, H2, I2, rv1, hd6, h⟩ => wpAny_bind (wpAny_standAt (wpAny_pure (evalPairs_nil ?_))))
 refine ⟨[(.inl k1, w1)], ⟨kV_is (k := .inl k1) r1, rfl, trivial⟩, ?_, fun h' dd' hs => ?_⟩
 ·obtain ⟨z, hd, vs, rel, dd⟩ := dk_of I2.hok hd6
  cases rel
  exact dd
 ·have em : merged [] [((Sum.inl k1 : Key), w1)] = [(.inl k1, w1)] := by
   unfold merged stored
   simp
  rw [em] at dd'
  obtain ⟨z, hd, vs, rel, dd⟩ := dk_of I2.hok hd6
  have he : ∃ q, h'.get? s.heap.objs.size = some q := let ⟨q, _, _, hq, _⟩ := dd'; ⟨q, hq⟩
  refine ⟨.ref s.heap.objs.size, _, d_write I2 (by rw [hd6]; exact True.intro) hs he (dk_new (by show 1 <= sizeLine; decide) hd (.cons ⟨rfl, rv1⟩ .nil) dd'), rfl, h⟩
end L2
namespace L2
open PySem PySem.Spec PyProof.Rows
noncomputable def spE (a b : Sp) : Sp := fun vs H Q E => a vs H Q E ∨ b vs H Q E
theorem Cal.l {P : Program} {w : World} {K : PySem.W.Frag} {mg : Str -> Option Value} {base : Heap} {k : Nat} {x : Str} {ps : List Str} {a b : Sp} (C : Cal P w K mg base k x ps (spE a b)) : Cal P w K mg base k x ps a := by
 obtain ⟨f, fd, F, r⟩ := C
 exact ⟨f, fd, F.imp fun _ _ _ _ q => .inl q, r⟩
theorem Cal.r {P : Program} {w : World} {K : PySem.W.Frag} {mg : Str -> Option Value} {base : Heap} {k : Nat} {x : Str} {ps : List Str} {a b : Sp} (C : Cal P w K mg base k x ps (spE a b)) : Cal P w K mg base k x ps b := by
 obtain ⟨f, fd, F, r⟩ := C
 exact ⟨f, fd, F.imp fun _ _ _ _ q => .inr q, r⟩
noncomputable def juD (ns : List Int) : PyData -> Bool
 | .tuple ds => ds.all whD && decide (ds.map asI = ns)
 | _ => false
theorem ints_wh : ∀ {ds : List PyData}, ds.all whD = true -> ds = (ds.map asI).map PyData.int
 | [], _ => rfl
 | d :: r, h => by
  rw [List.all_cons, Bool.and_eq_true] at h
  rw [List.map_cons, List.map_cons, <- ints_wh h.2]
  cases d with
  | int n => rfl
  | _ => cases h.1
theorem juD_eq {ns : List Int} {d : PyData} (h : juD ns d = true) : d = .tuple (ns.map PyData.int) := by
 unfold juD at h
 split at h
 ·rw [Bool.and_eq_true, decide_eq_true_eq] at h
  rw [<- h.2, <- ints_wh h.1]
 ·cases h
noncomputable def spJust : Sp := fun vs H Q _ => ∃ (S : Addr -> Prop) (x : V) (d : PyData) (b : Addr) (ns : List Int), vs = [x, .ref b] /\ IsY S H x d /\ Sz 1000 d /\ H b = some (.tup (ns.map V.int)) /\ ∀ H', Same H H' -> Q (.bl (juD ns d)) H'
noncomputable def prN (a : Int) : Nat -> Int
 | 0 => 1
 | i + 1 => prN a i * (a + i)
noncomputable def spPrG : Sp := fun vs H Q _ => ∃ (a : Int) (k : Nat), vs = [.int a, .int (a + k - 1)] /\ 1 <= a /\ a <= 100 /\ k <= 60 /\ Q (.int (prN a k)) H
noncomputable def eaZ (kind : Str) (N k : Nat) : Int × Int := if 0 < sZ N k then (1, if kind = "stays" then prN ((N : Int) - k + 1) k else fcZ k) else (0, 1)
noncomputable def wordZ (kind : Str) : Str := if kind = "rounds" ∨ kind = "highs" then "groups" else if kind = "stays" ∨ kind = "longest" then "sets" else "spread"
noncomputable def paL (kind : Str) (N k : Nat) : List PyData := if kind = "rounds" ∨ kind = "highs" then [.str "groups", .int (figZ N)] else if kind = "stays" ∨ kind = "longest" then [.str "sets", .int (sZ N k), shD (eaZ kind N k)] else [.str "spread", shD (mnZ kind N), shD (sdZ kind N)]
noncomputable def PapT (kind : Str) (N k : Nat) (H : Hp) (z : Addr) : Prop := ∃ us, H z = some (.tup us) /\ IsAllY NoS H us (paL kind N k)
theorem PapT.same {kind : Str} {N k : Nat} {H H' : Hp} {z : Addr} (h : PapT kind N k H z) (s : Same H H') : PapT kind N k H' z := by
 obtain ⟨us, h1, h2⟩ := h
 exact ⟨us, s _ _ h1, h2.same s⟩
noncomputable def spPap (kind : Str) : Sp := fun vs H Q _ => ∃ N k : Nat, vs = [.int N, .int k] /\ N <= 60 /\ k <= 60 /\ ∀ z H', Same H H' -> PapT kind N k H' z -> Q (.ref z) H'
noncomputable def spOwn : Sp := fun vs H Q _ => ∃ (kind : Str) (N k : Nat), vs = [.str kind, .int N, .int k] /\ kind ∈ kinds6S /\ N <= 60 /\ k <= 60 /\ ∀ z H', Same H H' -> PapT kind N k H' z -> Q (.ref z) H'
noncomputable def okL (kind : Str) (N k : Nat) (ds : List PyData) : Prop := if kind = "rounds" ∨ kind = "highs" then ∃ n, ds[1]? = some (.int n) /\ figZ N <= n else ds[1]? = (paL kind N k)[1]? /\ ds[2]? = (paL kind N k)[2]?
noncomputable def okP (kind : Str) (N k : Nat) (d : PyData) : Prop := ∃ ds, d = .tuple ds /\ ds.length = (paL kind N k).length /\ ds[0]? = some (.str (wordZ kind)) /\ okL kind N k ds
structure LookAt (kind : Str) (N k : Nat) (H : Hp) (z bz a : Addr) (b : Int × Int) (S : Addr -> Prop) (vs : List V) (ds : List PyData) : Prop where
 pap : PapT kind N k H z
 hN : N <= 60
 hk : k <= 60
 bnd : Shr H bz b
 bsm : ShB b 8000
 bgr : kind = "rounds" ∨ kind = "highs" -> ShB b 1000
 top : H a = some (.tup vs)
 all : IsAllY S H vs ds
 sz : Sz 1000 (.tuple ds)
 len : ds.length = (paL kind N k).length
 int : ∀ n, ds[1]? = some (.int n) -> Sm n 200
noncomputable def spLook (ks : List Str) : Sp := fun vs H Q _ => ∃ (kind : Str) (N k : Nat) (z bz a : Addr) (b : Int × Int) (S : Addr -> Prop) (us : List V) (ds : List PyData), vs = [.ref z, .int k, .ref bz, .ref a] /\ kind ∈ ks /\ LookAt kind N k H z bz a b S us ds /\ ∀ (r : Bool) H', Same H H' -> (r = true -> okL kind N k ds) -> Q (.bl r) H'
noncomputable def spShows : Sp := fun vs H Q _ => ∃ (kind : Str) (N k : Nat) (bz : Addr) (b : Int × Int) (S : Addr -> Prop) (x : V) (d : PyData), vs = [.str kind, .int N, .int k, .ref bz, x] /\ kind ∈ kinds6S /\ N <= 60 /\ k <= 60 /\ Shr H bz b /\ ShB b 8000 /\ (kind = "rounds" ∨ kind = "highs" -> ShB b 1000) /\ IsY S H x d /\ Sz 1000 d /\ (∀ ds n, d = .tuple ds -> ds[1]? = some (.int n) -> Sm n 200) /\ ∀ (r : Bool) H', Same H H' -> (r = true -> isTxD "all" d = true ∨ okP kind N k d) -> Q (.bl r) H'
theorem sZ60 : ∀ N : Nat, N < 61 -> ∀ k : Nat, k < 61 -> 0 <= sZ (N : Int) k /\ (sZ (N : Int) k).natAbs < 2 ^ 70 := by decide +kernel
theorem pr60 : ∀ N : Nat, N < 61 -> ∀ k : Nat, k < N + 1 -> 0 < prN ((N : Int) - k + 1) k /\ (prN ((N : Int) - k + 1) k).natAbs < 2 ^ 300 := by decide +kernel
theorem sZ_sm60 {N k : Nat} (hN : N <= 60) (hk : k <= 60) : Sm (sZ N k) 70 := Sm.of (sZ60 N (by (first | lia | omega)) k (by (first | lia | omega))).2
theorem sZ_pos60 {N k : Nat} (h : 0 < sZ N k) : k <= N := by
 refine Nat.le_of_not_lt fun z => ?_
 have := (sZ_nn (N := (N : Int)) (by (first | lia | omega)) k).2 (by (first | lia | omega))
 (first | lia | omega)
theorem ea_sh {kind : Str} {N k : Nat} (hN : N <= 60) (hk : k <= 60) : ShB (eaZ kind N k) 400 := by
 unfold eaZ
 by_cases h : 0 < sZ N k
 ·rw [if_pos h]
  have kN := sZ_pos60 h
  by_cases c : kind = "stays"
  ·rw [if_pos c]
   obtain ⟨p1, p2⟩ := pr60 N (by (first | lia | omega)) k (by (first | lia | omega))
   exact ⟨p1, (Sm.of (by show 1 < 2 ^ 400; decide +kernel)), Sm.mono (n := 400) (Sm.of p2) (by decide)⟩
  ·rw [if_neg c]
   exact ⟨fcZ_pos k, (Sm.of (by show 1 < 2 ^ 400; decide +kernel)), (fcZ_smS (by (first | lia | omega))).mono (by decide)⟩
 ·rw [if_neg h]
  exact ⟨by decide, Sm.of (by decide +kernel), Sm.of (by decide +kernel)⟩
theorem le60 {N : Nat} (h : N <= 60) : (0 : Int) <= N /\ (N : Int) <= 10 ^ 30 := ⟨by (first | lia | omega), Int.le_trans (by (first | lia | omega) : (N : Int) <= 60) (by decide)⟩
theorem cap_sh {a b : Int} {n : Nat} (hb : 0 < b) (h1 : Sm a n) (h2 : Sm b n) (hn : 1 <= n) : ShB (capZ a b) n := by
 unfold capZ
 split
 ·exact ⟨by decide, Sm.mono (Sm.of (by decide : (1 : Int).natAbs < 2 ^ 1)) hn, Sm.mono (Sm.of (by decide : (1 : Int).natAbs < 2 ^ 1)) hn⟩
 ·exact ShB.low hb h1 h2
theorem one_sh {n : Nat} (hn : 1 <= n) : ShB (1, 1) n := ⟨by decide, Sm.mono (Sm.of (by decide : (1 : Int).natAbs < 2 ^ 1)) hn, Sm.mono (Sm.of (by decide : (1 : Int).natAbs < 2 ^ 1)) hn⟩
theorem most_sh {kind : Str} {N k : Nat} (hN : N <= 60) (hk : k <= 60) : ShB (mostZ kind N k) 8000 /\ (kind = "rounds" ∨ kind = "highs" -> ShB (mostZ kind N k) 1000) := by
 obtain ⟨n0, n1⟩ := le60 hN
 have g : ShB (capZ (figZ N ^ k) (fcZ k)) 1000 := cap_sh (fcZ_pos k) ((fig_sm n0 n1 k).mono (by (first | lia | omega))) ((fcZ_smS (by (first | lia | omega))).mono (by decide)) (by decide)
 unfold mostZ
 by_cases h0 : k = 0
 ·rw [if_pos h0]
  exact ⟨one_sh (by decide), fun _ => one_sh (by decide)⟩
 rw [if_neg h0]
 by_cases h1 : kind = "stays"
 ·rw [if_pos h1]
  subst h1
  exact ⟨st_sh hk, fun z => by rcases z with z | z <;> exact absurd z (by decide)⟩
 rw [if_neg h1]
 by_cases h2 : kind = "longest"
 ·rw [if_pos h2]
  subst h2
  exact ⟨cap_sh (fcZ_pos k) ((sZ_sm60 hN hk).mono (by decide)) ((fcZ_smS (by (first | lia | omega))).mono (by decide)) (by decide), fun z => by rcases z with z | z <;> exact absurd z (by decide)⟩
 rw [if_neg h2]
 by_cases h3 : kind = "rounds" ∨ kind = "highs"
 ·rw [if_pos h3]
  exact ⟨g.mono (by decide), fun _ => g⟩
 ·rw [if_neg h3]
  refine ⟨?_, fun z => absurd z h3⟩
  split
  ·exact one_sh (by decide)
  ·have m := mn_sh (kind := kind) n0 n1
   have d := sd_sh (kind := kind) n0 n1
   have f := far_sm (kind := kind) (k := (k : Int)) n0 n1 (by (first | lia | omega)) (by (first | lia | omega))
   refine cap_sh (un_pos n0 n1 (by (first | lia | omega))) ?_ ?_ (by decide)
   ·unfold ovZ
    exact ((d.s1.mul m.s2).mul m.s2).mono (by decide)
   ·unfold unZ
    exact ((d.s2.mul f).mul f).mono (by decide)
end L2
namespace L2
open PySem PySem.Spec PyProof.Rows
noncomputable def allZ {α β : Type} (f : α -> β -> Bool) : List α -> List β -> Bool
 | [], [] => true
 | a :: as, b :: bs => f a b && allZ f as bs
 | _, _ => false
noncomputable def litIs : Nat -> Expr -> PyData -> Bool
 | 0, _, _ => false
 | _ + 1, .Constant .none _ _, .none => true
 | _ + 1, .Constant (.bool b) _ _, .bool c => b == c
 | _ + 1, .Constant (.int i) _ _, .int j => decide (i = j)
 | _ + 1, .Constant (.str x) _ _, .str y => decide (x = y)
 | _ + 1, .UnaryOp .USub (.Constant (.int i) _ _) _, .int j => decide (-i = j)
 | n + 1, .Tuple es _ _, .tuple ds => decide (es.length <= 100) && allZ (litIs n) es ds
 | n + 1, .List es _, .list ds => decide (es.length <= 100) && allZ (litIs n) es ds
 | _ + 1, .Dict [] [] _, .dict [] => true
 | _ + 1, _, _ => false
theorem allZ_mapM {n : Nat} (ih : ∀ e d, litIs n e d = true -> lit n e = some d) : ∀ (es : List Expr) (ds : List PyData), allZ (litIs n) es ds = true -> es.mapM (lit n) = some ds
 | [], [], _ => by simp
 | e :: es, d :: ds, h => by
  rw [allZ, Bool.and_eq_true] at h
  rw [List.mapM_cons, ih e d h.1, allZ_mapM ih es ds h.2]
  rfl
 | [], _ :: _, h => by cases h
 | _ :: _, [], h => by cases h
theorem litIs_lit : ∀ (n : Nat) (e : Expr) (d : PyData), litIs n e d = true -> lit n e = some d
 | 0, _, _, h => by cases h
 | n + 1, e, d, h => by
  have ih := litIs_lit n
  unfold litIs at h
  split at h
  ·cases ‹_ + 1 = 0›
  ·rfl
  ·rw [eq_of_beq h]
   rfl
  ·rw [<- of_decide_eq_true h]
   rfl
  ·rw [<- of_decide_eq_true h]
   rfl
  ·rw [<- of_decide_eq_true h]
   rfl
  ·rename_i heq
   cases heq
   rw [Bool.and_eq_true] at h
   unfold lit
   rw [if_pos (of_decide_eq_true h.1), allZ_mapM ih _ _ h.2]
   rfl
  ·rename_i heq
   cases heq
   rw [Bool.and_eq_true] at h
   unfold lit
   rw [if_pos (of_decide_eq_true h.1), allZ_mapM ih _ _ h.2]
   rfl
  ·rfl
  ·cases h
theorem pe_LK {X : Cx} {e : Expr} (d : PyData) (h : litIs 9 e d = true := by decide +kernel) : PE X e (tLit d) := pe_lit 9 e d (litIs_lit 9 e d h)
theorem Wr.pe_LK {X : Cx} {e : Expr} (d : PyData) (h : litIs 9 e d = true := by decide +kernel) : PEw X e (tLit d) := ⟨L2.pe_LK d h⟩
theorem Wr.ps_forLN {X : Cx} {l : Expr} {tl : TE} {body : List Stmt} {tb : TS} {pos p1 : Pos} {i : Nat} {x : Str} (hp : PassesOwn (model X.prog X.w) X.A X.env X.xe) (hc : X.calm = true) (hl : PEw X l tl) (hN : X.N.Nodup) (hi : X.N[i]? = some x) (hx : Loc X.env.scope x) (hb : PSsw X body tb) (hs : ∀ v, foldedSetIterable l X.env v = pure v := by intro _; rfl) (hf : X.fn x = true ∨ X.env.scope.names.lookup x = some .local := by first | exact .inl rfl | exact .inr rfl | assumption) :
  PSw X (.For (.Name x p1) l body [] pos) (tFor (iList X.K tl) (gName i) tb) := ⟨L2.ps_for hp hc (L2.pi_list hl.h) (L2.pg_name hN hi hx hf) hb.h hs⟩
end L2
namespace K65
open PySem PySem.Spec PyProof.Rows L2
noncomputable def top (i : Nat) : Stmt := PySem.Challenge.pw_shuffletold_k65_bound_papers_of_anything.main.body.getD i (.Pass ⟨0, 0, 0, 0⟩)
end K65
namespace K65
open PySem PySem.Spec PyProof.Rows L2
noncomputable abbrev s_product : Stmt := top 4
noncomputable abbrev s_greatest_divisor : Stmt := top 13
noncomputable abbrev s_share_of : Stmt := top 6
noncomputable abbrev s_less : Stmt := top 8
noncomputable abbrev s_times : Stmt := top 9
noncomputable abbrev s_parted : Stmt := top 10
noncomputable abbrev s_is_less : Stmt := top 11
noncomputable abbrev s_lesser : Stmt := top 12
section
variable {P : Program} {w : World} {K : PySem.W.Frag} {mg : Str -> Option Value} {base : Heap}
theorem sc_product : FnScope ["first", "last", "found", "number"] ["first", "last"] (defScope s_product) := ⟨rfl, rfl, rfl, by decide +kernel, rfl, by decide +kernel, by decide +kernel⟩
theorem ok_product1 {f : Addr} {fd : FuncData} (F : Fun K "product" "product" s_product f fd) (T : Top mg) : FnOk P w K mg base CX0 1 f fd ["first", "last"] spPr := by
 refine F.ok sc_product (fun vs H Q E h => ?_) (fun cdv A outer s H vs Q E hr h => ?_)
 ·obtain ⟨n, rfl, _⟩ := h
  rfl
 ·obtain ⟨n, rfl, hn, k⟩ := h
  refine ⟨_, (pss_cons (ps_set (i := 2) sc_product.nd rfl (Or.inl rfl) pe_int)
   (pss_cons (ps_for PassesOwn.never rfl (pi_range2 rfl T.n_range (pa_cons (pv 0) (pa_cons (pe_op op_add (pv 1) pe_int) pa_nil))) (pg_name (i := 3) sc_product.nd rfl (Or.inl rfl))
    (pss_one (ps_set (i := 2) sc_product.nd rfl (Or.inl rfl) (pe_op op_mul (pv 2) (pv 3)))))
   (pss_one (ps_ret (pv 2))))), ?_⟩
  refine ⟨_, rfl, _, rfl, _, _, rfl, rfl, _, _, rfl, ⟨by decide, by decide, by (first | lia | omega), by (first | lia | omega)⟩, ?_⟩
  rw [show ((n : Int) + 1 - 1).toNat = n by (first | lia | omega)]
  refine for_range (fun i σ G => G = H /\ ∃ c : Option V, σ = [some (.int 1), some (.int n), some (.int (fcZ i)), c]) ⟨rfl, none, rfl⟩ ?_ ?_
  ·rintro i σ G hi ⟨rfl, c, rfl⟩
   refine ⟨_, rfl, _, rfl, _, _, rfl, rfl, .inr ⟨by (first | lia | omega), by (first | lia | omega)⟩, rfl, some (.int (1 + (i : Int))), ?_⟩
   rw [show fcZ (i + 1) = fcZ i * (1 + (i : Int)) from by rw [Int.add_comm]; rfl]
   rfl
  ·rintro σ G ⟨rfl, c, rfl⟩
   exact ⟨_, rfl, k⟩
theorem sc_greatest_divisor : FnScope ["over", "under", "one", "other"] ["over", "under"] (defScope s_greatest_divisor) := ⟨rfl, rfl, rfl, by decide +kernel, rfl, by decide +kernel, by decide +kernel⟩
theorem ok_greatest_divisor {f : Addr} {fd : FuncData} (F : Fun K "greatest_divisor" "greatest_divisor" s_greatest_divisor f fd) : FnOk P w K mg base CX0 1 f fd ["over", "under"] spGcd := by
 refine F.ok sc_greatest_divisor (fun vs H Q E h => ?_) (fun cdv A outer s H vs Q E hr h => ?_)
 ·obtain ⟨a, b, rfl, _⟩ := h
  rfl
 ·obtain ⟨a, b, rfl, hb, k⟩ := h
  refine ⟨_, (pss_cons (ps_par (i := 2) (j := 3) rfl sc_greatest_divisor.nd rfl rfl (by decide) rfl rfl (pa_cons (pv 0) (pa_cons (pv 1) pa_nil)) rfl)
   (pss_cons (ps_while PassesOwn.never (pt_cmpR op_ne (pv 3) pe_int (nomark _))
    (pss_one (ps_par (i := 2) (j := 3) rfl sc_greatest_divisor.nd rfl rfl (by decide) rfl rfl (pa_cons (pv 3) (pa_cons (pe_op op_mod (pv 2) (pv 3)) pa_nil)) rfl)))
   (pss_one (ps_ret (pv 2))))), ?_⟩
  refine ⟨_, rfl, _, rfl, _, _, rfl, ?_⟩
  refine ⟨fun m σ G => ∃ x y : Int, m = y.toNat /\ σ = [some (.int a), some (.int b), some (.int x), some (.int y)] /\ G = H /\ 0 <= y /\ (y = 0 -> 0 < x) /\ gcdZ x y = gcdZ a b, ⟨_, a, b, rfl, rfl, rfl, by (first | lia | omega), by (first | lia | omega), rfl⟩, ?_⟩
  rintro m σ G ⟨x, y, rfl, rfl, rfl, y0, x0, e⟩
  refine ⟨_, rfl, rfl, _, rfl, ?_⟩
  by_cases hy : y = 0
  ·subst hy
   refine iteF ⟨_, rfl, ?_⟩
   rw [gcdZ_zero (Int.le_of_lt (x0 rfl))] at e
   rw [e]
   exact k
  ·rw [show (!decide (V.int y = V.int 0)) = true from by rw [decide_eq_false (fun z => hy (V.int.inj z))]; rfl]
   refine iteT ⟨fun σ' G' => ∃ x' y' : Int, y' < y /\ σ' = [some (.int a), some (.int b), some (.int x'), some (.int y')] /\ G' = G /\ 0 <= y' /\ (y' = 0 -> 0 < x') /\ gcdZ x' y' = gcdZ a b, ?_, ?_⟩
   ·rintro σ' G' ⟨x', y', h1, h2, h3, h4, h5⟩
    exact ⟨_, by (first | lia | omega), x', y', rfl, h2, h3, h4, h5⟩
   ·refine ⟨_, rfl, _, rfl, _, rfl, _, _, rfl, rfl, by (first | lia | omega), _, _, rfl, ?_⟩
    exact ⟨_, _, Int.emod_lt_of_pos _ (by (first | lia | omega)), rfl, rfl, Int.emod_nonneg _ hy, fun _ => by (first | lia | omega), by rw [gcdZ_step (by (first | lia | omega))]; exact e⟩
theorem sc_share_of : FnScope ["over", "under", "both"] ["over", "under"] (defScope s_share_of) := ⟨rfl, rfl, rfl, by decide +kernel, rfl, by decide +kernel, by decide +kernel⟩
theorem ok_share_of {f : Addr} {fd : FuncData} (F : Fun K "share_of" "share_of" s_share_of f fd) (Cgreatest_divisor : Cal P w K mg base 1 "greatest_divisor" ["over", "under"] spGcd) : FnOk P w K mg base CX0 2 f fd ["over", "under"] spLow := by
 refine F.ok sc_share_of (fun vs H Q E h => ?_) (fun cdv A outer s H vs Q E hr h => ?_)
 ·obtain ⟨a, b, rfl, _⟩ := h
  rfl
 ·obtain ⟨a, b, rfl, hb, sb, k⟩ := h
  refine ⟨_, (pss_cons (ps_set (i := 2) sc_share_of.nd rfl (Or.inl rfl) (pe_cal Cgreatest_divisor (hr.mono (by decide)) rfl (pa_cons (pv 0) (pa_cons (pv 1) pa_nil))))
   (pss_one (ps_ret (pe_tup (pa_cons (pe_op op_fdivC (pv 0) (pv 2)) (pa_cons (pe_op op_fdivC (pv 1) (pv 2)) pa_nil)))))), ?_⟩
  have g0 := gcdZ_pos (a := a) hb
  have gs : Sm (gcdZ a b) 8000 := sb.le (by have := gcdZ_le (a := a) hb; (first | lia | omega))
  refine ⟨_, rfl, _, rfl, a, b, rfl, hb, ?_⟩
  refine ⟨_, rfl, _, rfl, _, _, rfl, rfl, ⟨g0, gs⟩, _, rfl, _, rfl, _, _, rfl, rfl, ⟨g0, gs⟩, by show 2 <= sizeLine; decide, fun z hz => ?_⟩
  exact k z _ (same_upd hz) upd_same
theorem sc_less : FnScope ["one", "other"] ["one", "other"] (defScope s_less) := ⟨rfl, rfl, rfl, by decide +kernel, rfl, by decide +kernel, by decide +kernel⟩
theorem ok_less {f : Addr} {fd : FuncData} (F : Fun K "less" "less" s_less f fd) (Cshare_of : Cal P w K mg base 2 "share_of" ["over", "under"] spLow) : FnOk P w K mg base CX0 3 f fd ["one", "other"] (spSh leZ) := by
 refine F.ok sc_less (fun vs H Q E h => ?_) (fun cdv A outer s H vs Q E hr h => ?_)
 ·obtain ⟨x, y, p, q, rfl, _⟩ := h
  rfl
 ·obtain ⟨x, y, p, q, rfl, hx, hy, bp, bq, k⟩ := h
  refine ⟨_, (pss_one (ps_ret (pe_cal Cshare_of (hr.mono (by decide)) rfl (pa_cons (pe_op op_sub (pe_op op_mulC (pe_ix ix_tup (pv 0) pe_int (fun _ _ => rfl)) (pe_ix ix_tup (pv 1) pe_int (fun _ _ => rfl))) (pe_op op_mulC (pe_ix ix_tup (pv 1) pe_int (fun _ _ => rfl)) (pe_ix ix_tup (pv 0) pe_int (fun _ _ => rfl)))) (pa_cons (pe_op op_mulC (pe_ix ix_tup (pv 0) pe_int (fun _ _ => rfl)) (pe_ix ix_tup (pv 1) pe_int (fun _ _ => rfl))) pa_nil))))), ?_⟩
  refine ⟨_, rfl, x, _, 0, _, rfl, rfl, SqT.of hx, atI_nat (j := 0) rfl, _, rfl, y, _, 1, _, rfl, rfl, SqT.of hy, atI_nat (j := 1) rfl, _, _, rfl, rfl, ⟨bp.s1.mono (by decide), bq.s2.mono (by decide)⟩, _, rfl, y, _, 0, _, rfl, rfl, SqT.of hy, atI_nat (j := 0) rfl, _, rfl, x, _, 1, _, rfl, rfl, SqT.of hx, atI_nat (j := 1) rfl, _, _, rfl, rfl, ⟨bq.s1.mono (by decide), bp.s2.mono (by decide)⟩, _, _, rfl, rfl, _, rfl, x, _, 1, _, rfl, rfl, SqT.of hx, atI_nat (j := 1) rfl, _, rfl, y, _, 1, _, rfl, rfl, SqT.of hy, atI_nat (j := 1) rfl, _, _, rfl, rfl, ⟨bp.s2.mono (by decide), bq.s2.mono (by decide)⟩, _, _, rfl, Int.mul_pos bp.pos bq.pos, (bp.s2.mul bq.s2).mono (by decide), fun z H2 s2 hz => k z H2 s2 hz⟩
theorem sc_times : FnScope ["one", "other"] ["one", "other"] (defScope s_times) := ⟨rfl, rfl, rfl, by decide +kernel, rfl, by decide +kernel, by decide +kernel⟩
theorem ok_times {f : Addr} {fd : FuncData} (F : Fun K "times" "times" s_times f fd) (Cshare_of : Cal P w K mg base 2 "share_of" ["over", "under"] spLow) : FnOk P w K mg base CX0 3 f fd ["one", "other"] (spSh tmZ) := by
 refine F.ok sc_times (fun vs H Q E h => ?_) (fun cdv A outer s H vs Q E hr h => ?_)
 ·obtain ⟨x, y, p, q, rfl, _⟩ := h
  rfl
 ·obtain ⟨x, y, p, q, rfl, hx, hy, bp, bq, k⟩ := h
  refine ⟨_, (pss_one (ps_ret (pe_cal Cshare_of (hr.mono (by decide)) rfl (pa_cons (pe_op op_mulC (pe_ix ix_tup (pv 0) pe_int (fun _ _ => rfl)) (pe_ix ix_tup (pv 1) pe_int (fun _ _ => rfl))) (pa_cons (pe_op op_mulC (pe_ix ix_tup (pv 0) pe_int (fun _ _ => rfl)) (pe_ix ix_tup (pv 1) pe_int (fun _ _ => rfl))) pa_nil))))), ?_⟩
  refine ⟨_, rfl, x, _, 0, _, rfl, rfl, SqT.of hx, atI_nat (j := 0) rfl, _, rfl, y, _, 0, _, rfl, rfl, SqT.of hy, atI_nat (j := 0) rfl, _, _, rfl, rfl, ⟨bp.s1.mono (by decide), bq.s1.mono (by decide)⟩, _, rfl, x, _, 1, _, rfl, rfl, SqT.of hx, atI_nat (j := 1) rfl, _, rfl, y, _, 1, _, rfl, rfl, SqT.of hy, atI_nat (j := 1) rfl, _, _, rfl, rfl, ⟨bp.s2.mono (by decide), bq.s2.mono (by decide)⟩, _, _, rfl, Int.mul_pos bp.pos bq.pos, (bp.s2.mul bq.s2).mono (by decide), fun z H2 s2 hz => k z H2 s2 hz⟩
theorem sc_parted : FnScope ["one", "other"] ["one", "other"] (defScope s_parted) := ⟨rfl, rfl, rfl, by decide +kernel, rfl, by decide +kernel, by decide +kernel⟩
theorem ok_parted {f : Addr} {fd : FuncData} (F : Fun K "parted" "parted" s_parted f fd) (Cshare_of : Cal P w K mg base 2 "share_of" ["over", "under"] spLow) : FnOk P w K mg base CX0 3 f fd ["one", "other"] spPt := by
 refine F.ok sc_parted (fun vs H Q E h => ?_) (fun cdv A outer s H vs Q E hr h => ?_)
 ·obtain ⟨x, y, p, q, rfl, _⟩ := h
  rfl
 ·obtain ⟨x, y, p, q, rfl, hx, hy, bp, bq, q0, k⟩ := h
  refine ⟨_, (pss_one (ps_ret (pe_cal Cshare_of (hr.mono (by decide)) rfl (pa_cons (pe_op op_mulC (pe_ix ix_tup (pv 0) pe_int (fun _ _ => rfl)) (pe_ix ix_tup (pv 1) pe_int (fun _ _ => rfl))) (pa_cons (pe_op op_mulC (pe_ix ix_tup (pv 0) pe_int (fun _ _ => rfl)) (pe_ix ix_tup (pv 1) pe_int (fun _ _ => rfl))) pa_nil))))), ?_⟩
  refine ⟨_, rfl, x, _, 0, _, rfl, rfl, SqT.of hx, atI_nat (j := 0) rfl, _, rfl, y, _, 1, _, rfl, rfl, SqT.of hy, atI_nat (j := 1) rfl, _, _, rfl, rfl, ⟨bp.s1.mono (by decide), bq.s2.mono (by decide)⟩, _, rfl, x, _, 1, _, rfl, rfl, SqT.of hx, atI_nat (j := 1) rfl, _, rfl, y, _, 0, _, rfl, rfl, SqT.of hy, atI_nat (j := 0) rfl, _, _, rfl, rfl, ⟨bp.s2.mono (by decide), bq.s1.mono (by decide)⟩, _, _, rfl, Int.mul_pos bp.pos q0, (bp.s2.mul bq.s1).mono (by decide), fun z H2 s2 hz => k z H2 s2 hz⟩
theorem sc_is_less : FnScope ["one", "other"] ["one", "other"] (defScope s_is_less) := ⟨rfl, rfl, rfl, by decide +kernel, rfl, by decide +kernel, by decide +kernel⟩
theorem ok_is_less {f : Addr} {fd : FuncData} (F : Fun K "is_less" "is_less" s_is_less f fd) : FnOk P w K mg base CX0 1 f fd ["one", "other"] spLt8 := by
 refine F.ok sc_is_less (fun vs H Q E h => ?_) (fun cdv A outer s H vs Q E hr h => ?_)
 ·obtain ⟨x, y, p, q, rfl, _⟩ := h
  rfl
 ·obtain ⟨x, y, p, q, rfl, hx, hy, bp, bq, k⟩ := h
  refine ⟨_, (pss_one (ps_ret (pe_cmpR op_lt (pe_op op_mulC (pe_ix ix_tup (pv 0) pe_int (fun _ _ => rfl)) (pe_ix ix_tup (pv 1) pe_int (fun _ _ => rfl))) (pe_op op_mulC (pe_ix ix_tup (pv 1) pe_int (fun _ _ => rfl)) (pe_ix ix_tup (pv 0) pe_int (fun _ _ => rfl))) (nomark _)))), ?_⟩
  refine ⟨_, rfl, x, _, 0, _, rfl, rfl, SqT.of hx, atI_nat (j := 0) rfl, _, rfl, y, _, 1, _, rfl, rfl, SqT.of hy, atI_nat (j := 1) rfl, _, _, rfl, rfl, ⟨bp.s1.mono (by decide), bq.s2.mono (by decide)⟩, _, rfl, y, _, 0, _, rfl, rfl, SqT.of hy, atI_nat (j := 0) rfl, _, rfl, x, _, 1, _, rfl, rfl, SqT.of hx, atI_nat (j := 1) rfl, _, _, rfl, rfl, ⟨bq.s1.mono (by decide), bp.s2.mono (by decide)⟩, _, _, rfl, rfl, ?_⟩
  exact k H (Same.refl H)
theorem sc_lesser : FnScope ["one", "other"] ["one", "other"] (defScope s_lesser) := ⟨rfl, rfl, rfl, by decide +kernel, rfl, by decide +kernel, by decide +kernel⟩
theorem ok_lesser {f : Addr} {fd : FuncData} (F : Fun K "lesser" "lesser" s_lesser f fd) (Cis_less : Cal P w K mg base 1 "is_less" ["one", "other"] spLt8) : FnOk P w K mg base CX0 2 f fd ["one", "other"] (spMm8 minZ) := by
 refine F.ok sc_lesser (fun vs H Q E h => ?_) (fun cdv A outer s H vs Q E hr h => ?_)
 ·obtain ⟨x, y, p, q, rfl, _⟩ := h
  rfl
 ·obtain ⟨x, y, p, q, rfl, hx, hy, bp, bq, k⟩ := h
  refine ⟨_, (pss_one (ps_ret (pe_ifExp (pt_val (pe_cal Cis_less (hr.mono (by decide)) rfl (pa_cons (pv 1) (pa_cons (pv 0) pa_nil)))) (pv 1) (pv 0)))), ?_⟩
  refine ⟨_, rfl, _, rfl, y, x, q, p, rfl, hy, hx, bq, bp, fun H2 s2 => ⟨_, rfl, ?_⟩⟩
  have e : minZ p q = if ltZ q p then q else p := rfl
  refine ite2 (fun h => ?_) (fun h => ?_)
  ·refine ⟨_, rfl, k y H2 s2 ?_⟩
   rw [e, if_pos h]
   exact s2 _ _ hy
  ·refine ⟨_, rfl, k x H2 s2 ?_⟩
   rw [e, if_neg h]
   exact s2 _ _ hx
end
end K65
namespace K65
open PySem PySem.Spec PyProof.Rows L2
noncomputable abbrev s__law_pot : Stmt := top 66
noncomputable abbrev s__law_next : Stmt := top 67
noncomputable abbrev s__law_of : Stmt := top 68
section
variable {P : Program} {w : World} {K : PySem.W.Frag} {mg : Str -> Option Value} {base : Heap}
theorem sc__law_pot : FnScope ["_law_script", "_law_k", "_law_cell", "_law_number", "_law_mixed"] ["_law_script", "_law_k"] (defScope s__law_pot) := ⟨rfl, rfl, rfl, by decide +kernel, rfl, by decide +kernel, by decide +kernel⟩
theorem ok__law_pot {f : Addr} {fd : FuncData} (F : Fun K "_law_pot" "_law_pot" s__law_pot f fd) (T : Top mg) : FnOk P w K mg base CX0 1 f fd ["_law_script", "_law_k"] (spPot2 K) := by
 refine F.ok sc__law_pot (fun vs H Q E h => ?_) (fun cdv A outer s H vs Q E hr h => ?_)
 ·obtain ⟨a, ns, k, rfl, _⟩ := h
  rfl
 ·obtain ⟨a, ns, j, rfl, hS, j0, j1, k⟩ := h
  refine ⟨_, (pss_cons (ps_set (i := 2) sc__law_pot.nd rfl (Or.inl rfl) pe_int)
   (pss_cons (ps_if (pt_cmpR op_lt (pv 1) (pe_callB call_len_seq (by rfl) T.n_len PySem.boot_len (pa_cons (pv 0) pa_nil)) (nomark _))
    (pss_one (ps_set (i := 2) sc__law_pot.nd rfl (Or.inl rfl) (pe_ix ix_list (pv 0) (pv 1) (fun _ _ => rfl))))
    pss_nil)
   (pss_cons (ps_set (i := 3) sc__law_pot.nd rfl (Or.inl rfl) (pe_op op_add (pe_op op_mul pe_int (pe_op op_mod (pe_callB call_abs (by rfl) T.n_abs boot_abs (pa_cons (pv 2) pa_nil)) (pe_op op_powW (pe_op op_pow pe_int pe_int) pe_int))) (pe_callTy call_int1 (by rfl) T.n_int boot_int (pa_cons (pe_cmpR op_lt (pv 2) pe_int (nomark _)) pa_nil))))
   (pss_cons (ps_set (i := 4) sc__law_pot.nd rfl (Or.inl rfl) (pe_op op_mod (pe_op op_powW (pe_op op_add (pe_op op_add (pv 3) (pe_op op_mul pe_int (pv 1))) pe_int) pe_int) pe_int))
   (pss_one (ps_ret (pe_lst (pa_cons (pe_op op_mul (pv 3) (pe_callTy call_int1 (by rfl) T.n_int boot_int (pa_cons (pe_cmpR op_ge (pv 3) (pe_op op_mul pe_int (pe_op op_pow pe_int pe_int)) (nomark _)) pa_nil))) (pa_cons (pv 4) pa_nil))))))))), ?_⟩
  have e64 : ∀ b : Bool, (-(2 ^ 64) : Int) < (if b then 1 else 0) /\ (if b then 1 else 0 : Int) < 2 ^ 64 := fun b => by cases b <;> decide
  have e01 : ∀ b : Bool, (0 : Int) <= (if b then 1 else 0) /\ (if b then 1 else 0 : Int) <= 1 := fun b => by cases b <;> decide
  refine ⟨_, rfl, _, rfl, a, _, rfl, .inl hS, _, _, rfl, rfl, _, rfl, ?_⟩
  refine ite2 (fun h => ?a) (fun h => ?b)
  case' a =>
   have hj := of_decide_eq_true h
   rw [mapI_len] at hj
   refine ⟨_, rfl, _, rfl, a, _, j, .int (ns.getD j.toNat 0), rfl, rfl, hS, ?hat, ?_⟩
   case hat =>
    have := atI_nat (xs := ns.map V.int) (j := j.toNat) (v := .int (ns.getD j.toNat 0)) (by rw [List.getElem?_map, List.getD_eq_getElem?_getD, List.getElem?_eq_getElem (by (first | lia | omega))]; rfl)
    rwa [show ((j.toNat : Nat) : Int) = j by (first | lia | omega)] at this
  all_goals
   refine ⟨_, rfl, _, rfl, _, _, rfl, rfl, ⟨by decide, by decide, by decide⟩, _, _, rfl, rfl, ⟨by decide, far2_pow⟩, _, _, rfl, rfl, far2_pos, _, _, rfl, rfl, .inl ⟨by decide, by decide⟩, _, rfl, _, _, rfl, rfl, .inr ⟨_, rfl, _, _, rfl, rfl, ?_⟩⟩
   refine ⟨_, rfl, _, rfl, _, _, rfl, rfl, .inl ⟨by decide, by decide⟩, _, _, rfl, rfl, _, _, rfl, rfl, _, _, rfl, rfl, ⟨by decide, pot2_bits far2_bits (Int.emod_nonneg _ (Int.ne_of_gt far2_pos)) (Int.emod_lt_of_pos _ far2_pos) j0 j1 (e01 _).1 (e01 _).2⟩, _, _, rfl, rfl, (by show (0 : Int) < 18446744073709551557; decide), ?_⟩
   refine ⟨_, rfl, _, rfl, _, _, rfl, rfl, ⟨by decide, by decide, by decide⟩, _, _, rfl, rfl, .inl ⟨by decide, by decide⟩, _, _, rfl, rfl, .inr ⟨_, rfl, _, _, rfl, rfl, .inr ?_, _, rfl, by show 2 <= sizeLine; decide, fun p hp => ?_⟩⟩
   ·exact e64 _
   ·refine k p _ (same_upd hp) ⟨_, _, upd_same, ?_, Int.emod_nonneg _ (by decide), Int.emod_lt_of_pos _ (by decide)⟩ hp
    exact Int.mul_nonneg (Int.add_nonneg (Int.mul_nonneg (by decide) (Int.emod_nonneg _ (Int.ne_of_gt far2_pos))) (e01 _).1) (e01 _).1
theorem sc__law_next : FnScope ["_law_pot_here", "_law_many", "_law_digit"] ["_law_pot_here", "_law_many"] (defScope s__law_next) := ⟨rfl, rfl, rfl, by decide +kernel, rfl, by decide +kernel, by decide +kernel⟩
theorem ok__law_next {f : Addr} {fd : FuncData} (F : Fun K "_law_next" "_law_next" s__law_next f fd) : FnOk P w K mg base CX0 1 f fd ["_law_pot_here", "_law_many"] spNext2 := by
 refine F.ok sc__law_next (fun vs H Q E h => ?_) (fun cdv A outer s H vs Q E hr h => ?_)
 ·obtain ⟨p, m, rfl, _⟩ := h
  rfl
 ·obtain ⟨p, m, rfl, hm0, hm1, ⟨own, mixed, hp, o0, x0, x1⟩, k⟩ := h
  refine ⟨_, (pss_cons (ps_if (pt_cmpR op_gt (pe_ix ix_list (pv 0) pe_int (fun _ _ => rfl)) pe_int (nomark _))
    (pss_cons (ps_set (i := 2) sc__law_next.nd rfl (Or.inl rfl) (pe_op op_mod (pe_ix ix_list (pv 0) pe_int (fun _ _ => rfl)) (pv 1)))
    (pss_cons (ps_asg (pe_op op_fdiv (pe_ix ix_list (pv 0) pe_int (fun _ _ => rfl)) (pv 1)) (pg_sub (pv 0) pe_int set_list))
    (pss_one (ps_ret (pv 2)))))
    pss_nil)
   (pss_cons (ps_asg (pe_op op_mod (pe_op op_add (pe_op op_mul (pe_ix ix_list (pv 0) pe_int (fun _ _ => rfl)) pe_int) pe_int) pe_int) (pg_sub (pv 0) pe_int set_list))
   (pss_one (ps_ret (pe_op op_mod (pe_op op_fdiv (pe_op op_mod (pe_op op_mul (pe_ix ix_list (pv 0) pe_int (fun _ _ => rfl)) (pe_ix ix_list (pv 0) pe_int (fun _ _ => rfl))) pe_int) pe_int) (pv 1)))))), ?_⟩
  refine ⟨_, rfl, p, _, 0, _, rfl, rfl, SqL.of hp, atI_nat (j := 0) rfl, _, _, rfl, rfl, _, rfl, ?_⟩
  refine ite2 (fun _ => ?_) (fun _ => ?_)
  ·refine ⟨_, rfl, p, _, 0, _, rfl, rfl, SqL.of hp, atI_nat (j := 0) rfl, _, rfl, _, _, rfl, rfl, hm0, ?_⟩
   refine ⟨_, rfl, p, _, 0, _, rfl, rfl, SqL.of hp, atI_nat (j := 0) rfl, _, rfl, _, _, rfl, rfl, ⟨hm0, hm1⟩, _, rfl, p, _, 0, 0, rfl, rfl, hp, rfl, ?_⟩
   refine ⟨_, rfl, ?_⟩
   refine k _ _ (Int.emod_nonneg _ (by (first | lia | omega))) (Int.emod_lt_of_pos _ hm0) ⟨_, _, upd_same, Int.ediv_nonneg o0 (by (first | lia | omega)), x0, x1⟩ fun b o hb h1 _ => ?_
   rw [upd_ne h1]
   exact hb
  ·refine ⟨_, rfl, p, _, 1, _, rfl, rfl, SqL.of hp, atI_nat (j := 1) rfl, _, _, rfl, rfl, .inr ⟨by decide, by decide⟩, _, _, rfl, rfl, _, _, rfl, rfl, (by show (0 : Int) < 18446744073709551557; decide), _, rfl, p, _, 1, 1, rfl, rfl, hp, rfl, ?_⟩
   have y0 := Int.emod_nonneg (mixed * 6364136223846793005 + 1442695040888963407) (by decide : (18446744073709551557 : Int) ≠ 0)
   have y1 := Int.emod_lt_of_pos (mixed * 6364136223846793005 + 1442695040888963407) (by decide : (0 : Int) < 18446744073709551557)
   refine ⟨_, rfl, p, _, 1, _, rfl, rfl, SqL.of upd_same, atI_nat (j := 1) rfl, _, rfl, p, _, 1, _, rfl, rfl, SqL.of upd_same, atI_nat (j := 1) rfl, _, _, rfl, rfl, .inl ⟨by (first | lia | omega), by (first | lia | omega)⟩, _, _, rfl, rfl, (by show (0 : Int) < 2305843009213693951; decide), _, _, rfl, rfl, ⟨by decide, by decide⟩, _, rfl, _, _, rfl, rfl, hm0, ?_⟩
   refine k _ _ (Int.emod_nonneg _ (by (first | lia | omega))) (Int.emod_lt_of_pos _ hm0) ⟨_, _, upd_same, o0, y0, y1⟩ fun b o hb h1 _ => ?_
   rw [upd_ne h1]
   exact hb
theorem sc__law_of : FnScope ["_law_pot_here", "_law_some"] ["_law_pot_here", "_law_some"] (defScope s__law_of) := ⟨rfl, rfl, rfl, by decide +kernel, rfl, by decide +kernel, by decide +kernel⟩
theorem ok__law_of {f : Addr} {fd : FuncData} (F : Fun K "_law_of" "_law_of" s__law_of f fd) (T : Top mg) (C_law_next : Cal P w K mg base 1 "_law_next" ["_law_pot_here", "_law_many"] spNext2) : FnOk P w K mg base CX0 2 f fd ["_law_pot_here", "_law_some"] spOf2 := by
 refine F.ok sc__law_of (fun vs H Q E h => ?_) (fun cdv A outer s H vs Q E hr h => ?_)
 ·obtain ⟨p, l, xs, rfl, _⟩ := h
  rfl
 ·obtain ⟨p, l, xs, rfl, hl, hne, l0, l1, hp, k⟩ := h
  refine ⟨_, (pss_one (ps_ret (pe_ix ix_list (pv 1) (pe_cal C_law_next (hr.mono (by decide)) rfl (pa_cons (pv 0) (pa_cons (pe_callB call_len_seq (by rfl) T.n_len PySem.boot_len (pa_cons (pv 1) pa_nil)) pa_nil))) (fun _ _ => rfl)))), ?_⟩
  refine ⟨_, rfl, _, rfl, _, rfl, l, _, rfl, .inl (SqL.of hl), p, _, rfl, by (first | lia | omega), by (first | lia | omega), hp, fun d H' d0 d1 hp' kp => ?_⟩
  have hd : d.toNat < xs.length := by (first | lia | omega)
  refine ⟨l, xs, d, xs[d.toNat], rfl, rfl, SqL.of (kp _ _ hl hne hne), ?_, k _ (List.getElem_mem _) _ hp' kp⟩
  have := atI_nat (xs := xs) (j := d.toNat) (v := xs[d.toNat]) (List.getElem?_eq_getElem hd)
  rwa [show ((d.toNat : Nat) : Int) = d by (first | lia | omega)] at this
end
end K65
namespace K65
open PySem PySem.Spec PyProof.Rows L2
noncomputable abbrev s_highs_mean : Stmt := top 27
noncomputable abbrev s_highs_spread : Stmt := top 28
noncomputable abbrev s_stays_mean : Stmt := top 29
noncomputable abbrev s_stays_spread : Stmt := top 30
noncomputable abbrev s_rises_mean : Stmt := top 31
noncomputable abbrev s_rises_spread : Stmt := top 32
noncomputable abbrev s_crossed_mean : Stmt := top 33
noncomputable abbrev s_crossed_spread : Stmt := top 34
noncomputable abbrev s_mean : Stmt := top 37
noncomputable abbrev s_spread : Stmt := top 38
noncomputable abbrev s_stays_bound : Stmt := top 40
noncomputable abbrev s_longest_bound : Stmt := top 41
noncomputable abbrev s_groups_bound : Stmt := top 42
noncomputable abbrev s_rises_bound : Stmt := top 43
noncomputable abbrev s_crossed_bound : Stmt := top 44
noncomputable abbrev s_spread_bound : Stmt := top 45
noncomputable abbrev s_sets_of : Stmt := top 46
noncomputable abbrev s_power : Stmt := top 47
noncomputable abbrev s_most_share : Stmt := top 49
section
variable {P : Program} {w : World} {K : PySem.W.Frag} {mg : Str -> Option Value} {base : Heap}
theorem sc_highs_mean : FnScope ["many", "total", "part"] ["many"] (defScope s_highs_mean) := ⟨rfl, rfl, rfl, by decide +kernel, rfl, by decide +kernel, by decide +kernel⟩
theorem ok_highs_mean {f : Addr} {fd : FuncData} (F : Fun K "highs_mean" "highs_mean" s_highs_mean f fd) : FnOk P w K mg base CX0 1 f fd ["many"] spNone := F.ok sc_highs_mean (fun vs H Q E h => h.elim) (fun cdv A outer s H vs Q E hr h => h.elim)
theorem sc_highs_spread : FnScope ["many", "total", "part", "own"] ["many"] (defScope s_highs_spread) := ⟨rfl, rfl, rfl, by decide +kernel, rfl, by decide +kernel, by decide +kernel⟩
theorem ok_highs_spread {f : Addr} {fd : FuncData} (F : Fun K "highs_spread" "highs_spread" s_highs_spread f fd) : FnOk P w K mg base CX0 1 f fd ["many"] spNone := F.ok sc_highs_spread (fun vs H Q E h => h.elim) (fun cdv A outer s H vs Q E hr h => h.elim)
theorem sc_stays_mean : FnScope ["many"] ["many"] (defScope s_stays_mean) := ⟨rfl, rfl, rfl, by decide +kernel, rfl, by decide +kernel, by decide +kernel⟩
theorem ok_stays_mean {f : Addr} {fd : FuncData} (F : Fun K "stays_mean" "stays_mean" s_stays_mean f fd) : FnOk P w K mg base CX0 1 f fd ["many"] spNone := F.ok sc_stays_mean (fun vs H Q E h => h.elim) (fun cdv A outer s H vs Q E hr h => h.elim)
theorem sc_stays_spread : FnScope ["many"] ["many"] (defScope s_stays_spread) := ⟨rfl, rfl, rfl, by decide +kernel, rfl, by decide +kernel, by decide +kernel⟩
theorem ok_stays_spread {f : Addr} {fd : FuncData} (F : Fun K "stays_spread" "stays_spread" s_stays_spread f fd) : FnOk P w K mg base CX0 1 f fd ["many"] spNone := F.ok sc_stays_spread (fun vs H Q E h => h.elim) (fun cdv A outer s H vs Q E hr h => h.elim)
theorem sc_rises_mean : FnScope ["many"] ["many"] (defScope s_rises_mean) := ⟨rfl, rfl, rfl, by decide +kernel, rfl, by decide +kernel, by decide +kernel⟩
theorem ok_rises_mean {f : Addr} {fd : FuncData} (F : Fun K "rises_mean" "rises_mean" s_rises_mean f fd) (T : Top mg) (Cshare_of : Cal P w K mg base 2 "share_of" ["over", "under"] spLow) : FnOk P w K mg base CX0 3 f fd ["many"] (spN1 (mnZ "rises")) := by
 refine F.ok sc_rises_mean (fun vs H Q E h => ?_) (fun cdv A outer s H vs Q E hr h => ?_)
 ·obtain ⟨N, rfl, _⟩ := h
  rfl
 ·obtain ⟨N, rfl, h0, h1, k⟩ := h
  refine ⟨_, (pss_one (ps_ret (pe_cal Cshare_of (hr.mono (by decide)) rfl (pa_cons (pe_callB (call_max2 rfl) (by rfl) T.n_max boot_max (pa_cons (pe_op op_sub (pv 0) pe_int) (pa_cons pe_int pa_nil))) (pa_cons pe_int pa_nil))))), ?_⟩
  refine ⟨_, rfl, _, _, rfl, rfl, _, _, rfl, _, 2, rfl, by decide, Sm.of (by decide +kernel), fun z H1 s1 hz => k z H1 s1 ?_⟩
  rw [mean_r N h0] at hz
  exact hz
theorem sc_rises_spread : FnScope ["many", "themselves", "neighbours"] ["many"] (defScope s_rises_spread) := ⟨rfl, rfl, rfl, by decide +kernel, rfl, by decide +kernel, by decide +kernel⟩
theorem ok_rises_spread {f : Addr} {fd : FuncData} (F : Fun K "rises_spread" "rises_spread" s_rises_spread f fd) (T : Top mg) (Cshare_of : Cal P w K mg base 2 "share_of" ["over", "under"] spLow) : FnOk P w K mg base CX0 3 f fd ["many"] (spN1 (sdZ "rises")) := by
 refine F.ok sc_rises_spread (fun vs H Q E h => ?_) (fun cdv A outer s H vs Q E hr h => ?_)
 ·obtain ⟨N, rfl, _⟩ := h
  rfl
 ·obtain ⟨N, rfl, h0, h1, k⟩ := h
  refine ⟨_, (pss_cons (ps_set (i := 1) sc_rises_spread.nd rfl (Or.inl rfl) (pe_callB (call_max2 rfl) (by rfl) T.n_max boot_max (pa_cons (pe_op op_sub (pv 0) pe_int) (pa_cons pe_int pa_nil))))
   (pss_cons (ps_set (i := 2) sc_rises_spread.nd rfl (Or.inl rfl) (pe_op op_mul pe_int (pe_callB (call_max2 rfl) (by rfl) T.n_max boot_max (pa_cons (pe_op op_sub (pv 0) pe_int) (pa_cons pe_int pa_nil)))))
   (pss_one (ps_ret (pe_cal Cshare_of (hr.mono (by decide)) rfl (pa_cons (pe_op op_sub (pe_op op_mul pe_int (pv 1)) (pv 2)) (pa_cons pe_int pa_nil))))))), ?_⟩
  refine ⟨_, rfl, _, _, rfl, rfl, _, _, rfl, ?_⟩
  refine ⟨_, rfl, _, _, rfl, rfl, _, _, rfl, _, _, rfl, rfl, .inl ⟨by decide, by decide⟩, ?_⟩
  refine ⟨_, rfl, _, _, rfl, rfl, .inl ⟨by decide, by decide⟩, _, rfl, _, _, rfl, rfl, _, 12, rfl, by decide, Sm.of (by decide +kernel), fun z H1 s1 hz => k z H1 s1 ?_⟩
  rw [spread_r N h0] at hz
  exact hz
theorem sc_crossed_mean : FnScope ["many"] ["many"] (defScope s_crossed_mean) := ⟨rfl, rfl, rfl, by decide +kernel, rfl, by decide +kernel, by decide +kernel⟩
theorem ok_crossed_mean {f : Addr} {fd : FuncData} (F : Fun K "crossed_mean" "crossed_mean" s_crossed_mean f fd) (T : Top mg) (Cshare_of : Cal P w K mg base 2 "share_of" ["over", "under"] spLow) : FnOk P w K mg base CX0 3 f fd ["many"] (spN1 (mnZ "crossed")) := by
 refine F.ok sc_crossed_mean (fun vs H Q E h => ?_) (fun cdv A outer s H vs Q E hr h => ?_)
 ·obtain ⟨N, rfl, _⟩ := h
  rfl
 ·obtain ⟨N, rfl, h0, h1, k⟩ := h
  refine ⟨_, (pss_one (ps_ret (pe_cal Cshare_of (hr.mono (by decide)) rfl (pa_cons (pe_op op_fdiv (pe_op op_mulC (pv 0) (pe_op op_sub (pv 0) pe_int)) pe_int) (pa_cons pe_int pa_nil))))), ?_⟩
  refine ⟨_, rfl, _, rfl, _, _, rfl, rfl, _, _, rfl, rfl, ⟨(sm_N h0 h1).mono (by decide), (sm_Ni (i := 1) h0 h1 (by decide)).mono (by decide)⟩, _, _, rfl, rfl, ⟨by decide, by decide⟩, _, 2, rfl, by decide, Sm.of (by decide +kernel), fun z H1 s1 hz => k z H1 s1 ?_⟩
  have e : lowZ (N * (N - 1) / 2) 2 = mnZ "crossed" N := mean_c N
  rw [e] at hz
  exact hz
theorem sc_crossed_spread : FnScope ["many", "twos", "threes"] ["many"] (defScope s_crossed_spread) := ⟨rfl, rfl, rfl, by decide +kernel, rfl, by decide +kernel, by decide +kernel⟩
theorem ok_crossed_spread {f : Addr} {fd : FuncData} (F : Fun K "crossed_spread" "crossed_spread" s_crossed_spread f fd) (T : Top mg) (Cshare_of : Cal P w K mg base 2 "share_of" ["over", "under"] spLow) : FnOk P w K mg base CX0 3 f fd ["many"] (spN1 (sdZ "crossed")) := by
 refine F.ok sc_crossed_spread (fun vs H Q E h => ?_) (fun cdv A outer s H vs Q E hr h => ?_)
 ·obtain ⟨N, rfl, _⟩ := h
  rfl
 ·obtain ⟨N, rfl, h0, h1, k⟩ := h
  refine ⟨_, (pss_cons (ps_set (i := 1) sc_crossed_spread.nd rfl (Or.inl rfl) (pe_op op_fdiv (pe_op op_mulC (pv 0) (pe_op op_sub (pv 0) pe_int)) pe_int))
   (pss_cons (ps_set (i := 2) sc_crossed_spread.nd rfl (Or.inl rfl) (pe_op op_fdiv (pe_op op_mulC (pv 1) (pe_op op_sub (pv 0) pe_int)) pe_int))
   (pss_one (ps_ret (pe_cal Cshare_of (hr.mono (by decide)) rfl (pa_cons (pe_op op_add (pe_op op_mul pe_int (pv 1)) (pe_op op_mul pe_int (pv 2))) (pa_cons pe_int pa_nil))))))), ?_⟩
  have a1 := sm_N h0 h1
  have a2 := sm_Ni (i := 1) h0 h1 (by decide)
  have a3 := sm_Ni (i := 2) h0 h1 (by decide)
  have t1 : Sm (N * (N - 1) / 2) 210 := by
   refine Sm.le ((a1.mul a2).mono (show 100 + 100 <= 210 by decide)) ?_
   have e := tw_even N
   show _ <= (N * (N - 1)).natAbs
   (first | lia | omega)
  refine ⟨_, rfl, _, rfl, _, _, rfl, rfl, _, _, rfl, rfl, ⟨(sm_N h0 h1).mono (by decide), (sm_Ni (i := 1) h0 h1 (by decide)).mono (by decide)⟩, _, _, rfl, rfl, ⟨by decide, by decide⟩, ?_⟩
  refine ⟨_, rfl, _, rfl, _, _, rfl, rfl, _, _, rfl, rfl, ⟨t1.mono (by decide), a3.mono (by decide)⟩, _, _, rfl, rfl, ⟨by decide, by decide⟩, ?_⟩
  refine ⟨_, rfl, _, _, rfl, rfl, .inl ⟨by decide, by decide⟩, _, rfl, _, _, rfl, rfl, .inl ⟨by decide, by decide⟩, _, _, rfl, rfl, _, 12, rfl, by decide, Sm.of (by decide +kernel), fun z H1 s1 hz => k z H1 s1 ?_⟩
  have e : lowZ (3 * (N * (N - 1) / 2) + 2 * (N * (N - 1) / 2 * (N - 2) / 3)) 12 = sdZ "crossed" N := spread_c N
  rw [e] at hz
  exact hz
theorem sc_mean : FnScope ["kind", "many", "reckoned"] ["kind", "many"] (defScope s_mean) := ⟨rfl, rfl, rfl, by decide +kernel, rfl, by decide +kernel, by decide +kernel⟩
theorem ok_mean {f C f1 f2 f3 f4 : Addr} {fd : FuncData} (F : Fun K "mean" "mean" s_mean f fd) (hC : mg "MEANS" = some (.ref C)) (GD : GDict K w.params C [("rounds", f1), ("stays", f2), ("rises", f3), ("highs", f1), ("crossed", f4)])
  (c3 : CalF P w K mg base 3 f3 ["many"] (spN1 (mnZ "rises"))) (c4 : CalF P w K mg base 3 f4 ["many"] (spN1 (mnZ "crossed"))) : FnOk P w K mg base CX0 4 f fd ["kind", "many"] (spKN mnZ) := by
 refine F.ok sc_mean (fun vs H Q E h => ?_) (fun cdv A outer s H vs Q E hr h => ?_)
 ·obtain ⟨kd, N, rfl, _⟩ := h
  rfl
 ·obtain ⟨kd, N, rfl, hk, h0, h1, k⟩ := h
  refine ⟨_, (pss_cons (ps_set (i := 2) sc_mean.nd rfl (Or.inl rfl) (pe_ix ix_gd (pe_glob (v := .ref C) rfl hC rfl) (pv 0) (fun _ _ => rfl)))
   (pss_one (ps_ret (pe_callV (k := 3) (pv 2) hr (pa_cons (pv 1) pa_nil))))), ?_⟩
  rcases hk with rfl | rfl
  ·exact ⟨_, rfl, C, _, _, f3, rfl, rfl, GD, rfl, _, rfl, f3, _, _, rfl, c3, _, rfl, N, rfl, h0, h1, k⟩
  ·exact ⟨_, rfl, C, _, _, f4, rfl, rfl, GD, rfl, _, rfl, f4, _, _, rfl, c4, _, rfl, N, rfl, h0, h1, k⟩
theorem sc_spread : FnScope ["kind", "many", "reckoned"] ["kind", "many"] (defScope s_spread) := ⟨rfl, rfl, rfl, by decide +kernel, rfl, by decide +kernel, by decide +kernel⟩
theorem ok_spread {f C f1 f2 f3 f4 : Addr} {fd : FuncData} (F : Fun K "spread" "spread" s_spread f fd) (hC : mg "SPREADS" = some (.ref C)) (GD : GDict K w.params C [("rounds", f1), ("stays", f2), ("rises", f3), ("highs", f1), ("crossed", f4)])
  (c3 : CalF P w K mg base 3 f3 ["many"] (spN1 (sdZ "rises"))) (c4 : CalF P w K mg base 3 f4 ["many"] (spN1 (sdZ "crossed"))) : FnOk P w K mg base CX0 4 f fd ["kind", "many"] (spKN sdZ) := by
 refine F.ok sc_spread (fun vs H Q E h => ?_) (fun cdv A outer s H vs Q E hr h => ?_)
 ·obtain ⟨kd, N, rfl, _⟩ := h
  rfl
 ·obtain ⟨kd, N, rfl, hk, h0, h1, k⟩ := h
  refine ⟨_, (pss_cons (ps_set (i := 2) sc_spread.nd rfl (Or.inl rfl) (pe_ix ix_gd (pe_glob (v := .ref C) rfl hC rfl) (pv 0) (fun _ _ => rfl)))
   (pss_one (ps_ret (pe_callV (k := 3) (pv 2) hr (pa_cons (pv 1) pa_nil))))), ?_⟩
  rcases hk with rfl | rfl
  ·exact ⟨_, rfl, C, _, _, f3, rfl, rfl, GD, rfl, _, rfl, f3, _, _, rfl, c3, _, rfl, N, rfl, h0, h1, k⟩
  ·exact ⟨_, rfl, C, _, _, f4, rfl, rfl, GD, rfl, _, rfl, f4, _, _, rfl, c4, _, rfl, N, rfl, h0, h1, k⟩
theorem sc_stays_bound : FnScope ["many", "number"] ["many", "number"] (defScope s_stays_bound) := ⟨rfl, rfl, rfl, by decide +kernel, rfl, by decide +kernel, by decide +kernel⟩
theorem ok_stays_bound {f : Addr} {fd : FuncData} (F : Fun K "stays_bound" "stays_bound" s_stays_bound f fd) (Cproduct : Cal P w K mg base 1 "product" ["first", "last"] spPr) : FnOk P w K mg base CX0 2 f fd ["many", "number"] (spNK bSt) := by
 refine F.ok sc_stays_bound (fun vs H Q E h => ?_) (fun cdv A outer s H vs Q E hr h => ?_)
 ·obtain ⟨N, n, rfl, _⟩ := h
  rfl
 ·obtain ⟨N, n, rfl, h0, h1, hn, k⟩ := h
  refine ⟨_, (pss_one (ps_ret (pe_ifExp (pt_cmpR op_le (pv 1) (pv 0) (nomark _)) (pe_tup (pa_cons pe_int (pa_cons (pe_cal Cproduct (hr.mono (by decide)) rfl (pa_cons pe_int (pa_cons (pv 1) pa_nil))) pa_nil))) (pe_tup (pa_cons pe_int (pa_cons pe_int pa_nil)))))), ?_⟩
  have e : bSt N n = if (n : Int) <= N then (1, fcZ n) else (0, 1) := rfl
  refine ⟨_, rfl, _, rfl, _, _, rfl, rfl, _, rfl, ?_⟩
  refine ite2 (fun h => ?_) (fun h => ?_)
  ·rw [if_pos (of_decide_eq_true h)] at e
   refine ⟨_, rfl, n, rfl, by (first | lia | omega), by show 2 <= sizeLine; decide, fun z hz => k z _ (same_upd hz) ?_⟩
   rw [e]; exact upd_same
  ·rw [if_neg (fun z => h (decide_eq_true z))] at e
   refine ⟨by show 2 <= sizeLine; decide, fun z hz => k z _ (same_upd hz) ?_⟩
   rw [e]; exact upd_same
theorem sc_sets_of : FnScope ["many", "number", "found", "taken"] ["many", "number"] (defScope s_sets_of) := ⟨rfl, rfl, rfl, by decide +kernel, rfl, by decide +kernel, by decide +kernel⟩
theorem ok_sets_of {f : Addr} {fd : FuncData} (F : Fun K "sets_of" "sets_of" s_sets_of f fd) (T : Top mg) : FnOk P w K mg base CX0 1 f fd ["many", "number"] spSets := by
 refine F.ok sc_sets_of (fun vs H Q E h => ?_) (fun cdv A outer s H vs Q E hr h => ?_)
 ·obtain ⟨N, n, rfl, _⟩ := h
  rfl
 ·obtain ⟨N, n, rfl, h0, h1, hn, k⟩ := h
  refine ⟨_, (pss_cons (ps_set (i := 2) sc_sets_of.nd rfl (Or.inl rfl) pe_int)
   (pss_cons (ps_for PassesOwn.never rfl (pi_range1 rfl T.n_range (pa_cons (pv 1) pa_nil)) (pg_name (i := 3) sc_sets_of.nd rfl (Or.inl rfl))
    (pss_one (ps_set (i := 2) sc_sets_of.nd rfl (Or.inl rfl) (pe_op op_fdiv (pe_op op_mulC (pv 2) (pe_op op_sub (pv 0) (pv 3))) (pe_op op_add (pv 3) pe_int)))))
   (pss_one (ps_ret (pv 2))))), ?_⟩
  refine ⟨_, rfl, _, rfl, by (first | lia | omega), by (first | lia | omega), ?_⟩
  rw [Int.toNat_natCast]
  refine for_range (fun i σ G => G = H /\ ∃ c : Option V, σ = [some (.int N), some (.int n), some (.int (sZ N i)), c]) ⟨rfl, none, rfl⟩ ?_ ?_
  ·rintro i σ G hi ⟨rfl, c, rfl⟩
   rw [Int.zero_add]
   refine ⟨_, rfl, _, rfl, _, rfl, _, _, rfl, rfl, _, _, rfl, rfl, ⟨(sZ_sm h0 h1 i (by (first | lia | omega))).mono (by (first | lia | omega)), (sm_Ni h0 h1 (by (first | lia | omega))).mono (by decide)⟩, _, rfl, _, _, rfl, rfl, _, _, rfl, rfl, ⟨by (first | lia | omega), by (first | lia | omega)⟩, rfl, some (.int (i : Int)), rfl⟩
  ·rintro σ G ⟨rfl, c, rfl⟩
   exact ⟨_, rfl, k⟩
theorem sc_power : FnScope ["base", "number", "found", "time"] ["base", "number"] (defScope s_power) := ⟨rfl, rfl, rfl, by decide +kernel, rfl, by decide +kernel, by decide +kernel⟩
theorem ok_power {f : Addr} {fd : FuncData} (F : Fun K "power" "power" s_power f fd) (T : Top mg) : FnOk P w K mg base CX0 1 f fd ["base", "number"] spPow := by
 refine F.ok sc_power (fun vs H Q E h => ?_) (fun cdv A outer s H vs Q E hr h => ?_)
 ·obtain ⟨b, n, rfl, _⟩ := h
  rfl
 ·obtain ⟨b, n, rfl, b0, b1, hn, k⟩ := h
  refine ⟨_, (pss_cons (ps_set (i := 2) sc_power.nd rfl (Or.inl rfl) pe_int)
   (pss_cons (ps_for PassesOwn.never rfl (pi_range1 rfl T.n_range (pa_cons (pv 1) pa_nil)) (pg_name (i := 3) sc_power.nd rfl (Or.inl rfl))
    (pss_one (ps_set (i := 2) sc_power.nd rfl (Or.inl rfl) (pe_op op_mul (pv 2) (pv 0)))))
   (pss_one (ps_ret (pv 2))))), ?_⟩
  refine ⟨_, rfl, _, rfl, by (first | lia | omega), by (first | lia | omega), ?_⟩
  rw [Int.toNat_natCast]
  refine for_range (fun i σ G => G = H /\ ∃ c : Option V, σ = [some (.int b), some (.int n), some (.int (b ^ i)), c]) ⟨rfl, none, by rw [Int.pow_zero]; rfl⟩ ?_ ?_
  ·rintro i σ G hi ⟨rfl, c, rfl⟩
   refine ⟨_, rfl, _, rfl, _, _, rfl, rfl, .inr ⟨by (first | lia | omega), by (first | lia | omega)⟩, rfl, some (.int (0 + (i : Int))), ?_⟩
   rw [Int.pow_succ]
   rfl
  ·rintro σ G ⟨rfl, c, rfl⟩
   exact ⟨_, rfl, k⟩
theorem sc_longest_bound : FnScope ["many", "number"] ["many", "number"] (defScope s_longest_bound) := ⟨rfl, rfl, rfl, by decide +kernel, rfl, by decide +kernel, by decide +kernel⟩
theorem ok_longest_bound {f : Addr} {fd : FuncData} (F : Fun K "longest_bound" "longest_bound" s_longest_bound f fd) (Cshare_of : Cal P w K mg base 2 "share_of" ["over", "under"] spLow) (Cproduct : Cal P w K mg base 1 "product" ["first", "last"] spPr) (Csets_of : Cal P w K mg base 1 "sets_of" ["many", "number"] spSets) : FnOk P w K mg base CX0 3 f fd ["many", "number"] (spNK bLg) := by
 refine F.ok sc_longest_bound (fun vs H Q E h => ?_) (fun cdv A outer s H vs Q E hr h => ?_)
 ·obtain ⟨N, n, rfl, _⟩ := h
  rfl
 ·obtain ⟨N, n, rfl, h0, h1, hn, k⟩ := h
  refine ⟨_, (pss_one (ps_ret (pe_cal Cshare_of (hr.mono (by decide)) rfl (pa_cons (pe_cal Csets_of (hr.mono (by decide)) rfl (pa_cons (pv 0) (pa_cons (pv 1) pa_nil))) (pa_cons (pe_cal Cproduct (hr.mono (by decide)) rfl (pa_cons pe_int (pa_cons (pv 1) pa_nil))) pa_nil))))), ?_⟩
  refine ⟨_, rfl, _, rfl, N, n, rfl, h0, h1, hn, _, rfl, n, rfl, by (first | lia | omega), ?_⟩
  exact ⟨_, _, rfl, fcZ_pos n, (fcZ_smS (by (first | lia | omega))).mono (by decide), fun z H1 s1 hz => k z H1 s1 hz⟩
theorem sc_groups_bound : FnScope ["many", "number"] ["many", "number"] (defScope s_groups_bound) := ⟨rfl, rfl, rfl, by decide +kernel, rfl, by decide +kernel, by decide +kernel⟩
theorem ok_groups_bound {f : Addr} {fd : FuncData} (F : Fun K "groups_bound" "groups_bound" s_groups_bound f fd) (Cshare_of : Cal P w K mg base 2 "share_of" ["over", "under"] spLow) (Cproduct : Cal P w K mg base 1 "product" ["first", "last"] spPr) (Cpower : Cal P w K mg base 1 "power" ["base", "number"] spPow) : FnOk P w K mg base CX0 3 f fd ["many", "number"] (spNK bGr) := by
 refine F.ok sc_groups_bound (fun vs H Q E h => ?_) (fun cdv A outer s H vs Q E hr h => ?_)
 ·obtain ⟨N, n, rfl, _⟩ := h
  rfl
 ·obtain ⟨N, n, rfl, h0, h1, hn, k⟩ := h
  refine ⟨_, (pss_one (ps_ret (pe_cal Cshare_of (hr.mono (by decide)) rfl (pa_cons (pe_cal Cpower (hr.mono (by decide)) rfl (pa_cons (pe_bm0 PySem.F.plainAttrs_int PySem.F.slot_int_bit_length PySem.F.type_int_bit_length mt_bitlen (pv 0)) (pa_cons (pv 1) pa_nil))) (pa_cons (pe_cal Cproduct (hr.mono (by decide)) rfl (pa_cons pe_int (pa_cons (pv 1) pa_nil))) pa_nil))))), ?_⟩
  have fl := fig_le h0 h1
  refine ⟨_, rfl, rfl, _, rfl, rfl, _, rfl, figZ N, n, rfl, fl.1, by (first | lia | omega), hn, _, rfl, n, rfl, by (first | lia | omega), ?_⟩
  exact ⟨_, _, rfl, fcZ_pos n, (fcZ_smS (by (first | lia | omega))).mono (by decide), fun z H1 s1 hz => k z H1 s1 hz⟩
theorem sc_spread_bound : FnScope ["kind", "many", "number", "beyond"] ["kind", "many", "number"] (defScope s_spread_bound) := ⟨rfl, rfl, rfl, by decide +kernel, rfl, by decide +kernel, by decide +kernel⟩
set_option maxHeartbeats 8000000 in
theorem ok_spread_bound {f : Addr} {fd : FuncData} (F : Fun K "spread_bound" "spread_bound" s_spread_bound f fd) (Cless : Cal P w K mg base 3 "less" ["one", "other"] (spSh leZ)) (Ctimes : Cal P w K mg base 3 "times" ["one", "other"] (spSh tmZ)) (Cparted : Cal P w K mg base 3 "parted" ["one", "other"] spPt) (Cis_less : Cal P w K mg base 1 "is_less" ["one", "other"] spLt8) (Cmean : Cal P w K mg base 4 "mean" ["kind", "many"] (spKN mnZ)) (Cspread : Cal P w K mg base 4 "spread" ["kind", "many"] (spKN sdZ)) : FnOk P w K mg base CX0 5 f fd ["kind", "many", "number"] spKNK := by
 refine F.ok sc_spread_bound (fun vs H Q E h => ?_) (fun cdv A outer s H vs Q E hr h => ?_)
 ·obtain ⟨kd, N, n, rfl, _⟩ := h
  rfl
 ·obtain ⟨kd, N, n, rfl, hk, h0, h1, hn, k⟩ := h
  refine ⟨_, (pss_cons (ps_set (i := 3) sc_spread_bound.nd rfl (Or.inl rfl) (pe_cal Cless (hr.mono (by decide)) rfl (pa_cons (pe_tup (pa_cons (pv 2) (pa_cons pe_int pa_nil))) (pa_cons (pe_cal Cmean (hr.mono (by decide)) rfl (pa_cons (pv 0) (pa_cons (pv 1) pa_nil))) pa_nil))))
   (pss_cons (ps_if (pt_not (pt_val (pe_cal Cis_less (hr.mono (by decide)) rfl (pa_cons (pe_tup (pa_cons pe_int (pa_cons pe_int pa_nil))) (pa_cons (pv 3) pa_nil)))))
    (pss_one (ps_ret (pe_tup (pa_cons pe_int (pa_cons pe_int pa_nil)))))
    pss_nil)
   (pss_one (ps_ret (pe_cal Cparted (hr.mono (by decide)) rfl (pa_cons (pe_cal Cspread (hr.mono (by decide)) rfl (pa_cons (pv 0) (pa_cons (pv 1) pa_nil))) (pa_cons (pe_cal Ctimes (hr.mono (by decide)) rfl (pa_cons (pv 3) (pa_cons (pv 3) pa_nil))) pa_nil))))))), ?_⟩
  have mb := mn_sh (kind := kd) h0 h1
  have db := sd_sh (kind := kd) h0 h1
  have fb := far_sm (kind := kd) (k := (n : Int)) h0 h1 (by (first | lia | omega)) (by (first | lia | omega))
  have nb : ShB ((n : Int), 1) 3900 := ⟨Int.one_pos, Sm.of (Nat.lt_of_le_of_lt (show ((n : Int)).natAbs <= 60 by (first | lia | omega)) (by decide +kernel)), sm1⟩
  have e : sbZ kd N n = if farZ kd N n <= 0 then (1, 1) else lowZ (ovZ kd N) (unZ kd N n) := rfl
  refine ⟨_, rfl, by show 2 <= sizeLine; decide, fun t ht => ?_⟩
  refine ⟨_, rfl, _, rfl, kd, N, rfl, hk, h0, h1, fun m H1 s1 hm => ?_⟩
  refine ⟨t, m, _, _, rfl, s1 _ _ upd_same, hm, nb, mb.mono (by decide), fun b H2 s2 hb => ?_⟩
  rw [beyond_eq] at hb
  have S2 := ((same_upd (o := .tup [.int (n : Int), .int 1]) ht).trans s1).trans s2
  refine ⟨by show 2 <= sizeLine; decide, fun o ho => ?_⟩
  have so := same_upd (o := .tup [.int 0, .int 1]) ho
  have bb : ShB (lowZ (farZ kd N n) (mnZ kd N).2) 3900 := ShB.low mb.pos (fb.mono (by decide)) (mb.s2.mono (by decide))
  refine ⟨_, rfl, o, b, (0, 1), _, rfl, upd_same, so _ _ hb, ⟨by decide, Sm.of (by decide +kernel), Sm.of (by decide +kernel)⟩, bb.mono (by decide), fun H3 s3 => ?_⟩
  rw [beyond_lt mb.pos]
  have hb3 := (so.trans s3) _ _ hb
  have S3 := (S2.trans so).trans s3
  by_cases hf : 0 < farZ kd N n
  ·rw [decide_eq_true hf]
   refine ⟨_, rfl, iteF ?_⟩
   rw [if_neg (by (first | lia | omega))] at e
   refine ⟨_, rfl, _, rfl, kd, N, rfl, hk, h0, h1, fun d H4 s4 hd => ?_⟩
   refine ⟨_, rfl, _, rfl, b, b, _, _, rfl, s4 _ _ hb3, s4 _ _ hb3, bb, bb, fun q H5 s5 hq => ?_⟩
   have tb : ShB (tmZ (lowZ (farZ kd N n) (mnZ kd N).2) (lowZ (farZ kd N n) (mnZ kd N).2)) 3900 := by
    rw [low_tm mb.pos mb.pos]
    exact ShB.low (Int.mul_pos mb.pos mb.pos) ((fb.mul fb).mono (by decide)) ((mb.s2.mul mb.s2).mono (by decide))
   have tp : 0 < (tmZ (lowZ (farZ kd N n) (mnZ kd N).2) (lowZ (farZ kd N n) (mnZ kd N).2)).1 := by
    rw [low_tm mb.pos mb.pos]
    exact low_fst_pos (Int.mul_pos mb.pos mb.pos) (Int.mul_pos hf hf)
   refine ⟨d, q, _, _, rfl, s5 _ _ hd, hq, db.mono (by decide), tb, tp, fun z H6 s6 hz => k z H6 (((S3.trans s4).trans s5).trans s6) ?_⟩
   rw [bound_eq h0 h1 hf] at hz
   rw [e]; exact hz
  ·rw [decide_eq_false hf]
   refine ⟨_, rfl, iteT ?_⟩
   rw [if_pos (by (first | lia | omega))] at e
   refine ⟨by show 2 <= sizeLine; decide, fun z hz => k z _ (S3.trans (same_upd hz)) ?_⟩
   rw [e]; exact upd_same
theorem sc_rises_bound : FnScope ["many", "number"] ["many", "number"] (defScope s_rises_bound) := ⟨rfl, rfl, rfl, by decide +kernel, rfl, by decide +kernel, by decide +kernel⟩
theorem ok_rises_bound {f : Addr} {fd : FuncData} (F : Fun K "rises_bound" "rises_bound" s_rises_bound f fd) (Cspread_bound : Cal P w K mg base 5 "spread_bound" ["kind", "many", "number"] spKNK) : FnOk P w K mg base CX0 6 f fd ["many", "number"] (spNK fun N k => sbZ "rises" N k) := by
 refine F.ok sc_rises_bound (fun vs H Q E h => ?_) (fun cdv A outer s H vs Q E hr h => ?_)
 ·obtain ⟨N, n, rfl, _⟩ := h
  rfl
 ·obtain ⟨N, n, rfl, h0, h1, hn, k⟩ := h
  refine ⟨_, (pss_one (ps_ret (pe_cal Cspread_bound (hr.mono (by decide)) rfl (pa_cons pe_str (pa_cons (pv 0) (pa_cons (pv 1) pa_nil)))))), ?_⟩
  exact ⟨_, rfl, _, rfl, "rises", N, n, rfl, .inl rfl, h0, h1, hn, k⟩
theorem sc_crossed_bound : FnScope ["many", "number"] ["many", "number"] (defScope s_crossed_bound) := ⟨rfl, rfl, rfl, by decide +kernel, rfl, by decide +kernel, by decide +kernel⟩
theorem ok_crossed_bound {f : Addr} {fd : FuncData} (F : Fun K "crossed_bound" "crossed_bound" s_crossed_bound f fd) (Cspread_bound : Cal P w K mg base 5 "spread_bound" ["kind", "many", "number"] spKNK) : FnOk P w K mg base CX0 6 f fd ["many", "number"] (spNK fun N k => sbZ "crossed" N k) := by
 refine F.ok sc_crossed_bound (fun vs H Q E h => ?_) (fun cdv A outer s H vs Q E hr h => ?_)
 ·obtain ⟨N, n, rfl, _⟩ := h
  rfl
 ·obtain ⟨N, n, rfl, h0, h1, hn, k⟩ := h
  refine ⟨_, (pss_one (ps_ret (pe_cal Cspread_bound (hr.mono (by decide)) rfl (pa_cons pe_str (pa_cons (pv 0) (pa_cons (pv 1) pa_nil)))))), ?_⟩
  exact ⟨_, rfl, _, rfl, "crossed", N, n, rfl, .inr rfl, h0, h1, hn, k⟩
theorem sc_most_share : FnScope ["kind", "many", "number", "bound"] ["kind", "many", "number"] (defScope s_most_share) := ⟨rfl, rfl, rfl, by decide +kernel, rfl, by decide +kernel, by decide +kernel⟩
set_option maxHeartbeats 8000000 in
theorem ok_most_share {f C f1 f2 f3 f4 f5 : Addr} {fd : FuncData} (F : Fun K "most_share" "most_share" s_most_share f fd) (hC : mg "BOUNDS" = some (.ref C)) (GD : GDict K w.params C [("rounds", f1), ("stays", f2), ("rises", f3), ("highs", f1), ("crossed", f4), ("longest", f5)])
  (c1 : CalF P w K mg base 6 f1 ["many", "number"] (spNK bGr)) (c2 : CalF P w K mg base 6 f2 ["many", "number"] (spNK bSt)) (c3 : CalF P w K mg base 6 f3 ["many", "number"] (spNK fun N k => sbZ "rises" N k)) (c4 : CalF P w K mg base 6 f4 ["many", "number"] (spNK fun N k => sbZ "crossed" N k)) (c5 : CalF P w K mg base 6 f5 ["many", "number"] (spNK bLg)) (Clesser : Cal P w K mg base 2 "lesser" ["one", "other"] (spMm8 minZ)) : FnOk P w K mg base CX0 7 f fd ["kind", "many", "number"] spMost := by
 refine F.ok sc_most_share (fun vs H Q E h => ?_) (fun cdv A outer s H vs Q E hr h => ?_)
 ·obtain ⟨kd, N, n, rfl, _⟩ := h
  rfl
 ·obtain ⟨kd, N, n, rfl, hk, h0, h1, hn, k⟩ := h
  refine ⟨_, (pss_cons (ps_if (pt_cmpR op_eq (pv 2) pe_int (nomark _))
    (pss_one (ps_ret (pe_tup (pa_cons pe_int (pa_cons pe_int pa_nil)))))
    pss_nil)
   (pss_cons (ps_set (i := 3) sc_most_share.nd rfl (Or.inl rfl) (pe_ix ix_gd (pe_glob (v := .ref C) rfl hC rfl) (pv 0) (fun _ _ => rfl)))
   (pss_one (ps_ret (pe_cal Clesser (hr.mono (by decide)) rfl (pa_cons (pe_tup (pa_cons pe_int (pa_cons pe_int pa_nil))) (pa_cons (pe_callV (k := 6) (pv 3) hr (pa_cons (pv 1) (pa_cons (pv 2) pa_nil))) pa_nil))))))), ?_⟩
  refine ⟨_, rfl, rfl, _, rfl, ?_⟩
  have one : ShB (1, 1) 8000 := ⟨by decide, Sm.of (by decide +kernel), Sm.of (by decide +kernel)⟩
  by_cases hz0 : n = 0
  ·subst hz0
   refine iteT ⟨by show 2 <= sizeLine; decide, fun z hz => k z _ (same_upd hz) ?_⟩
   exact upd_same
  ·rw [decide_eq_false (fun e => hz0 (by have := V.int.inj e; (first | lia | omega)))]
   refine iteF ?_
   have e : mostZ kd N n = if kd = "stays" then bSt N n else if kd = "longest" then capZ (sZ N n) (fcZ n) else if kd = "rounds" ∨ kd = "highs" then capZ (figZ N ^ n) (fcZ n) else if farZ kd N n <= 0 then (1, 1) else capZ (ovZ kd N) (unZ kd N n) := by
    unfold mostZ
    rw [if_neg hz0]
   have hk6 : kd = "rounds" ∨ kd = "stays" ∨ kd = "rises" ∨ kd = "highs" ∨ kd = "crossed" ∨ kd = "longest" := by simpa [kinds6S] using hk
   have two : (2 : Nat) <= sizeLine := by decide
   rcases hk6 with rfl | rfl | rfl | rfl | rfl | rfl
   ·refine ⟨_, rfl, C, _, _, f1, rfl, rfl, GD, rfl, two, fun t ht => ⟨_, rfl, f1, _, _, rfl, c1, _, rfl, _, rfl, N, n, rfl, h0, h1, hn, fun b H1 s1 hb => ?_⟩⟩
    refine ⟨t, b, (1, 1), _, rfl, s1 _ _ upd_same, hb, one, gr_sh h0 h1 hn, fun z H2 s2 hz => k z H2 (((same_upd ht).trans s1).trans s2) ?_⟩
    rw [e]
    unfold bGr at hz
    rw [min_cap (fcZ_pos n)] at hz
    exact hz
   ·refine ⟨_, rfl, C, _, _, f2, rfl, rfl, GD, rfl, two, fun t ht => ⟨_, rfl, f2, _, _, rfl, c2, _, rfl, _, rfl, N, n, rfl, h0, h1, hn, fun b H1 s1 hb => ?_⟩⟩
    refine ⟨t, b, (1, 1), _, rfl, s1 _ _ upd_same, hb, one, st_sh hn, fun z H2 s2 hz => k z H2 (((same_upd ht).trans s1).trans s2) ?_⟩
    rw [e]
    rw [min_st] at hz
    exact hz
   ·refine ⟨_, rfl, C, _, _, f3, rfl, rfl, GD, rfl, two, fun t ht => ⟨_, rfl, f3, _, _, rfl, c3, _, rfl, _, rfl, N, n, rfl, h0, h1, hn, fun b H1 s1 hb => ?_⟩⟩
    refine ⟨t, b, (1, 1), _, rfl, s1 _ _ upd_same, hb, one, (sb_sh h0 h1 (by (first | lia | omega)) (by (first | lia | omega))).mono (by decide), fun z H2 s2 hz => k z H2 (((same_upd ht).trans s1).trans s2) ?_⟩
    rw [e]
    rw [min_sb h0 h1] at hz
    exact hz
   ·refine ⟨_, rfl, C, _, _, f1, rfl, rfl, GD, rfl, two, fun t ht => ⟨_, rfl, f1, _, _, rfl, c1, _, rfl, _, rfl, N, n, rfl, h0, h1, hn, fun b H1 s1 hb => ?_⟩⟩
    refine ⟨t, b, (1, 1), _, rfl, s1 _ _ upd_same, hb, one, gr_sh h0 h1 hn, fun z H2 s2 hz => k z H2 (((same_upd ht).trans s1).trans s2) ?_⟩
    rw [e]
    unfold bGr at hz
    rw [min_cap (fcZ_pos n)] at hz
    exact hz
   ·refine ⟨_, rfl, C, _, _, f4, rfl, rfl, GD, rfl, two, fun t ht => ⟨_, rfl, f4, _, _, rfl, c4, _, rfl, _, rfl, N, n, rfl, h0, h1, hn, fun b H1 s1 hb => ?_⟩⟩
    refine ⟨t, b, (1, 1), _, rfl, s1 _ _ upd_same, hb, one, (sb_sh h0 h1 (by (first | lia | omega)) (by (first | lia | omega))).mono (by decide), fun z H2 s2 hz => k z H2 (((same_upd ht).trans s1).trans s2) ?_⟩
    rw [e]
    rw [min_sb h0 h1] at hz
    exact hz
   ·refine ⟨_, rfl, C, _, _, f5, rfl, rfl, GD, rfl, two, fun t ht => ⟨_, rfl, f5, _, _, rfl, c5, _, rfl, _, rfl, N, n, rfl, h0, h1, hn, fun b H1 s1 hb => ?_⟩⟩
    refine ⟨t, b, (1, 1), _, rfl, s1 _ _ upd_same, hb, one, lg_sh h0 h1 hn, fun z H2 s2 hz => k z H2 (((same_upd ht).trans s1).trans s2) ?_⟩
    rw [e]
    unfold bLg at hz
    rw [min_cap (fcZ_pos n)] at hz
    exact hz
end
end K65
namespace L2
open PySem PySem.Spec PyProof.Rows
theorem wh_intB {S : Addr -> Prop} {H : Hp} {x : V} {d : PyData} (h : IsY S H x d) : isIv x = whD d := by
 cases h <;> rfl
end L2
namespace K65
open PySem PySem.Spec PyProof.Rows L2
noncomputable abbrev s_is_whole : Stmt := top 1
noncomputable abbrev s_are_wholes : Stmt := top 2
section
variable {P : Program} {w : World} {K : PySem.W.Frag} {mg : Str -> Option Value} {base : Heap}
theorem sc_is_whole : FnScope ["thing"] ["thing"] (defScope s_is_whole) := ⟨rfl, rfl, rfl, by decide +kernel, rfl, by decide +kernel, by decide +kernel⟩
set_option maxHeartbeats 8000000 in
theorem ok_is_whole {f : Addr} {fd : FuncData} (F : Fun K "is_whole" "is_whole" s_is_whole f fd) (T : Top mg) : FnOk P w K mg base CX0 1 f fd ["thing"] (spWhA K) := by
 refine F.ok sc_is_whole (fun vs H Q E h => ?_) (fun cdv A outer s H vs Q E hr h => ?_)
 ·obtain ⟨x, rfl, _⟩ := h
  rfl
 ·obtain ⟨x, rfl, ⟨t, ht, hm⟩, k⟩ := h
  refine ⟨_, (pss_one (ps_ret (pe_and (pe_callB call_isi (by rfl) T.n_isinstance boot_isinstance (pa_cons (pv 0) (pa_cons (pe_bltn (v := .ty "int") rfl T.n_int boot_int rfl) pa_nil))) (pe_one (pe_not (pe_callB call_isi (by rfl) T.n_isinstance boot_isinstance (pa_cons (pv 0) (pa_cons (pe_bltn (v := .ty "bool") rfl T.n_bool boot_bool rfl) pa_nil)))))))), ?_⟩
  obtain ⟨k1, k2, _⟩ := kit7 (K := K) hm
  have hi := (tyI ht).trans isIv_iff.symm
  refine ⟨_, rfl, _, _, _, _, rfl, ht, k1, _, rfl, ?_⟩
  by_cases hb : t = "bool"
  ·subst hb
   refine iteT ⟨_, rfl, _, _, _, _, rfl, ht, k2, _, rfl, ?_⟩
   have : isIv x = false := by
    cases e : isIv x with
    | false => rfl
    | true => exact absurd (hi.mpr e) (by decide)
   rw [this] at k
   exact k
  ·by_cases hI : t = "int"
   ·subst hI
    refine iteT ⟨_, rfl, _, _, _, _, rfl, ht, k2, _, rfl, ?_⟩
    rw [hi.mp rfl] at k
    exact k
   ·have e0 : (t == "bool" || t == "int") = false := by
     rw [beq_eq_false_iff_ne.mpr hb, beq_eq_false_iff_ne.mpr hI]
     rfl
    have : isIv x = false := by
     cases e : isIv x with
     | false => rfl
     | true => exact absurd (hi.mpr e) hI
    rw [this] at k
    rw [e0]
    exact iteF k
theorem sc_are_wholes : FnScope ["thing"] ["thing"] (defScope s_are_wholes) := ⟨rfl, rfl, rfl, by decide +kernel, rfl, by decide +kernel, by decide +kernel⟩
set_option maxHeartbeats 8000000 in
theorem ok_are_wholes {f : Addr} {fd : FuncData} (F : Fun K "are_wholes" "are_wholes" s_are_wholes f fd) (T : Top mg) (Cis_whole : Cal P w K mg base 1 "is_whole" ["thing"] (spWhA K)) : FnOk P w K mg base CX0 2 f fd ["thing"] spWhsD := by
 refine F.ok sc_are_wholes (fun vs H Q E h => ?_) (fun cdv A outer s H vs Q E hr h => ?_)
 ·obtain ⟨S, x, d, rfl, _⟩ := h
  rfl
 ·obtain ⟨S, x, d, rfl, y, sz, k⟩ := h
  refine ⟨_, (pss_one (ps_ret (pe_and (pe_callB call_isi (by rfl) T.n_isinstance boot_isinstance (pa_cons (pv 0) (pa_cons (pe_bltn (v := .ty "tuple") rfl T.n_tuple boot_tuple rfl) pa_nil))) (pe_one (pe_callB (call_all rfl) (by rfl) T.n_all boot_all (pa_cons (pe_lc (N' := ["number"]) (n := 1) (ix := []) rfl (CompScope.of (sc := defScope s_are_wholes) (N := ["thing"]) (by decide +kernel) rfl rfl) (pi_tup (pv 0)) (fun _ _ _ _ _ => ⟨(pg_name (i := 0) (show (["number"] : List Str).Nodup by decide +kernel) rfl (Or.inl rfl)), pts_nil, (pe_cal Cis_whole (hr.mono (by decide)) rfl (pa_cons (pv 0) pa_nil))⟩)) pa_nil)))))), ?_⟩
  obtain ⟨_, _, k3⟩ := kit7 (K := K) (tyD_in d)
  refine ⟨_, rfl, _, _, _, _, rfl, y.ty, k3, _, rfl, ?_⟩
  rcases y.isT with ⟨a, vs, ds, rfl, rfl, ha, al⟩ | ⟨hne, hn⟩
  ·refine iteT ?_
   refine ⟨_, rfl, a, rfl, ⟨_, SqT.of ha⟩, ?_⟩
   have hl : vs.length <= 1000 := by rw [al.len]; exact sz.tup.1
   refine lc_growI (yields_tup (K := K) (a := a) (xs := vs)) (small1 hl) (ds.map whD) (by rw [List.length_map, al.len]) (fun G sm => SqT.of (sm _ _ ha)) (fun i v b G hv hb sm Q' q => ?_) fun acc G hacc sm hG => ?_
   ·obtain ⟨e, he, ye⟩ := al.at hv
    rw [List.getElem?_map, he] at hb
    cases hb
    refine ⟨_, rfl, v, rfl, (ye.same sm).kn, ?_⟩
    rw [wh_intB ye]
    exact q G (Same.refl G)
   ·refine ⟨acc, _, rfl, hG, ?_⟩
    have := k G sm
    rw [show wholesD (.tuple ds) = (ds.map whD).all id by rw [List.all_map]; rfl] at this
    exact this
  ·rw [beq_eq_false_iff_ne.mpr hne]
   refine iteF ?_
   have := k H (Same.refl H)
   rw [show wholesD d = false by cases d <;> first | rfl | exact absurd rfl (hn _)] at this
   exact this
end
end K65
namespace K65
open PySem PySem.Spec PyProof.Rows L2
noncomputable abbrev s_are_just : Stmt := top 3
noncomputable abbrev s_stays_paper : Stmt := top 52
noncomputable abbrev s_longest_paper : Stmt := top 53
noncomputable abbrev s_groups_paper : Stmt := top 54
noncomputable abbrev s_rises_paper : Stmt := top 55
noncomputable abbrev s_crossed_paper : Stmt := top 56
noncomputable abbrev s_own_paper : Stmt := top 58
section
variable {P : Program} {w : World} {K : PySem.W.Frag} {mg : Str -> Option Value} {base : Heap}
theorem sc_are_just : FnScope ["thing", "numbers"] ["thing", "numbers"] (defScope s_are_just) := ⟨rfl, rfl, rfl, by decide +kernel, rfl, by decide +kernel, by decide +kernel⟩
theorem ok_are_just {f : Addr} {fd : FuncData} (F : Fun K "are_just" "are_just" s_are_just f fd) (Care_wholes : Cal P w K mg base 2 "are_wholes" ["thing"] spWhsD) : FnOk P w K mg base CX0 3 f fd ["thing", "numbers"] spJust := by
 refine F.ok sc_are_just (fun vs H Q E h => ?_) (fun cdv A outer s H vs Q E hr h => ?_)
 ·obtain ⟨S, x, d, b, ns, rfl, _⟩ := h
  rfl
 ·obtain ⟨S, x, d, b, ns, rfl, yd, hz, hb, k⟩ := h
  have hu : _ := hr.units
  refine ⟨_, (pss_one (ps_ret (pe_and (pe_cal Care_wholes (hr.mono (by decide)) rfl (pa_cons (pv 0) pa_nil)) (pe_one (pe_cmpR (op_eqD hu) (pv 0) (pv 1) (nomark _)))))), ?_⟩
  refine ⟨_, rfl, S, x, d, rfl, yd, hz, fun G s1 => ⟨_, rfl, ?_⟩⟩
  by_cases c : wholesD d = true
  ·rw [c]
   rcases yd.isT with ⟨a, us, ds, rfl, rfl, ha, al⟩ | ⟨_, q⟩
   ·have e := ints_of al c
    subst e
    refine iteT ⟨_, rfl, _, rfl, _, _, Is.ints (s1 _ _ ha), Is.ints (s1 _ _ hb), shaped_tints _, shaped_tints _, ?_⟩
    have e2 : juD ns (.tuple ds) = PyData.eqv (.tuple ((ds.map asI).map PyData.int)) (.tuple (ns.map PyData.int)) := by
     show (ds.all whD && decide (ds.map asI = ns)) = PyData.eqvAll _ _
     rw [eqv_ints, show ds.all whD = true from c]; rfl
    rw [<- e2]
    exact k G s1
   ·cases d with
    | tuple ds => exact absurd rfl (q ds)
    | _ => cases c
  ·have c' : wholesD d = false := by simpa using c
   rw [c']
   refine iteF ?_
   have e : juD ns d = false := by
    cases d with
    | tuple ds =>
     show (ds.all whD && _) = false
     rw [show ds.all whD = false from c']; rfl
    | _ => rfl
   rw [<- e]
   exact k G s1
theorem sc_stays_paper : FnScope ["many", "number", "sets"] ["many", "number"] (defScope s_stays_paper) := ⟨rfl, rfl, rfl, by decide +kernel, rfl, by decide +kernel, by decide +kernel⟩
theorem ok_stays_paper {f : Addr} {fd : FuncData} (F : Fun K "stays_paper" "stays_paper" s_stays_paper f fd) (Csets_of : Cal P w K mg base 1 "sets_of" ["many", "number"] spSets) (Cproduct : Cal P w K mg base 1 "product" ["first", "last"] spPrG) : FnOk P w K mg base CX0 2 f fd ["many", "number"] (spPap "stays") := by
 refine F.ok sc_stays_paper (fun vs H Q E h => ?_) (fun cdv A outer s H vs Q E hr h => ?_)
 ·obtain ⟨N, n, rfl, _⟩ := h
  rfl
 ·obtain ⟨N, n, rfl, hN, hn, k⟩ := h
  refine ⟨_, (pss_cons (ps_set (i := 2) sc_stays_paper.nd rfl (Or.inl rfl) (pe_cal Csets_of (hr.mono (by decide)) rfl (pa_cons (pv 0) (pa_cons (pv 1) pa_nil))))
   (pss_one (ps_ret (pe_tup (pa_cons pe_str (pa_cons (pv 2) (pa_cons (pe_ifExp (pt_cmpR op_gt (pv 2) pe_int (nomark _)) (pe_tup (pa_cons pe_int (pa_cons (pe_cal Cproduct (hr.mono (by decide)) rfl (pa_cons (pe_op op_add (pe_op op_sub (pv 0) (pv 1)) pe_int) (pa_cons (pv 0) pa_nil))) pa_nil))) (pe_tup (pa_cons pe_int (pa_cons pe_int pa_nil)))) pa_nil))))))), ?_⟩
  obtain ⟨n0, n1⟩ := le60 hN
  refine ⟨_, rfl, _, rfl, N, n, rfl, n0, n1, hn, ?_⟩
  refine ⟨_, rfl, _, rfl, _, _, rfl, rfl, _, rfl, ?_⟩
  have fin : ∀ (y : Addr) (G : Hp), Same H G -> Shr G y (eaZ "stays" N n) -> ∀ z, G z = none -> PapT "stays" N n (upd G z (.tup [.str "sets", .int (sZ N n), .ref y])) z := fun y G sG hy z hz => ⟨_, upd_same, .cons (.str _) (.cons (.int _) (.cons (Shr.isY (same_upd hz _ _ hy)) .nil))⟩
  refine ite2 (fun h => ?_) (fun h => ?_)
  ·have hp : 0 < sZ N n := of_decide_eq_true h
   have kN := sZ_pos60 hp
   refine ⟨_, rfl, _, rfl, _, _, rfl, rfl, _, _, rfl, rfl, _, rfl, (N : Int) - n + 1, n, ?_, by (first | lia | omega), by (first | lia | omega), hn, by show 2 <= sizeLine; decide, fun y hy => ?_⟩
   ·congr 2
    congr 1
    (first | lia | omega)
   refine ⟨by show 3 <= sizeLine; decide, fun z hz => ?_⟩
   refine k z _ ((same_upd hy).trans (same_upd hz)) (fin y _ (same_upd hy) ?_ z hz)
   have e : eaZ "stays" N n = (1, prN ((N : Int) - n + 1) n) := by unfold eaZ; rw [if_pos hp, if_pos rfl]
   rw [e]
   exact upd_same
  ·have hp : ¬ 0 < sZ N n := fun z => h (decide_eq_true z)
   refine ⟨by show 2 <= sizeLine; decide, fun y hy => ⟨by show 3 <= sizeLine; decide, fun z hz => ?_⟩⟩
   refine k z _ ((same_upd hy).trans (same_upd hz)) (fin y _ (same_upd hy) ?_ z hz)
   have e : eaZ "stays" N n = (0, 1) := by unfold eaZ; rw [if_neg hp]
   rw [e]
   exact upd_same
theorem sc_longest_paper : FnScope ["many", "number", "sets"] ["many", "number"] (defScope s_longest_paper) := ⟨rfl, rfl, rfl, by decide +kernel, rfl, by decide +kernel, by decide +kernel⟩
theorem ok_longest_paper {f : Addr} {fd : FuncData} (F : Fun K "longest_paper" "longest_paper" s_longest_paper f fd) (Csets_of : Cal P w K mg base 1 "sets_of" ["many", "number"] spSets) (Cproduct : Cal P w K mg base 1 "product" ["first", "last"] spPr) : FnOk P w K mg base CX0 2 f fd ["many", "number"] (spPap "longest") := by
 refine F.ok sc_longest_paper (fun vs H Q E h => ?_) (fun cdv A outer s H vs Q E hr h => ?_)
 ·obtain ⟨N, n, rfl, _⟩ := h
  rfl
 ·obtain ⟨N, n, rfl, hN, hn, k⟩ := h
  refine ⟨_, (pss_cons (ps_set (i := 2) sc_longest_paper.nd rfl (Or.inl rfl) (pe_cal Csets_of (hr.mono (by decide)) rfl (pa_cons (pv 0) (pa_cons (pv 1) pa_nil))))
   (pss_one (ps_ret (pe_tup (pa_cons pe_str (pa_cons (pv 2) (pa_cons (pe_ifExp (pt_cmpR op_gt (pv 2) pe_int (nomark _)) (pe_tup (pa_cons pe_int (pa_cons (pe_cal Cproduct (hr.mono (by decide)) rfl (pa_cons pe_int (pa_cons (pv 1) pa_nil))) pa_nil))) (pe_tup (pa_cons pe_int (pa_cons pe_int pa_nil)))) pa_nil))))))), ?_⟩
  obtain ⟨n0, n1⟩ := le60 hN
  refine ⟨_, rfl, _, rfl, N, n, rfl, n0, n1, hn, ?_⟩
  refine ⟨_, rfl, _, rfl, _, _, rfl, rfl, _, rfl, ?_⟩
  have fin : ∀ (y : Addr) (G : Hp), Same H G -> Shr G y (eaZ "longest" N n) -> ∀ z, G z = none -> PapT "longest" N n (upd G z (.tup [.str "sets", .int (sZ N n), .ref y])) z := fun y G sG hy z hz => ⟨_, upd_same, .cons (.str _) (.cons (.int _) (.cons (Shr.isY (same_upd hz _ _ hy)) .nil))⟩
  refine ite2 (fun h => ?_) (fun h => ?_)
  ·have hp : 0 < sZ N n := of_decide_eq_true h
   refine ⟨_, rfl, n, rfl, by (first | lia | omega), by show 2 <= sizeLine; decide, fun y hy => ?_⟩
   refine ⟨by show 3 <= sizeLine; decide, fun z hz => ?_⟩
   refine k z _ ((same_upd hy).trans (same_upd hz)) (fin y _ (same_upd hy) ?_ z hz)
   have e : eaZ "longest" N n = (1, fcZ n) := by unfold eaZ; rw [if_pos hp, if_neg (by decide)]
   rw [e]
   exact upd_same
  ·have hp : ¬ 0 < sZ N n := fun z => h (decide_eq_true z)
   refine ⟨by show 2 <= sizeLine; decide, fun y hy => ⟨by show 3 <= sizeLine; decide, fun z hz => ?_⟩⟩
   refine k z _ ((same_upd hy).trans (same_upd hz)) (fin y _ (same_upd hy) ?_ z hz)
   have e : eaZ "longest" N n = (0, 1) := by unfold eaZ; rw [if_neg hp]
   rw [e]
   exact upd_same
theorem sc_groups_paper : FnScope ["many", "number"] ["many", "number"] (defScope s_groups_paper) := ⟨rfl, rfl, rfl, by decide +kernel, rfl, by decide +kernel, by decide +kernel⟩
theorem ok_groups_paper {f : Addr} {fd : FuncData} (F : Fun K "groups_paper" "groups_paper" s_groups_paper f fd) : FnOk P w K mg base CX0 1 f fd ["many", "number"] (spE (spPap "rounds") (spPap "highs")) := by
 refine F.ok sc_groups_paper (fun vs H Q E h => ?_) (fun cdv A outer s H vs Q E hr h => ?_)
 ·rcases h with ⟨N, n, rfl, _⟩ | ⟨N, n, rfl, _⟩ <;> rfl
 ·refine ⟨_, (pss_one (ps_ret (pe_tup (pa_cons pe_str (pa_cons (pe_bm0 PySem.F.plainAttrs_int PySem.F.slot_int_bit_length PySem.F.type_int_bit_length mt_bitlen (pv 0)) pa_nil))))), ?_⟩
  rcases h with ⟨N, n, rfl, hN, hn, k⟩ | ⟨N, n, rfl, hN, hn, k⟩
  ·refine ⟨_, rfl, rfl, _, rfl, rfl, by show 2 <= sizeLine; decide, fun z hz => k z _ (same_upd hz) ⟨_, upd_same, .cons (.str _) (.cons (.int _) .nil)⟩⟩
  ·refine ⟨_, rfl, rfl, _, rfl, rfl, by show 2 <= sizeLine; decide, fun z hz => k z _ (same_upd hz) ⟨_, upd_same, .cons (.str _) (.cons (.int _) .nil)⟩⟩
theorem sc_rises_paper : FnScope ["many", "number"] ["many", "number"] (defScope s_rises_paper) := ⟨rfl, rfl, rfl, by decide +kernel, rfl, by decide +kernel, by decide +kernel⟩
theorem ok_rises_paper {f : Addr} {fd : FuncData} (F : Fun K "rises_paper" "rises_paper" s_rises_paper f fd) (Cmean : Cal P w K mg base 4 "mean" ["kind", "many"] (spKN mnZ)) (Cspread : Cal P w K mg base 4 "spread" ["kind", "many"] (spKN sdZ)) : FnOk P w K mg base CX0 5 f fd ["many", "number"] (spPap "rises") := by
 refine F.ok sc_rises_paper (fun vs H Q E h => ?_) (fun cdv A outer s H vs Q E hr h => ?_)
 ·obtain ⟨N, n, rfl, _⟩ := h
  rfl
 ·obtain ⟨N, n, rfl, hN, hn, k⟩ := h
  refine ⟨_, (pss_one (ps_ret (pe_tup (pa_cons pe_str (pa_cons (pe_cal Cmean (hr.mono (by decide)) rfl (pa_cons pe_str (pa_cons (pv 0) pa_nil))) (pa_cons (pe_cal Cspread (hr.mono (by decide)) rfl (pa_cons pe_str (pa_cons (pv 0) pa_nil))) pa_nil)))))), ?_⟩
  obtain ⟨n0, n1⟩ := le60 hN
  refine ⟨_, rfl, "rises", N, rfl, .inl rfl, n0, n1, fun x G1 s1 hx => ⟨_, rfl, "rises", N, rfl, .inl rfl, n0, n1, fun y G2 s2 hy => ⟨by show 3 <= sizeLine; decide, fun z hz => ?_⟩⟩⟩
  exact k z _ ((s1.trans s2).trans (same_upd hz)) ⟨_, upd_same, .cons (.str _) (.cons (Shr.isY (same_upd hz _ _ (s2 _ _ hx))) (.cons (Shr.isY (same_upd hz _ _ hy)) .nil))⟩
theorem sc_crossed_paper : FnScope ["many", "number"] ["many", "number"] (defScope s_crossed_paper) := ⟨rfl, rfl, rfl, by decide +kernel, rfl, by decide +kernel, by decide +kernel⟩
theorem ok_crossed_paper {f : Addr} {fd : FuncData} (F : Fun K "crossed_paper" "crossed_paper" s_crossed_paper f fd) (Cmean : Cal P w K mg base 4 "mean" ["kind", "many"] (spKN mnZ)) (Cspread : Cal P w K mg base 4 "spread" ["kind", "many"] (spKN sdZ)) : FnOk P w K mg base CX0 5 f fd ["many", "number"] (spPap "crossed") := by
 refine F.ok sc_crossed_paper (fun vs H Q E h => ?_) (fun cdv A outer s H vs Q E hr h => ?_)
 ·obtain ⟨N, n, rfl, _⟩ := h
  rfl
 ·obtain ⟨N, n, rfl, hN, hn, k⟩ := h
  refine ⟨_, (pss_one (ps_ret (pe_tup (pa_cons pe_str (pa_cons (pe_cal Cmean (hr.mono (by decide)) rfl (pa_cons pe_str (pa_cons (pv 0) pa_nil))) (pa_cons (pe_cal Cspread (hr.mono (by decide)) rfl (pa_cons pe_str (pa_cons (pv 0) pa_nil))) pa_nil)))))), ?_⟩
  obtain ⟨n0, n1⟩ := le60 hN
  refine ⟨_, rfl, "crossed", N, rfl, .inr rfl, n0, n1, fun x G1 s1 hx => ⟨_, rfl, "crossed", N, rfl, .inr rfl, n0, n1, fun y G2 s2 hy => ⟨by show 3 <= sizeLine; decide, fun z hz => ?_⟩⟩⟩
  exact k z _ ((s1.trans s2).trans (same_upd hz)) ⟨_, upd_same, .cons (.str _) (.cons (Shr.isY (same_upd hz _ _ (s2 _ _ hx))) (.cons (Shr.isY (same_upd hz _ _ hy)) .nil))⟩
theorem sc_own_paper : FnScope ["kind", "many", "number", "paper"] ["kind", "many", "number"] (defScope s_own_paper) := ⟨rfl, rfl, rfl, by decide +kernel, rfl, by decide +kernel, by decide +kernel⟩
theorem ok_own_paper {f C f1 f2 f3 f4 f5 : Addr} {fd : FuncData} (F : Fun K "own_paper" "own_paper" s_own_paper f fd) (hC : mg "PAPERS" = some (.ref C)) (GD : GDict K w.params C [("rounds", f1), ("stays", f2), ("rises", f3), ("highs", f1), ("crossed", f4), ("longest", f5)])
  (c1 : CalF P w K mg base 5 f1 ["many", "number"] (spE (spPap "rounds") (spPap "highs"))) (c2 : CalF P w K mg base 5 f2 ["many", "number"] (spPap "stays")) (c3 : CalF P w K mg base 5 f3 ["many", "number"] (spPap "rises")) (c4 : CalF P w K mg base 5 f4 ["many", "number"] (spPap "crossed")) (c5 : CalF P w K mg base 5 f5 ["many", "number"] (spPap "longest")) : FnOk P w K mg base CX0 6 f fd ["kind", "many", "number"] spOwn := by
 refine F.ok sc_own_paper (fun vs H Q E h => ?_) (fun cdv A outer s H vs Q E hr h => ?_)
 ·obtain ⟨kd, N, n, rfl, _⟩ := h
  rfl
 ·obtain ⟨kd, N, n, rfl, hk, hN, hn, k⟩ := h
  refine ⟨_, (pss_cons (ps_set (i := 3) sc_own_paper.nd rfl (Or.inl rfl) (pe_ix ix_gd (pe_glob (v := .ref C) rfl hC rfl) (pv 0) (fun _ _ => rfl)))
   (pss_one (ps_ret (pe_callV (k := 5) (pv 3) hr (pa_cons (pv 1) (pa_cons (pv 2) pa_nil)))))), ?_⟩
  have : kd = "rounds" ∨ kd = "stays" ∨ kd = "rises" ∨ kd = "highs" ∨ kd = "crossed" ∨ kd = "longest" := by simpa [kinds6S] using hk
  rcases this with rfl | rfl | rfl | rfl | rfl | rfl
  ·exact ⟨_, rfl, C, _, _, f1, rfl, rfl, GD, rfl, _, rfl, f1, _, _, rfl, c1, _, rfl, _, rfl, .inl ⟨N, n, rfl, hN, hn, k⟩⟩
  ·exact ⟨_, rfl, C, _, _, f2, rfl, rfl, GD, rfl, _, rfl, f2, _, _, rfl, c2, _, rfl, _, rfl, N, n, rfl, hN, hn, k⟩
  ·exact ⟨_, rfl, C, _, _, f3, rfl, rfl, GD, rfl, _, rfl, f3, _, _, rfl, c3, _, rfl, _, rfl, N, n, rfl, hN, hn, k⟩
  ·exact ⟨_, rfl, C, _, _, f1, rfl, rfl, GD, rfl, _, rfl, f1, _, _, rfl, c1, _, rfl, _, rfl, .inr ⟨N, n, rfl, hN, hn, k⟩⟩
  ·exact ⟨_, rfl, C, _, _, f4, rfl, rfl, GD, rfl, _, rfl, f4, _, _, rfl, c4, _, rfl, _, rfl, N, n, rfl, hN, hn, k⟩
  ·exact ⟨_, rfl, C, _, _, f5, rfl, rfl, GD, rfl, _, rfl, f5, _, _, rfl, c5, _, rfl, _, rfl, N, n, rfl, hN, hn, k⟩
end
end K65
namespace L2
open PySem PySem.Spec PyProof.Rows
theorem FnOk.both {P : Program} {w : World} {K : PySem.W.Frag} {mg : Str -> Option Value} {base : Heap} {CX : CXT} {k : Nat} {f : Addr} {fd : FuncData} {ps : List Str} {a b : Sp} (A : FnOk P w K mg base CX k f fd ps a) (B : FnOk P w K mg base CX k f fd ps b) : FnOk P w K mg base CX k f fd ps (spE a b) :=
 ⟨fun vs H Q E q => q.elim (A.len vs H Q E) (B.len vs H Q E), fun A' outer s H args us vs Q E hr he hb hv hs => hs.elim (A.run A' outer s H args us vs Q E hr he hb hv) (B.run A' outer s H args us vs Q E hr he hb hv)⟩
theorem pap_sets {kind : Str} {N k : Nat} {H : Hp} {z : Addr} (h : PapT kind N k H z) (hk : kind = "stays" ∨ kind = "longest") : ∃ y, H z = some (.tup [.str "sets", .int (sZ N k), .ref y]) /\ Shr H y (eaZ kind N k) := by
 obtain ⟨us, h1, h2⟩ := h
 have e : paL kind N k = [.str "sets", .int (sZ N k), shD (eaZ kind N k)] := by rcases hk with rfl | rfl <;> rfl
 rw [e] at h2
 cases h2 with
 | cons a t =>
  cases t with
  | cons b t =>
   cases t with
   | cons c t =>
    cases t
    cases a
    cases b
    obtain ⟨y, rfl, hy⟩ := isY_shr c
    exact ⟨y, h1, hy⟩
theorem pap_groups {kind : Str} {N k : Nat} {H : Hp} {z : Addr} (h : PapT kind N k H z) (hk : kind = "rounds" ∨ kind = "highs") : H z = some (.tup [.str "groups", .int (figZ N)]) := by
 obtain ⟨us, h1, h2⟩ := h
 have e : paL kind N k = [.str "groups", .int (figZ N)] := by rcases hk with rfl | rfl <;> rfl
 rw [e] at h2
 cases h2 with
 | cons a t =>
  cases t with
  | cons b t =>
   cases t
   cases a
   cases b
   exact h1
theorem pap_spread {kind : Str} {N k : Nat} {H : Hp} {z : Addr} (h : PapT kind N k H z) (hk : kind = "rises" ∨ kind = "crossed") : ∃ x y, H z = some (.tup [.str "spread", .ref x, .ref y]) /\ Shr H x (mnZ kind N) /\ Shr H y (sdZ kind N) := by
 obtain ⟨us, h1, h2⟩ := h
 have e : paL kind N k = [.str "spread", shD (mnZ kind N), shD (sdZ kind N)] := by rcases hk with rfl | rfl <;> rfl
 rw [e] at h2
 cases h2 with
 | cons a t =>
  cases t with
  | cons b t =>
   cases t with
   | cons c t =>
    cases t
    cases a
    obtain ⟨x, rfl, hx⟩ := isY_shr b
    obtain ⟨y, rfl, hy⟩ := isY_shr c
    exact ⟨x, y, h1, hx, hy⟩
theorem all3 {S : Addr -> Prop} {H : Hp} {vs : List V} {ds : List PyData} (h : IsAllY S H vs ds) (hl : ds.length = 3) : ∃ v0 v1 v2 d0 d1 d2, vs = [v0, v1, v2] /\ ds = [d0, d1, d2] /\ IsY S H v0 d0 /\ IsY S H v1 d1 /\ IsY S H v2 d2 := by
 cases h with
 | nil => cases hl
 | cons a t =>
  cases t with
  | nil => cases hl
  | cons b t =>
   cases t with
   | nil => cases hl
   | cons c t =>
    cases t with
    | nil => exact ⟨_, _, _, _, _, _, rfl, rfl, a, b, c⟩
    | cons _ _ => simp at hl
theorem all2 {S : Addr -> Prop} {H : Hp} {vs : List V} {ds : List PyData} (h : IsAllY S H vs ds) (hl : ds.length = 2) : ∃ v0 v1 d0 d1, vs = [v0, v1] /\ ds = [d0, d1] /\ IsY S H v0 d0 /\ IsY S H v1 d1 := by
 cases h with
 | nil => cases hl
 | cons a t =>
  cases t with
  | nil => cases hl
  | cons b t =>
   cases t with
   | nil => exact ⟨_, _, _, _, rfl, rfl, a, b⟩
   | cons _ _ => simp at hl
theorem cut12 (a b c : V) : cutV [a, b, c] (some 1) (some 2) = [b] := rfl
theorem just_share {p : Int × Int} {d : PyData} (h : juD [p.1, p.2] d = true) : d = shD p := juD_eq h
theorem just_one {n : Int} {d : PyData} (h : juD [n] (.tuple [d]) = true) : d = .int n := by
 have := juD_eq h
 injection this with this
 injection this with this
end L2
namespace K65
open PySem PySem.Spec PyProof.Rows L2
noncomputable abbrev s_shows_by_sets : Stmt := top 59
noncomputable abbrev s_shows_by_spread : Stmt := top 61
section
variable {P : Program} {w : World} {K : PySem.W.Frag} {mg : Str -> Option Value} {base : Heap}
theorem ok_productG {f : Addr} {fd : FuncData} (F : Fun K "product" "product" s_product f fd) (T : Top mg) : FnOk P w K mg base CX0 1 f fd ["first", "last"] spPrG := by
 refine F.ok sc_product (fun vs H Q E h => ?_) (fun cdv A outer s H vs Q E hr h => ?_)
 ·obtain ⟨a, n, rfl, _⟩ := h
  rfl
 ·obtain ⟨a, n, rfl, a0, a1, hn, k⟩ := h
  refine ⟨_, (pss_cons (ps_set (i := 2) sc_product.nd rfl (Or.inl rfl) pe_int)
   (pss_cons (ps_for PassesOwn.never rfl (pi_range2 rfl T.n_range (pa_cons (pv 0) (pa_cons (pe_op op_add (pv 1) pe_int) pa_nil))) (pg_name (i := 3) sc_product.nd rfl (Or.inl rfl))
    (pss_one (ps_set (i := 2) sc_product.nd rfl (Or.inl rfl) (pe_op op_mul (pv 2) (pv 3)))))
   (pss_one (ps_ret (pv 2))))), ?_⟩
  refine ⟨_, rfl, _, rfl, _, _, rfl, rfl, _, _, rfl, ⟨by (first | lia | omega), by (first | lia | omega), by (first | lia | omega), by (first | lia | omega)⟩, ?_⟩
  rw [show (a + (n : Int) - 1 + 1 - a).toNat = n by (first | lia | omega)]
  refine for_range (fun i σ G => G = H /\ ∃ c : Option V, σ = [some (.int a), some (.int (a + n - 1)), some (.int (prN a i)), c]) ⟨rfl, none, rfl⟩ ?_ ?_
  ·rintro i σ G hi ⟨rfl, c, rfl⟩
   exact ⟨_, rfl, _, rfl, _, _, rfl, rfl, .inr ⟨by (first | lia | omega), by (first | lia | omega)⟩, rfl, some (.int (a + (i : Int))), rfl⟩
  ·rintro σ G ⟨rfl, c, rfl⟩
   exact ⟨_, rfl, k⟩
theorem ok_product {f : Addr} {fd : FuncData} (F : Fun K "product" "product" s_product f fd) (T : Top mg) : FnOk P w K mg base CX0 1 f fd ["first", "last"] (spE spPr spPrG) := FnOk.both (ok_product1 F T) (ok_productG F T)
theorem sc_shows_by_sets : FnScope ["paper", "number", "bound", "thing"] ["paper", "number", "bound", "thing"] (defScope s_shows_by_sets) := ⟨rfl, rfl, rfl, by decide +kernel, rfl, by decide +kernel, by decide +kernel⟩
theorem ok_shows_by_sets {f : Addr} {fd : FuncData} (F : Fun K "shows_by_sets" "shows_by_sets" s_shows_by_sets f fd) (Care_just : Cal P w K mg base 3 "are_just" ["thing", "numbers"] spJust) (Cis_less : Cal P w K mg base 1 "is_less" ["one", "other"] spLt8) (Ctimes : Cal P w K mg base 3 "times" ["one", "other"] (spSh tmZ)) : FnOk P w K mg base CX0 4 f fd ["paper", "number", "bound", "thing"] (spLook ["stays", "longest"]) := by
 refine F.ok sc_shows_by_sets (fun vs H Q E h => ?_) (fun cdv A outer s H vs Q E hr h => ?_)
 ·obtain ⟨kd, N, n, z, bz, a, b, S, us, ds, rfl, _⟩ := h
  rfl
 ·obtain ⟨kd, N, n, z, bz, a, b, S, us, ds, rfl, hkd, L, k⟩ := h
  refine ⟨_, (pss_cons (ps_if (PW.pt (pw_or (pt_not (pt_val (pe_cal Care_just (hr.mono (by decide)) rfl (pa_cons (pe_slice sl_tupA (pv 3) (po_some pe_int) (po_some pe_int)) (pa_cons (pe_slice sl_tupA (pv 0) (po_some pe_int) (po_some pe_int)) pa_nil))))) (pw_or1 (pt_not (pt_val (pe_cal Care_just (hr.mono (by decide)) rfl (pa_cons (pe_ix ix_tup (pv 3) pe_int (fun _ _ => rfl)) (pa_cons (pe_ix ix_tup (pv 0) pe_int (fun _ _ => rfl)) pa_nil))))))))
    (pss_one (ps_ret pe_bl))
    pss_nil)
   (pss_one (ps_ret (pe_not (pe_cal Cis_less (hr.mono (by decide)) rfl (pa_cons (pv 2) (pa_cons (pe_cal Ctimes (hr.mono (by decide)) rfl (pa_cons (pe_tup (pa_cons (pe_ix ix_tup (pv 0) pe_int (fun _ _ => rfl)) (pa_cons pe_int pa_nil))) (pa_cons (pe_ix ix_tup (pv 0) pe_int (fun _ _ => rfl)) pa_nil))) pa_nil))))))), ?_⟩
  have hk2 : kd = "stays" ∨ kd = "longest" := by simpa using hkd
  have e3 : paL kd N n = [.str "sets", .int (sZ N n), shD (eaZ kd N n)] := by rcases hk2 with rfl | rfl <;> rfl
  have hng : ¬(kd = "rounds" ∨ kd = "highs") := by rcases hk2 with rfl | rfl <;> decide
  obtain ⟨y, hz, hy⟩ := pap_sets L.pap hk2
  obtain ⟨v0, v1, v2, d0, d1, d2, rfl, rfl, y0, y1, y2⟩ := all3 L.all (by rw [L.len, e3]; rfl)
  have ha := L.top
  have hea := ea_sh (kind := kd) L.hN L.hk
  have hbad : ∀ {r : Bool}, r = false -> (r = true -> okL kd N n [d0, d1, d2]) := fun h z => by rw [h] at z; cases z
  refine ⟨_, rfl, _, rfl, _, rfl, a, _, rfl, ha, fun p1 G1 s1 hp1 => ?_⟩
  rw [cut12] at hp1
  refine ⟨_, rfl, _, rfl, _, rfl, z, _, rfl, s1 _ _ hz, fun p2 G2 s2 hp2 => ?_⟩
  rw [cut12] at hp2
  have S2 := s1.trans s2
  refine ⟨S, .ref p1, .tuple [d1], p2, [sZ N n], rfl, .tup (s2 _ _ hp1) (.cons (y1.same S2) .nil), ?_, hp2, fun G3 s3 => ⟨_, rfl, ?_⟩⟩
  ·have := L.sz
   unfold Sz at this ⊢
   simp only [PyData.bulk, PyData.bulkAll] at this ⊢
   (first | lia | omega)
  have S3 := S2.trans s3
  by_cases c1 : juD [sZ N n] (.tuple [d1]) = true
  ·rw [c1]
   refine iteF ⟨_, rfl, a, _, 2, v2, rfl, rfl, SqT.of (S3 _ _ ha), atI_nat (j := 2) rfl, _, rfl, z, _, 2, .ref y, rfl, rfl, SqT.of (S3 _ _ hz), atI_nat (j := 2) rfl, S, v2, d2, y, [(eaZ kd N n).1, (eaZ kd N n).2], rfl, y2.same S3, L.sz.tup.2 d2 (by simp), S3 _ _ hy, fun G4 s4 => ⟨_, rfl, ?_⟩⟩
   have S4 := S3.trans s4
   by_cases c2 : juD [(eaZ kd N n).1, (eaZ kd N n).2] d2 = true
   ·rw [c2]
    refine iteF ⟨_, rfl, _, rfl, z, _, 1, _, rfl, rfl, SqT.of (S4 _ _ hz), atI_nat (j := 1) rfl, by show 2 <= sizeLine; decide, fun q hq => ?_⟩
    have sq := same_upd (o := .tup [.int (sZ N n), .int 1]) hq
    refine ⟨_, rfl, z, _, 2, .ref y, rfl, rfl, SqT.of (sq _ _ (S4 _ _ hz)), atI_nat (j := 2) rfl, q, y, (sZ N n, 1), eaZ kd N n, rfl, upd_same, sq _ _ (S4 _ _ hy), ⟨Int.one_pos, (sZ_sm60 L.hN L.hk).mono (by decide), sm1⟩, hea.mono (by decide), fun t G5 s5 ht => ?_⟩
    refine ⟨bz, t, b, _, rfl, (sq.trans s5) _ _ (S4 _ _ L.bnd), ht, L.bsm, ?_, fun G6 s6 => ?_⟩
    ·unfold tmZ
     exact ShB.low (Int.mul_pos Int.one_pos hea.pos) (((sZ_sm60 L.hN L.hk).mul hea.s1).mono (by decide)) ((Sm.mul (show Sm (1 : Int) 1 from Sm.of (by decide)) hea.s2).mono (by decide))
    ·refine ⟨_, rfl, k _ G6 ((((S4.trans sq).trans s5)).trans s6) fun _ => ?_⟩
     unfold okL
     rw [if_neg hng, e3, just_one c1, just_share c2]
     exact ⟨rfl, rfl⟩
   ·rw [show juD [(eaZ kd N n).1, (eaZ kd N n).2] d2 = false by simpa using c2]
    exact iteT (k false G4 S4 (hbad rfl))
  ·rw [show juD [sZ N n] (.tuple [d1]) = false by simpa using c1]
   exact iteT (k false G3 S3 (hbad rfl))
theorem sc_shows_by_spread : FnScope ["paper", "number", "bound", "thing", "beyond"] ["paper", "number", "bound", "thing"] (defScope s_shows_by_spread) := ⟨rfl, rfl, rfl, by decide +kernel, rfl, by decide +kernel, by decide +kernel⟩
theorem ok_shows_by_spread {f : Addr} {fd : FuncData} (F : Fun K "shows_by_spread" "shows_by_spread" s_shows_by_spread f fd) (Care_just : Cal P w K mg base 3 "are_just" ["thing", "numbers"] spJust) (Cis_less : Cal P w K mg base 1 "is_less" ["one", "other"] spLt8) (Ctimes : Cal P w K mg base 3 "times" ["one", "other"] (spSh tmZ)) (Cless : Cal P w K mg base 3 "less" ["one", "other"] (spSh leZ)) (Cparted : Cal P w K mg base 3 "parted" ["one", "other"] spPt) : FnOk P w K mg base CX0 4 f fd ["paper", "number", "bound", "thing"] (spLook ["rises", "crossed"]) := by
 refine F.ok sc_shows_by_spread (fun vs H Q E h => ?_) (fun cdv A outer s H vs Q E hr h => ?_)
 ·obtain ⟨kd, N, n, z, bz, a, b, S, us, ds, rfl, _⟩ := h
  rfl
 ·obtain ⟨kd, N, n, z, bz, a, b, S, us, ds, rfl, hkd, L, k⟩ := h
  refine ⟨_, (pss_cons (ps_if (PW.pt (pw_or (pt_not (pt_val (pe_cal Care_just (hr.mono (by decide)) rfl (pa_cons (pe_ix ix_tup (pv 3) pe_int (fun _ _ => rfl)) (pa_cons (pe_ix ix_tup (pv 0) pe_int (fun _ _ => rfl)) pa_nil))))) (pw_or1 (pt_not (pt_val (pe_cal Care_just (hr.mono (by decide)) rfl (pa_cons (pe_ix ix_tup (pv 3) pe_int (fun _ _ => rfl)) (pa_cons (pe_ix ix_tup (pv 0) pe_int (fun _ _ => rfl)) pa_nil))))))))
    (pss_one (ps_ret pe_bl))
    pss_nil)
   (pss_cons (ps_set (i := 4) sc_shows_by_spread.nd rfl (Or.inl rfl) (pe_cal Cless (hr.mono (by decide)) rfl (pa_cons (pe_tup (pa_cons (pv 1) (pa_cons pe_int pa_nil))) (pa_cons (pe_ix ix_tup (pv 0) pe_int (fun _ _ => rfl)) pa_nil))))
   (pss_one (ps_ret (pe_and (pe_cal Cis_less (hr.mono (by decide)) rfl (pa_cons (pe_tup (pa_cons pe_int (pa_cons pe_int pa_nil))) (pa_cons (pv 4) pa_nil))) (pe_one (pe_not (pe_cal Cis_less (hr.mono (by decide)) rfl (pa_cons (pv 2) (pa_cons (pe_cal Cparted (hr.mono (by decide)) rfl (pa_cons (pe_ix ix_tup (pv 0) pe_int (fun _ _ => rfl)) (pa_cons (pe_cal Ctimes (hr.mono (by decide)) rfl (pa_cons (pv 4) (pa_cons (pv 4) pa_nil))) pa_nil))) pa_nil)))))))))), ?_⟩
  have hk2 : kd = "rises" ∨ kd = "crossed" := by simpa using hkd
  have e3 : paL kd N n = [.str "spread", shD (mnZ kd N), shD (sdZ kd N)] := by rcases hk2 with rfl | rfl <;> rfl
  have hng : ¬(kd = "rounds" ∨ kd = "highs") := by rcases hk2 with rfl | rfl <;> decide
  obtain ⟨x, y, hz, hx, hy⟩ := pap_spread L.pap hk2
  obtain ⟨v0, v1, v2, d0, d1, d2, rfl, rfl, y0, y1, y2⟩ := all3 L.all (by rw [L.len, e3]; rfl)
  have ha := L.top
  obtain ⟨h0, h1⟩ := le60 L.hN
  have hn := L.hk
  have hbad : ∀ {r : Bool}, r = false -> (r = true -> okL kd N n [d0, d1, d2]) := fun h z => by rw [h] at z; cases z
  refine ⟨_, rfl, a, _, 1, v1, rfl, rfl, SqT.of ha, atI_nat (j := 1) rfl, _, rfl, z, _, 1, .ref x, rfl, rfl, SqT.of hz, atI_nat (j := 1) rfl, S, v1, d1, x, [(mnZ kd N).1, (mnZ kd N).2], rfl, y1, L.sz.tup.2 d1 (by simp), hx, fun G3 S3 => ⟨_, rfl, ?_⟩⟩
  by_cases c1 : juD [(mnZ kd N).1, (mnZ kd N).2] d1 = true
  ·rw [c1]
   refine iteF ⟨_, rfl, a, _, 2, v2, rfl, rfl, SqT.of (S3 _ _ ha), atI_nat (j := 2) rfl, _, rfl, z, _, 2, .ref y, rfl, rfl, SqT.of (S3 _ _ hz), atI_nat (j := 2) rfl, S, v2, d2, y, [(sdZ kd N).1, (sdZ kd N).2], rfl, y2.same S3, L.sz.tup.2 d2 (by simp), S3 _ _ hy, fun G4 s4 => ⟨_, rfl, ?_⟩⟩
   have S4 := S3.trans s4
   by_cases c2 : juD [(sdZ kd N).1, (sdZ kd N).2] d2 = true
   ·rw [c2]
    have hok : okL kd N n [d0, d1, d2] := by
     unfold okL
     rw [if_neg hng, e3, just_share c1, just_share c2]
     exact ⟨rfl, rfl⟩
    have mb := mn_sh (kind := kd) h0 h1
    have db := sd_sh (kind := kd) h0 h1
    have fb := far_sm (kind := kd) (k := (n : Int)) h0 h1 (by (first | lia | omega)) (by (first | lia | omega))
    have nb : ShB ((n : Int), 1) 3900 := ⟨Int.one_pos, Sm.of (Nat.lt_of_le_of_lt (show ((n : Int)).natAbs <= 60 by (first | lia | omega)) (by decide +kernel)), sm1⟩
    refine iteF ⟨_, rfl, by show 2 <= sizeLine; decide, fun t ht => ?_⟩
    have st := same_upd (o := .tup [.int (n : Int), .int 1]) ht
    refine ⟨_, rfl, z, _, 1, .ref x, rfl, rfl, SqT.of (st _ _ (S4 _ _ hz)), atI_nat (j := 1) rfl, t, x, _, _, rfl, upd_same, st _ _ (S4 _ _ hx), nb, mb.mono (by decide), fun bb' H2 s2 hb => ?_⟩
    rw [beyond_eq] at hb
    have S5 := (S4.trans st).trans s2
    refine ⟨by show 2 <= sizeLine; decide, fun o ho => ?_⟩
    have so := same_upd (o := .tup [.int 0, .int 1]) ho
    have bb : ShB (lowZ (farZ kd N n) (mnZ kd N).2) 3900 := ShB.low mb.pos (fb.mono (by decide)) (mb.s2.mono (by decide))
    refine ⟨_, rfl, o, bb', (0, 1), _, rfl, upd_same, so _ _ hb, ⟨by decide, Sm.of (by decide +kernel), Sm.of (by decide +kernel)⟩, bb.mono (by decide), fun H3 s3 => ?_⟩
    rw [beyond_lt mb.pos]
    have hb3 := (so.trans s3) _ _ hb
    have S6 := (S5.trans so).trans s3
    by_cases hf : 0 < farZ kd N n
    ·rw [decide_eq_true hf]
     refine ⟨_, rfl, iteT ⟨_, rfl, _, rfl, z, _, 2, .ref y, rfl, rfl, SqT.of (S6 _ _ hz), atI_nat (j := 2) rfl, ?_⟩⟩
     refine ⟨_, rfl, _, rfl, bb', bb', _, _, rfl, hb3, hb3, bb, bb, fun q H5 s5 hq => ?_⟩
     have tb : ShB (tmZ (lowZ (farZ kd N n) (mnZ kd N).2) (lowZ (farZ kd N n) (mnZ kd N).2)) 3900 := by
      rw [low_tm mb.pos mb.pos]
      exact ShB.low (Int.mul_pos mb.pos mb.pos) ((fb.mul fb).mono (by decide)) ((mb.s2.mul mb.s2).mono (by decide))
     have tp : 0 < (tmZ (lowZ (farZ kd N n) (mnZ kd N).2) (lowZ (farZ kd N n) (mnZ kd N).2)).1 := by
      rw [low_tm mb.pos mb.pos]
      exact low_fst_pos (Int.mul_pos mb.pos mb.pos) (Int.mul_pos hf hf)
     refine ⟨y, q, _, _, rfl, s5 _ _ (S6 _ _ hy), hq, db.mono (by decide), tb, tp, fun u H6 s6 hu' => ?_⟩
     refine ⟨bz, u, b, _, rfl, s6 _ _ (s5 _ _ (S6 _ _ L.bnd)), hu', L.bsm, ?_, fun H7 s7 => ⟨_, rfl, k _ H7 (((S6.trans s5).trans s6).trans s7) fun _ => hok⟩⟩
     unfold ptZ
     exact ShB.low (Int.mul_pos db.pos tp) ((db.s1.mul tb.s2).mono (by decide)) ((db.s2.mul tb.s1).mono (by decide))
    ·rw [decide_eq_false hf]
     exact ⟨_, rfl, iteF (k false H3 S6 (hbad rfl))⟩
   ·rw [show juD [(sdZ kd N).1, (sdZ kd N).2] d2 = false by simpa using c2]
    exact iteT (k false G4 S4 (hbad rfl))
  ·rw [show juD [(mnZ kd N).1, (mnZ kd N).2] d1 = false by simpa using c1]
   exact iteT (k false G3 S3 (hbad rfl))
end
end K65
namespace L2
open PySem PySem.Spec PyProof.Rows
theorem isIv_of {S : Addr -> Prop} {H : Hp} {v : V} {d : PyData} (h : IsY S H v d) (c : isIv v = true) : ∃ n : Int, v = .int n /\ d = .int n := by
 cases h with
 | int i => exact ⟨i, rfl, rfl⟩
 | _ => cases c
end L2
namespace K65
open PySem PySem.Spec PyProof.Rows L2
noncomputable abbrev s_shows_by_groups : Stmt := top 60
noncomputable abbrev s_shows_bound : Stmt := top 63
section
variable {P : Program} {w : World} {K : PySem.W.Frag} {mg : Str -> Option Value} {base : Heap}
theorem sc_shows_by_groups : FnScope ["paper", "number", "bound", "thing", "most", "power", "time"] ["paper", "number", "bound", "thing"] (defScope s_shows_by_groups) := ⟨rfl, rfl, rfl, by decide +kernel, rfl, by decide +kernel, by decide +kernel⟩
theorem ok_shows_by_groups {f : Addr} {fd : FuncData} (F : Fun K "shows_by_groups" "shows_by_groups" s_shows_by_groups f fd) (T : Top mg) (Cis_whole : Cal P w K mg base 1 "is_whole" ["thing"] (spWhA K)) (Cproduct : Cal P w K mg base 1 "product" ["first", "last"] spPr) : FnOk P w K mg base CX0 2 f fd ["paper", "number", "bound", "thing"] (spLook ["rounds", "highs"]) := by
 refine F.ok sc_shows_by_groups (fun vs H Q E h => ?_) (fun cdv A outer s H vs Q E hr h => ?_)
 ·obtain ⟨kd, N, n, z, bz, a, b, S, us, ds, rfl, _⟩ := h
  rfl
 ·obtain ⟨kd, N, n, z, bz, a, b, S, us, ds, rfl, hkd, L, k⟩ := h
  refine ⟨_, (pss_cons (ps_if (PW.pt (pw_or (pt_not (pt_val (pe_cal Cis_whole (hr.mono (by decide)) rfl (pa_cons (pe_ix ix_tup (pv 3) pe_int (fun _ _ => rfl)) pa_nil)))) (pw_or1 (pt_cmpR op_lt (pe_ix ix_tup (pv 3) pe_int (fun _ _ => rfl)) (pe_ix ix_tup (pv 0) pe_int (fun _ _ => rfl)) (nomark _)))))
    (pss_one (ps_ret pe_bl))
    pss_nil)
   (pss_cons (ps_set (i := 4) sc_shows_by_groups.nd rfl (Or.inl rfl) (pe_op op_fdivC (pe_op op_mulC (pe_ix ix_tup (pv 2) pe_int (fun _ _ => rfl)) (pe_cal Cproduct (hr.mono (by decide)) rfl (pa_cons pe_int (pa_cons (pv 1) pa_nil)))) (pe_ix ix_tup (pv 2) pe_int (fun _ _ => rfl))))
   (pss_cons (ps_set (i := 5) sc_shows_by_groups.nd rfl (Or.inl rfl) pe_int)
   (pss_cons (ps_for PassesOwn.never rfl (pi_range1 rfl T.n_range (pa_cons (pv 1) pa_nil)) (pg_name (i := 6) sc_shows_by_groups.nd rfl (Or.inl rfl))
    (pss_cons (ps_set (i := 5) sc_shows_by_groups.nd rfl (Or.inl rfl) (pe_op op_mulC (pv 5) (pe_ix ix_tup (pv 3) pe_int (fun _ _ => rfl))))
    (pss_one (ps_if (pt_cmpR op_gt (pv 5) (pv 4) (nomark _))
     (pss_one (ps_ret pe_bl))
     pss_nil))))
   (pss_one (ps_ret pe_bl)))))), ?_⟩
  have hk2 : kd = "rounds" ∨ kd = "highs" := by simpa using hkd
  have e3 : paL kd N n = [.str "groups", .int (figZ N)] := by rcases hk2 with rfl | rfl <;> rfl
  have hz := pap_groups L.pap hk2
  obtain ⟨v0, v1, d0, d1, rfl, rfl, y0, y1⟩ := all2 L.all (by rw [L.len, e3]; rfl)
  have ha := L.top
  obtain ⟨h0, h1⟩ := le60 L.hN
  have hn := L.hk
  have hb := L.bgr hk2
  have hbad : ∀ {r : Bool}, r = false -> (r = true -> okL kd N n [d0, d1]) := fun h z => by rw [h] at z; cases z
  refine ⟨_, rfl, a, _, 1, v1, rfl, rfl, SqT.of ha, atI_nat (j := 1) rfl, v1, rfl, y1.kn, _, rfl, ?_⟩
  by_cases c1 : isIv v1 = true
  ·obtain ⟨m, rfl, rfl⟩ := isIv_of y1 c1
   have hm := L.int m rfl
   rw [c1]
   refine iteF ⟨_, rfl, a, _, 1, _, rfl, rfl, SqT.of ha, atI_nat (j := 1) rfl, _, rfl, z, _, 1, _, rfl, rfl, SqT.of hz, atI_nat (j := 1) rfl, _, _, rfl, rfl, _, rfl, ?_⟩
   by_cases c2 : m < figZ N
   ·rw [decide_eq_true c2]
    exact iteT (k false H (Same.refl H) (hbad rfl))
   ·rw [decide_eq_false c2]
    have hok : okL kd N n [d0, .int m] := by
     unfold okL
     rw [if_pos hk2]
     exact ⟨m, rfl, by (first | lia | omega)⟩
    have fl := fig_le h0 h1
    have f0 := fcZ_pos n
    refine iteF ⟨_, rfl, bz, _, 0, _, rfl, rfl, SqT.of L.bnd, atI_nat (j := 0) rfl, _, rfl, n, rfl, by (first | lia | omega), _, _, rfl, rfl, ⟨hb.s1.mono (by decide), (fcZ_smS (by (first | lia | omega))).mono (by decide)⟩, _, rfl, bz, _, 1, _, rfl, rfl, SqT.of L.bnd, atI_nat (j := 1) rfl, _, _, rfl, rfl, ⟨hb.pos, hb.s2.mono (by decide)⟩, ?_⟩
    have hnum : Sm (b.1 * fcZ n) 1340 := hb.s1.mul (fcZ_smS (by (first | lia | omega)))
    have hsm : ∀ p : Int, 0 <= p -> p <= b.1 * fcZ n / b.2 -> Sm p 1340 := fun p p0 p1 => by
     refine hnum.le ?_
     have hb2 := hb.pos
     have nn : 0 <= b.1 * fcZ n := by
      refine Int.not_lt.mp fun q => ?_
      have := Int.ediv_neg_of_neg_of_pos q hb2
      (first | lia | omega)
     have := Int.ediv_le_self b.2 nn
     (first | lia | omega)
    refine ⟨_, rfl, _, rfl, by (first | lia | omega), by (first | lia | omega), ?_⟩
    rw [Int.toNat_natCast]
    refine for_range (n := n) (fun i σ G => G = H /\ ∃ (p : Int) (c : Option V), σ = [some (.ref z), some (.int n), some (.ref bz), some (.ref a), some (.int (b.1 * fcZ n / b.2)), some (.int p), c] /\ 0 <= p /\ Sm p 1340) ⟨rfl, 1, none, rfl, by decide, (Sm.of (by show 1 < 2 ^ 1340; decide +kernel))⟩ ?_ ?_
    ·rintro i σ G hi ⟨rfl, p, c, rfl, p0, ps⟩
     refine ⟨_, rfl, _, rfl, a, _, 1, _, rfl, rfl, SqT.of ha, atI_nat (j := 1) rfl, _, _, rfl, rfl, ⟨ps.mono (by decide), hm.mono (by decide)⟩, ?_⟩
     refine ⟨_, rfl, _, rfl, _, _, rfl, rfl, _, rfl, ?_⟩
     have q0 : 0 <= p * m := Int.mul_nonneg p0 (by (first | lia | omega))
     by_cases c3 : p * m > b.1 * fcZ n / b.2
     ·rw [decide_eq_true c3]
      exact iteT (k false G (Same.refl G) (hbad rfl))
     ·rw [decide_eq_false c3]
      exact iteF ⟨rfl, _, _, rfl, q0, hsm _ q0 (by (first | lia | omega))⟩
    ·rintro σ G ⟨rfl, p, c, rfl, p0, ps⟩
     exact k true G (Same.refl G) fun _ => hok
  ·rw [show isIv v1 = false by simpa using c1]
   exact iteT (k false H (Same.refl H) (hbad rfl))
theorem sc_shows_bound : FnScope ["kind", "many", "number", "bound", "thing", "paper", "look"] ["kind", "many", "number", "bound", "thing"] (defScope s_shows_bound) := ⟨rfl, rfl, rfl, by decide +kernel, rfl, by decide +kernel, by decide +kernel⟩
theorem ok_shows_bound {f C AL f1 f2 f3 : Addr} {fd : FuncData} (F : Fun K "shows_bound" "shows_bound" s_shows_bound f fd) (T : Top mg) (hAL : mg "ALL" = some (.ref AL)) (hA1 : ∀ H, SqT K H AL [.str "all"]) (hC : mg "LOOKS" = some (.ref C)) (GD : GDict K w.params C [("sets", f1), ("groups", f2), ("spread", f3)])
  (c1 : CalF P w K mg base 6 f1 ["paper", "number", "bound", "thing"] (spLook ["stays", "longest"])) (c2 : CalF P w K mg base 6 f2 ["paper", "number", "bound", "thing"] (spLook ["rounds", "highs"])) (c3 : CalF P w K mg base 6 f3 ["paper", "number", "bound", "thing"] (spLook ["rises", "crossed"]))
  (Cis_less : Cal P w K mg base 1 "is_less" ["one", "other"] spLt8) (Cown_paper : Cal P w K mg base 6 "own_paper" ["kind", "many", "number"] spOwn) : FnOk P w K mg base CX0 7 f fd ["kind", "many", "number", "bound", "thing"] spShows := by
 refine F.ok sc_shows_bound (fun vs H Q E h => ?_) (fun cdv A outer s H vs Q E hr h => ?_)
 ·obtain ⟨kd, N, n, bz, b, S, x, d, rfl, _⟩ := h
  rfl
 ·obtain ⟨kd, N, n, bz, b, S, x, d, rfl, hkd, hN, hn, hbz, hbs, hbg, yd, hsz, hint, k⟩ := h
  have hu : _ := hr.units
  refine ⟨_, (pss_cons (ps_if (PW.pt (pw_or (pt_not (pt_val (pe_callB call_isi (by rfl) T.n_isinstance boot_isinstance (pa_cons (pv 4) (pa_cons (pe_bltn (v := .ty "tuple") rfl T.n_tuple boot_tuple rfl) pa_nil))))) (pw_or1 (pt_not (pt_truth (pv 4) (fun _ => rfl))))))
    (pss_one (ps_ret pe_bl))
    pss_nil)
   (pss_cons (ps_if (pt_cmpR (op_eqTx hu) (pv 4) (pe_glob (v := .ref AL) rfl hAL rfl) (nomark _))
    (pss_one (ps_ret (pe_not (pe_cal Cis_less (hr.mono (by decide)) rfl (pa_cons (pv 3) (pa_cons (pe_tup (pa_cons pe_int (pa_cons pe_int pa_nil))) pa_nil))))))
    pss_nil)
   (pss_cons (ps_if (pt_cmpR op_eq (pv 2) pe_int (nomark _))
    (pss_one (ps_ret pe_bl))
    pss_nil)
   (pss_cons (ps_set (i := 5) sc_shows_bound.nd rfl (Or.inl rfl) (pe_cal Cown_paper (hr.mono (by decide)) rfl (pa_cons (pv 0) (pa_cons (pv 1) (pa_cons (pv 2) pa_nil)))))
   (pss_cons (ps_if (PW.pt (pw_or (pt_cmpR (op_neSt hu) (pe_ix ix_tup (pv 4) pe_int (fun _ _ => rfl)) (pe_ix ix_tup (pv 5) pe_int (fun _ _ => rfl)) (nomark _)) (pw_or1 (pt_cmpR op_ne (pe_callB call_len_seq (by rfl) T.n_len PySem.boot_len (pa_cons (pv 4) pa_nil)) (pe_callB call_len_seq (by rfl) T.n_len PySem.boot_len (pa_cons (pv 5) pa_nil)) (nomark _)))))
    (pss_one (ps_ret pe_bl))
    pss_nil)
   (pss_cons (ps_set (i := 6) sc_shows_bound.nd rfl (Or.inl rfl) (pe_ix ix_gd (pe_glob (v := .ref C) rfl hC rfl) (pe_ix ix_tup (pv 5) pe_int (fun _ _ => rfl)) (fun _ _ => rfl)))
   (pss_one (ps_ret (pe_callV (k := 6) (pv 6) hr (pa_cons (pv 5) (pa_cons (pv 2) (pa_cons (pv 3) (pa_cons (pv 4) pa_nil))))))))))))), ?_⟩
  have hbad : ∀ {r : Bool}, r = false -> (r = true -> isTxD "all" d = true ∨ okP kd N n d) := fun h z => by rw [h] at z; cases z
  obtain ⟨_, _, kT⟩ := kit7 (K := K) (tyD_in d)
  refine ⟨_, rfl, _, _, _, _, rfl, yd.ty, kT, _, rfl, ?_⟩
  rcases yd.isT with ⟨a, us, ds, rfl, rfl, ha, al⟩ | ⟨q, _⟩
  ·refine iteF ⟨_, rfl, !us.isEmpty, .inr (.inl ⟨_, SqT.of ha, rfl⟩), ?_⟩
   have hul := al.len
   cases us with
   | nil => exact iteT (k false H (Same.refl H) (hbad rfl))
   | cons v0 us =>
    refine iteF ⟨_, rfl, S, a, AL, _, ds, "all", rfl, rfl, ha, al, hA1 _, _, rfl, ?_⟩
    by_cases cA : isTxD "all" (.tuple ds) = true
    ·rw [cA]
     refine iteT ⟨_, rfl, by show 2 <= sizeLine; decide, fun o ho => ?_⟩
     refine ⟨bz, o, b, (1, 1), rfl, same_upd ho _ _ hbz, upd_same, hbs, one_sh (by decide), fun G s1 => ⟨_, rfl, k _ G ((same_upd ho).trans s1) fun _ => .inl cA⟩⟩
    ·rw [show isTxD "all" (.tuple ds) = false by simpa using cA]
     refine iteF ⟨_, rfl, rfl, _, rfl, ?_⟩
     by_cases cn : n = 0
     ·subst cn
      rw [decide_eq_true (show V.int ((0 : Nat) : Int) = V.int 0 from rfl)]
      exact iteT (k false H (Same.refl H) (hbad rfl))
     ·rw [decide_eq_false (fun e => cn (by have := V.int.inj e; (first | lia | omega)))]
      refine iteF ⟨_, rfl, _, rfl, _, rfl, kd, N, n, rfl, hkd, hN, hn, fun z G s1 hP => ?_⟩
      obtain ⟨ps, hz, pa⟩ := id hP
      have hw0 : ∃ pr, ps = .str (wordZ kd) :: pr := by
       have e : ∃ t, paL kd N n = .str (wordZ kd) :: t := by
        have : kd = "rounds" ∨ kd = "stays" ∨ kd = "rises" ∨ kd = "highs" ∨ kd = "crossed" ∨ kd = "longest" := by simpa [kinds6S] using hkd
        rcases this with rfl | rfl | rfl | rfl | rfl | rfl <;> exact ⟨_, rfl⟩
       obtain ⟨t, e⟩ := e
       rw [e] at pa
       cases pa with
       | cons h _ => cases h; exact ⟨_, rfl⟩
      obtain ⟨pr, rfl⟩ := hw0
      have hpl := pa.len
      obtain ⟨d0, dr, hds, y0⟩ : ∃ d0 dr, ds = d0 :: dr /\ IsY S H v0 d0 := by
       cases al with
       | cons h t => exact ⟨_, _, rfl, h⟩
      refine ⟨_, rfl, a, _, 0, v0, rfl, rfl, SqT.of (s1 _ _ ha), atI_nat (j := 0) rfl, _, rfl, z, _, 0, .str (wordZ kd), rfl, rfl, SqT.of hz, atI_nat (j := 0) rfl, S, d0, wordZ kd, rfl, y0.same s1, _, rfl, ?_⟩
      by_cases c0 : isStD (wordZ kd) d0 = true
      ·rw [c0]
       refine iteF ⟨_, rfl, a, _, rfl, .inr (SqT.of (s1 _ _ ha)), _, rfl, z, _, rfl, .inr (SqT.of hz), rfl, _, rfl, ?_⟩
       by_cases cl : (v0 :: us).length = (V.str (wordZ kd) :: pr).length
       ·rw [cl, decide_eq_true rfl]
        have hd0 : d0 = .str (wordZ kd) := by
         cases d0 with
         | str y => rw [eq_of_beq (show (y == wordZ kd) = true from c0)]
         | _ => cases c0
        have hlen : ds.length = (paL kd N n).length := by rw [<- hul, cl, hpl]
        have LK : LookAt kd N n G z bz a b S (v0 :: us) ds := ⟨hP, hN, hn, s1 _ _ hbz, hbs, hbg, s1 _ _ ha, al.same s1, hsz, hlen, fun m hm => hint ds m rfl hm⟩
        have fin : ∀ (r : Bool) H', Same G H' -> (r = true -> okL kd N n ds) -> Q (.bl r) H' := fun r H' s' hr' => k r H' (s1.trans s') fun e => .inr ⟨ds, rfl, hlen, by rw [hds, hd0]; rfl, hr' e⟩
        have : kd = "rounds" ∨ kd = "stays" ∨ kd = "rises" ∨ kd = "highs" ∨ kd = "crossed" ∨ kd = "longest" := by simpa [kinds6S] using hkd
        rcases this with rfl | rfl | rfl | rfl | rfl | rfl
        ·exact iteF ⟨_, rfl, z, _, 0, _, rfl, rfl, SqT.of hz, atI_nat (j := 0) rfl, C, _, _, f2, rfl, rfl, GD, rfl, _, rfl, f2, _, _, rfl, c2, _, rfl, _, rfl, _, rfl, _, rfl, _, N, n, z, bz, a, b, S, _, ds, rfl, by simp, LK, fin⟩
        ·exact iteF ⟨_, rfl, z, _, 0, _, rfl, rfl, SqT.of hz, atI_nat (j := 0) rfl, C, _, _, f1, rfl, rfl, GD, rfl, _, rfl, f1, _, _, rfl, c1, _, rfl, _, rfl, _, rfl, _, rfl, _, N, n, z, bz, a, b, S, _, ds, rfl, by simp, LK, fin⟩
        ·exact iteF ⟨_, rfl, z, _, 0, _, rfl, rfl, SqT.of hz, atI_nat (j := 0) rfl, C, _, _, f3, rfl, rfl, GD, rfl, _, rfl, f3, _, _, rfl, c3, _, rfl, _, rfl, _, rfl, _, rfl, _, N, n, z, bz, a, b, S, _, ds, rfl, by simp, LK, fin⟩
        ·exact iteF ⟨_, rfl, z, _, 0, _, rfl, rfl, SqT.of hz, atI_nat (j := 0) rfl, C, _, _, f2, rfl, rfl, GD, rfl, _, rfl, f2, _, _, rfl, c2, _, rfl, _, rfl, _, rfl, _, rfl, _, N, n, z, bz, a, b, S, _, ds, rfl, by simp, LK, fin⟩
        ·exact iteF ⟨_, rfl, z, _, 0, _, rfl, rfl, SqT.of hz, atI_nat (j := 0) rfl, C, _, _, f3, rfl, rfl, GD, rfl, _, rfl, f3, _, _, rfl, c3, _, rfl, _, rfl, _, rfl, _, rfl, _, N, n, z, bz, a, b, S, _, ds, rfl, by simp, LK, fin⟩
        ·exact iteF ⟨_, rfl, z, _, 0, _, rfl, rfl, SqT.of hz, atI_nat (j := 0) rfl, C, _, _, f1, rfl, rfl, GD, rfl, _, rfl, f1, _, _, rfl, c1, _, rfl, _, rfl, _, rfl, _, rfl, _, N, n, z, bz, a, b, S, _, ds, rfl, by simp, LK, fin⟩
       ·rw [decide_eq_false (fun e => cl (by have := V.int.inj e; (first | lia | omega)))]
        exact iteT (k false G s1 (hbad rfl))
      ·rw [show isStD (wordZ kd) d0 = false by simpa using c0]
       exact iteT (k false G s1 (hbad rfl))
  ·rw [beq_eq_false_iff_ne.mpr q]
   exact iteT (k false H (Same.refl H) (hbad rfl))
end
end K65
namespace L2
open PySem PySem.Spec PyProof.Rows
theorem lc_zipGU {K : PySem.W.Frag} {a b : Addr} {xs ys : List V} {te : TE} {ix : List Nat} {σ : L2.St} {H1 : Hp} {Q : VK} (Fx : ∀ {H}, Same H1 H -> SqT K H a xs) (Fy : ∀ {H}, Same H1 H -> SqT K H b ys) (small : (xs.zip ys).length <= 1000) (R : Nat -> V -> Hp -> Prop) (hR : ∀ i v H H', SameT H H' -> R i v H -> R i v H')
  (he : ∀ (i : Nat) (x y : V), xs[i]? = some x -> ys[i]? = some y -> ∀ H, Same H1 H -> ∀ Q' : VK, (∀ w H', Same H H' -> R i w H' -> Q' w H') -> te (some x :: some y :: ix.map fun i => σ.getD i none) H Q')
  (fin : ∀ acc vs H', H1 acc = none -> Same H1 H' -> H' acc = some (.lst vs) -> vs.length = (xs.zip ys).length -> (∀ i v, vs[i]? = some v -> R i v H') -> Q (.ref acc) H') :
  LcW (Itz K a b) H1 (gTup K 2 (gCons (gName 0) (gCons (gName 1) gNil))) tNoTest te 2 ix σ Q := by
 intro acc ha
 refine ⟨fun i m H => m = (xs.zip ys).length - i /\ i <= (xs.zip ys).length /\ Same H1 H /\ ∃ vs, H acc = some (.lst vs) /\ vs.length = i /\ ∀ j v, vs[j]? = some v -> R j v H, ⟨(xs.zip ys).length, by simp, Nat.zero_le _, same_upd ha, [], upd_same, rfl, fun _ _ h => by simp at h⟩, ?_⟩
 rintro i m H ⟨rfl, hi, sm, vs, hacc, hl, hv0⟩
 by_cases hlt : i < (xs.zip ys).length
 ·have hl2 : i < xs.length /\ i < ys.length := by rw [List.length_zip] at hlt; (first | lia | omega)
  refine .inr ⟨⟨xs, ys, xs[i], ys[i], Fx sm, Fy sm, List.getElem?_eq_getElem hl2.1, List.getElem?_eq_getElem hl2.2⟩, fun v H' y => ?_⟩
  obtain ⟨t, x, y, hn, rfl, rfl, hv⟩ := y
  obtain ⟨e1, e2⟩ := hv xs ys (Fx sm) (Fy sm)
  refine ⟨t, _, rfl, SqT.of upd_same, rfl, x, _, rfl, y, _, rfl, rfl, ⟨rfl, fun j v e => ?_⟩, ?_⟩
  ·match j, e with
   | 0, e => cases e
   | 1, e => cases e
   | j + 2, e => exact e
  ·have st := same_upd (o := .tup [x, y]) hn
   have sm2 := sm.trans st
   have hacc2 := st _ _ hacc
   unfold tNoTest
   dsimp only
   rw [if_pos rfl]
   refine he i x y e1 e2 _ sm2 _ fun w H4 s4 r4 => ?_
   have h4 := s4 _ _ hacc2
   refine ⟨vs, h4, small1 (by (first | lia | omega)), (xs.zip ys).length - (i + 1), by (first | lia | omega), rfl, hlt, same_updR (sm2.trans s4) ha, vs ++ [w], upd_same, by simp; (first | lia | omega), fun j v hj => ?_⟩
   have st2 : SameT H4 (upd H4 acc (.lst (vs ++ [w]))) := sameT_lst h4
   by_cases hj' : j < vs.length
   ·rw [List.getElem?_append_left hj'] at hj
    exact hR _ _ _ _ ((st.trans s4).t.trans st2) (hv0 j v hj)
   ·rw [List.getElem?_append_right (by (first | lia | omega))] at hj
    have : j - vs.length = 0 := by
     rcases Nat.eq_zero_or_pos (j - vs.length) with h | h
     ·exact h
     ·rw [List.getElem?_eq_none (by show 1 <= _; (first | lia | omega))] at hj; cases hj
    rw [this] at hj
    cases hj
    rw [show j = i by (first | lia | omega)]
    exact hR _ _ _ _ st2 r4
 ·have e : i = (xs.zip ys).length := by (first | lia | omega)
  subst e
  refine .inl ⟨⟨xs, ys, Fx sm, Fy sm, ?_⟩, fin acc vs H ha sm hacc hl hv0⟩
  rw [List.length_zip]
  rcases Nat.le_total xs.length ys.length with h | h
  ·exact .inl (List.getElem?_eq_none (by (first | lia | omega)))
  ·exact .inr (List.getElem?_eq_none (by (first | lia | omega)))
end L2
namespace L2
open PySem PySem.Spec PyProof.Rows
noncomputable def PapK (K : PySem.W.Frag) (kind : Str) (N k : Nat) (H : Hp) (z : Addr) (us : List V) (ds : List PyData) : Prop := SqT K H z us /\ IsAllY NoS H us ds /\ (ds = paL kind N k ∨ ds = [.str "all"])
noncomputable def spBPap (K : PySem.W.Frag) : Sp := fun vs H Q _ => ∃ (kind : Str) (N k : Nat), vs = [.str kind, .int N, .int k] /\ kind ∈ kinds6S /\ N <= 60 /\ k <= 60 /\ ∀ z us ds H', Same H H' -> PapK K kind N k H' z us ds -> Q (.ref z) H'
theorem pa_sz {kind : Str} {N k : Nat} : Sz 1000 (.tuple (paL kind N k)) := by
 have g1 : (Str.ofString "groups").cps.size <= 10 := by decide
 have g2 : (Str.ofString "sets").cps.size <= 10 := by decide
 have g3 : (Str.ofString "spread").cps.size <= 10 := by decide
 unfold Sz paL shD
 split
 ·simp only [PyData.bulk, PyData.bulkAll]; (first | lia | omega)
 ·split <;> (simp only [PyData.bulk, PyData.bulkAll]; (first | lia | omega))
theorem pa_int {kind : Str} {N k : Nat} (hN : N <= 60) (hk : k <= 60) {ds : List PyData} {n : Int} (e : PyData.tuple (paL kind N k) = .tuple ds) (h : ds[1]? = some (.int n)) : Sm n 200 := by
 injection e with e
 subst e
 obtain ⟨n0, n1⟩ := le60 hN
 unfold paL at h
 split at h
 ·have : figZ N = n := by simpa using h
  rw [<- this]
  have := fig_le n0 n1
  exact Sm.mono (Sm.of (show (figZ N).natAbs < 2 ^ 7 by (first | lia | omega))) (by decide)
 ·split at h
  ·have : sZ N k = n := by simpa using h
   rw [<- this]
   exact (sZ_sm60 hN hk).mono (by decide)
  ·simp [shD] at h
noncomputable def SamY (K : PySem.W.Frag) (H : Hp) : Nat -> V -> PyData -> Prop
 | 0, y, e => (∃ t, y = .str t /\ e = .str t) ∨ ∃ m : Int, y = .int m /\ e = .int m
 | n + 1, y, e => ((∃ t, y = .str t /\ e = .str t) ∨ ∃ m : Int, y = .int m /\ e = .int m) ∨ ∃ b us es, y = .ref b /\ e = .tuple es /\ SqT K H b us /\ us.length <= 100 /\ us.length = es.length /\ ∀ (i : Nat) u d, us[i]? = some u -> es[i]? = some d -> SamY K H n u d
theorem SamY.same {K : PySem.W.Frag} {H H' : Hp} (s : Same H H') : ∀ {n : Nat} {y : V} {e : PyData}, SamY K H n y e -> SamY K H' n y e
 | 0, _, _, h => h
 | n + 1, _, _, .inl h => .inl h
 | n + 1, _, _, .inr ⟨b, us, es, e1, e2, h1, h2, h3, h4⟩ => .inr ⟨b, us, es, e1, e2, s.seqT h1, h2, h3, fun i u d hu hd => SamY.same s (h4 i u d hu hd)⟩
noncomputable def spSameY (K : PySem.W.Frag) (n : Nat) : Sp := fun vs H Q _ => ∃ (S : Addr -> Prop) (x y : V) (d e : PyData), vs = [x, y] /\ IsY S H x d /\ SamY K H n y e /\ ∀ (r : Bool) H', Same H H' -> (d = e -> r = true) -> Q (.bl r) H'
theorem pa_sam {K : PySem.W.Frag} {kind : Str} {N k : Nat} {H : Hp} {z : Addr} {us : List V} {ds : List PyData} (h : PapK K kind N k H z us ds) : SamY K H 2 (.ref z) (.tuple ds) := by
 obtain ⟨h1, al, hd⟩ := h
 have key : ∀ d ∈ ds, (∃ t, d = .str t) ∨ (∃ n, d = .int n) ∨ ∃ p, d = shD p := by
  rcases hd with rfl | rfl
  ·unfold paL
   split
   ·intro d hd
    rcases List.mem_cons.mp hd with rfl | hd
    ·exact .inl ⟨_, rfl⟩
    ·rw [List.mem_singleton.mp hd]; exact .inr (.inl ⟨_, rfl⟩)
   ·split
    ·intro d hd
     simp only [List.mem_cons, List.not_mem_nil, or_false] at hd
     rcases hd with rfl | rfl | rfl
     ·exact .inl ⟨_, rfl⟩
     ·exact .inr (.inl ⟨_, rfl⟩)
     ·exact .inr (.inr ⟨_, rfl⟩)
    ·intro d hd
     simp only [List.mem_cons, List.not_mem_nil, or_false] at hd
     rcases hd with rfl | rfl | rfl
     ·exact .inl ⟨_, rfl⟩
     ·exact .inr (.inr ⟨_, rfl⟩)
     ·exact .inr (.inr ⟨_, rfl⟩)
  ·intro d hd
   rw [List.mem_singleton.mp hd]; exact .inl ⟨_, rfl⟩
 have hl : us.length <= 100 := by
  rw [al.len]
  rcases hd with rfl | rfl
  ·unfold paL
   split
   ·show 2 <= 100; decide
   ·split <;> (show 3 <= 100; decide)
  ·decide
 refine .inr ⟨z, us, ds, rfl, rfl, h1, hl, al.len, fun i u d hu hd' => ?_⟩
 obtain ⟨e, he, ye⟩ := al.at hu
 rw [hd'] at he
 cases he
 rcases key d (List.mem_of_getElem? hd') with ⟨t, rfl⟩ | ⟨n, rfl⟩ | ⟨p, rfl⟩
 ·cases ye; exact .inl (.inl ⟨t, rfl, rfl⟩)
 ·cases ye; exact .inl (.inr ⟨n, rfl, rfl⟩)
 ·obtain ⟨q, rfl, hq⟩ := isY_shr ye
  refine .inr ⟨q, _, _, rfl, rfl, SqT.of hq, by show 2 <= 100; decide, rfl, fun i u d hu hd => ?_⟩
  match i, hu, hd with
  | 0, hu, hd => cases hu; cases hd; exact .inr ⟨_, rfl, rfl⟩
  | 1, hu, hd => cases hu; cases hd; exact .inr ⟨_, rfl, rfl⟩
  | _ + 2, hu, _ => simp at hu
end L2
namespace K65
open PySem PySem.Spec PyProof.Rows L2
noncomputable abbrev s_bound_paper : Stmt := top 64
noncomputable abbrev s__law_same : Stmt := top 69
section
variable {P : Program} {w : World} {K : PySem.W.Frag} {mg : Str -> Option Value} {base : Heap}
theorem sc_bound_paper : FnScope ["kind", "many", "number", "paper"] ["kind", "many", "number"] (defScope s_bound_paper) := ⟨rfl, rfl, rfl, by decide +kernel, rfl, by decide +kernel, by decide +kernel⟩
theorem ok_bound_paper {f AL : Addr} {fd : FuncData} (F : Fun K "bound_paper" "bound_paper" s_bound_paper f fd) (hAL : mg "ALL" = some (.ref AL)) (hA1 : ∀ H, SqT K H AL [.str "all"]) (Cown_paper : Cal P w K mg base 6 "own_paper" ["kind", "many", "number"] spOwn) (Cmost_share : Cal P w K mg base 7 "most_share" ["kind", "many", "number"] spMost) (Cshows_bound : Cal P w K mg base 7 "shows_bound" ["kind", "many", "number", "bound", "thing"] spShows) : FnOk P w K mg base CX0 8 f fd ["kind", "many", "number"] (spBPap K) := by
 refine F.ok sc_bound_paper (fun vs H Q E h => ?_) (fun cdv A outer s H vs Q E hr h => ?_)
 ·obtain ⟨kd, N, n, rfl, _⟩ := h
  rfl
 ·obtain ⟨kd, N, n, rfl, hkd, hN, hn, k⟩ := h
  refine ⟨_, (pss_cons (ps_set (i := 3) sc_bound_paper.nd rfl (Or.inl rfl) (pe_cal Cown_paper (hr.mono (by decide)) rfl (pa_cons (pv 0) (pa_cons (pv 1) (pa_cons (pv 2) pa_nil)))))
   (pss_one (ps_ret (pe_ifExp (pt_val (pe_cal Cshows_bound (hr.mono (by decide)) rfl (pa_cons (pv 0) (pa_cons (pv 1) (pa_cons (pv 2) (pa_cons (pe_cal Cmost_share (hr.mono (by decide)) rfl (pa_cons (pv 0) (pa_cons (pv 1) (pa_cons (pv 2) pa_nil)))) (pa_cons (pv 3) pa_nil))))))) (pv 3) (pe_glob (v := .ref AL) rfl hAL rfl))))), ?_⟩
  obtain ⟨n0, n1⟩ := le60 hN
  refine ⟨_, rfl, _, rfl, _, rfl, kd, N, n, rfl, hkd, hN, hn, fun z G s1 hP => ?_⟩
  refine ⟨_, rfl, _, rfl, _, rfl, _, rfl, _, rfl, _, rfl, kd, N, n, rfl, hkd, n0, n1, hn, fun y G2 s2 hy => ?_⟩
  obtain ⟨us, hz, al⟩ := hP.same s2
  obtain ⟨m1, m2⟩ := most_sh (kind := kd) hN hn
  refine ⟨_, rfl, kd, N, n, y, _, NoS, .ref z, .tuple (paL kd N n), rfl, hkd, hN, hn, hy, m1, m2, .tup hz al, pa_sz, fun ds m e h => pa_int hN hn e h, fun r G3 s3 _ => ⟨_, rfl, ?_⟩⟩
  refine ite2 (fun _ => ?_) (fun _ => ?_)
  ·exact ⟨_, rfl, k z us _ G3 ((s1.trans s2).trans s3) ⟨SqT.of (s3 _ _ hz), al.same s3, .inl rfl⟩⟩
  ·exact k AL [.str "all"] _ G3 ((s1.trans s2).trans s3) ⟨hA1 _, .cons (.str _) .nil, .inr rfl⟩
theorem sc__law_same : FnScope ["_law_one", "_law_two"] ["_law_one", "_law_two"] (defScope s__law_same) := ⟨rfl, rfl, rfl, by decide +kernel, rfl, by decide +kernel, by decide +kernel⟩
set_option maxHeartbeats 4000000 in
theorem ok__law_same {f : Addr} {fd : FuncData} (F : Fun K "_law_same" "_law_same" s__law_same f fd) (T : Top mg) (TX : TopX mg) (hm : mg "_law_same" = some (.ref f)) (hb : Binds K fd ["_law_one", "_law_two"] []) :
  ∀ n, FnOk P w K mg base CX0 (n + 1) f fd ["_law_one", "_law_two"] (spSameY K n)
 | 0 => by
  refine F.ok sc__law_same (fun vs H Q E h => ?_) (fun cdv A outer s H vs Q E hr h => ?_)
  ·obtain ⟨S, x, y, d, e, rfl, _⟩ := h
   rfl
  ·obtain ⟨S, x, y, d, e, rfl, yd, sy, k⟩ := h
   refine ⟨_, (pss_cons (ps_if (PW.pt (pw_and (pt_val (pe_callB call_isiA (by rfl) T.n_isinstance boot_isinstance (pa_cons (pv 0) (pa_cons (pe_bltn (v := .ty "tuple") rfl T.n_tuple boot_tuple rfl) pa_nil)))) (pw_and1 (pt_val (pe_callB call_isiA (by rfl) T.n_isinstance boot_isinstance (pa_cons (pv 1) (pa_cons (pe_bltn (v := .ty "tuple") rfl T.n_tuple boot_tuple rfl) pa_nil)))))))
    pss_never
    pss_nil)
   (pss_cons (ps_if (PW.pt (pw_and (pt_val (pe_callB call_isiA (by rfl) T.n_isinstance boot_isinstance (pa_cons (pv 0) (pa_cons (pe_bltn (v := .ty "str") rfl TX.n_str boot_str rfl) pa_nil)))) (pw_and1 (pt_val (pe_callB call_isiA (by rfl) T.n_isinstance boot_isinstance (pa_cons (pv 1) (pa_cons (pe_bltn (v := .ty "str") rfl TX.n_str boot_str rfl) pa_nil)))))))
    (pss_one (ps_ret (pe_cmpR op_eq (pv 0) (pv 1) (nomark _))))
    pss_nil)
   (pss_cons (ps_if (PW.pt (pw_and (pt_val (pe_callB call_isiA (by rfl) T.n_isinstance boot_isinstance (pa_cons (pv 0) (pa_cons (pe_bltn (v := .ty "int") rfl T.n_int boot_int rfl) pa_nil)))) (pw_and1 (pt_val (pe_callB call_isiA (by rfl) T.n_isinstance boot_isinstance (pa_cons (pv 1) (pa_cons (pe_bltn (v := .ty "int") rfl T.n_int boot_int rfl) pa_nil)))))))
    (pss_one (ps_ret (pe_and (pe_cmpR op_eq (pe_callB call_isiA (by rfl) T.n_isinstance boot_isinstance (pa_cons (pv 0) (pa_cons (pe_bltn (v := .ty "bool") rfl T.n_bool boot_bool rfl) pa_nil))) (pe_callB call_isiA (by rfl) T.n_isinstance boot_isinstance (pa_cons (pv 1) (pa_cons (pe_bltn (v := .ty "bool") rfl T.n_bool boot_bool rfl) pa_nil))) (nomark _)) (pe_one (pe_cmpR op_eq (pv 0) (pv 1) (nomark _))))))
    pss_nil)
   (pss_one (ps_ret (pe_and (pe_cmpR op_isN (pv 0) pe_non (nomark _)) (pe_one (pe_cmpR op_isN (pv 1) pe_non (nomark _))))))))), ?_⟩
   rcases sy with ⟨t', rfl, rfl⟩ | ⟨m, rfl, rfl⟩
   ·cases yd with
    | non =>
     refine ⟨_, rfl, _, _, _, _, rfl, .inl .non, (kit_tt (r := false) (by decide +kernel)), _, rfl, ?_⟩
     refine iteF (iteF ?_)
     refine ⟨_, rfl, _, _, _, _, rfl, .inl .non, (kit_tt (r := false) (by decide +kernel)), _, rfl, ?_⟩
     refine iteF (iteF ?_)
     refine ⟨_, rfl, _, _, _, _, rfl, .inl .non, (kit_tt (r := false) (by decide +kernel)), _, rfl, ?_⟩
     refine iteF (iteF ?_)
     refine ⟨_, rfl, rfl, _, rfl, ?_⟩
     rw [decide_eq_true rfl]
     refine iteT ⟨_, rfl, rfl, ?_⟩
     rw [decide_eq_false (fun z => by cases z)]
     exact k false H (Same.refl H) fun z => by cases z
    | bl b =>
     refine ⟨_, rfl, _, _, _, _, rfl, .inl (.bl b), (kit_tt (r := false) (by decide +kernel)), _, rfl, ?_⟩
     refine iteF (iteF ?_)
     refine ⟨_, rfl, _, _, _, _, rfl, .inl (.bl b), (kit_tt (r := false) (by decide +kernel)), _, rfl, ?_⟩
     refine iteF (iteF ?_)
     refine ⟨_, rfl, _, _, _, _, rfl, .inl (.bl b), (kit_tt (r := true) (by decide +kernel)), _, rfl, ?_⟩
     refine iteT ⟨_, rfl, _, _, _, _, rfl, .inl (.str t'), (kit_tt (r := false) (by decide +kernel)), _, rfl, ?_⟩
     refine iteF ?_
     refine ⟨_, rfl, rfl, _, rfl, ?_⟩
     rw [decide_eq_false (fun z => by cases z)]
     exact iteF (k false H (Same.refl H) fun z => by cases z)
    | int i =>
     refine ⟨_, rfl, _, _, _, _, rfl, .inl (.int i), (kit_tt (r := false) (by decide +kernel)), _, rfl, ?_⟩
     refine iteF (iteF ?_)
     refine ⟨_, rfl, _, _, _, _, rfl, .inl (.int i), (kit_tt (r := false) (by decide +kernel)), _, rfl, ?_⟩
     refine iteF (iteF ?_)
     refine ⟨_, rfl, _, _, _, _, rfl, .inl (.int i), (kit_tt (r := true) (by decide +kernel)), _, rfl, ?_⟩
     refine iteT ⟨_, rfl, _, _, _, _, rfl, .inl (.str t'), (kit_tt (r := false) (by decide +kernel)), _, rfl, ?_⟩
     refine iteF ?_
     refine ⟨_, rfl, rfl, _, rfl, ?_⟩
     rw [decide_eq_false (fun z => by cases z)]
     exact iteF (k false H (Same.refl H) fun z => by cases z)
    | str x =>
     refine ⟨_, rfl, _, _, _, _, rfl, .inl (.str x), (kit_tt (r := false) (by decide +kernel)), _, rfl, ?_⟩
     refine iteF (iteF ?_)
     refine ⟨_, rfl, _, _, _, _, rfl, .inl (.str x), (kit_tt (r := true) (by decide +kernel)), _, rfl, ?_⟩
     refine iteT ⟨_, rfl, _, _, _, _, rfl, .inl (.str t'), (kit_tt (r := true) (by decide +kernel)), _, rfl, ?_⟩
     refine iteT ?_
     refine ⟨_, rfl, _, rfl, rfl, k _ H (Same.refl H) fun z => ?_⟩
     injection z with z
     rw [z]
     exact decide_eq_true rfl
    | @tup a vs ds ha al =>
     refine ⟨_, rfl, _, _, _, _, rfl, .inl (.tup ha), (kit_tt (r := true) (by decide +kernel)), _, rfl, ?_⟩
     refine iteT ⟨_, rfl, _, _, _, _, rfl, .inl (.str t'), (kit_tt (r := false) (by decide +kernel)), _, rfl, ?_⟩
     refine iteF ?_
     refine ⟨_, rfl, _, _, _, _, rfl, .inl (.tup ha), (kit_tt (r := false) (by decide +kernel)), _, rfl, ?_⟩
     refine iteF (iteF ?_)
     refine ⟨_, rfl, _, _, _, _, rfl, .inl (.tup ha), (kit_tt (r := false) (by decide +kernel)), _, rfl, ?_⟩
     refine iteF (iteF ?_)
     refine ⟨_, rfl, rfl, _, rfl, ?_⟩
     rw [decide_eq_false (fun z => by cases z)]
     exact iteF (k false H (Same.refl H) fun z => by cases z)
    | @lst a vs ds ha hS al =>
     refine ⟨_, rfl, _, _, _, _, rfl, .inl (.lst ha), (kit_tt (r := false) (by decide +kernel)), _, rfl, ?_⟩
     refine iteF (iteF ?_)
     refine ⟨_, rfl, _, _, _, _, rfl, .inl (.lst ha), (kit_tt (r := false) (by decide +kernel)), _, rfl, ?_⟩
     refine iteF (iteF ?_)
     refine ⟨_, rfl, _, _, _, _, rfl, .inl (.lst ha), (kit_tt (r := false) (by decide +kernel)), _, rfl, ?_⟩
     refine iteF (iteF ?_)
     refine ⟨_, rfl, rfl, _, rfl, ?_⟩
     rw [decide_eq_false (fun z => by cases z)]
     exact iteF (k false H (Same.refl H) fun z => by cases z)
    | @d0 a ha =>
     refine ⟨_, rfl, _, _, _, _, rfl, .inl (.dK ha), (kit_tt (r := false) (by decide +kernel)), _, rfl, ?_⟩
     refine iteF (iteF ?_)
     refine ⟨_, rfl, _, _, _, _, rfl, .inl (.dK ha), (kit_tt (r := false) (by decide +kernel)), _, rfl, ?_⟩
     refine iteF (iteF ?_)
     refine ⟨_, rfl, _, _, _, _, rfl, .inl (.dK ha), (kit_tt (r := false) (by decide +kernel)), _, rfl, ?_⟩
     refine iteF (iteF ?_)
     refine ⟨_, rfl, rfl, _, rfl, ?_⟩
     rw [decide_eq_false (fun z => by cases z)]
     exact iteF (k false H (Same.refl H) fun z => by cases z)
    | @d1 a kk vv dd ha hv =>
     refine ⟨_, rfl, _, _, _, _, rfl, .inl (.dK ha), (kit_tt (r := false) (by decide +kernel)), _, rfl, ?_⟩
     refine iteF (iteF ?_)
     refine ⟨_, rfl, _, _, _, _, rfl, .inl (.dK ha), (kit_tt (r := false) (by decide +kernel)), _, rfl, ?_⟩
     refine iteF (iteF ?_)
     refine ⟨_, rfl, _, _, _, _, rfl, .inl (.dK ha), (kit_tt (r := false) (by decide +kernel)), _, rfl, ?_⟩
     refine iteF (iteF ?_)
     refine ⟨_, rfl, rfl, _, rfl, ?_⟩
     rw [decide_eq_false (fun z => by cases z)]
     exact iteF (k false H (Same.refl H) fun z => by cases z)
   ·cases yd with
    | non =>
     refine ⟨_, rfl, _, _, _, _, rfl, .inl .non, (kit_tt (r := false) (by decide +kernel)), _, rfl, ?_⟩
     refine iteF (iteF ?_)
     refine ⟨_, rfl, _, _, _, _, rfl, .inl .non, (kit_tt (r := false) (by decide +kernel)), _, rfl, ?_⟩
     refine iteF (iteF ?_)
     refine ⟨_, rfl, _, _, _, _, rfl, .inl .non, (kit_tt (r := false) (by decide +kernel)), _, rfl, ?_⟩
     refine iteF (iteF ?_)
     refine ⟨_, rfl, rfl, _, rfl, ?_⟩
     rw [decide_eq_true rfl]
     refine iteT ⟨_, rfl, rfl, ?_⟩
     rw [decide_eq_false (fun z => by cases z)]
     exact k false H (Same.refl H) fun z => by cases z
    | bl b =>
     refine ⟨_, rfl, _, _, _, _, rfl, .inl (.bl b), (kit_tt (r := false) (by decide +kernel)), _, rfl, ?_⟩
     refine iteF (iteF ?_)
     refine ⟨_, rfl, _, _, _, _, rfl, .inl (.bl b), (kit_tt (r := false) (by decide +kernel)), _, rfl, ?_⟩
     refine iteF (iteF ?_)
     refine ⟨_, rfl, _, _, _, _, rfl, .inl (.bl b), (kit_tt (r := true) (by decide +kernel)), _, rfl, ?_⟩
     refine iteT ⟨_, rfl, _, _, _, _, rfl, .inl (.int m), (kit_tt (r := true) (by decide +kernel)), _, rfl, ?_⟩
     refine iteT ?_
     refine ⟨_, rfl, _, _, _, _, rfl, .inl (.bl b), (kit_tt (r := true) (by decide +kernel)), _, rfl, _, _, _, _, rfl, .inl (.int m), (kit_tt (r := false) (by decide +kernel)), rfl, _, rfl, ?_⟩
     rw [decide_eq_false (fun z => by cases z)]
     exact iteF (k false H (Same.refl H) fun z => by cases z)
    | int i =>
     refine ⟨_, rfl, _, _, _, _, rfl, .inl (.int i), (kit_tt (r := false) (by decide +kernel)), _, rfl, ?_⟩
     refine iteF (iteF ?_)
     refine ⟨_, rfl, _, _, _, _, rfl, .inl (.int i), (kit_tt (r := false) (by decide +kernel)), _, rfl, ?_⟩
     refine iteF (iteF ?_)
     refine ⟨_, rfl, _, _, _, _, rfl, .inl (.int i), (kit_tt (r := true) (by decide +kernel)), _, rfl, ?_⟩
     refine iteT ⟨_, rfl, _, _, _, _, rfl, .inl (.int m), (kit_tt (r := true) (by decide +kernel)), _, rfl, ?_⟩
     refine iteT ?_
     refine ⟨_, rfl, _, _, _, _, rfl, .inl (.int i), (kit_tt (r := false) (by decide +kernel)), _, rfl, _, _, _, _, rfl, .inl (.int m), (kit_tt (r := false) (by decide +kernel)), rfl, _, rfl, ?_⟩
     rw [decide_eq_true rfl]
     refine iteT ⟨_, rfl, _, rfl, rfl, k _ H (Same.refl H) fun z => ?_⟩
     injection z with z
     rw [z]
     exact decide_eq_true rfl
    | str x =>
     refine ⟨_, rfl, _, _, _, _, rfl, .inl (.str x), (kit_tt (r := false) (by decide +kernel)), _, rfl, ?_⟩
     refine iteF (iteF ?_)
     refine ⟨_, rfl, _, _, _, _, rfl, .inl (.str x), (kit_tt (r := true) (by decide +kernel)), _, rfl, ?_⟩
     refine iteT ⟨_, rfl, _, _, _, _, rfl, .inl (.int m), (kit_tt (r := false) (by decide +kernel)), _, rfl, ?_⟩
     refine iteF ?_
     refine ⟨_, rfl, _, _, _, _, rfl, .inl (.str x), (kit_tt (r := false) (by decide +kernel)), _, rfl, ?_⟩
     refine iteF (iteF ?_)
     refine ⟨_, rfl, rfl, _, rfl, ?_⟩
     rw [decide_eq_false (fun z => by cases z)]
     exact iteF (k false H (Same.refl H) fun z => by cases z)
    | @tup a vs ds ha al =>
     refine ⟨_, rfl, _, _, _, _, rfl, .inl (.tup ha), (kit_tt (r := true) (by decide +kernel)), _, rfl, ?_⟩
     refine iteT ⟨_, rfl, _, _, _, _, rfl, .inl (.int m), (kit_tt (r := false) (by decide +kernel)), _, rfl, ?_⟩
     refine iteF ?_
     refine ⟨_, rfl, _, _, _, _, rfl, .inl (.tup ha), (kit_tt (r := false) (by decide +kernel)), _, rfl, ?_⟩
     refine iteF (iteF ?_)
     refine ⟨_, rfl, _, _, _, _, rfl, .inl (.tup ha), (kit_tt (r := false) (by decide +kernel)), _, rfl, ?_⟩
     refine iteF (iteF ?_)
     refine ⟨_, rfl, rfl, _, rfl, ?_⟩
     rw [decide_eq_false (fun z => by cases z)]
     exact iteF (k false H (Same.refl H) fun z => by cases z)
    | @lst a vs ds ha hS al =>
     refine ⟨_, rfl, _, _, _, _, rfl, .inl (.lst ha), (kit_tt (r := false) (by decide +kernel)), _, rfl, ?_⟩
     refine iteF (iteF ?_)
     refine ⟨_, rfl, _, _, _, _, rfl, .inl (.lst ha), (kit_tt (r := false) (by decide +kernel)), _, rfl, ?_⟩
     refine iteF (iteF ?_)
     refine ⟨_, rfl, _, _, _, _, rfl, .inl (.lst ha), (kit_tt (r := false) (by decide +kernel)), _, rfl, ?_⟩
     refine iteF (iteF ?_)
     refine ⟨_, rfl, rfl, _, rfl, ?_⟩
     rw [decide_eq_false (fun z => by cases z)]
     exact iteF (k false H (Same.refl H) fun z => by cases z)
    | @d0 a ha =>
     refine ⟨_, rfl, _, _, _, _, rfl, .inl (.dK ha), (kit_tt (r := false) (by decide +kernel)), _, rfl, ?_⟩
     refine iteF (iteF ?_)
     refine ⟨_, rfl, _, _, _, _, rfl, .inl (.dK ha), (kit_tt (r := false) (by decide +kernel)), _, rfl, ?_⟩
     refine iteF (iteF ?_)
     refine ⟨_, rfl, _, _, _, _, rfl, .inl (.dK ha), (kit_tt (r := false) (by decide +kernel)), _, rfl, ?_⟩
     refine iteF (iteF ?_)
     refine ⟨_, rfl, rfl, _, rfl, ?_⟩
     rw [decide_eq_false (fun z => by cases z)]
     exact iteF (k false H (Same.refl H) fun z => by cases z)
    | @d1 a kk vv dd ha hv =>
     refine ⟨_, rfl, _, _, _, _, rfl, .inl (.dK ha), (kit_tt (r := false) (by decide +kernel)), _, rfl, ?_⟩
     refine iteF (iteF ?_)
     refine ⟨_, rfl, _, _, _, _, rfl, .inl (.dK ha), (kit_tt (r := false) (by decide +kernel)), _, rfl, ?_⟩
     refine iteF (iteF ?_)
     refine ⟨_, rfl, _, _, _, _, rfl, .inl (.dK ha), (kit_tt (r := false) (by decide +kernel)), _, rfl, ?_⟩
     refine iteF (iteF ?_)
     refine ⟨_, rfl, rfl, _, rfl, ?_⟩
     rw [decide_eq_false (fun z => by cases z)]
     exact iteF (k false H (Same.refl H) fun z => by cases z)
 | n + 1 => by
  have ih : Cal P w K mg base (n + 1) "_law_same" ["_law_one", "_law_two"] (spSameY K n) := ⟨f, fd, ok__law_same F T TX hm hb n, hm, F.kp, hb⟩
  refine F.ok sc__law_same (fun vs H Q E h => ?_) (fun cdv A outer s H vs Q E hr h => ?_)
  ·obtain ⟨S, x, y, d, e, rfl, _⟩ := h
   rfl
  ·obtain ⟨S, x, y, d, e, rfl, yd, sy, k⟩ := h
   refine ⟨_, (pss_cons (ps_if (PW.pt (pw_and (pt_val (pe_callB call_isiA (by rfl) T.n_isinstance boot_isinstance (pa_cons (pv 0) (pa_cons (pe_bltn (v := .ty "tuple") rfl T.n_tuple boot_tuple rfl) pa_nil)))) (pw_and1 (pt_val (pe_callB call_isiA (by rfl) T.n_isinstance boot_isinstance (pa_cons (pv 1) (pa_cons (pe_bltn (v := .ty "tuple") rfl T.n_tuple boot_tuple rfl) pa_nil)))))))
    (pss_one (ps_ret (pe_and (pe_cmpR op_eq (pe_callB call_len_seq (by rfl) T.n_len PySem.boot_len (pa_cons (pv 0) pa_nil)) (pe_callB call_len_seq (by rfl) T.n_len PySem.boot_len (pa_cons (pv 1) pa_nil)) (nomark _)) (pe_one (pe_callB (call_all rfl) (by rfl) T.n_all boot_all (pa_cons (pe_lc (N' := ["_law_a", "_law_b"]) (n := 2) (ix := []) rfl (CompScope.of (sc := defScope s__law_same) (N := ["_law_one", "_law_two"]) (by decide +kernel) rfl rfl) (pi_zipT rfl T.n_zip (pa_cons (pv 0) (pa_cons (pv 1) pa_nil))) (fun _ _ _ _ _ => ⟨(pg_pairK K (i := 0) (j := 1) rfl rfl (show (["_law_a", "_law_b"] : List Str).Nodup by decide +kernel) rfl rfl (Or.inl rfl) (Or.inl rfl) (Or.inr rfl) (Or.inr rfl)), pts_nil, (pe_cal ih hr rfl (pa_cons (pv 0) (pa_cons (pv 1) pa_nil)))⟩)) pa_nil))))))
    pss_nil)
   (pss_cons (ps_if (PW.pt (pw_and (pt_val (pe_callB call_isiA (by rfl) T.n_isinstance boot_isinstance (pa_cons (pv 0) (pa_cons (pe_bltn (v := .ty "str") rfl TX.n_str boot_str rfl) pa_nil)))) (pw_and1 (pt_val (pe_callB call_isiA (by rfl) T.n_isinstance boot_isinstance (pa_cons (pv 1) (pa_cons (pe_bltn (v := .ty "str") rfl TX.n_str boot_str rfl) pa_nil)))))))
    (pss_one (ps_ret (pe_cmpR op_eq (pv 0) (pv 1) (nomark _))))
    pss_nil)
   (pss_cons (ps_if (PW.pt (pw_and (pt_val (pe_callB call_isiA (by rfl) T.n_isinstance boot_isinstance (pa_cons (pv 0) (pa_cons (pe_bltn (v := .ty "int") rfl T.n_int boot_int rfl) pa_nil)))) (pw_and1 (pt_val (pe_callB call_isiA (by rfl) T.n_isinstance boot_isinstance (pa_cons (pv 1) (pa_cons (pe_bltn (v := .ty "int") rfl T.n_int boot_int rfl) pa_nil)))))))
    (pss_one (ps_ret (pe_and (pe_cmpR op_eq (pe_callB call_isiA (by rfl) T.n_isinstance boot_isinstance (pa_cons (pv 0) (pa_cons (pe_bltn (v := .ty "bool") rfl T.n_bool boot_bool rfl) pa_nil))) (pe_callB call_isiA (by rfl) T.n_isinstance boot_isinstance (pa_cons (pv 1) (pa_cons (pe_bltn (v := .ty "bool") rfl T.n_bool boot_bool rfl) pa_nil))) (nomark _)) (pe_one (pe_cmpR op_eq (pv 0) (pv 1) (nomark _))))))
    pss_nil)
   (pss_one (ps_ret (pe_and (pe_cmpR op_isN (pv 0) pe_non (nomark _)) (pe_one (pe_cmpR op_isN (pv 1) pe_non (nomark _))))))))), ?_⟩
   rcases sy with (⟨t', rfl, rfl⟩ | ⟨m, rfl, rfl⟩) | ⟨bb, us, es, rfl, rfl, h1, h2, h3, h4⟩
   ·cases yd with
    | non =>
     refine ⟨_, rfl, _, _, _, _, rfl, .inl .non, (kit_tt (r := false) (by decide +kernel)), _, rfl, ?_⟩
     refine iteF (iteF ?_)
     refine ⟨_, rfl, _, _, _, _, rfl, .inl .non, (kit_tt (r := false) (by decide +kernel)), _, rfl, ?_⟩
     refine iteF (iteF ?_)
     refine ⟨_, rfl, _, _, _, _, rfl, .inl .non, (kit_tt (r := false) (by decide +kernel)), _, rfl, ?_⟩
     refine iteF (iteF ?_)
     refine ⟨_, rfl, rfl, _, rfl, ?_⟩
     rw [decide_eq_true rfl]
     refine iteT ⟨_, rfl, rfl, ?_⟩
     rw [decide_eq_false (fun z => by cases z)]
     exact k false H (Same.refl H) fun z => by cases z
    | bl b =>
     refine ⟨_, rfl, _, _, _, _, rfl, .inl (.bl b), (kit_tt (r := false) (by decide +kernel)), _, rfl, ?_⟩
     refine iteF (iteF ?_)
     refine ⟨_, rfl, _, _, _, _, rfl, .inl (.bl b), (kit_tt (r := false) (by decide +kernel)), _, rfl, ?_⟩
     refine iteF (iteF ?_)
     refine ⟨_, rfl, _, _, _, _, rfl, .inl (.bl b), (kit_tt (r := true) (by decide +kernel)), _, rfl, ?_⟩
     refine iteT ⟨_, rfl, _, _, _, _, rfl, .inl (.str t'), (kit_tt (r := false) (by decide +kernel)), _, rfl, ?_⟩
     refine iteF ?_
     refine ⟨_, rfl, rfl, _, rfl, ?_⟩
     rw [decide_eq_false (fun z => by cases z)]
     exact iteF (k false H (Same.refl H) fun z => by cases z)
    | int i =>
     refine ⟨_, rfl, _, _, _, _, rfl, .inl (.int i), (kit_tt (r := false) (by decide +kernel)), _, rfl, ?_⟩
     refine iteF (iteF ?_)
     refine ⟨_, rfl, _, _, _, _, rfl, .inl (.int i), (kit_tt (r := false) (by decide +kernel)), _, rfl, ?_⟩
     refine iteF (iteF ?_)
     refine ⟨_, rfl, _, _, _, _, rfl, .inl (.int i), (kit_tt (r := true) (by decide +kernel)), _, rfl, ?_⟩
     refine iteT ⟨_, rfl, _, _, _, _, rfl, .inl (.str t'), (kit_tt (r := false) (by decide +kernel)), _, rfl, ?_⟩
     refine iteF ?_
     refine ⟨_, rfl, rfl, _, rfl, ?_⟩
     rw [decide_eq_false (fun z => by cases z)]
     exact iteF (k false H (Same.refl H) fun z => by cases z)
    | str x =>
     refine ⟨_, rfl, _, _, _, _, rfl, .inl (.str x), (kit_tt (r := false) (by decide +kernel)), _, rfl, ?_⟩
     refine iteF (iteF ?_)
     refine ⟨_, rfl, _, _, _, _, rfl, .inl (.str x), (kit_tt (r := true) (by decide +kernel)), _, rfl, ?_⟩
     refine iteT ⟨_, rfl, _, _, _, _, rfl, .inl (.str t'), (kit_tt (r := true) (by decide +kernel)), _, rfl, ?_⟩
     refine iteT ?_
     refine ⟨_, rfl, _, rfl, rfl, k _ H (Same.refl H) fun z => ?_⟩
     injection z with z
     rw [z]
     exact decide_eq_true rfl
    | @tup a vs ds ha al =>
     refine ⟨_, rfl, _, _, _, _, rfl, .inl (.tup ha), (kit_tt (r := true) (by decide +kernel)), _, rfl, ?_⟩
     refine iteT ⟨_, rfl, _, _, _, _, rfl, .inl (.str t'), (kit_tt (r := false) (by decide +kernel)), _, rfl, ?_⟩
     refine iteF ?_
     refine ⟨_, rfl, _, _, _, _, rfl, .inl (.tup ha), (kit_tt (r := false) (by decide +kernel)), _, rfl, ?_⟩
     refine iteF (iteF ?_)
     refine ⟨_, rfl, _, _, _, _, rfl, .inl (.tup ha), (kit_tt (r := false) (by decide +kernel)), _, rfl, ?_⟩
     refine iteF (iteF ?_)
     refine ⟨_, rfl, rfl, _, rfl, ?_⟩
     rw [decide_eq_false (fun z => by cases z)]
     exact iteF (k false H (Same.refl H) fun z => by cases z)
    | @lst a vs ds ha hS al =>
     refine ⟨_, rfl, _, _, _, _, rfl, .inl (.lst ha), (kit_tt (r := false) (by decide +kernel)), _, rfl, ?_⟩
     refine iteF (iteF ?_)
     refine ⟨_, rfl, _, _, _, _, rfl, .inl (.lst ha), (kit_tt (r := false) (by decide +kernel)), _, rfl, ?_⟩
     refine iteF (iteF ?_)
     refine ⟨_, rfl, _, _, _, _, rfl, .inl (.lst ha), (kit_tt (r := false) (by decide +kernel)), _, rfl, ?_⟩
     refine iteF (iteF ?_)
     refine ⟨_, rfl, rfl, _, rfl, ?_⟩
     rw [decide_eq_false (fun z => by cases z)]
     exact iteF (k false H (Same.refl H) fun z => by cases z)
    | @d0 a ha =>
     refine ⟨_, rfl, _, _, _, _, rfl, .inl (.dK ha), (kit_tt (r := false) (by decide +kernel)), _, rfl, ?_⟩
     refine iteF (iteF ?_)
     refine ⟨_, rfl, _, _, _, _, rfl, .inl (.dK ha), (kit_tt (r := false) (by decide +kernel)), _, rfl, ?_⟩
     refine iteF (iteF ?_)
     refine ⟨_, rfl, _, _, _, _, rfl, .inl (.dK ha), (kit_tt (r := false) (by decide +kernel)), _, rfl, ?_⟩
     refine iteF (iteF ?_)
     refine ⟨_, rfl, rfl, _, rfl, ?_⟩
     rw [decide_eq_false (fun z => by cases z)]
     exact iteF (k false H (Same.refl H) fun z => by cases z)
    | @d1 a kk vv dd ha hv =>
     refine ⟨_, rfl, _, _, _, _, rfl, .inl (.dK ha), (kit_tt (r := false) (by decide +kernel)), _, rfl, ?_⟩
     refine iteF (iteF ?_)
     refine ⟨_, rfl, _, _, _, _, rfl, .inl (.dK ha), (kit_tt (r := false) (by decide +kernel)), _, rfl, ?_⟩
     refine iteF (iteF ?_)
     refine ⟨_, rfl, _, _, _, _, rfl, .inl (.dK ha), (kit_tt (r := false) (by decide +kernel)), _, rfl, ?_⟩
     refine iteF (iteF ?_)
     refine ⟨_, rfl, rfl, _, rfl, ?_⟩
     rw [decide_eq_false (fun z => by cases z)]
     exact iteF (k false H (Same.refl H) fun z => by cases z)
   ·cases yd with
    | non =>
     refine ⟨_, rfl, _, _, _, _, rfl, .inl .non, (kit_tt (r := false) (by decide +kernel)), _, rfl, ?_⟩
     refine iteF (iteF ?_)
     refine ⟨_, rfl, _, _, _, _, rfl, .inl .non, (kit_tt (r := false) (by decide +kernel)), _, rfl, ?_⟩
     refine iteF (iteF ?_)
     refine ⟨_, rfl, _, _, _, _, rfl, .inl .non, (kit_tt (r := false) (by decide +kernel)), _, rfl, ?_⟩
     refine iteF (iteF ?_)
     refine ⟨_, rfl, rfl, _, rfl, ?_⟩
     rw [decide_eq_true rfl]
     refine iteT ⟨_, rfl, rfl, ?_⟩
     rw [decide_eq_false (fun z => by cases z)]
     exact k false H (Same.refl H) fun z => by cases z
    | bl b =>
     refine ⟨_, rfl, _, _, _, _, rfl, .inl (.bl b), (kit_tt (r := false) (by decide +kernel)), _, rfl, ?_⟩
     refine iteF (iteF ?_)
     refine ⟨_, rfl, _, _, _, _, rfl, .inl (.bl b), (kit_tt (r := false) (by decide +kernel)), _, rfl, ?_⟩
     refine iteF (iteF ?_)
     refine ⟨_, rfl, _, _, _, _, rfl, .inl (.bl b), (kit_tt (r := true) (by decide +kernel)), _, rfl, ?_⟩
     refine iteT ⟨_, rfl, _, _, _, _, rfl, .inl (.int m), (kit_tt (r := true) (by decide +kernel)), _, rfl, ?_⟩
     refine iteT ?_
     refine ⟨_, rfl, _, _, _, _, rfl, .inl (.bl b), (kit_tt (r := true) (by decide +kernel)), _, rfl, _, _, _, _, rfl, .inl (.int m), (kit_tt (r := false) (by decide +kernel)), rfl, _, rfl, ?_⟩
     rw [decide_eq_false (fun z => by cases z)]
     exact iteF (k false H (Same.refl H) fun z => by cases z)
    | int i =>
     refine ⟨_, rfl, _, _, _, _, rfl, .inl (.int i), (kit_tt (r := false) (by decide +kernel)), _, rfl, ?_⟩
     refine iteF (iteF ?_)
     refine ⟨_, rfl, _, _, _, _, rfl, .inl (.int i), (kit_tt (r := false) (by decide +kernel)), _, rfl, ?_⟩
     refine iteF (iteF ?_)
     refine ⟨_, rfl, _, _, _, _, rfl, .inl (.int i), (kit_tt (r := true) (by decide +kernel)), _, rfl, ?_⟩
     refine iteT ⟨_, rfl, _, _, _, _, rfl, .inl (.int m), (kit_tt (r := true) (by decide +kernel)), _, rfl, ?_⟩
     refine iteT ?_
     refine ⟨_, rfl, _, _, _, _, rfl, .inl (.int i), (kit_tt (r := false) (by decide +kernel)), _, rfl, _, _, _, _, rfl, .inl (.int m), (kit_tt (r := false) (by decide +kernel)), rfl, _, rfl, ?_⟩
     rw [decide_eq_true rfl]
     refine iteT ⟨_, rfl, _, rfl, rfl, k _ H (Same.refl H) fun z => ?_⟩
     injection z with z
     rw [z]
     exact decide_eq_true rfl
    | str x =>
     refine ⟨_, rfl, _, _, _, _, rfl, .inl (.str x), (kit_tt (r := false) (by decide +kernel)), _, rfl, ?_⟩
     refine iteF (iteF ?_)
     refine ⟨_, rfl, _, _, _, _, rfl, .inl (.str x), (kit_tt (r := true) (by decide +kernel)), _, rfl, ?_⟩
     refine iteT ⟨_, rfl, _, _, _, _, rfl, .inl (.int m), (kit_tt (r := false) (by decide +kernel)), _, rfl, ?_⟩
     refine iteF ?_
     refine ⟨_, rfl, _, _, _, _, rfl, .inl (.str x), (kit_tt (r := false) (by decide +kernel)), _, rfl, ?_⟩
     refine iteF (iteF ?_)
     refine ⟨_, rfl, rfl, _, rfl, ?_⟩
     rw [decide_eq_false (fun z => by cases z)]
     exact iteF (k false H (Same.refl H) fun z => by cases z)
    | @tup a vs ds ha al =>
     refine ⟨_, rfl, _, _, _, _, rfl, .inl (.tup ha), (kit_tt (r := true) (by decide +kernel)), _, rfl, ?_⟩
     refine iteT ⟨_, rfl, _, _, _, _, rfl, .inl (.int m), (kit_tt (r := false) (by decide +kernel)), _, rfl, ?_⟩
     refine iteF ?_
     refine ⟨_, rfl, _, _, _, _, rfl, .inl (.tup ha), (kit_tt (r := false) (by decide +kernel)), _, rfl, ?_⟩
     refine iteF (iteF ?_)
     refine ⟨_, rfl, _, _, _, _, rfl, .inl (.tup ha), (kit_tt (r := false) (by decide +kernel)), _, rfl, ?_⟩
     refine iteF (iteF ?_)
     refine ⟨_, rfl, rfl, _, rfl, ?_⟩
     rw [decide_eq_false (fun z => by cases z)]
     exact iteF (k false H (Same.refl H) fun z => by cases z)
    | @lst a vs ds ha hS al =>
     refine ⟨_, rfl, _, _, _, _, rfl, .inl (.lst ha), (kit_tt (r := false) (by decide +kernel)), _, rfl, ?_⟩
     refine iteF (iteF ?_)
     refine ⟨_, rfl, _, _, _, _, rfl, .inl (.lst ha), (kit_tt (r := false) (by decide +kernel)), _, rfl, ?_⟩
     refine iteF (iteF ?_)
     refine ⟨_, rfl, _, _, _, _, rfl, .inl (.lst ha), (kit_tt (r := false) (by decide +kernel)), _, rfl, ?_⟩
     refine iteF (iteF ?_)
     refine ⟨_, rfl, rfl, _, rfl, ?_⟩
     rw [decide_eq_false (fun z => by cases z)]
     exact iteF (k false H (Same.refl H) fun z => by cases z)
    | @d0 a ha =>
     refine ⟨_, rfl, _, _, _, _, rfl, .inl (.dK ha), (kit_tt (r := false) (by decide +kernel)), _, rfl, ?_⟩
     refine iteF (iteF ?_)
     refine ⟨_, rfl, _, _, _, _, rfl, .inl (.dK ha), (kit_tt (r := false) (by decide +kernel)), _, rfl, ?_⟩
     refine iteF (iteF ?_)
     refine ⟨_, rfl, _, _, _, _, rfl, .inl (.dK ha), (kit_tt (r := false) (by decide +kernel)), _, rfl, ?_⟩
     refine iteF (iteF ?_)
     refine ⟨_, rfl, rfl, _, rfl, ?_⟩
     rw [decide_eq_false (fun z => by cases z)]
     exact iteF (k false H (Same.refl H) fun z => by cases z)
    | @d1 a kk vv dd ha hv =>
     refine ⟨_, rfl, _, _, _, _, rfl, .inl (.dK ha), (kit_tt (r := false) (by decide +kernel)), _, rfl, ?_⟩
     refine iteF (iteF ?_)
     refine ⟨_, rfl, _, _, _, _, rfl, .inl (.dK ha), (kit_tt (r := false) (by decide +kernel)), _, rfl, ?_⟩
     refine iteF (iteF ?_)
     refine ⟨_, rfl, _, _, _, _, rfl, .inl (.dK ha), (kit_tt (r := false) (by decide +kernel)), _, rfl, ?_⟩
     refine iteF (iteF ?_)
     refine ⟨_, rfl, rfl, _, rfl, ?_⟩
     rw [decide_eq_false (fun z => by cases z)]
     exact iteF (k false H (Same.refl H) fun z => by cases z)
   ·cases yd with
    | non =>
     refine ⟨_, rfl, _, _, _, _, rfl, .inl .non, (kit_tt (r := false) (by decide +kernel)), _, rfl, ?_⟩
     refine iteF (iteF ?_)
     refine ⟨_, rfl, _, _, _, _, rfl, .inl .non, (kit_tt (r := false) (by decide +kernel)), _, rfl, ?_⟩
     refine iteF (iteF ?_)
     refine ⟨_, rfl, _, _, _, _, rfl, .inl .non, (kit_tt (r := false) (by decide +kernel)), _, rfl, ?_⟩
     refine iteF (iteF ?_)
     refine ⟨_, rfl, rfl, _, rfl, ?_⟩
     rw [decide_eq_true rfl]
     refine iteT ⟨_, rfl, rfl, ?_⟩
     rw [decide_eq_false (fun z => by cases z)]
     exact k false H (Same.refl H) fun z => by cases z
    | bl b =>
     refine ⟨_, rfl, _, _, _, _, rfl, .inl (.bl b), (kit_tt (r := false) (by decide +kernel)), _, rfl, ?_⟩
     refine iteF (iteF ?_)
     refine ⟨_, rfl, _, _, _, _, rfl, .inl (.bl b), (kit_tt (r := false) (by decide +kernel)), _, rfl, ?_⟩
     refine iteF (iteF ?_)
     refine ⟨_, rfl, _, _, _, _, rfl, .inl (.bl b), (kit_tt (r := true) (by decide +kernel)), _, rfl, ?_⟩
     refine iteT ⟨_, rfl, _, _, _, _, rfl, .inr ⟨bb, us, rfl, h1, rfl⟩, (kit_tt (r := false) (by decide +kernel)), _, rfl, ?_⟩
     refine iteF ?_
     refine ⟨_, rfl, rfl, _, rfl, ?_⟩
     rw [decide_eq_false (fun z => by cases z)]
     exact iteF (k false H (Same.refl H) fun z => by cases z)
    | int i =>
     refine ⟨_, rfl, _, _, _, _, rfl, .inl (.int i), (kit_tt (r := false) (by decide +kernel)), _, rfl, ?_⟩
     refine iteF (iteF ?_)
     refine ⟨_, rfl, _, _, _, _, rfl, .inl (.int i), (kit_tt (r := false) (by decide +kernel)), _, rfl, ?_⟩
     refine iteF (iteF ?_)
     refine ⟨_, rfl, _, _, _, _, rfl, .inl (.int i), (kit_tt (r := true) (by decide +kernel)), _, rfl, ?_⟩
     refine iteT ⟨_, rfl, _, _, _, _, rfl, .inr ⟨bb, us, rfl, h1, rfl⟩, (kit_tt (r := false) (by decide +kernel)), _, rfl, ?_⟩
     refine iteF ?_
     refine ⟨_, rfl, rfl, _, rfl, ?_⟩
     rw [decide_eq_false (fun z => by cases z)]
     exact iteF (k false H (Same.refl H) fun z => by cases z)
    | str x =>
     refine ⟨_, rfl, _, _, _, _, rfl, .inl (.str x), (kit_tt (r := false) (by decide +kernel)), _, rfl, ?_⟩
     refine iteF (iteF ?_)
     refine ⟨_, rfl, _, _, _, _, rfl, .inl (.str x), (kit_tt (r := true) (by decide +kernel)), _, rfl, ?_⟩
     refine iteT ⟨_, rfl, _, _, _, _, rfl, .inr ⟨bb, us, rfl, h1, rfl⟩, (kit_tt (r := false) (by decide +kernel)), _, rfl, ?_⟩
     refine iteF ?_
     refine ⟨_, rfl, _, _, _, _, rfl, .inl (.str x), (kit_tt (r := false) (by decide +kernel)), _, rfl, ?_⟩
     refine iteF (iteF ?_)
     refine ⟨_, rfl, rfl, _, rfl, ?_⟩
     rw [decide_eq_false (fun z => by cases z)]
     exact iteF (k false H (Same.refl H) fun z => by cases z)
    | @tup a vs ds ha al =>
     refine ⟨_, rfl, _, _, _, _, rfl, .inl (.tup ha), (kit_tt (r := true) (by decide +kernel)), _, rfl, ?_⟩
     refine iteT ⟨_, rfl, _, _, _, _, rfl, .inr ⟨bb, us, rfl, h1, rfl⟩, (kit_tt (r := true) (by decide +kernel)), _, rfl, ?_⟩
     refine iteT ?_
     have hvl := al.len
     refine ⟨_, rfl, a, _, rfl, .inr (SqT.of ha), _, rfl, bb, _, rfl, .inr h1, rfl, _, rfl, ?_⟩
     by_cases hl : vs.length = us.length
     ·rw [hl, decide_eq_true rfl]
      refine iteT ⟨_, rfl, _, rfl, a, bb, rfl, ⟨_, SqT.of ha⟩, ⟨_, h1⟩, ?_⟩
      refine lc_zipGU (xs := vs) (ys := us) (fun s' => SqT.of (s' _ _ ha)) (fun s' => s'.seqT h1) (by rw [List.length_zip]; (first | lia | omega)) (fun i v _ => ∃ r : Bool, v = .bl r /\ (ds[i]? = es[i]? -> r = true)) (fun _ _ _ _ _ h => h) (fun i x y hx hy G s' Q' q => ?_) fun acc ws G hacc s' hws hwl hR => ?_
      ·obtain ⟨d', hd', yd'⟩ := al.at hx
       have hi : i < es.length := by
        have := (List.getElem?_eq_some_iff.mp hy).1
        (first | lia | omega)
       have he' : es[i]? = some es[i] := List.getElem?_eq_getElem hi
       refine ⟨_, rfl, _, rfl, S, x, y, d', es[i], rfl, yd'.same s', (h4 i y _ hy he').same s', fun r G' s'' hr' => q _ G' s'' ⟨r, rfl, fun z => hr' ?_⟩⟩
       rw [hd', he'] at z
       exact Option.some.inj z
      ·have hb : ws = (ws.map fun v => match v with | .bl b => b | _ => false).map V.bl := by
        apply List.ext_getElem?
        intro i
        rw [List.getElem?_map, List.getElem?_map]
        cases hw : ws[i]? with
        | none => rfl
        | some v =>
         obtain ⟨r, rfl, _⟩ := hR i v hw
         rfl
       rw [hb] at hws
       refine ⟨acc, _, rfl, hws, k _ G s' fun z => ?_⟩
       injection z with z
       rw [List.all_eq_true]
       intro c hc
       obtain ⟨v, hv, rfl⟩ := List.mem_map.mp hc
       obtain ⟨i, hi⟩ := List.getElem?_of_mem hv
       obtain ⟨r, rfl, hr'⟩ := hR i v hi
       exact hr' (by rw [z])
     ·rw [decide_eq_false (fun z => hl (by have := V.int.inj z; (first | lia | omega)))]
      refine iteF (k false H (Same.refl H) fun z => ?_)
      injection z with z
      rw [z] at hvl
      (first | lia | omega)
    | @lst a vs ds ha hS al =>
     refine ⟨_, rfl, _, _, _, _, rfl, .inl (.lst ha), (kit_tt (r := false) (by decide +kernel)), _, rfl, ?_⟩
     refine iteF (iteF ?_)
     refine ⟨_, rfl, _, _, _, _, rfl, .inl (.lst ha), (kit_tt (r := false) (by decide +kernel)), _, rfl, ?_⟩
     refine iteF (iteF ?_)
     refine ⟨_, rfl, _, _, _, _, rfl, .inl (.lst ha), (kit_tt (r := false) (by decide +kernel)), _, rfl, ?_⟩
     refine iteF (iteF ?_)
     refine ⟨_, rfl, rfl, _, rfl, ?_⟩
     rw [decide_eq_false (fun z => by cases z)]
     exact iteF (k false H (Same.refl H) fun z => by cases z)
    | @d0 a ha =>
     refine ⟨_, rfl, _, _, _, _, rfl, .inl (.dK ha), (kit_tt (r := false) (by decide +kernel)), _, rfl, ?_⟩
     refine iteF (iteF ?_)
     refine ⟨_, rfl, _, _, _, _, rfl, .inl (.dK ha), (kit_tt (r := false) (by decide +kernel)), _, rfl, ?_⟩
     refine iteF (iteF ?_)
     refine ⟨_, rfl, _, _, _, _, rfl, .inl (.dK ha), (kit_tt (r := false) (by decide +kernel)), _, rfl, ?_⟩
     refine iteF (iteF ?_)
     refine ⟨_, rfl, rfl, _, rfl, ?_⟩
     rw [decide_eq_false (fun z => by cases z)]
     exact iteF (k false H (Same.refl H) fun z => by cases z)
    | @d1 a kk vv dd ha hv =>
     refine ⟨_, rfl, _, _, _, _, rfl, .inl (.dK ha), (kit_tt (r := false) (by decide +kernel)), _, rfl, ?_⟩
     refine iteF (iteF ?_)
     refine ⟨_, rfl, _, _, _, _, rfl, .inl (.dK ha), (kit_tt (r := false) (by decide +kernel)), _, rfl, ?_⟩
     refine iteF (iteF ?_)
     refine ⟨_, rfl, _, _, _, _, rfl, .inl (.dK ha), (kit_tt (r := false) (by decide +kernel)), _, rfl, ?_⟩
     refine iteF (iteF ?_)
     refine ⟨_, rfl, rfl, _, rfl, ?_⟩
     rw [decide_eq_false (fun z => by cases z)]
     exact iteF (k false H (Same.refl H) fun z => by cases z)
end
end K65
namespace L2
open PySem PySem.Spec PyProof.Rows
theorem Wr.pe_dict1I {X : Cx} {pos : Pos} {k1 : Int} {a1 b1 : Expr} {t1 : TE} (q1 : PEw X a1 (tC (.int k1))) (p1 : PEw X b1 t1) : PEw X (.Dict [some a1] [b1] pos) (tD1I k1 t1) := ⟨L2.pe_dict1I q1.h p1.h⟩
theorem Wr.ps_forR1 {X : Cx} {l : Expr} {ta : TA} {body : List Stmt} {tb : TS} {pos p1 p p2 : Pos} {i : Nat} {x : Str} (hp : PassesOwn (model X.prog X.w) X.A X.env X.xe) (hc : X.calm = true) (hg : Gl X "range") (hm : X.mg "range" = none) (hl : PAw X [l] ta) (hN : X.N.Nodup) (hi : X.N[i]? = some x) (hx : Loc X.env.scope x) (hb : PSsw X body tb) (hs : ∀ v, foldedSetIterable (.Call (.Name "range" p) [l] [] p2) X.env v = pure v := by intro _; rfl) (hst : starEach [l] X.env = [(false, eval l X.env)] := by rfl) (hf : X.fn x = true ∨ X.env.scope.names.lookup x = some .local := by first | exact .inl rfl | exact .inr rfl | assumption) :
  PSw X (.For (.Name x p1) (.Call (.Name "range" p) [l] [] p2) body [] pos) (tFor (iRng1 ta) (gName i) tb) := ⟨L2.ps_for hp hc (L2.pi_range1 hg hm hl.h hst) (L2.pg_name hN hi hx hf) hb.h hs⟩
theorem Wr.ps_forTN {X : Cx} {l : Expr} {tl : TE} {body : List Stmt} {tb : TS} {pos p1 : Pos} {i : Nat} {x : Str} (hp : PassesOwn (model X.prog X.w) X.A X.env X.xe) (hc : X.calm = true) (hl : PEw X l tl) (hN : X.N.Nodup) (hi : X.N[i]? = some x) (hx : Loc X.env.scope x) (hb : PSsw X body tb) (hs : ∀ v, foldedSetIterable l X.env v = pure v := by intro _; rfl) (hf : X.fn x = true ∨ X.env.scope.names.lookup x = some .local := by first | exact .inl rfl | exact .inr rfl | assumption) :
  PSw X (.For (.Name x p1) l body [] pos) (tFor (iTup X.K tl) (gName i) tb) := ⟨L2.ps_for hp hc (L2.pi_tup hl.h) (L2.pg_name hN hi hx hf) hb.h hs⟩
noncomputable def Nw (H : Hp) : Addr -> Prop := fun a => H a = none
theorem IsY.nw {H H' G : Hp} (s : Same H H') {x : V} {d : PyData} (h : IsY (Fr H') G x d) : IsY (Nw H) G x d := h.wide fun _ z => s.free z.1
theorem IsY.no {S : Addr -> Prop} {H : Hp} {x : V} {d : PyData} (h : IsY NoS H x d) : IsY S H x d := h.wide fun _ z => z.elim
noncomputable def fewD : PyData -> Bool
 | .tuple (_ :: _ :: _) => false
 | _ => true
noncomputable def spDeepY : Sp := fun vs H Q _ => ∃ (m : Nat) (b : Bool), vs = [.int m, .bl b] /\ m <= 60 /\ ∀ x d H', Same H H' -> IsY (Nw H) H' x d -> Sz 100 d -> fewD d = true -> Q x H'
noncomputable def OdY (H0 H : Hp) (x : V) : Prop := ∃ e, IsY (Nw H0) H x e /\ Sz 700 e /\ whD e = false
theorem OdY.same {H0 H H' : Hp} {x : V} (h : OdY H0 H x) (s : Same H H') : OdY H0 H' x := by
 obtain ⟨e, y, r⟩ := h
 exact ⟨e, y.same s, r⟩
structure PartY (H : Hp) (x : V) (d : PyData) : Prop where
 is : IsY NoS H x d
 kind : (∃ t, d = .str t) ∨ (∃ n, d = .int n) ∨ (∃ ds, d = .tuple ds)
 nod : d.hasDict = false
 shw : Shows d
 few : Sz 50 d
 txt : Sz 600 (.str (strD d))
noncomputable def spOddY : Sp := fun vs H Q _ => ∃ (p : Addr) (x : V) (d : PyData), vs = [.ref p, x] /\ Pot2 H p /\ PartY H x d /\ ∀ y H', Pot2 H' p -> Keep p p H H' -> OdY H H' y -> Q y H'
theorem sz_cons1 {d : PyData} {n : Nat} (h : Sz n d) : Sz (n + 1) (.tuple [d]) /\ Sz (n + 1) (.list [d]) /\ Sz (n + 4) (.dict [(.int 0, d)]) := by
 unfold Sz at *
 simp only [PyData.bulk, PyData.bulkAll, PyData.bulkKv]
 (first | lia | omega)
end L2
namespace K65
open PySem PySem.Spec PyProof.Rows L2
noncomputable abbrev s__law_odd : Stmt := top 70
noncomputable abbrev s_law : Stmt := top 72
section
variable {P : Program} {w : World} {K : PySem.W.Frag} {mg : Str -> Option Value} {base : Heap}
theorem sc__law_odd : FnScope ["_law_pot_here", "_law_thing", "_law_some"] ["_law_pot_here", "_law_thing"] (defScope s__law_odd) := ⟨rfl, rfl, rfl, by decide +kernel, rfl, by decide +kernel, by decide +kernel⟩
noncomputable def oddT {f : Addr} {cdv : Value} {A : Around} {outer : List Env} {s : Shared} {H : Hp} {E : XK} (hr : Room 2 (A.deeper (envOfC "_law_odd" (defScope s__law_odd) s.heap.objs.size f cdv))) (T : Top mg) (TX : TopX mg) (C_law_of : Cal P w K mg base 2 "_law_of" ["_law_pot_here", "_law_some"] spOf2) : {t : TS // PSsw (cxOf CX0 P w K mg base ["_law_pot_here", "_law_thing", "_law_some"] "_law_odd" (defScope s__law_odd) f cdv A outer s H E).nox (defBody s__law_odd) t} :=
 have hu : _ := hr.units
 ⟨_, (Wr.pss_cons (Wr.ps_set (i := 2) sc__law_odd.nd rfl (Or.inl rfl) (Wr.pe_lst (Wr.pa_cons Wr.pe_non (Wr.pa_cons Wr.pe_bl (Wr.pa_cons Wr.pe_bl (Wr.pa_cons Wr.pe_str (Wr.pa_cons Wr.pe_str (Wr.pa_cons Wr.pe_str (Wr.pa_cons (Wr.pe_LK (.list [])) (Wr.pa_cons (Wr.pe_LK (.dict [])) (Wr.pa_cons (Wr.pe_LK (.tuple [])) (Wr.pa_cons (Wr.pe_tup (Wr.pa_cons (Wr.pv 1) Wr.pa_nil)) (Wr.pa_cons (Wr.pe_lst (Wr.pa_cons (Wr.pv 1) Wr.pa_nil)) (Wr.pa_cons (Wr.pe_LK (.tuple [.str "all", .tuple []])) (Wr.pa_cons (Wr.pe_LK (.tuple [.int 0, .int 0])) (Wr.pa_cons (Wr.pe_LK (.tuple [.int 2, .int 4])) (Wr.pa_cons (Wr.pe_LK (.tuple [.int 1, .int (-2)])) Wr.pa_nil)))))))))))))))))
   (Wr.pss_cons (Wr.ps_set (i := 2) sc__law_odd.nd rfl (Or.inl rfl) (Wr.pe_op op_cat (Wr.pv 2) (Wr.pe_lst (Wr.pa_cons (Wr.pe_LK (.tuple [.int 0, .int 2])) (Wr.pa_cons (Wr.pe_LK (.tuple [.int 1, .int 1, .int 1])) (Wr.pa_cons (Wr.pe_LK (.list [.int 1, .int 1])) (Wr.pa_cons (Wr.pe_LK (.tuple [.str "1", .int 1])) (Wr.pa_cons (Wr.pe_LK (.tuple [.bool true, .int 1])) (Wr.pa_cons (Wr.pe_LK (.tuple [.int 1, .bool true])) (Wr.pa_cons (Wr.pe_LK (.tuple [.tuple [.int 1, .int 1], .int 1])) (Wr.pa_cons (Wr.pe_callTy (call_strD hr.gd hu) (by rfl) TX.n_str boot_str (Wr.pa_cons (Wr.pv 1) Wr.pa_nil)) (Wr.pa_cons (Wr.pe_dict1I Wr.pe_int (Wr.pv 1)) Wr.pa_nil))))))))))))
   (Wr.pss_one (Wr.ps_ret (Wr.pe_cal C_law_of (hr.mono (by decide)) rfl (Wr.pa_cons (Wr.pv 0) (Wr.pa_cons (Wr.pv 2) Wr.pa_nil)))))))⟩
theorem sc_law : FnScope ["_law_script", "_law_k", "_law_pot_here", "_law_many", "_law_number", "_law_kind", "_law_paper", "_law_things", "_law_turn", "_law_at", "_law_thing", "_law_bound"] ["_law_script"] (defScope s_law) := ⟨rfl, rfl, rfl, by decide +kernel, rfl, by decide +kernel, by decide +kernel⟩
noncomputable def lawT {f : Addr} {cdv : Value} {A : Around} {outer : List Env} {s : Shared} {H : Hp} {E : XK} (hr : Room 8 (A.deeper (envOfC "law" (defScope s_law) s.heap.objs.size f cdv))) (T : Top mg) (C_law_pot : Cal P w K mg base 1 "_law_pot" ["_law_script", "_law_k"] (spPot2 K)) (C_law_next : Cal P w K mg base 1 "_law_next" ["_law_pot_here", "_law_many"] spNext2) (Cbound_paper : Cal P w K mg base 8 "bound_paper" ["kind", "many", "number"] (spBPap K)) (C_law_deep : Cal P w K mg base 1 "_law_deep" ["_law_many", "_law_by_list"] spDeepY) (C_law_odd : Cal P w K mg base 3 "_law_odd" ["_law_pot_here", "_law_thing"] spOddY) (C_law_same : Cal P w K mg base 3 "_law_same" ["_law_one", "_law_two"] (spSameY K 2)) (Cshows_bound : Cal P w K mg base 7 "shows_bound" ["kind", "many", "number", "bound", "thing"] spShows) : {t : TS // PSsw (cxOf CX0 P w K mg base ["_law_script", "_law_k", "_law_pot_here", "_law_many", "_law_number", "_law_kind", "_law_paper", "_law_things", "_law_turn", "_law_at", "_law_thing", "_law_bound"] "law" (defScope s_law) f cdv A outer s H E).nox (defBody s_law) t} :=
 have hu : _ := hr.units
 ⟨_, (Wr.pss_cons (Wr.ps_forR1 (i := 1) PassesOwn.never rfl rfl T.n_range (Wr.pa_cons (Wr.pe_callB (call_max2 rfl) (by rfl) T.n_max boot_max (Wr.pa_cons Wr.pe_int (Wr.pa_cons (Wr.pe_callB (call_min2 rfl) (by rfl) T.n_min boot_min (Wr.pa_cons (Wr.pe_callB call_len_seq (by rfl) T.n_len PySem.boot_len (Wr.pa_cons (Wr.pv 0) Wr.pa_nil)) (Wr.pa_cons Wr.pe_int Wr.pa_nil))) Wr.pa_nil))) Wr.pa_nil) sc_law.nd rfl (Or.inl rfl)
    (Wr.pss_cons (Wr.ps_set (i := 2) sc_law.nd rfl (Or.inl rfl) (Wr.pe_cal C_law_pot (hr.mono (by decide)) rfl (Wr.pa_cons (Wr.pv 0) (Wr.pa_cons (Wr.pv 1) Wr.pa_nil))))
    (Wr.pss_cons (Wr.ps_par (i := 3) (j := 4) rfl sc_law.nd rfl rfl (by decide) rfl rfl (Wr.pa_cons (Wr.pe_cal C_law_next (hr.mono (by decide)) rfl (Wr.pa_cons (Wr.pv 2) (Wr.pa_cons Wr.pe_int Wr.pa_nil))) (Wr.pa_cons (Wr.pe_cal C_law_next (hr.mono (by decide)) rfl (Wr.pa_cons (Wr.pv 2) (Wr.pa_cons Wr.pe_int Wr.pa_nil))) Wr.pa_nil)) rfl)
    (Wr.pss_one (Wr.ps_forLN (i := 5) PassesOwn.never rfl (Wr.pe_LK (.list [.str "rounds", .str "stays", .str "rises", .str "highs", .str "crossed", .str "longest"])) sc_law.nd rfl (Or.inl rfl)
     (Wr.pss_cons (Wr.ps_set (i := 6) sc_law.nd rfl (Or.inl rfl) (Wr.pe_cal Cbound_paper (hr.mono (by decide)) rfl (Wr.pa_cons (Wr.pv 5) (Wr.pa_cons (Wr.pv 3) (Wr.pa_cons (Wr.pv 4) Wr.pa_nil)))))
     (Wr.pss_cons (Wr.ps_set (i := 7) sc_law.nd rfl (Or.inl rfl) (Wr.pe_lst (Wr.pa_cons Wr.pe_non (Wr.pa_cons Wr.pe_bl (Wr.pa_cons Wr.pe_int (Wr.pa_cons Wr.pe_str (Wr.pa_cons Wr.pe_str (Wr.pa_cons (Wr.pe_LK (.list [.str "all"])) (Wr.pa_cons (Wr.pe_LK (.tuple [])) (Wr.pa_cons (Wr.pe_LK (.list [])) (Wr.pa_cons (Wr.pe_LK (.dict [])) (Wr.pa_cons (Wr.pe_callTy call_list_of (by rfl) T.n_list boot_list (Wr.pa_cons (Wr.pv 6) Wr.pa_nil)) (Wr.pa_cons (Wr.pe_LK (.tuple [.str "all", .str "all"])) (Wr.pa_cons (Wr.pe_LK (.tuple [.tuple [.str "all"]])) (Wr.pa_cons (Wr.pe_LK (.tuple [.str "All"])) Wr.pa_nil)))))))))))))))
     (Wr.pss_cons (Wr.ps_set (i := 7) sc_law.nd rfl (Or.inl rfl) (Wr.pe_op op_cat (Wr.pv 7) (Wr.pe_lst (Wr.pa_cons (Wr.pe_cal C_law_deep (hr.mono (by decide)) rfl (Wr.pa_cons (Wr.pe_op op_add Wr.pe_int (Wr.pe_cal C_law_next (hr.mono (by decide)) rfl (Wr.pa_cons (Wr.pv 2) (Wr.pa_cons Wr.pe_int Wr.pa_nil)))) (Wr.pa_cons Wr.pe_bl Wr.pa_nil))) (Wr.pa_cons (Wr.pe_cal C_law_deep (hr.mono (by decide)) rfl (Wr.pa_cons (Wr.pe_op op_add Wr.pe_int (Wr.pe_cal C_law_next (hr.mono (by decide)) rfl (Wr.pa_cons (Wr.pv 2) (Wr.pa_cons Wr.pe_int Wr.pa_nil)))) (Wr.pa_cons Wr.pe_bl Wr.pa_nil))) Wr.pa_nil)))))
     (Wr.pss_cons (Wr.ps_forR1 (i := 8) PassesOwn.never rfl rfl T.n_range (Wr.pa_cons Wr.pe_int Wr.pa_nil) sc_law.nd rfl (Or.inl rfl)
      (Wr.pss_cons (Wr.ps_set (i := 9) sc_law.nd rfl (Or.inl rfl) (Wr.pe_cal C_law_next (hr.mono (by decide)) rfl (Wr.pa_cons (Wr.pv 2) (Wr.pa_cons (Wr.pe_callB call_len_seq (by rfl) T.n_len PySem.boot_len (Wr.pa_cons (Wr.pv 6) Wr.pa_nil)) Wr.pa_nil))))
      (Wr.pss_one (Wr.ps_expr (Wr.pe_bm PySem.F.plainAttrs_list PySem.F.slot_list_append PySem.F.type_list_append mt_append (Wr.pv 7) (Wr.pa_cons (Wr.pe_op op_cat2 (Wr.pe_op op_cat2 (Wr.pe_slice sl_tup (Wr.pv 6) po_none (Wr.po_some (Wr.pv 9))) (Wr.pe_tup (Wr.pa_cons (Wr.pe_cal C_law_odd (hr.mono (by decide)) rfl (Wr.pa_cons (Wr.pv 2) (Wr.pa_cons (Wr.pe_ix ix_tup (Wr.pv 6) (Wr.pv 9) (fun _ _ => rfl)) Wr.pa_nil))) Wr.pa_nil))) (Wr.pe_slice sl_tup (Wr.pv 6) (Wr.po_some (Wr.pe_op op_add (Wr.pv 9) Wr.pe_int)) po_none)) Wr.pa_nil))))))
     (Wr.pss_one (Wr.ps_forLN (i := 10) PassesOwn.never rfl (Wr.pv 7) sc_law.nd rfl (Or.inl rfl)
      (Wr.pss_one (Wr.ps_if (Wr.PWpt (Wr.pw_and (Wr.pt_cmpR (op_neTx hu) (Wr.pv 10) (Wr.pe_LK (.tuple [.str "all"])) (nomark _)) (Wr.pw_and1 (Wr.pt_not (Wr.pt_val (Wr.pe_cal C_law_same (hr.mono (by decide)) rfl (Wr.pa_cons (Wr.pv 10) (Wr.pa_cons (Wr.pv 6) Wr.pa_nil))))))))
       (Wr.pss_one (Wr.ps_forTN (i := 11) PassesOwn.never rfl (Wr.pe_tup (Wr.pa_cons (Wr.pe_tup (Wr.pa_cons (Wr.pe_op op_pow Wr.pe_int Wr.pe_int) (Wr.pa_cons Wr.pe_int Wr.pa_nil))) (Wr.pa_cons (Wr.pe_LK (.tuple [.int 1, .int 1])) (Wr.pa_cons (Wr.pe_LK (.tuple [.int 0, .int 1])) Wr.pa_nil)))) sc_law.nd rfl (Or.inl rfl)
        (Wr.pss_one (Wr.ps_if (Wr.pt_cmpR op_isnot_bl (Wr.pe_cal Cshows_bound (hr.mono (by decide)) rfl (Wr.pa_cons (Wr.pv 5) (Wr.pa_cons (Wr.pv 3) (Wr.pa_cons (Wr.pv 4) (Wr.pa_cons (Wr.pv 11) (Wr.pa_cons (Wr.pv 10) Wr.pa_nil)))))) Wr.pe_bl (nomark _))
         (Wr.pss_one (Wr.ps_ret Wr.pe_bl))
         Wr.pss_nil))))
       Wr.pss_nil)))))))))))))
   (Wr.pss_one (Wr.ps_ret Wr.pe_bl)))⟩
end
end K65
namespace K65
open PySem PySem.Spec PyProof.Rows L2
noncomputable abbrev s__law_deep : Stmt := top 71
section
variable {P : Program} {w : World} {K : PySem.W.Frag} {mg : Str -> Option Value} {base : Heap}
theorem sc__law_deep : FnScope ["_law_many", "_law_by_list", "_law_thing", "_law_k"] ["_law_many", "_law_by_list"] (defScope s__law_deep) := ⟨rfl, rfl, rfl, by decide +kernel, rfl, by decide +kernel, by decide +kernel⟩
theorem ok__law_deep {f : Addr} {fd : FuncData} (F : Fun K "_law_deep" "_law_deep" s__law_deep f fd) (T : Top mg) : FnOk P w K mg base CX0 1 f fd ["_law_many", "_law_by_list"] spDeepY := by
 refine F.ok sc__law_deep (fun vs H Q E h => ?_) (fun cdv A outer s H vs Q E hr h => ?_)
 ·obtain ⟨m, b, rfl, _⟩ := h
  rfl
 ·obtain ⟨m, b, rfl, hm, k⟩ := h
  refine ⟨_, (pss_cons (ps_set (i := 2) sc__law_deep.nd rfl (Or.inl rfl) pe_str)
   (pss_cons (ps_for PassesOwn.never rfl (pi_range1 rfl T.n_range (pa_cons (pv 0) pa_nil)) (pg_name (i := 3) sc__law_deep.nd rfl (Or.inl rfl))
    (pss_one (ps_set (i := 2) sc__law_deep.nd rfl (Or.inl rfl) (pe_ifExp (pt_val (pv 1)) (pe_lst (pa_cons (pv 2) pa_nil)) (pe_tup (pa_cons (pv 2) pa_nil))))))
   (pss_one (ps_ret (pv 2))))), ?_⟩
  refine ⟨_, rfl, _, rfl, by (first | lia | omega), by (first | lia | omega), ?_⟩
  rw [Int.toNat_natCast]
  refine for_range (n := m) (fun i σ G => ∃ (x : V) (c : Option V) (d : PyData), σ = [some (.int m), some (.bl b), some x, c] /\ Same H G /\ IsY (Nw H) G x d /\ Sz (10 + i) d /\ fewD d = true) ⟨_, none, .str "all", rfl, Same.refl H, .str _, by unfold Sz; decide +kernel, rfl⟩ ?_ ?_
  ·rintro i σ G hi ⟨x, c, d, rfl, sm, yd, hz, hf⟩
   refine ⟨_, rfl, _, rfl, ?_⟩
   refine ite2 (fun _ => ?_) (fun _ => ?_)
   ·refine ⟨_, rfl, by show 1 <= sizeLine; decide, fun l hl => ?_⟩
    exact ⟨_, _, _, rfl, sm.trans (same_upd hl), .lst upd_same (sm.free hl) (.cons (yd.same (same_upd hl)) .nil), (sz_cons1 hz).2.1, rfl⟩
   ·refine ⟨_, rfl, by show 1 <= sizeLine; decide, fun l hl => ?_⟩
    exact ⟨_, _, _, rfl, sm.trans (same_upd hl), .tup upd_same (.cons (yd.same (same_upd hl)) .nil), (sz_cons1 hz).1, rfl⟩
  ·rintro σ G ⟨x, c, d, rfl, sm, yd, hz, hf⟩
   refine ⟨_, rfl, k x d G sm yd ?_ hf⟩
   unfold Sz at hz ⊢
   (first | lia | omega)
set_option maxHeartbeats 8000000 in
theorem ok__law_odd {f : Addr} {fd : FuncData} (F : Fun K "_law_odd" "_law_odd" s__law_odd f fd) (T : Top mg) (TX : TopX mg) (C_law_of : Cal P w K mg base 2 "_law_of" ["_law_pot_here", "_law_some"] spOf2) : FnOk P w K mg base CX0 3 f fd ["_law_pot_here", "_law_thing"] spOddY := by
 refine F.ok sc__law_odd (fun vs H Q E h => ?_) (fun cdv A outer s H vs Q E hr h => ?_)
 ·obtain ⟨p, x, d, rfl, _⟩ := h
  rfl
 ·obtain ⟨p, x, d, rfl, hp, hx, k⟩ := h
  have hu : _ := hr.units
  have hT := (oddT (P := P) (w := w) (base := base) (E := E) (outer := outer) (s := s) (H := H) (f := f) (cdv := cdv) (A := A) hr T TX C_law_of).2
  obtain ⟨hT⟩ := hT
  refine ⟨(oddT (P := P) (w := w) (base := base) (E := E) (outer := outer) (s := s) (H := H) (f := f) (cdv := cdv) (A := A) hr T TX C_law_of).1, by assumption, ?_⟩
  refine fun x1 G1 s1 y1 x2 G2 s2 y2 x3 G3 s3 y3 => ⟨_, rfl, by show 1 <= sizeLine; decide, fun t4 ht4 => ?_⟩
  have s4 := same_upd (o := .tup [x]) ht4
  refine ⟨_, rfl, by show 1 <= sizeLine; decide, fun l5 hl5 => ?_⟩
  have s5 := same_upd (o := .lst [x]) hl5
  refine fun x6 G6 s6 y6 x7 G7 s7 y7 x8 G8 s8 y8 x9 G9 s9 y9 => ⟨by show 15 <= sizeLine; decide, fun L hL => ?_⟩
  have sL := same_upd (o := .lst [.non, .bl true, .bl false, .str "", .str "all", .str "sets", x1, x2, x3, .ref t4, .ref l5, x6, x7, x8, x9]) hL
  have S1 := s1
  have S2 := S1.trans s2
  have S3 := S2.trans s3
  have S4 := S3.trans s4
  have S5 := S4.trans s5
  have S6 := S5.trans s6
  have S7 := S6.trans s7
  have S8 := S7.trans s8
  have S9 := S8.trans s9
  have SL := S9.trans sL
  have d9 := sL
  have d8 := s9.trans d9
  have d7 := s8.trans d8
  have d6 := s7.trans d7
  have d5 := s6.trans d6
  have d4 := s5.trans d5
  have d3 := s4.trans d4
  have d2 := s3.trans d3
  have d1 := s2.trans d2
  have hsz := hx.few
  have A1 : ∀ v ∈ [V.non, .bl true, .bl false, .str "", .str "all", .str "sets", x1, x2, x3, .ref t4, .ref l5, x6, x7, x8, x9], OdY H (upd G9 L (.lst [.non, .bl true, .bl false, .str "", .str "all", .str "sets", x1, x2, x3, .ref t4, .ref l5, x6, x7, x8, x9])) v := by
   intro v hv
   simp only [List.mem_cons, List.not_mem_nil, or_false] at hv
   rcases hv with rfl | rfl | rfl | rfl | rfl | rfl | rfl | rfl | rfl | rfl | rfl | rfl | rfl | rfl | rfl
   ·exact ⟨_, .non, by unfold Sz; decide +kernel, rfl⟩
   ·exact ⟨_, .bl true, by unfold Sz; decide +kernel, rfl⟩
   ·exact ⟨_, .bl false, by unfold Sz; decide +kernel, rfl⟩
   ·exact ⟨_, .str _, by unfold Sz; decide +kernel, rfl⟩
   ·exact ⟨_, .str _, by unfold Sz; decide +kernel, rfl⟩
   ·exact ⟨_, .str _, by unfold Sz; decide +kernel, rfl⟩
   ·exact ⟨_, (y1.same d1).nw (Same.refl H), by unfold Sz; decide +kernel, rfl⟩
   ·exact ⟨_, (y2.same d2).nw S1, by unfold Sz; decide +kernel, rfl⟩
   ·exact ⟨_, (y3.same d3).nw S2, by unfold Sz; decide +kernel, rfl⟩
   ·refine ⟨.tuple [d], .tup (d4 _ _ upd_same) (.cons (hx.is.no.same SL) .nil), ?_, rfl⟩
    have := (sz_cons1 hsz).1
    unfold Sz at this ⊢
    (first | lia | omega)
   ·refine ⟨.list [d], .lst (d5 _ _ upd_same) (S4.free hl5) (.cons (hx.is.no.same SL) .nil), ?_, rfl⟩
    have := (sz_cons1 hsz).2.1
    unfold Sz at this ⊢
    (first | lia | omega)
   ·exact ⟨_, (y6.same d6).nw S5, by unfold Sz; decide +kernel, rfl⟩
   ·exact ⟨_, (y7.same d7).nw S6, by unfold Sz; decide +kernel, rfl⟩
   ·exact ⟨_, (y8.same d8).nw S7, by unfold Sz; decide +kernel, rfl⟩
   ·exact ⟨_, (y9.same d9).nw S8, by unfold Sz; decide +kernel, rfl⟩
  have hLL := @upd_same G9 L (.lst [.non, .bl true, .bl false, .str "", .str "all", .str "sets", x1, x2, x3, .ref t4, .ref l5, x6, x7, x8, x9])
  generalize hxs : [V.non, .bl true, .bl false, .str "", .str "all", .str "sets", x1, x2, x3, .ref t4, .ref l5, x6, x7, x8, x9] = xs1 at A1 hLL SL ⊢
  have hx1l : xs1.length = 15 := by rw [<- hxs]; rfl
  generalize upd G9 L (.lst xs1) = GL at A1 hLL SL ⊢
  clear hxs d1 d2 d3 d4 d5 d6 d7 d8 d9 y1 y2 y3 y6 y7 y8 y9 S1 S2 S3 S4 S5 S6 S7 S8 S9 s1 s2 s3 s4 s5 s6 s7 s8 s9 sL hL ht4 hl5
  refine ⟨_, rfl, fun x1 G1 s1 y1 x2 G2 s2 y2 x3 G3 s3 y3 x4 G4 s4 y4 x5 G5 s5 y5 x6 G6 s6 y6 x7 G7 s7 y7 => ?_⟩
  have S7 := s1.trans (s2.trans (s3.trans (s4.trans (s5.trans (s6.trans s7)))))
  refine ⟨_, rfl, x, d, rfl, hx.is.same (SL.trans S7), hx.kind, hx.nod, hx.shw, fun dd hdd => ?_⟩
  have s8 := same_upd (o := .dK []) hdd
  refine ⟨_, rfl, upd_same, ?_⟩
  have s9 : Same G7 (upd (upd G7 dd (.dK [])) dd (.dK [(.inl 0, x)])) := same_updR s8 hdd
  have h9 := @upd_same (upd G7 dd (.dK [])) dd (.dK [(.inl 0, x)])
  generalize upd (upd G7 dd (.dK [])) dd (.dK [(.inl 0, x)]) = G9 at s9 h9 ⊢
  refine ⟨by show 9 <= sizeLine; decide, fun L2 hL2 => ?_⟩
  have sL := same_upd (o := .lst [x1, x2, x3, x4, x5, x6, x7, .str (strD d), .ref dd]) hL2
  have q7 := s9.trans sL
  have q6 := s7.trans q7
  have q5 := s6.trans q6
  have q4 := s5.trans q5
  have q3 := s4.trans q4
  have q2 := s3.trans q3
  have q1 := s2.trans q2
  have SA := S7.trans (s9.trans sL)
  have R1 := SL
  have R2 := R1.trans s1
  have R3 := R2.trans s2
  have R4 := R3.trans s3
  have R5 := R4.trans s4
  have R6 := R5.trans s5
  have R7 := R6.trans s6
  have A2 : ∀ v ∈ [x1, x2, x3, x4, x5, x6, x7, .str (strD d), .ref dd], OdY H (upd G9 L2 (.lst [x1, x2, x3, x4, x5, x6, x7, .str (strD d), .ref dd])) v := by
   intro v hv
   simp only [List.mem_cons, List.not_mem_nil, or_false] at hv
   rcases hv with rfl | rfl | rfl | rfl | rfl | rfl | rfl | rfl | rfl
   ·exact ⟨_, (y1.same q1).nw R1, by unfold Sz; decide +kernel, rfl⟩
   ·exact ⟨_, (y2.same q2).nw R2, by unfold Sz; decide +kernel, rfl⟩
   ·exact ⟨_, (y3.same q3).nw R3, by unfold Sz; decide +kernel, rfl⟩
   ·exact ⟨_, (y4.same q4).nw R4, by unfold Sz; decide +kernel, rfl⟩
   ·exact ⟨_, (y5.same q5).nw R5, by unfold Sz; decide +kernel, rfl⟩
   ·exact ⟨_, (y6.same q6).nw R6, by unfold Sz; decide +kernel, rfl⟩
   ·exact ⟨_, (y7.same q7).nw R7, by unfold Sz; decide +kernel, rfl⟩
   ·refine ⟨.str (strD d), .str _, ?_, rfl⟩
    have := hx.txt
    unfold Sz at this ⊢
    (first | lia | omega)
   ·refine ⟨.dict [(.int 0, d)], .d1 (k := .inl 0) (sL _ _ h9) (hx.is.no.same (SL.trans SA)), ?_, rfl⟩
    have := (sz_cons1 hsz).2.2
    unfold Sz at this ⊢
    (first | lia | omega)
  have hL2' := @upd_same G9 L2 (.lst [x1, x2, x3, x4, x5, x6, x7, .str (strD d), .ref dd])
  generalize hxs : [x1, x2, x3, x4, x5, x6, x7, .str (strD d), .ref dd] = xs2 at A2 hL2' sL SA ⊢
  have hx2l : xs2.length = 9 := by rw [<- hxs]; rfl
  refine ⟨L, L2, _, _, rfl, rfl, SA _ _ hLL, hL2', ?_, fun M hM => ?_⟩
  ·rw [hx1l, hx2l]; decide
  have sM := same_upd (o := .lst (xs1 ++ xs2)) hM
  have ST := SL.trans (SA.trans sM)
  have hpM : M ≠ p := fun e => by
   obtain ⟨_, _, hpp, _⟩ := hp.same (SL.trans SA)
   rw [e, hpp] at hM
   cases hM
  refine ⟨_, rfl, _, rfl, p, M, xs1 ++ xs2, rfl, upd_same, hpM, ?_, ?_, hp.same ST, fun v hv G hpG kG => ?_⟩
  ·rw [List.length_append]; (first | lia | omega)
  ·rw [List.length_append, hx1l, hx2l]; decide
  ·obtain ⟨e, ye, r⟩ : OdY H (upd (upd G9 L2 (.lst xs2)) M (.lst (xs1 ++ xs2))) v := by
    rcases List.mem_append.mp hv with hv | hv
    ·exact (A1 v hv).same (SA.trans sM)
    ·exact (A2 v hv).same sM
   obtain ⟨_, _, hpp, _⟩ := hp.same ST
   refine k v G hpG (ST.keep.trans kG) ⟨e, ye.keep kG hpp hpp fun a ha => ?_, r⟩
   obtain ⟨_, _, hp0, _⟩ := id hp
   have : a ≠ p := fun z => by rw [z] at ha; unfold Nw at ha; rw [hp0] at ha; cases ha
   exact ⟨this, this⟩
end
end K65
namespace L2
open PySem PySem.Spec PyProof.Rows
mutual
theorem IsY.live {S : Addr -> Prop} {H : Hp} : ∀ {v : V} {d : PyData}, IsY S H v d -> IsY (fun a => S a /\ H a ≠ none) H v d
 | _, _, .non => .non
 | _, _, .bl b => .bl b
 | _, _, .int i => .int i
 | _, _, .str x => .str x
 | _, _, .tup e al => .tup e (IsAllY.live al)
 | _, _, .lst e s al => .lst e ⟨s, fun z => by rw [e] at z; cases z⟩ (IsAllY.live al)
 | _, _, .d0 e => .d0 e
 | _, _, .d1 e al => .d1 e (IsY.live al)
theorem IsAllY.live {S : Addr -> Prop} {H : Hp} : ∀ {v : List V} {d : List PyData}, IsAllY S H v d -> IsAllY (fun a => S a /\ H a ≠ none) H v d
 | _, _, .nil => .nil
 | _, _, .cons h t => .cons (IsY.live h) (IsAllY.live t)
end
theorem IsAllY.take {S : Addr -> Prop} {H : Hp} : ∀ {v : List V} {d : List PyData} (n : Nat), IsAllY S H v d -> IsAllY S H (v.take n) (d.take n)
 | _, _, 0, _ => by rw [List.take_zero, List.take_zero]; exact .nil
 | _, _, n + 1, .nil => .nil
 | _, _, n + 1, .cons a t => by rw [List.take_succ_cons, List.take_succ_cons]; exact .cons a (IsAllY.take n t)
theorem IsAllY.drop {S : Addr -> Prop} {H : Hp} : ∀ {v : List V} {d : List PyData} (n : Nat), IsAllY S H v d -> IsAllY S H (v.drop n) (d.drop n)
 | _, _, 0, h => by rw [List.drop_zero, List.drop_zero]; exact h
 | _, _, n + 1, .nil => .nil
 | _, _, n + 1, .cons a t => by rw [List.drop_succ_cons, List.drop_succ_cons]; exact IsAllY.drop n t
theorem cutToU (xs : List V) (k : Nat) : cutV xs none (some (k : Int)) = xs.take k := by
 unfold cutV
 rw [HT.sIx_nat, HT.sIx_none, List.drop_zero, Nat.sub_zero]
 by_cases h : k <= xs.length
 ·rw [Nat.min_eq_left h]
 ·rw [Nat.min_eq_right (by (first | lia | omega)), List.take_length, List.take_of_length_le (by (first | lia | omega))]
theorem cutFromU (xs : List V) (k : Nat) : cutV xs (some (k : Int)) none = xs.drop k := by
 unfold cutV
 rw [HT.sIx_nat, HT.sIx_none]
 by_cases h : k <= xs.length
 ·rw [Nat.min_eq_left h, List.take_of_length_le (by simp)]
 ·rw [Nat.min_eq_right (by (first | lia | omega)), List.drop_of_length_le (Nat.le_refl _), List.drop_of_length_le (by (first | lia | omega)), List.take_nil]
theorem cutTo_neU {n k : Nat} (h : k < n) : ¬(HT.sIx n 0 none = 0 /\ HT.sIx n n (some (k : Int)) = n) := fun z => by
 have := z.2
 rw [HT.sIx_nat] at this
 (first | lia | omega)
theorem cutFrom_neU {n k : Nat} {hi : Option Int} {m : Nat} (h : 0 < n) (hk : 0 < k) : ¬(HT.sIx n 0 (some (k : Int)) = 0 /\ HT.sIx n n hi = m) := fun z => by
 have := z.1
 rw [HT.sIx_nat] at this
 (first | lia | omega)
theorem bulk_app : ∀ a b : List PyData, PyData.bulkAll (a ++ b) = PyData.bulkAll a + PyData.bulkAll b
 | [], b => by rw [List.nil_append]; simp [PyData.bulkAll]
 | x :: a, b => by
  rw [List.cons_append]
  simp only [PyData.bulkAll]
  rw [bulk_app a b]; (first | lia | omega)
theorem bulk_td (ds : List PyData) (i : Nat) : PyData.bulkAll (ds.take i) + PyData.bulkAll (ds.drop (i + 1)) <= PyData.bulkAll ds := by
 have h := bulk_app (ds.take i) (ds.drop i)
 rw [List.take_append_drop] at h
 have h2 : PyData.bulkAll (ds.drop (i + 1)) <= PyData.bulkAll (ds.drop i) := by
  cases e : ds.drop i with
  | nil => rw [<- List.drop_drop, e]; simp
  | cons x t =>
   have : ds.drop (i + 1) = t := by rw [<- List.drop_drop, e]; rfl
   rw [this]
   simp only [PyData.bulkAll]; (first | lia | omega)
 (first | lia | omega)
theorem sh_digits {n : Int} {k : Nat} (h : Sm n k) (hk : k <= 600) : n.natAbs < 10 ^ 181 := by
 have h1 := (h.mono hk).lt
 exact Nat.lt_trans h1 (by decide +kernel)
theorem leaf_int {n : Int} {k : Nat} (h : Sm n k) (hk : k <= 600) : (PyData.int n).leavesShort 185 = true /\ Shw n := by
 have h1 := sh_digits h hk
 constructor
 ·simp only [PyData.leavesShort, decide_eq_true_eq]
  have := int_text_length_le10 (a := n) (k := 181) (by decide) h1
  have e : (PyData.shown (.int n)).length <= 182 := by
   refine Nat.le_trans (Nat.le_of_eq ?_) this
   exact PySem.ofString_length _
  (first | lia | omega)
 ·exact shw_abs (Nat.lt_trans (h.mono hk).lt (by decide +kernel))
theorem part_int {H : Hp} {v : V} {n : Int} {k : Nat} (h : IsY NoS H v (.int n)) (hn : Sm n k) (hk : k <= 600) : PartY H v (.int n) := by
 obtain ⟨h1, h2⟩ := leaf_int hn hk
 refine ⟨h, .inr (.inl ⟨n, rfl⟩), rfl, (OkD.int (m := 1) (k := 1) h2).shows (by decide) (by decide), Nat.zero_le _, ?_⟩
 have := PyData.shown_le_bulk 185 (by decide) (.int n) h1
 unfold Sz
 show (PyData.shown (.int n)).cps.size <= 600
 have e : (PyData.int n).bulk = 0 := rfl
 rw [e] at this
 exact Nat.le_trans this (by decide)
theorem part_sh {H : Hp} {v : V} {p : Int × Int} (h : IsY NoS H v (shD p)) (hp : ShB p 600) : PartY H v (shD p) := by
 obtain ⟨a1, a2⟩ := leaf_int hp.s1 (Nat.le_refl _)
 obtain ⟨b1, b2⟩ := leaf_int hp.s2 (Nat.le_refl _)
 refine ⟨h, .inr (.inr ⟨_, rfl⟩), rfl, ?_, ?_, ?_⟩
 ·exact ((OkDs.cons (m := 0) (OkD.int a2) (OkDs.cons (m := 0) (OkD.int b2) (OkDs.nil (m := 0) (k := 1)))).tup).shows (by decide) (by decide)
 ·unfold Sz shD
  simp only [PyData.bulk, PyData.bulkAll]; (first | lia | omega)
 ·have hl : (shD p).leavesShort 185 = true := by
   unfold shD
   simp only [PyData.leavesShort, PyData.leavesShortAll] at a1 b1 ⊢
   rw [a1, b1]; rfl
  have := PyData.shown_le_bulk 185 (by decide) (shD p) hl
  unfold Sz
  show (shD p).shown.cps.size <= 600
  have e : (shD p).bulk = 2 := by unfold shD; simp only [PyData.bulk, PyData.bulkAll]
  rw [e] at this
  have : (shD p).shown.cps.size <= 187 * 2 + 185 := this
  (first | lia | omega)
theorem part_str {H : Hp} {v : V} {t : Str} (h : IsY NoS H v (.str t)) (ht : t = "groups" ∨ t = "sets" ∨ t = "spread" ∨ t = "all") : PartY H v (.str t) := by
 rcases ht with rfl | rfl | rfl | rfl
 ·exact ⟨h, .inl ⟨_, rfl⟩, rfl, ⟨by decide +kernel, by decide +kernel, by decide +kernel⟩, by unfold Sz; decide +kernel, by unfold Sz; decide +kernel⟩
 ·exact ⟨h, .inl ⟨_, rfl⟩, rfl, ⟨by decide +kernel, by decide +kernel, by decide +kernel⟩, by unfold Sz; decide +kernel, by unfold Sz; decide +kernel⟩
 ·exact ⟨h, .inl ⟨_, rfl⟩, rfl, ⟨by decide +kernel, by decide +kernel, by decide +kernel⟩, by unfold Sz; decide +kernel, by unfold Sz; decide +kernel⟩
 ·exact ⟨h, .inl ⟨_, rfl⟩, rfl, ⟨by decide +kernel, by decide +kernel, by decide +kernel⟩, by unfold Sz; decide +kernel, by unfold Sz; decide +kernel⟩
theorem part_of {K : PySem.W.Frag} {kind : Str} {N k : Nat} {H : Hp} {z : Addr} {us : List V} {ds : List PyData} (hN : N <= 60) (hk : k <= 60) (h : PapK K kind N k H z us ds) {i : Nat} {v : V} (hv : us[i]? = some v) : ∃ d, ds[i]? = some d /\ PartY H v d := by
 obtain ⟨h1, al, hd⟩ := h
 obtain ⟨d, hdi, yd⟩ := al.at hv
 obtain ⟨n0, n1⟩ := le60 hN
 refine ⟨d, hdi, ?_⟩
 have hm := List.mem_of_getElem? hdi
 rcases hd with rfl | rfl
 ·unfold paL at hm
  split at hm
  ·simp only [List.mem_cons, List.not_mem_nil, or_false] at hm
   rcases hm with rfl | rfl
   ·exact part_str yd (.inl rfl)
   ·have := fig_le n0 n1
    exact part_int yd (Sm.of (show (figZ N).natAbs < 2 ^ 7 by (first | lia | omega))) (by decide)
  ·split at hm
   ·simp only [List.mem_cons, List.not_mem_nil, or_false] at hm
    rcases hm with rfl | rfl | rfl
    ·exact part_str yd (.inr (.inl rfl))
    ·exact part_int yd (sZ_sm60 hN hk) (by decide)
    ·exact part_sh yd ((ea_sh hN hk).mono (by decide))
   ·simp only [List.mem_cons, List.not_mem_nil, or_false] at hm
    rcases hm with rfl | rfl | rfl
    ·exact part_str yd (.inr (.inr (.inl rfl)))
    ·exact part_sh yd (mn_sh n0 n1)
    ·exact part_sh yd (sd_sh n0 n1)
 ·rw [List.mem_singleton.mp hm] at yd ⊢
  exact part_str yd (.inr (.inr (.inr rfl)))
theorem okP_set {kind : Str} {N k i : Nat} {ds : List PyData} {e : PyData} (hd : ds = paL kind N k ∨ ds = [.str "all"]) (hi : i < ds.length) (he : whD e = false) (h : okP kind N k (.tuple (ds.take i ++ [e] ++ ds.drop (i + 1)))) : PyData.tuple (ds.take i ++ [e] ++ ds.drop (i + 1)) = .tuple ds := by
 obtain ⟨es, e1, hl, h0, hL⟩ := h
 injection e1 with e1
 subst e1
 have hlen : ∀ {l : List PyData}, 2 <= (paL kind N k).length := by
  intro l
  unfold paL
  split
  ·show 2 <= 2; decide
  ·split <;> (show 2 <= 3; decide)
 rcases hd with rfl | rfl
 ·congr 1
  unfold okL at hL
  by_cases hg : kind = "rounds" ∨ kind = "highs"
  ·rw [if_pos hg] at hL
   obtain ⟨n, hn, _⟩ := hL
   have ep : paL kind N k = [.str "groups", .int (figZ N)] := by unfold paL; rw [if_pos hg]
   have ew : wordZ kind = "groups" := by unfold wordZ; rw [if_pos hg]
   rw [ep] at hi h0 hn ⊢
   rw [ew] at h0
   match i, hi with
   | 0, _ =>
    have : e = .str "groups" := by simpa using h0
    rw [this]; rfl
   | 1, _ =>
    have : e = .int n := by simpa using hn
    rw [this] at he
    cases he
  ·rw [if_neg hg] at hL
   obtain ⟨p1, p2⟩ := hL
   have ep : ∃ a b, paL kind N k = [.str (wordZ kind), a, b] := by
    unfold paL wordZ
    rw [if_neg hg, if_neg hg]
    split
    ·exact ⟨_, _, rfl⟩
    ·exact ⟨_, _, rfl⟩
   obtain ⟨a, b, ep⟩ := ep
   rw [ep] at hi h0 p1 p2 ⊢
   match i, hi with
   | 0, _ =>
    have : e = .str (wordZ kind) := by simpa using h0
    rw [this]; rfl
   | 1, _ =>
    have : e = a := by simpa using p1
    rw [this]; rfl
   | 2, _ =>
    have : e = b := by simpa using p2
    rw [this]; rfl
 ·have hi0 : i = 0 := by simpa using hi
  subst hi0
  have := hlen (l := [])
  simp at hl
  (first | lia | omega)
theorem okP_few {kind : Str} {N k : Nat} {d : PyData} (h : fewD d = true) : ¬okP kind N k d := by
 rintro ⟨ds, rfl, hl, _⟩
 have hlen : 2 <= (paL kind N k).length := by
  unfold paL
  split
  ·show 2 <= 2; decide
  ·split <;> (show 2 <= 3; decide)
 match ds, h with
 | [], _ => simp at hl; (first | lia | omega)
 | [_], _ => simp at hl; (first | lia | omega)
theorem okP_all {kind : Str} {N k : Nat} {r : List PyData} : ¬okP kind N k (.tuple (.str "all" :: r)) := by
 rintro ⟨ds, e, _, h0, _⟩
 injection e with e
 subst e
 have : (Str.ofString "all") = wordZ kind := by simpa using h0
 unfold wordZ at this
 split at this
 ·exact absurd this (by decide)
 ·split at this
  ·exact absurd this (by decide)
  ·exact absurd this (by decide)
noncomputable def ThP (kind : Str) (N k : Nat) (ds : List PyData) (p L : Addr) (H : Hp) (x : V) : Prop := ∃ S d, IsY S H x d /\ (∀ a, S a -> a ≠ p /\ a ≠ L) /\ Sz 900 d /\ (∀ es n, d = .tuple es -> es[1]? = some (.int n) -> Sm n 200) /\ (okP kind N k d -> d = .tuple ds)
theorem ThP.same {kind : Str} {N k : Nat} {ds : List PyData} {p L : Addr} {H H' : Hp} {x : V} (h : ThP kind N k ds p L H x) (s : Same H H') : ThP kind N k ds p L H' x := by
 obtain ⟨S, d, y, r⟩ := h
 exact ⟨S, d, y.same s, r⟩
theorem ThP.keep {kind : Str} {N k : Nat} {ds : List PyData} {p L : Addr} {H H' : Hp} {x : V} {ps ls : List V} (h : ThP kind N k ds p L H x) (kk : Keep p L H H') (hp : H p = some (.lst ps)) (hL : H L = some (.lst ls)) : ThP kind N k ds p L H' x := by
 obtain ⟨S, d, y, hS, r⟩ := h
 exact ⟨S, d, y.keep kk hp hL hS, hS, r⟩
theorem ThP.put {kind : Str} {N k : Nat} {ds : List PyData} {p L : Addr} {H : Hp} {x : V} (h : ThP kind N k ds p p H x) (hL : H L = none) : ThP kind N k ds p L H x := by
 obtain ⟨S, d, y, hS, r⟩ := h
 exact ⟨_, d, y.live, fun a z => ⟨(hS a z.1).1, fun e => z.2 (e ▸ hL)⟩, r⟩
theorem ThP.few {kind : Str} {N k : Nat} {ds : List PyData} {p : Addr} {H : Hp} {x : V} {S : Addr -> Prop} {d : PyData} (y : IsY S H x d) (hS : ∀ a, S a -> a ≠ p) (hz : Sz 900 d) (hf : fewD d = true) : ThP kind N k ds p p H x :=
 ⟨S, d, y, fun a z => ⟨hS a z, hS a z⟩, hz, fun es n e h => (by subst e; match es, hf, h with | [], _, h => simp at h | [_], _, h => simp at h), fun z => absurd z (okP_few hf)⟩
theorem PapK.mapT {K : PySem.W.Frag} {kind : Str} {N k : Nat} {H H' : Hp} {z : Addr} {us : List V} {ds : List PyData} {p L : Addr} {ps ls : List V} (h : PapK K kind N k H z us ds) (kk : Keep p L H H') (hp : H p = some (.lst ps)) (hL : H L = some (.lst ls)) : PapK K kind N k H' z us ds := by
 obtain ⟨h1, al, hd⟩ := h
 refine ⟨?_, IsAllY.map (fun _ z => z) (fun a xs e => kk a _ e (ne_of e hp (by intro z; cases z)) (ne_of e hL (by intro z; cases z))) (fun a xs s _ => s.elim) (fun a xs e => kk a _ e (ne_of e hp (by intro z; cases z)) (ne_of e hL (by intro z; cases z))) al, hd⟩
 rcases h1 with (h | ⟨o, h⟩) | h
 ·exact .inl (.inl (kk _ _ h (ne_of h hp (by intro z; cases z)) (ne_of h hL (by intro z; cases z))))
 ·exact .inl (.inr ⟨o, kk _ _ h (ne_of h hp (by intro z; cases z)) (ne_of h hL (by intro z; cases z))⟩)
 ·exact .inr h
theorem PapK.same {K : PySem.W.Frag} {kind : Str} {N k : Nat} {H H' : Hp} {z : Addr} {us : List V} {ds : List PyData} (h : PapK K kind N k H z us ds) (s : Same H H') : PapK K kind N k H' z us ds := ⟨s.seqT h.1, h.2.1.same s, h.2.2⟩
theorem pap_sz {K : PySem.W.Frag} {kind : Str} {N k : Nat} {H : Hp} {z : Addr} {us : List V} {ds : List PyData} (h : PapK K kind N k H z us ds) : Sz 50 (.tuple ds) := by
 have g1 : (Str.ofString "groups").cps.size <= 10 := by decide
 have g2 : (Str.ofString "sets").cps.size <= 10 := by decide
 have g3 : (Str.ofString "spread").cps.size <= 10 := by decide
 have g4 : (Str.ofString "all").cps.size <= 10 := by decide
 rcases h.2.2 with rfl | rfl
 ·unfold Sz paL shD
  split
  ·simp only [PyData.bulk, PyData.bulkAll]; (first | lia | omega)
  ·split <;> (simp only [PyData.bulk, PyData.bulkAll]; (first | lia | omega))
 ·unfold Sz
  simp only [PyData.bulk, PyData.bulkAll]; (first | lia | omega)
theorem pap_int {K : PySem.W.Frag} {kind : Str} {N k : Nat} {H : Hp} {z : Addr} {us : List V} {ds : List PyData} (hN : N <= 60) (hk : k <= 60) (h : PapK K kind N k H z us ds) {n : Int} (hn : ds[1]? = some (.int n)) : Sm n 200 := by
 rcases h.2.2 with rfl | rfl
 ·exact pa_int hN hk rfl hn
 ·simp at hn
theorem set_cutU {α : Type} : ∀ (xs : List α) (k : Nat) (x : α), k < xs.length -> xs.take k ++ [x] ++ xs.drop (k + 1) = xs.set k x
 | [], _, _, h => by simp at h
 | y :: ys, 0, x, _ => rfl
 | y :: ys, k + 1, x, h => by
  rw [List.take_succ_cons, List.drop_succ_cons, List.set_cons_succ, <- set_cutU ys k x (by simpa using h)]
  rfl
theorem set_int {ds : List PyData} {i : Nat} {e : PyData} (he : whD e = false) (hi : i < ds.length) {n : Int} (h : (ds.take i ++ [e] ++ ds.drop (i + 1))[1]? = some (.int n)) : ds[1]? = some (.int n) := by
  rw [set_cutU ds i e hi, List.getElem?_set] at h
  split at h
  · first
    | (cases h; cases he)
    | (split at h
       · cases h
         cases he
       · cases h)
  · exact h
theorem pap_len {K : PySem.W.Frag} {kind : Str} {N k : Nat} {H : Hp} {z : Addr} {us : List V} {ds : List PyData} (h : PapK K kind N k H z us ds) : us.length = ds.length /\ 0 < us.length /\ us.length <= 3 := by
 have e := h.2.1.len
 refine ⟨e, ?_⟩
 rw [e]
 rcases h.2.2 with rfl | rfl
 ·unfold paL
  split
  ·exact ⟨by show 0 < 2; decide, by show 2 <= 3; decide⟩
  ·split <;> exact ⟨by show 0 < 3; decide, by show 3 <= 3; decide⟩
 ·exact ⟨by decide, by decide⟩
theorem Keep.ofp {p L : Addr} {H H' : Hp} (k : Keep p p H H') : Keep p L H H' := fun b o h h1 _ => k b o h h1 h1
theorem Keep.updL {p L : Addr} {H H' : Hp} {o : HO} (k : Keep p L H H') : Keep p L H (upd H' L o) := fun b o' h h1 h2 => by
 rw [upd_ne h2]
 exact k b o' h h1 h2
end L2
namespace K65
open PySem PySem.Spec PyProof.Rows L2
noncomputable def spLaw (K : PySem.W.Frag) : Sp := fun vs H Q _ => ∃ (a : Addr) (ns : List Int), vs = [.ref a] /\ SqL K H a (ns.map V.int) /\ ns.length <= 63 /\ ∀ H', Q (.bl true) H'
noncomputable def kindsV : List V := [.str "rounds", .str "stays", .str "rises", .str "highs", .str "crossed", .str "longest"]
section
variable {P : Program} {w : World} {K : PySem.W.Frag} {mg : Str -> Option Value} {base : Heap}
set_option maxHeartbeats 16000000 in
theorem ok_law {f : Addr} {fd : FuncData} (F : Fun K "law" "law" s_law f fd) (T : Top mg) (C_law_pot : Cal P w K mg base 1 "_law_pot" ["_law_script", "_law_k"] (spPot2 K)) (C_law_next : Cal P w K mg base 1 "_law_next" ["_law_pot_here", "_law_many"] spNext2) (Cbound_paper : Cal P w K mg base 8 "bound_paper" ["kind", "many", "number"] (spBPap K)) (C_law_deep : Cal P w K mg base 1 "_law_deep" ["_law_many", "_law_by_list"] spDeepY) (C_law_odd : Cal P w K mg base 3 "_law_odd" ["_law_pot_here", "_law_thing"] spOddY) (C_law_same : Cal P w K mg base 3 "_law_same" ["_law_one", "_law_two"] (spSameY K 2)) (Cshows_bound : Cal P w K mg base 7 "shows_bound" ["kind", "many", "number", "bound", "thing"] spShows) :
  FnOk P w K mg base CX0 9 f fd ["_law_script"] (spLaw K) := by
 refine F.ok sc_law (fun vs H Q E h => ?_) (fun cdv A outer s H vs Q E hr h => ?_)
 ·obtain ⟨a, ns, rfl, _⟩ := h
  rfl
 ·obtain ⟨a, ns, rfl, hS, hl, k⟩ := h
  have hT := (lawT (P := P) (w := w) (base := base) (E := E) (outer := outer) (s := s) (H := H) (f := f) (cdv := cdv) (A := A) hr T C_law_pot C_law_next Cbound_paper C_law_deep C_law_odd C_law_same Cshows_bound).2
  obtain ⟨hT⟩ := hT
  refine ⟨(lawT (P := P) (w := w) (base := base) (E := E) (outer := outer) (s := s) (H := H) (f := f) (cdv := cdv) (A := A) hr T C_law_pot C_law_next Cbound_paper C_law_deep C_law_odd C_law_same Cshows_bound).1, by assumption, ?_⟩
  refine ⟨_, rfl, a, _, rfl, .inl hS, _, _, rfl, _, _, rfl, _, rfl, ?_⟩
  rw [mapI_len]
  have hj : ∃ n : Nat, n <= 10 /\ (if (if (6 : Int) < (ns.length : Int) then (6 : Int) else (ns.length : Int)) > 1 then (if (6 : Int) < (ns.length : Int) then (6 : Int) else (ns.length : Int)) else 1) = (n : Int) := by
   refine ⟨(if (if (6 : Int) < (ns.length : Int) then (6 : Int) else (ns.length : Int)) > 1 then (if (6 : Int) < (ns.length : Int) then (6 : Int) else (ns.length : Int)) else 1).toNat, ?_, ?_⟩
   ·split <;> split at * <;> (first | lia | omega)
   ·split <;> split at * <;> (first | lia | omega)
  obtain ⟨n, hn, en⟩ := hj
  rw [en]
  refine ⟨by (first | lia | omega), by (first | lia | omega), ?_⟩
  rw [Int.toNat_natCast]
  refine for_range (fun i σ H2 => ∃ (c1 c2 c3 c4 c5 c6 c7 c8 c9 c10 c11 : Option V), σ = [some (.ref a), c1, c2, c3, c4, c5, c6, c7, c8, c9, c10, c11] /\ Same H H2) ?_ ?_ ?_
  ·exact ⟨none, none, none, none, none, none, none, none, none, none, none, rfl, Same.refl H⟩
  ·rintro i σ H2 hi ⟨c1, c2, c3, c4, c5, c6, c7, c8, c9, c10, c11, rfl, sm⟩
   refine ⟨_, rfl, _, rfl, a, ns, _, rfl, sm.seq hS, by (first | lia | omega), by (first | lia | omega), fun p H3 s3 hp hp0 => ?_⟩
   have hnp : ∀ {b : Addr} {o : HO}, H b = some o -> b ≠ p := fun {b} {o} hb e => by
    rw [e] at hb
    rw [sm _ _ hb] at hp0
    cases hp0
   have KS : ∀ {G G' : Hp}, Same H G -> Keep p p G G' -> Same H G' := fun s' k' b o hb => k' b o (s' _ _ hb) (hnp hb) (hnp hb)
   refine ⟨_, rfl, p, 61, rfl, by decide, by decide, hp, fun d1 H4 d10 d11 hp4 kp4 => ?_⟩
   refine ⟨_, rfl, p, 61, rfl, by decide, by decide, hp4, fun d2 H5 d20 d21 hp5 kp5 => ⟨_, _, rfl, ?_⟩⟩
   have S5 : Same H H5 := KS (KS (sm.trans s3) kp4) kp5
   obtain ⟨N, rfl⟩ : ∃ N : Nat, d1 = (N : Int) := ⟨d1.toNat, by (first | lia | omega)⟩
   obtain ⟨nn, rfl⟩ : ∃ N : Nat, d2 = (N : Int) := ⟨d2.toNat, by (first | lia | omega)⟩
   have hN : N <= 60 := by (first | lia | omega)
   have hnn : nn <= 60 := by (first | lia | omega)
   intro xk Gk sk yk
   obtain ⟨lk, rfl, hlk⟩ : ∃ lk, xk = .ref lk /\ Gk lk = some (.lst kindsV) := by
    cases yk with
    | lst e _ al =>
     refine ⟨_, rfl, ?_⟩
     rw [e]
     cases al with
     | cons a1 t => cases t with
      | cons a2 t => cases t with
       | cons a3 t => cases t with
        | cons a4 t => cases t with
         | cons a5 t => cases t with
          | cons a6 t =>
           cases t
           cases a1; cases a2; cases a3; cases a4; cases a5; cases a6
           rfl
   have hpk := hp5.same sk
   have Sk := S5.trans sk
   clear yk hp4 hp kp4 kp5 sk
   refine ⟨lk, rfl, ⟨_, SqL.of hlk⟩, ?_⟩
   refine for_list (K := K) (a := lk) (xs := kindsV) (fun j σ G => ∃ (c5 c6 c7 c8 c9 c10 c11 : Option V), σ = [some (.ref a), some (.int (0 + (i : Int))), some (.ref p), some (.int N), some (.int nn), c5, c6, c7, c8, c9, c10, c11] /\ Same H G /\ Pot2 G p /\ G lk = some (.lst kindsV)) ⟨_, _, _, _, _, _, _, rfl, Sk, hpk, hlk⟩ (fun j σ G hj ⟨c5, c6, c7, c8, c9, c10, c11, _, _, _, h⟩ => SqL.of h) ?_ ?_
   ·rintro j x σ G hx ⟨c5, c6, c7, c8, c9, c10, c11, rfl, SG, hpG, hlG⟩
    obtain ⟨kd, rfl, hkd⟩ : ∃ kd : Str, x = .str kd /\ kd ∈ kinds6S := by
     have := List.mem_of_getElem? hx
     simp only [kindsV, List.mem_cons, List.not_mem_nil, or_false] at this
     rcases this with rfl | rfl | rfl | rfl | rfl | rfl <;> exact ⟨_, rfl, by simp [kinds6S]⟩
    have hlp : lk ≠ p := fun e => by
     obtain ⟨_, _, q, _⟩ := hpG
     rw [e, q] at hlG
     cases hlG
    refine ⟨_, rfl, _, rfl, _, rfl, kd, N, nn, rfl, hkd, hN, hnn, fun z us ds G1 s1 hP => ?_⟩
    have hp1 := hpG.same s1
    refine fun x1 G2 s2 y1 x2 G3 s3 y2 x3 G4 s4 y3 x4 G5 s5 y4 => ⟨_, rfl, z, us, rfl, .inr ((s2.trans (s3.trans (s4.trans s5))).seqT hP.1), fun l6 hl6 => fun x7 G7 s7 y7 x8 G8 s8 y8 x9 G9 s9 y9 => ⟨by show 13 <= sizeLine; decide, fun L0 hL0 => ?_⟩⟩
    have s6 := same_upd (o := .lst us) hl6
    have sL := same_upd (o := .lst [.non, .bl true, .int 0, .str "all", .str "", x1, x2, x3, x4, .ref l6, x7, x8, x9]) hL0
    have S2 := s2
    have S3 := S2.trans s3
    have S4 := S3.trans s4
    have S5' := S4.trans s5
    have S6 := S5'.trans s6
    have S7 := S6.trans s7
    have S8 := S7.trans s8
    have S9 := S8.trans s9
    have SL := S9.trans sL
    have nwp : ∀ {G' : Hp}, Same G1 G' -> ∀ a', Fr G' a' -> a' ≠ p := fun s' a' ha e => by
     obtain ⟨_, _, q, _⟩ := hp1.same s'
     have := ha.1
     rw [e, q] at this
     cases this
    have noN : ∀ a', NoS a' -> a' ≠ p := fun _ z => z.elim
    have A1 : ∀ v ∈ [V.non, .bl true, .int 0, .str "all", .str "", x1, x2, x3, x4, .ref l6, x7, x8, x9], ThP kd N nn ds p p (upd G9 L0 (.lst [.non, .bl true, .int 0, .str "all", .str "", x1, x2, x3, x4, .ref l6, x7, x8, x9])) v := by
     intro v hv
     simp only [List.mem_cons, List.not_mem_nil, or_false] at hv
     rcases hv with rfl | rfl | rfl | rfl | rfl | rfl | rfl | rfl | rfl | rfl | rfl | rfl | rfl
     ·exact ThP.few (S := NoS) .non noN (by unfold Sz; decide +kernel) rfl
     ·exact ThP.few (S := NoS) (.bl _) noN (by unfold Sz; decide +kernel) rfl
     ·exact ThP.few (S := NoS) (.int _) noN (by unfold Sz; decide +kernel) rfl
     ·exact ThP.few (S := NoS) (.str _) noN (by unfold Sz; decide +kernel) rfl
     ·exact ThP.few (S := NoS) (.str _) noN (by unfold Sz; decide +kernel) rfl
     ·exact ThP.few (y1.same (s3.trans (s4.trans (s5.trans (s6.trans (s7.trans (s8.trans (s9.trans sL)))))))) (nwp (Same.refl _)) (by unfold Sz; decide +kernel) rfl
     ·exact ThP.few (y2.same (s4.trans (s5.trans (s6.trans (s7.trans (s8.trans (s9.trans sL))))))) (nwp S2) (by unfold Sz; decide +kernel) rfl
     ·exact ThP.few (y3.same (s5.trans (s6.trans (s7.trans (s8.trans (s9.trans sL)))))) (nwp S3) (by unfold Sz; decide +kernel) rfl
     ·exact ThP.few (y4.same (s6.trans (s7.trans (s8.trans (s9.trans sL))))) (nwp S4) (by unfold Sz; decide +kernel) rfl
     ·have hl6p : l6 ≠ p := fun e => by
       obtain ⟨_, _, q, _⟩ := hp1.same S5'
       rw [e, q] at hl6
       cases hl6
      refine ThP.few (S := fun a' => a' = l6) (d := .list ds) (.lst ((s7.trans (s8.trans (s9.trans sL))) _ _ upd_same) rfl ((hP.2.1.wide fun _ z => z.elim).same SL)) (fun a' e => e ▸ hl6p) ?_ rfl
      have := pap_sz hP
      unfold Sz at this ⊢
      simp only [PyData.bulk] at this ⊢
      (first | lia | omega)
     ·exact ⟨_, _, y7.same (s8.trans (s9.trans sL)), fun a' z => ⟨nwp S6 a' z, nwp S6 a' z⟩, by unfold Sz; decide +kernel, fun es m e h => by injection e with e; subst e; simp at h, fun z => absurd z okP_all⟩
     ·exact ThP.few (y8.same (s9.trans sL)) (nwp S7) (by unfold Sz; decide +kernel) rfl
     ·exact ThP.few (y9.same sL) (nwp S8) (by unfold Sz; decide +kernel) rfl
    have hL0' := @upd_same G9 L0 (.lst [.non, .bl true, .int 0, .str "all", .str "", x1, x2, x3, x4, .ref l6, x7, x8, x9])
    generalize hxs : [V.non, .bl true, .int 0, .str "all", .str "", x1, x2, x3, x4, .ref l6, x7, x8, x9] = xs0 at A1 hL0' SL ⊢
    have hx0l : xs0.length = 13 := by rw [<- hxs]; rfl
    generalize upd G9 L0 (.lst xs0) = G10 at A1 hL0' SL ⊢
    have hp10 := hp1.same SL
    have SG10 := SG.trans (s1.trans SL)
    have hP10 := hP.same SL
    have hlG10 := (s1.trans SL) _ _ hlG
    clear hxs sL s2 s3 s4 s5 s6 s7 s8 s9 S2 S3 S4 S5' S6 S7 S8 S9 y1 y2 y3 y4 y7 y8 y9 hl6 nwp SL hp1 hP hlG s1 hL0
    refine ⟨_, rfl, _, rfl, p, 54, rfl, by decide, by decide, hp10, fun e1 G11 e10 e11 hp11 kp11 => ?_⟩
    obtain ⟨m1, rfl⟩ : ∃ m : Nat, e1 = (m : Int) := ⟨e1.toNat, by (first | lia | omega)⟩
    refine ⟨_, _, rfl, rfl, 2 + m1, true, (by show [V.int (2 + (m1 : Int)), V.bl true] = _; rw [show (2 : Int) + (m1 : Int) = ((2 + m1 : Nat) : Int) by (first | lia | omega)]), by (first | lia | omega), fun u1 f1 G12 s12 y12 z12 w12 => ?_⟩
    have hp12 := hp11.same s12
    refine ⟨_, rfl, p, 54, rfl, by decide, by decide, hp12, fun e2 G13 e20 e21 hp13 kp13 => ?_⟩
    obtain ⟨m2, rfl⟩ : ∃ m : Nat, e2 = (m : Int) := ⟨e2.toNat, by (first | lia | omega)⟩
    refine ⟨_, _, rfl, rfl, 2 + m2, false, (by show [V.int (2 + (m2 : Int)), V.bl false] = _; rw [show (2 : Int) + (m2 : Int) = ((2 + m2 : Nat) : Int) by (first | lia | omega)]), by (first | lia | omega), fun u2 f2 G14 s14 y14 z14 w14 => ⟨by show 2 <= sizeLine; decide, fun l2 hl2 => ?_⟩⟩
    have s15 := same_upd (o := .lst [u1, u2]) hl2
    obtain ⟨o10, x10, q10, _⟩ := id hp10
    obtain ⟨o11, x11, q11, _⟩ := id hp11
    obtain ⟨o12, x12, q12, _⟩ := id hp12
    obtain ⟨o13, x13, q13, _⟩ := id hp13
    have hL0p : L0 ≠ p := fun e => by
     have hh := hL0'
     rw [e, q10] at hh
     have := HO.lst.inj (Option.some.inj hh)
     rw [<- this] at hx0l
     cases hx0l
    have K15 : Keep p p G10 (upd G14 l2 (.lst [u1, u2])) := (((kp11.trans s12.keep).trans kp13).trans s14.keep).trans s15.keep
    have hL15 := K15 _ _ hL0' hL0p hL0p
    have hp15 := (hp13.same s14).same s15
    have A2 : ∀ v ∈ xs0 ++ [u1, u2], ThP kd N nn ds p p (upd G14 l2 (.lst [u1, u2])) v := by
     intro v hv
     rcases List.mem_append.mp hv with hv | hv
     ·exact (A1 v hv).keep K15 q10 q10
     ·have np1 : ∀ a', Nw G11 a' -> a' ≠ p := fun a' ha e => by
       have : G11 a' = none := ha
       rw [e, q11] at this
       cases this
      have np2 : ∀ a', Nw G13 a' -> a' ≠ p := fun a' ha e => by
       have : G13 a' = none := ha
       rw [e, q13] at this
       cases this
      simp only [List.mem_cons, List.not_mem_nil, or_false] at hv
      rcases hv with rfl | rfl
      ·exact ThP.few (((y12.keep kp13 q12 q12 fun a' z => ⟨np1 a' z, np1 a' z⟩).same s14).same s15) np1 (by unfold Sz at z12 ⊢; (first | lia | omega)) w12
      ·exact ThP.few (y14.same s15) np2 (by unfold Sz at z14 ⊢; (first | lia | omega)) w14
    have hl2' := @upd_same G14 l2 (.lst [u1, u2])
    have SG15 : Same H (upd G14 l2 (.lst [u1, u2])) := KS SG10 K15
    have hP15 := hP10.mapT K15 q10 q10
    have hlG15 := K15 _ _ hlG10 hlp hlp
    generalize upd G14 l2 (.lst [u1, u2]) = G15 at A2 hl2' SG15 hP15 hlG15 hL15 hp15 K15 ⊢
    refine ⟨L0, l2, _, _, rfl, rfl, hL15, hl2', ?_, fun L hL => ?_⟩
    ·rw [hx0l]; show 13 + 2 <= sizeLine; decide
    have A3 : ∀ v ∈ xs0 ++ [u1, u2], ThP kd N nn ds p L (upd G15 L (.lst (xs0 ++ [u1, u2]))) v := fun v hv => ((A2 v hv).put hL).same (same_upd hL)
    have hLp : L ≠ p := fun e => by
     obtain ⟨_, _, q, _⟩ := hp15
     rw [e, q] at hL
     cases hL
    have hLl : lk ≠ L := fun e => by rw [<- e, hlG15] at hL; cases hL
    have hLH : H L = none := SG15.free hL
    have hLL := @upd_same G15 L (.lst (xs0 ++ [u1, u2]))
    have hp16 := hp15.same (same_upd (o := .lst (xs0 ++ [u1, u2])) hL)
    have SG16 := SG15.trans (same_upd (o := .lst (xs0 ++ [u1, u2])) hL)
    have hP16 := hP15.same (same_upd (o := .lst (xs0 ++ [u1, u2])) hL)
    have hlG16 := same_upd (o := .lst (xs0 ++ [u1, u2])) hL _ _ hlG15
    have hx16 : (xs0 ++ [u1, u2]).length = 15 := by rw [List.length_append, hx0l]; rfl
    generalize upd G15 L (.lst (xs0 ++ [u1, u2])) = G16 at A3 hLL hp16 SG16 hP16 hlG16 ⊢
    generalize xs0 ++ [u1, u2] = xs1 at A3 hLL hx16
    clear A1 A2 hL hl2' hL15 K15 hlG15 hP15 SG15 hp15 hl2 s15 s14 s12 kp11 kp13 hp10 hp11 hp12 hp13 SG10 hP10 hlG10 hL0'
    obtain ⟨o16, x16, q16, _⟩ := id hp16
    obtain ⟨hul, hu0, hu3⟩ := pap_len hP16
    refine ⟨_, rfl, by decide, by decide, ?_⟩
    refine for_range (n := 6) (fun t σ G => ∃ (c8 c9 : Option V) (xs : List V), σ = [some (.ref a), some (.int (0 + (i : Int))), some (.ref p), some (.int N), some (.int nn), some (.str kd), some (.ref z), some (.ref L), c8, c9, c10, c11] /\ Keep p L G16 G /\ Pot2 G p /\ G L = some (.lst xs) /\ xs.length = 15 + t /\ ∀ v ∈ xs, ThP kd N nn ds p L G v) ⟨_, _, xs1, rfl, Keep.refl _ _ _, hp16, hLL, by (first | lia | omega), A3⟩ ?_ ?_
    ·rintro t σ G ht ⟨c8, c9, xs, rfl, kG, hpG, hGL, hxl, hO⟩
     have hPG := hP16.mapT kG q16 hLL
     refine ⟨_, rfl, _, rfl, z, us, rfl, .inr hPG.1, p, us.length, rfl, by (first | lia | omega), by (first | lia | omega), hpG, fun at' G' a0 a1 hp' kp' => ?_⟩
     obtain ⟨w', rfl⟩ : ∃ m : Nat, at' = (m : Int) := ⟨at'.toNat, by (first | lia | omega)⟩
     have hw : w' < us.length := by (first | lia | omega)
     obtain ⟨og, xg, qg, _⟩ := id hpG
     obtain ⟨og', xg', qg', _⟩ := id hp'
     have hGL' := kp' _ _ hGL hLp hLp
     have hPG' := hPG.mapT kp' qg qg
     have hO' : ∀ v ∈ xs, ThP kd N nn ds p L G' v := fun v hv => (hO v hv).keep kp'.ofp qg hGL
     have kG' := kG.trans (kp'.ofp (L := L))
     clear hO hPG hGL
     refine ⟨_, rfl, .inl ⟨rfl, _, SqL.of hGL'⟩, _, rfl, _, rfl, _, rfl, z, us, rfl, hPG'.1, cutTo_neU hw, fun c1 hc1 => ?_⟩
     rw [cutToU]
     have t1 := same_upd (o := .tup (us.take w')) hc1
     have hP1 := hPG'.same t1
     have hp1 := hp'.same t1
     obtain ⟨d, hd, hpart⟩ := part_of hN hnn hP1 (List.getElem?_eq_getElem hw)
     refine ⟨_, rfl, _, rfl, _, rfl, z, us, (w' : Int), us[w'], rfl, rfl, hP1.1, atI_nat (List.getElem?_eq_getElem hw), p, us[w'], d, rfl, hp1, hpart, fun y G2 hp2 kp2 ⟨e, ye, ze, we⟩ => ⟨by show 1 <= sizeLine; decide, fun c2 hc2 => ?_⟩⟩
     have t2 := same_upd (o := .tup [y]) hc2
     obtain ⟨og1, xg1, qg1, _⟩ := id hp1
     have hc1' : upd G' c1 (.tup (us.take w')) c1 = some (.tup (us.take w')) := upd_same
     have hGL1 := t1 _ _ hGL'
     have hc2L := kp2 _ _ hc1' (ne_of hc1' qg1 (by intro z; cases z)) (ne_of hc1' qg1 (by intro z; cases z))
     have hGL2 := kp2 _ _ hGL1 hLp hLp
     have hP2 := hP1.mapT kp2 qg1 qg1
     refine ⟨c1, c2, _, _, rfl, rfl, t2 _ _ hc2L, upd_same, ?_, fun c3 G5 t3 hc3 => ?_⟩
     ·rw [List.length_take, sizeLine_eq]
      show _ + 1 <= _
      (first | lia | omega)
     have T3 := t2.trans t3
     refine ⟨_, rfl, _, rfl, _, _, rfl, rfl, _, rfl, z, us, rfl, T3.seqT hP2.1, ?_, fun c4 hc4 => ?_⟩
     ·rw [show (w' : Int) + 1 = ((w' + 1 : Nat) : Int) by (first | lia | omega)]
      exact cutFrom_neU (by (first | lia | omega)) (by (first | lia | omega))
     have t4 := same_upd (o := .tup (cutV us (some ((w' : Int) + 1)) none)) hc4
     refine ⟨c3, c4, _, _, rfl, rfl, t4 _ _ hc3, upd_same, ?_, fun c5 G6 t5 hc5 => ?_⟩
     ·rw [show (w' : Int) + 1 = ((w' + 1 : Nat) : Int) by (first | lia | omega), cutFromU, List.length_append, List.length_take, List.length_drop, sizeLine_eq]
      show _ + 1 + _ <= _
      (first | lia | omega)
     have T5 := T3.trans (t4.trans t5)
     rw [show (w' : Int) + 1 = ((w' + 1 : Nat) : Int) by (first | lia | omega), cutFromU] at hc5
     have hL6 := T5 _ _ hGL2
     refine ⟨L, _, _, rfl, rfl, hL6, small1 (by (first | lia | omega)), ?_⟩
     have kp1 : Keep p L G' (upd G' c1 (.tup (us.take w'))) := t1.keep
     have kk2 := (kp2.ofp (L := L)).trans T5.keep
     refine ⟨_, _, xs ++ [.ref c5], rfl, ((kG'.trans kp1).trans kk2).updL, ?_, upd_same, by simp; (first | lia | omega), fun v hv => ?_⟩
     ·obtain ⟨o6, x6, q6, r6⟩ := hp2.same T5
      exact ⟨o6, x6, by rw [upd_ne (Ne.symm hLp)]; exact q6, r6⟩
     rcases List.mem_append.mp hv with hv | hv
     ·obtain ⟨o6, x6, q6, r6⟩ := hp2.same T5
      have h6 := ((hO' v hv).keep kp1 qg' hGL').keep kk2 qg1 hGL1
      exact h6.keep (Keep.updL (Keep.refl p L G6)) q6 hL6
     ·rw [List.mem_singleton.mp hv]
      have hne : ∀ a', Nw (upd G' c1 (.tup (us.take w'))) a' -> a' ≠ p /\ a' ≠ L := fun a' ha => by
       have ha' : upd G' c1 (.tup (us.take w')) a' = none := ha
       refine ⟨fun e => ?_, fun e => ?_⟩
       ·rw [e, qg1] at ha'; cases ha'
       ·rw [e, hGL1] at ha'; cases ha'
      have hw2 : w' < ds.length := by (first | lia | omega)
      have ally : IsAllY (Nw (upd G' c1 (.tup (us.take w')))) G6 (us.take w' ++ [y] ++ us.drop (w' + 1)) (ds.take w' ++ [e] ++ ds.drop (w' + 1)) := by
       have al := ((hP2.same T5).2.1.wide fun _ z => z.elim : IsAllY (Nw (upd G' c1 (.tup (us.take w')))) G6 us ds)
       exact ((al.take w').append (.cons (ye.same T5) .nil)).append (al.drop (w' + 1))
      have th : ThP kd N nn ds p L G6 (.ref c5) := by
       refine ⟨_, .tuple (ds.take w' ++ [e] ++ ds.drop (w' + 1)), .tup hc5 ally, hne, ?_, fun es m e1 h1 => ?_, fun h => okP_set hP16.2.2 hw2 we h⟩
       ·have b1 := bulk_td ds w'
        have b2 := pap_sz hP16
        unfold Sz at b2 ze ⊢
        simp only [PyData.bulk] at b2 ⊢
        rw [bulk_app, bulk_app]
        simp only [PyData.bulkAll]
        (first | lia | omega)
       ·injection e1 with e1
        subst e1
        exact pap_int hN hnn hP16 (set_int we hw2 h1)
      obtain ⟨o6, x6, q6, r6⟩ := hp2.same T5
      exact th.keep (Keep.updL (Keep.refl p L G6)) q6 hL6
    ·rintro σ G ⟨c8, c9, xs, rfl, kG, hpG, hGL, hxl, hO⟩
     have hPG := hP16.mapT kG q16 hLL
     have hlGG := kG _ _ hlG16 hlp hLl
     have SGG : Same H G := fun b o hb => kG b o (SG16 _ _ hb) (hnp hb) (fun e => by rw [e, hLH] at hb; cases hb)
     clear A3 hLL hp16 SG16 hP16 hlG16 kG
     refine ⟨_, rfl, L, rfl, ⟨_, SqL.of hGL⟩, ?_⟩
     refine for_list (K := K) (a := L) (xs := xs) (fun t σ G2 => ∃ (c10 c11 : Option V), σ = [some (.ref a), some (.int (0 + (i : Int))), some (.ref p), some (.int N), some (.int nn), some (.str kd), some (.ref z), some (.ref L), c8, c9, c10, c11] /\ Same G G2) ⟨_, _, rfl, Same.refl G⟩ (fun t σ G2 ht ⟨c10, c11, _, s2⟩ => SqL.of (s2 _ _ hGL)) ?_ ?_
     ·rintro t x σ G2 hx ⟨c10, c11, rfl, s2⟩
      obtain ⟨S, d, yd, hSa, hz, hint, hok⟩ := (hO x (List.mem_of_getElem? hx)).same s2
      refine ⟨_, rfl, fun xa Ga sa ya => ?_⟩
      obtain ⟨b1, rfl, hb1⟩ : ∃ b1, xa = .ref b1 /\ Ga b1 = some (.tup [.str "all"]) := by
       cases ya with
       | tup e al =>
        cases al with
        | cons h1 t1 =>
         cases t1
         cases h1
         exact ⟨_, rfl, e⟩
      refine ⟨S, b1, d, "all", rfl, yd.same sa, SqT.of hb1, _, rfl, ?_⟩
      have s3 := s2.trans sa
      by_cases cA : isTxD "all" d = true
      ·rw [cA]
       exact iteF (iteF ⟨_, _, rfl, s3⟩)
      ·rw [show isTxD "all" d = false by simpa using cA]
       refine iteT ⟨_, rfl, _, rfl, S, x, .ref z, d, .tuple ds, rfl, yd.same sa, (pa_sam (hPG.same s3)), fun r G3 s4 hr' => ⟨_, rfl, ?_⟩⟩
       have s5 := s3.trans s4
       cases r with
       | true => exact iteF ⟨_, _, rfl, s5⟩
       | false =>
        have hno : ¬ okP kd N nn d := fun z => by
         have := hr' (hok z)
         cases this
        refine iteT ⟨_, _, rfl, rfl, ⟨by decide, by decide, by decide⟩, by show 2 <= sizeLine; decide, fun b2 hb2 => fun xb Gb sb yb xc Gc sc yc => ⟨by show 3 <= sizeLine; decide, fun tb htb => ⟨tb, rfl, ⟨_, SqT.of upd_same⟩, ?_⟩⟩⟩
        obtain ⟨b3, rfl, hb3⟩ := isY_shr (p := (1, 1)) yb
        obtain ⟨b4, rfl, hb4⟩ := isY_shr (p := (0, 1)) yc
        have sA := same_upd (o := .tup [.int (10 ^ (30 : Int).toNat), .int 1]) hb2
        have sB := same_upd (o := .tup [.ref b2, .ref b3, .ref b4]) htb
        have sAll := sA.trans (sb.trans (sc.trans sB))
        have hb2' : (upd Gc tb (.tup [.ref b2, .ref b3, .ref b4])) b2 = some (.tup [.int (10 ^ (30 : Int).toNat), .int 1]) := (sb.trans (sc.trans sB)) _ _ upd_same
        have hb3' := (sc.trans sB) _ _ hb3
        have hb4' := sB _ _ hb4
        have htb' := @upd_same Gc tb (.tup [.ref b2, .ref b3, .ref b4])
        generalize upd Gc tb (.tup [.ref b2, .ref b3, .ref b4]) = Gt at sAll hb2' hb3' hb4' htb' sB ⊢
        refine for_tup (K := K) (a := tb) (xs := [.ref b2, .ref b3, .ref b4]) (fun u σ G4 => ∃ (c11 : Option V), σ = [some (.ref a), some (.int (0 + (i : Int))), some (.ref p), some (.int N), some (.int nn), some (.str kd), some (.ref z), some (.ref L), c8, c9, some x, c11] /\ Same Gt G4) ⟨_, rfl, Same.refl Gt⟩ (fun u σ G4 hu ⟨c11, _, s6⟩ => SqT.of (s6 _ _ htb')) ?_ ?_
        ·rintro u xq σ G4 hxq ⟨c11, rfl, s6⟩
         obtain ⟨bq, bv, rfl, hbq, hbv⟩ : ∃ (bq : Addr) (bv : Int × Int), xq = .ref bq /\ Shr G4 bq bv /\ ShB bv 1000 := by
          have := List.mem_of_getElem? hxq
          simp only [List.mem_cons, List.not_mem_nil, or_false] at this
          rcases this with rfl | rfl | rfl
          ·exact ⟨b2, (10 ^ (30 : Int).toNat, 1), rfl, s6 _ _ hb2', ⟨Int.one_pos, Sm.of (by decide +kernel), Sm.of (by decide +kernel)⟩⟩
          ·exact ⟨b3, (1, 1), rfl, s6 _ _ hb3', ⟨Int.one_pos, Sm.of (by decide +kernel), Sm.of (by decide +kernel)⟩⟩
          ·exact ⟨b4, (0, 1), rfl, s6 _ _ hb4', ⟨Int.one_pos, Sm.of (by decide +kernel), Sm.of (by decide +kernel)⟩⟩
         have yd' := ((yd.same sa).same s4).same (sAll.trans s6)
         refine ⟨_, rfl, _, rfl, _, rfl, _, rfl, _, rfl, kd, N, nn, bq, bv, S, x, d, rfl, hkd, hN, hnn, hbq, hbv.mono (by decide), fun _ => hbv, yd', ?_, hint, fun r G5 s7 hrr => ?_⟩
         ·unfold Sz at hz ⊢; (first | lia | omega)
         have hrf : r = false := by
          cases r with
          | false => rfl
          | true =>
           rcases hrr rfl with q | q
           ·exact absurd q cA
           ·exact absurd q hno
         subst hrf
         refine ⟨_, _, rfl, rfl, _, rfl, ?_⟩
         exact iteF ⟨_, rfl, s6.trans s7⟩
        ·rintro σ G4 ⟨c11, rfl, s6⟩
         exact ⟨_, _, rfl, s5.trans (sAll.trans s6)⟩
     ·rintro σ G2 ⟨c10, c11, rfl, s2⟩
      exact ⟨_, _, _, _, _, _, _, rfl, SGG.trans s2, hpG.same s2, s2 _ _ hlGG⟩
   ·rintro σ G ⟨c5, c6, c7, c8, c9, c10, c11, rfl, SG, hpG, hlG⟩
    exact ⟨_, _, _, _, _, _, _, _, _, _, _, rfl, SG⟩
  ·rintro σ G ⟨c1, c2, c3, c4, c5, c6, c7, c8, c9, c10, c11, rfl, sm⟩
   exact k G
end
end K65
namespace K65
open PySem PySem.Spec PyProof.Rows L2
set_option maxHeartbeats 8000000 in
theorem all_mk {l : PySem.W.OpenLaw} {w : World} {K : PySem.W.Frag} {h : Heap} {mg : Str -> Option Value} {fa C_MEANS C_SPREADS C_BOUNDS C_PAPERS C_LOOKS T_ALL g_highs_mean g_stays_mean g_rises_mean g_crossed_mean g_highs_spread g_stays_spread g_rises_spread g_crossed_spread g_groups_bound g_stays_bound g_rises_bound g_crossed_bound g_longest_bound g_groups_paper g_stays_paper g_rises_paper g_crossed_paper g_longest_paper g_shows_by_sets g_shows_by_groups g_shows_by_spread : Addr} (X : K.In h) (G : h.Ns mainGlobals mg) (hfa : mg "law" = some (.ref fa)) (TK : TopK K) (TXK : TopXK K) (a_MEANS : PySem.W.nsIn K mainGlobals "MEANS" = some (some (.ref C_MEANS))) (GD_MEANS : GDict K w.params C_MEANS [("rounds", g_highs_mean), ("stays", g_stays_mean), ("rises", g_rises_mean), ("highs", g_highs_mean), ("crossed", g_crossed_mean)]) (a_SPREADS : PySem.W.nsIn K mainGlobals "SPREADS" = some (some (.ref C_SPREADS))) (GD_SPREADS : GDict K w.params C_SPREADS [("rounds", g_highs_spread), ("stays", g_stays_spread), ("rises", g_rises_spread), ("highs", g_highs_spread), ("crossed", g_crossed_spread)]) (a_BOUNDS : PySem.W.nsIn K mainGlobals "BOUNDS" = some (some (.ref C_BOUNDS))) (GD_BOUNDS : GDict K w.params C_BOUNDS [("rounds", g_groups_bound), ("stays", g_stays_bound), ("rises", g_rises_bound), ("highs", g_groups_bound), ("crossed", g_crossed_bound), ("longest", g_longest_bound)]) (a_PAPERS : PySem.W.nsIn K mainGlobals "PAPERS" = some (some (.ref C_PAPERS))) (GD_PAPERS : GDict K w.params C_PAPERS [("rounds", g_groups_paper), ("stays", g_stays_paper), ("rises", g_rises_paper), ("highs", g_groups_paper), ("crossed", g_crossed_paper), ("longest", g_longest_paper)]) (a_LOOKS : PySem.W.nsIn K mainGlobals "LOOKS" = some (some (.ref C_LOOKS))) (GD_LOOKS : GDict K w.params C_LOOKS [("sets", g_shows_by_sets), ("groups", g_shows_by_groups), ("spread", g_shows_by_spread)]) (a_ALL : PySem.W.nsIn K mainGlobals "ALL" = some (some (.ref T_ALL))) (h_ALL : ∀ H, SqT K H T_ALL [V.str "all"]) (n_highs_mean : PySem.W.nsIn K mainGlobals "highs_mean" = some (some (.ref g_highs_mean))) (n_stays_mean : PySem.W.nsIn K mainGlobals "stays_mean" = some (some (.ref g_stays_mean))) (n_rises_mean : PySem.W.nsIn K mainGlobals "rises_mean" = some (some (.ref g_rises_mean))) (n_crossed_mean : PySem.W.nsIn K mainGlobals "crossed_mean" = some (some (.ref g_crossed_mean))) (n_highs_spread : PySem.W.nsIn K mainGlobals "highs_spread" = some (some (.ref g_highs_spread))) (n_stays_spread : PySem.W.nsIn K mainGlobals "stays_spread" = some (some (.ref g_stays_spread))) (n_rises_spread : PySem.W.nsIn K mainGlobals "rises_spread" = some (some (.ref g_rises_spread))) (n_crossed_spread : PySem.W.nsIn K mainGlobals "crossed_spread" = some (some (.ref g_crossed_spread))) (n_groups_bound : PySem.W.nsIn K mainGlobals "groups_bound" = some (some (.ref g_groups_bound))) (n_stays_bound : PySem.W.nsIn K mainGlobals "stays_bound" = some (some (.ref g_stays_bound))) (n_rises_bound : PySem.W.nsIn K mainGlobals "rises_bound" = some (some (.ref g_rises_bound))) (n_crossed_bound : PySem.W.nsIn K mainGlobals "crossed_bound" = some (some (.ref g_crossed_bound))) (n_longest_bound : PySem.W.nsIn K mainGlobals "longest_bound" = some (some (.ref g_longest_bound))) (n_groups_paper : PySem.W.nsIn K mainGlobals "groups_paper" = some (some (.ref g_groups_paper))) (n_stays_paper : PySem.W.nsIn K mainGlobals "stays_paper" = some (some (.ref g_stays_paper))) (n_rises_paper : PySem.W.nsIn K mainGlobals "rises_paper" = some (some (.ref g_rises_paper))) (n_crossed_paper : PySem.W.nsIn K mainGlobals "crossed_paper" = some (some (.ref g_crossed_paper))) (n_longest_paper : PySem.W.nsIn K mainGlobals "longest_paper" = some (some (.ref g_longest_paper))) (n_shows_by_sets : PySem.W.nsIn K mainGlobals "shows_by_sets" = some (some (.ref g_shows_by_sets))) (n_shows_by_groups : PySem.W.nsIn K mainGlobals "shows_by_groups" = some (some (.ref g_shows_by_groups))) (n_shows_by_spread : PySem.W.nsIn K mainGlobals "shows_by_spread" = some (some (.ref g_shows_by_spread)))
  (d_is_whole : Def K "is_whole" s_is_whole) (d_are_wholes : Def K "are_wholes" s_are_wholes) (d_are_just : Def K "are_just" s_are_just) (d_product : Def K "product" s_product) (d_greatest_divisor : Def K "greatest_divisor" s_greatest_divisor) (d_share_of : Def K "share_of" s_share_of) (d_less : Def K "less" s_less) (d_times : Def K "times" s_times) (d_parted : Def K "parted" s_parted) (d_is_less : Def K "is_less" s_is_less) (d_lesser : Def K "lesser" s_lesser) (d_highs_mean : Def K "highs_mean" s_highs_mean) (d_highs_spread : Def K "highs_spread" s_highs_spread) (d_stays_mean : Def K "stays_mean" s_stays_mean) (d_stays_spread : Def K "stays_spread" s_stays_spread) (d_rises_mean : Def K "rises_mean" s_rises_mean) (d_rises_spread : Def K "rises_spread" s_rises_spread) (d_crossed_mean : Def K "crossed_mean" s_crossed_mean) (d_crossed_spread : Def K "crossed_spread" s_crossed_spread) (d_mean : Def K "mean" s_mean) (d_spread : Def K "spread" s_spread) (d_stays_bound : Def K "stays_bound" s_stays_bound) (d_sets_of : Def K "sets_of" s_sets_of) (d_power : Def K "power" s_power) (d_longest_bound : Def K "longest_bound" s_longest_bound) (d_groups_bound : Def K "groups_bound" s_groups_bound) (d_spread_bound : Def K "spread_bound" s_spread_bound) (d_rises_bound : Def K "rises_bound" s_rises_bound) (d_crossed_bound : Def K "crossed_bound" s_crossed_bound) (d_most_share : Def K "most_share" s_most_share) (d_stays_paper : Def K "stays_paper" s_stays_paper) (d_longest_paper : Def K "longest_paper" s_longest_paper) (d_groups_paper : Def K "groups_paper" s_groups_paper) (d_rises_paper : Def K "rises_paper" s_rises_paper) (d_crossed_paper : Def K "crossed_paper" s_crossed_paper) (d_own_paper : Def K "own_paper" s_own_paper) (d_shows_by_sets : Def K "shows_by_sets" s_shows_by_sets) (d_shows_by_groups : Def K "shows_by_groups" s_shows_by_groups) (d_shows_by_spread : Def K "shows_by_spread" s_shows_by_spread) (d_shows_bound : Def K "shows_bound" s_shows_bound) (d_bound_paper : Def K "bound_paper" s_bound_paper) (d__law_pot : Def K "_law_pot" s__law_pot) (d__law_next : Def K "_law_next" s__law_next) (d__law_of : Def K "_law_of" s__law_of) (d__law_same : Def K "_law_same" s__law_same) (d__law_odd : Def K "_law_odd" s__law_odd) (d__law_deep : Def K "_law_deep" s__law_deep) (d_law : Def K "law" s_law) :
  ∃ fd : FuncData, (∀ (s : Shared) (v : Value), BindsTo s fd ⟨[v], []⟩ [("_law_script", v)]) /\ ∀ base : Heap, K.In base -> base.Ns mainGlobals mg -> FnOk l.prog w K mg base CX0 9 fa fd ["_law_script"] (spLaw K) := by
 have T : Top mg := TK.top X G
 have TX : TopX mg := TXK.top X G
 obtain ⟨f_is_whole, e_is_whole, F_is_whole, m_is_whole⟩ := d_is_whole.fn X G
 obtain ⟨f_are_wholes, e_are_wholes, F_are_wholes, m_are_wholes⟩ := d_are_wholes.fn X G
 obtain ⟨f_are_just, e_are_just, F_are_just, m_are_just⟩ := d_are_just.fn X G
 obtain ⟨f_product, e_product, F_product, m_product⟩ := d_product.fn X G
 obtain ⟨f_greatest_divisor, e_greatest_divisor, F_greatest_divisor, m_greatest_divisor⟩ := d_greatest_divisor.fn X G
 obtain ⟨f_share_of, e_share_of, F_share_of, m_share_of⟩ := d_share_of.fn X G
 obtain ⟨f_less, e_less, F_less, m_less⟩ := d_less.fn X G
 obtain ⟨f_times, e_times, F_times, m_times⟩ := d_times.fn X G
 obtain ⟨f_parted, e_parted, F_parted, m_parted⟩ := d_parted.fn X G
 obtain ⟨f_is_less, e_is_less, F_is_less, m_is_less⟩ := d_is_less.fn X G
 obtain ⟨f_lesser, e_lesser, F_lesser, m_lesser⟩ := d_lesser.fn X G
 obtain ⟨f_highs_mean, e_highs_mean, F_highs_mean, m_highs_mean⟩ := d_highs_mean.fn X G
 obtain ⟨f_highs_spread, e_highs_spread, F_highs_spread, m_highs_spread⟩ := d_highs_spread.fn X G
 obtain ⟨f_stays_mean, e_stays_mean, F_stays_mean, m_stays_mean⟩ := d_stays_mean.fn X G
 obtain ⟨f_stays_spread, e_stays_spread, F_stays_spread, m_stays_spread⟩ := d_stays_spread.fn X G
 obtain ⟨f_rises_mean, e_rises_mean, F_rises_mean, m_rises_mean⟩ := d_rises_mean.fn X G
 obtain ⟨f_rises_spread, e_rises_spread, F_rises_spread, m_rises_spread⟩ := d_rises_spread.fn X G
 obtain ⟨f_crossed_mean, e_crossed_mean, F_crossed_mean, m_crossed_mean⟩ := d_crossed_mean.fn X G
 obtain ⟨f_crossed_spread, e_crossed_spread, F_crossed_spread, m_crossed_spread⟩ := d_crossed_spread.fn X G
 obtain ⟨f_mean, e_mean, F_mean, m_mean⟩ := d_mean.fn X G
 obtain ⟨f_spread, e_spread, F_spread, m_spread⟩ := d_spread.fn X G
 obtain ⟨f_stays_bound, e_stays_bound, F_stays_bound, m_stays_bound⟩ := d_stays_bound.fn X G
 obtain ⟨f_sets_of, e_sets_of, F_sets_of, m_sets_of⟩ := d_sets_of.fn X G
 obtain ⟨f_power, e_power, F_power, m_power⟩ := d_power.fn X G
 obtain ⟨f_longest_bound, e_longest_bound, F_longest_bound, m_longest_bound⟩ := d_longest_bound.fn X G
 obtain ⟨f_groups_bound, e_groups_bound, F_groups_bound, m_groups_bound⟩ := d_groups_bound.fn X G
 obtain ⟨f_spread_bound, e_spread_bound, F_spread_bound, m_spread_bound⟩ := d_spread_bound.fn X G
 obtain ⟨f_rises_bound, e_rises_bound, F_rises_bound, m_rises_bound⟩ := d_rises_bound.fn X G
 obtain ⟨f_crossed_bound, e_crossed_bound, F_crossed_bound, m_crossed_bound⟩ := d_crossed_bound.fn X G
 obtain ⟨f_most_share, e_most_share, F_most_share, m_most_share⟩ := d_most_share.fn X G
 obtain ⟨f_stays_paper, e_stays_paper, F_stays_paper, m_stays_paper⟩ := d_stays_paper.fn X G
 obtain ⟨f_longest_paper, e_longest_paper, F_longest_paper, m_longest_paper⟩ := d_longest_paper.fn X G
 obtain ⟨f_groups_paper, e_groups_paper, F_groups_paper, m_groups_paper⟩ := d_groups_paper.fn X G
 obtain ⟨f_rises_paper, e_rises_paper, F_rises_paper, m_rises_paper⟩ := d_rises_paper.fn X G
 obtain ⟨f_crossed_paper, e_crossed_paper, F_crossed_paper, m_crossed_paper⟩ := d_crossed_paper.fn X G
 obtain ⟨f_own_paper, e_own_paper, F_own_paper, m_own_paper⟩ := d_own_paper.fn X G
 obtain ⟨f_shows_by_sets, e_shows_by_sets, F_shows_by_sets, m_shows_by_sets⟩ := d_shows_by_sets.fn X G
 obtain ⟨f_shows_by_groups, e_shows_by_groups, F_shows_by_groups, m_shows_by_groups⟩ := d_shows_by_groups.fn X G
 obtain ⟨f_shows_by_spread, e_shows_by_spread, F_shows_by_spread, m_shows_by_spread⟩ := d_shows_by_spread.fn X G
 obtain ⟨f_shows_bound, e_shows_bound, F_shows_bound, m_shows_bound⟩ := d_shows_bound.fn X G
 obtain ⟨f_bound_paper, e_bound_paper, F_bound_paper, m_bound_paper⟩ := d_bound_paper.fn X G
 obtain ⟨f__law_pot, e__law_pot, F__law_pot, m__law_pot⟩ := d__law_pot.fn X G
 obtain ⟨f__law_next, e__law_next, F__law_next, m__law_next⟩ := d__law_next.fn X G
 obtain ⟨f__law_of, e__law_of, F__law_of, m__law_of⟩ := d__law_of.fn X G
 obtain ⟨f__law_same, e__law_same, F__law_same, m__law_same⟩ := d__law_same.fn X G
 obtain ⟨f__law_odd, e__law_odd, F__law_odd, m__law_odd⟩ := d__law_odd.fn X G
 obtain ⟨f__law_deep, e__law_deep, F__law_deep, m__law_deep⟩ := d__law_deep.fn X G
 obtain ⟨f_law, e_law, F_law, m_law⟩ := d_law.fn X G
 have b_is_whole := F_is_whole.binds (ps := ["thing"]) fun _ _ _ _ _ _ us hl => match us, hl with | [_], _ => rfl
 have b_are_wholes := F_are_wholes.binds (ps := ["thing"]) fun _ _ _ _ _ _ us hl => match us, hl with | [_], _ => rfl
 have b_are_just := F_are_just.binds (ps := ["thing", "numbers"]) fun _ _ _ _ _ _ us hl => match us, hl with | [_, _], _ => rfl
 have b_product := F_product.binds (ps := ["first", "last"]) fun _ _ _ _ _ _ us hl => match us, hl with | [_, _], _ => rfl
 have b_greatest_divisor := F_greatest_divisor.binds (ps := ["over", "under"]) fun _ _ _ _ _ _ us hl => match us, hl with | [_, _], _ => rfl
 have b_share_of := F_share_of.binds (ps := ["over", "under"]) fun _ _ _ _ _ _ us hl => match us, hl with | [_, _], _ => rfl
 have b_less := F_less.binds (ps := ["one", "other"]) fun _ _ _ _ _ _ us hl => match us, hl with | [_, _], _ => rfl
 have b_times := F_times.binds (ps := ["one", "other"]) fun _ _ _ _ _ _ us hl => match us, hl with | [_, _], _ => rfl
 have b_parted := F_parted.binds (ps := ["one", "other"]) fun _ _ _ _ _ _ us hl => match us, hl with | [_, _], _ => rfl
 have b_is_less := F_is_less.binds (ps := ["one", "other"]) fun _ _ _ _ _ _ us hl => match us, hl with | [_, _], _ => rfl
 have b_lesser := F_lesser.binds (ps := ["one", "other"]) fun _ _ _ _ _ _ us hl => match us, hl with | [_, _], _ => rfl
 have b_highs_mean := F_highs_mean.binds (ps := ["many"]) fun _ _ _ _ _ _ us hl => match us, hl with | [_], _ => rfl
 have b_highs_spread := F_highs_spread.binds (ps := ["many"]) fun _ _ _ _ _ _ us hl => match us, hl with | [_], _ => rfl
 have b_stays_mean := F_stays_mean.binds (ps := ["many"]) fun _ _ _ _ _ _ us hl => match us, hl with | [_], _ => rfl
 have b_stays_spread := F_stays_spread.binds (ps := ["many"]) fun _ _ _ _ _ _ us hl => match us, hl with | [_], _ => rfl
 have b_rises_mean := F_rises_mean.binds (ps := ["many"]) fun _ _ _ _ _ _ us hl => match us, hl with | [_], _ => rfl
 have b_rises_spread := F_rises_spread.binds (ps := ["many"]) fun _ _ _ _ _ _ us hl => match us, hl with | [_], _ => rfl
 have b_crossed_mean := F_crossed_mean.binds (ps := ["many"]) fun _ _ _ _ _ _ us hl => match us, hl with | [_], _ => rfl
 have b_crossed_spread := F_crossed_spread.binds (ps := ["many"]) fun _ _ _ _ _ _ us hl => match us, hl with | [_], _ => rfl
 have b_mean := F_mean.binds (ps := ["kind", "many"]) fun _ _ _ _ _ _ us hl => match us, hl with | [_, _], _ => rfl
 have b_spread := F_spread.binds (ps := ["kind", "many"]) fun _ _ _ _ _ _ us hl => match us, hl with | [_, _], _ => rfl
 have b_stays_bound := F_stays_bound.binds (ps := ["many", "number"]) fun _ _ _ _ _ _ us hl => match us, hl with | [_, _], _ => rfl
 have b_sets_of := F_sets_of.binds (ps := ["many", "number"]) fun _ _ _ _ _ _ us hl => match us, hl with | [_, _], _ => rfl
 have b_power := F_power.binds (ps := ["base", "number"]) fun _ _ _ _ _ _ us hl => match us, hl with | [_, _], _ => rfl
 have b_longest_bound := F_longest_bound.binds (ps := ["many", "number"]) fun _ _ _ _ _ _ us hl => match us, hl with | [_, _], _ => rfl
 have b_groups_bound := F_groups_bound.binds (ps := ["many", "number"]) fun _ _ _ _ _ _ us hl => match us, hl with | [_, _], _ => rfl
 have b_spread_bound := F_spread_bound.binds (ps := ["kind", "many", "number"]) fun _ _ _ _ _ _ us hl => match us, hl with | [_, _, _], _ => rfl
 have b_rises_bound := F_rises_bound.binds (ps := ["many", "number"]) fun _ _ _ _ _ _ us hl => match us, hl with | [_, _], _ => rfl
 have b_crossed_bound := F_crossed_bound.binds (ps := ["many", "number"]) fun _ _ _ _ _ _ us hl => match us, hl with | [_, _], _ => rfl
 have b_most_share := F_most_share.binds (ps := ["kind", "many", "number"]) fun _ _ _ _ _ _ us hl => match us, hl with | [_, _, _], _ => rfl
 have b_stays_paper := F_stays_paper.binds (ps := ["many", "number"]) fun _ _ _ _ _ _ us hl => match us, hl with | [_, _], _ => rfl
 have b_longest_paper := F_longest_paper.binds (ps := ["many", "number"]) fun _ _ _ _ _ _ us hl => match us, hl with | [_, _], _ => rfl
 have b_groups_paper := F_groups_paper.binds (ps := ["many", "number"]) fun _ _ _ _ _ _ us hl => match us, hl with | [_, _], _ => rfl
 have b_rises_paper := F_rises_paper.binds (ps := ["many", "number"]) fun _ _ _ _ _ _ us hl => match us, hl with | [_, _], _ => rfl
 have b_crossed_paper := F_crossed_paper.binds (ps := ["many", "number"]) fun _ _ _ _ _ _ us hl => match us, hl with | [_, _], _ => rfl
 have b_own_paper := F_own_paper.binds (ps := ["kind", "many", "number"]) fun _ _ _ _ _ _ us hl => match us, hl with | [_, _, _], _ => rfl
 have b_shows_by_sets := F_shows_by_sets.binds (ps := ["paper", "number", "bound", "thing"]) fun _ _ _ _ _ _ us hl => match us, hl with | [_, _, _, _], _ => rfl
 have b_shows_by_groups := F_shows_by_groups.binds (ps := ["paper", "number", "bound", "thing"]) fun _ _ _ _ _ _ us hl => match us, hl with | [_, _, _, _], _ => rfl
 have b_shows_by_spread := F_shows_by_spread.binds (ps := ["paper", "number", "bound", "thing"]) fun _ _ _ _ _ _ us hl => match us, hl with | [_, _, _, _], _ => rfl
 have b_shows_bound := F_shows_bound.binds (ps := ["kind", "many", "number", "bound", "thing"]) fun _ _ _ _ _ _ us hl => match us, hl with | [_, _, _, _, _], _ => rfl
 have b_bound_paper := F_bound_paper.binds (ps := ["kind", "many", "number"]) fun _ _ _ _ _ _ us hl => match us, hl with | [_, _, _], _ => rfl
 have b__law_pot := F__law_pot.binds (ps := ["_law_script", "_law_k"]) fun _ _ _ _ _ _ us hl => match us, hl with | [_, _], _ => rfl
 have b__law_next := F__law_next.binds (ps := ["_law_pot_here", "_law_many"]) fun _ _ _ _ _ _ us hl => match us, hl with | [_, _], _ => rfl
 have b__law_of := F__law_of.binds (ps := ["_law_pot_here", "_law_some"]) fun _ _ _ _ _ _ us hl => match us, hl with | [_, _], _ => rfl
 have b__law_same := F__law_same.binds (ps := ["_law_one", "_law_two"]) fun _ _ _ _ _ _ us hl => match us, hl with | [_, _], _ => rfl
 have b__law_odd := F__law_odd.binds (ps := ["_law_pot_here", "_law_thing"]) fun _ _ _ _ _ _ us hl => match us, hl with | [_, _], _ => rfl
 have b__law_deep := F__law_deep.binds (ps := ["_law_many", "_law_by_list"]) fun _ _ _ _ _ _ us hl => match us, hl with | [_, _], _ => rfl
 have e : fa = f_law := by
  have q := hfa.symm.trans m_law
  cases q
  rfl
 subst e
 obtain ⟨oc, od, kV, doc, pm, an, cdv, ct, osl, rfl, lk, hcd⟩ := F_law.ex
 refine ⟨PySem.W.fnOf "law" "law" (defArgs s_law) (defBody s_law) (defScope s_law) .none kV doc pm an cdv ct, fun s v => .of_eq rfl, fun base _ _ => ?_⟩
 have Cis_whole : Cal l.prog w K mg base 1 "is_whole" ["thing"] (spWhA K) := ⟨f_is_whole, e_is_whole, ok_is_whole F_is_whole T, m_is_whole, F_is_whole.kp, b_is_whole⟩
 have Care_wholes : Cal l.prog w K mg base 2 "are_wholes" ["thing"] (spWhsD) := ⟨f_are_wholes, e_are_wholes, ok_are_wholes F_are_wholes T Cis_whole, m_are_wholes, F_are_wholes.kp, b_are_wholes⟩
 have Care_just : Cal l.prog w K mg base 3 "are_just" ["thing", "numbers"] (spJust) := ⟨f_are_just, e_are_just, ok_are_just F_are_just Care_wholes, m_are_just, F_are_just.kp, b_are_just⟩
 have Cproduct : Cal l.prog w K mg base 1 "product" ["first", "last"] (spE spPr spPrG) := ⟨f_product, e_product, ok_product F_product T, m_product, F_product.kp, b_product⟩
 have Cgreatest_divisor : Cal l.prog w K mg base 1 "greatest_divisor" ["over", "under"] (spGcd) := ⟨f_greatest_divisor, e_greatest_divisor, ok_greatest_divisor F_greatest_divisor , m_greatest_divisor, F_greatest_divisor.kp, b_greatest_divisor⟩
 have Cshare_of : Cal l.prog w K mg base 2 "share_of" ["over", "under"] (spLow) := ⟨f_share_of, e_share_of, ok_share_of F_share_of Cgreatest_divisor, m_share_of, F_share_of.kp, b_share_of⟩
 have Cless : Cal l.prog w K mg base 3 "less" ["one", "other"] (spSh leZ) := ⟨f_less, e_less, ok_less F_less Cshare_of, m_less, F_less.kp, b_less⟩
 have Ctimes : Cal l.prog w K mg base 3 "times" ["one", "other"] (spSh tmZ) := ⟨f_times, e_times, ok_times F_times Cshare_of, m_times, F_times.kp, b_times⟩
 have Cparted : Cal l.prog w K mg base 3 "parted" ["one", "other"] (spPt) := ⟨f_parted, e_parted, ok_parted F_parted Cshare_of, m_parted, F_parted.kp, b_parted⟩
 have Cis_less : Cal l.prog w K mg base 1 "is_less" ["one", "other"] (spLt8) := ⟨f_is_less, e_is_less, ok_is_less F_is_less , m_is_less, F_is_less.kp, b_is_less⟩
 have Clesser : Cal l.prog w K mg base 2 "lesser" ["one", "other"] (spMm8 minZ) := ⟨f_lesser, e_lesser, ok_lesser F_lesser Cis_less, m_lesser, F_lesser.kp, b_lesser⟩
 have Chighs_mean : Cal l.prog w K mg base 1 "highs_mean" ["many"] (spNone) := ⟨f_highs_mean, e_highs_mean, ok_highs_mean F_highs_mean , m_highs_mean, F_highs_mean.kp, b_highs_mean⟩
 have Chighs_spread : Cal l.prog w K mg base 1 "highs_spread" ["many"] (spNone) := ⟨f_highs_spread, e_highs_spread, ok_highs_spread F_highs_spread , m_highs_spread, F_highs_spread.kp, b_highs_spread⟩
 have Cstays_mean : Cal l.prog w K mg base 1 "stays_mean" ["many"] (spNone) := ⟨f_stays_mean, e_stays_mean, ok_stays_mean F_stays_mean , m_stays_mean, F_stays_mean.kp, b_stays_mean⟩
 have Cstays_spread : Cal l.prog w K mg base 1 "stays_spread" ["many"] (spNone) := ⟨f_stays_spread, e_stays_spread, ok_stays_spread F_stays_spread , m_stays_spread, F_stays_spread.kp, b_stays_spread⟩
 have Crises_mean : Cal l.prog w K mg base 3 "rises_mean" ["many"] (spN1 (mnZ "rises")) := ⟨f_rises_mean, e_rises_mean, ok_rises_mean F_rises_mean T Cshare_of, m_rises_mean, F_rises_mean.kp, b_rises_mean⟩
 have Crises_spread : Cal l.prog w K mg base 3 "rises_spread" ["many"] (spN1 (sdZ "rises")) := ⟨f_rises_spread, e_rises_spread, ok_rises_spread F_rises_spread T Cshare_of, m_rises_spread, F_rises_spread.kp, b_rises_spread⟩
 have Ccrossed_mean : Cal l.prog w K mg base 3 "crossed_mean" ["many"] (spN1 (mnZ "crossed")) := ⟨f_crossed_mean, e_crossed_mean, ok_crossed_mean F_crossed_mean T Cshare_of, m_crossed_mean, F_crossed_mean.kp, b_crossed_mean⟩
 have Ccrossed_spread : Cal l.prog w K mg base 3 "crossed_spread" ["many"] (spN1 (sdZ "crossed")) := ⟨f_crossed_spread, e_crossed_spread, ok_crossed_spread F_crossed_spread T Cshare_of, m_crossed_spread, F_crossed_spread.kp, b_crossed_spread⟩
 have Cmean : Cal l.prog w K mg base 4 "mean" ["kind", "many"] (spKN mnZ) := ⟨f_mean, e_mean, ok_mean F_mean (PySem.W.mg_of X G a_MEANS) GD_MEANS (CalF.of Crises_mean (PySem.W.mg_of X G n_rises_mean) (by decide)) (CalF.of Ccrossed_mean (PySem.W.mg_of X G n_crossed_mean) (by decide)), m_mean, F_mean.kp, b_mean⟩
 have Cspread : Cal l.prog w K mg base 4 "spread" ["kind", "many"] (spKN sdZ) := ⟨f_spread, e_spread, ok_spread F_spread (PySem.W.mg_of X G a_SPREADS) GD_SPREADS (CalF.of Crises_spread (PySem.W.mg_of X G n_rises_spread) (by decide)) (CalF.of Ccrossed_spread (PySem.W.mg_of X G n_crossed_spread) (by decide)), m_spread, F_spread.kp, b_spread⟩
 have Cstays_bound : Cal l.prog w K mg base 2 "stays_bound" ["many", "number"] (spNK bSt) := ⟨f_stays_bound, e_stays_bound, ok_stays_bound F_stays_bound (Cal.l Cproduct), m_stays_bound, F_stays_bound.kp, b_stays_bound⟩
 have Csets_of : Cal l.prog w K mg base 1 "sets_of" ["many", "number"] (spSets) := ⟨f_sets_of, e_sets_of, ok_sets_of F_sets_of T, m_sets_of, F_sets_of.kp, b_sets_of⟩
 have Cpower : Cal l.prog w K mg base 1 "power" ["base", "number"] (spPow) := ⟨f_power, e_power, ok_power F_power T, m_power, F_power.kp, b_power⟩
 have Clongest_bound : Cal l.prog w K mg base 3 "longest_bound" ["many", "number"] (spNK bLg) := ⟨f_longest_bound, e_longest_bound, ok_longest_bound F_longest_bound Cshare_of (Cal.l Cproduct) Csets_of, m_longest_bound, F_longest_bound.kp, b_longest_bound⟩
 have Cgroups_bound : Cal l.prog w K mg base 3 "groups_bound" ["many", "number"] (spNK bGr) := ⟨f_groups_bound, e_groups_bound, ok_groups_bound F_groups_bound Cshare_of (Cal.l Cproduct) Cpower, m_groups_bound, F_groups_bound.kp, b_groups_bound⟩
 have Cspread_bound : Cal l.prog w K mg base 5 "spread_bound" ["kind", "many", "number"] (spKNK) := ⟨f_spread_bound, e_spread_bound, ok_spread_bound F_spread_bound Cless Ctimes Cparted Cis_less Cmean Cspread, m_spread_bound, F_spread_bound.kp, b_spread_bound⟩
 have Crises_bound : Cal l.prog w K mg base 6 "rises_bound" ["many", "number"] (spNK fun N k => sbZ "rises" N k) := ⟨f_rises_bound, e_rises_bound, ok_rises_bound F_rises_bound Cspread_bound, m_rises_bound, F_rises_bound.kp, b_rises_bound⟩
 have Ccrossed_bound : Cal l.prog w K mg base 6 "crossed_bound" ["many", "number"] (spNK fun N k => sbZ "crossed" N k) := ⟨f_crossed_bound, e_crossed_bound, ok_crossed_bound F_crossed_bound Cspread_bound, m_crossed_bound, F_crossed_bound.kp, b_crossed_bound⟩
 have Cmost_share : Cal l.prog w K mg base 7 "most_share" ["kind", "many", "number"] (spMost) := ⟨f_most_share, e_most_share, ok_most_share F_most_share (PySem.W.mg_of X G a_BOUNDS) GD_BOUNDS (CalF.of Cgroups_bound (PySem.W.mg_of X G n_groups_bound) (by decide)) (CalF.of Cstays_bound (PySem.W.mg_of X G n_stays_bound) (by decide)) (CalF.of Crises_bound (PySem.W.mg_of X G n_rises_bound) (by decide)) (CalF.of Ccrossed_bound (PySem.W.mg_of X G n_crossed_bound) (by decide)) (CalF.of Clongest_bound (PySem.W.mg_of X G n_longest_bound) (by decide)) Clesser, m_most_share, F_most_share.kp, b_most_share⟩
 have Cstays_paper : Cal l.prog w K mg base 2 "stays_paper" ["many", "number"] (spPap "stays") := ⟨f_stays_paper, e_stays_paper, ok_stays_paper F_stays_paper Csets_of (Cal.r Cproduct), m_stays_paper, F_stays_paper.kp, b_stays_paper⟩
 have Clongest_paper : Cal l.prog w K mg base 2 "longest_paper" ["many", "number"] (spPap "longest") := ⟨f_longest_paper, e_longest_paper, ok_longest_paper F_longest_paper Csets_of (Cal.l Cproduct), m_longest_paper, F_longest_paper.kp, b_longest_paper⟩
 have Cgroups_paper : Cal l.prog w K mg base 1 "groups_paper" ["many", "number"] (spE (spPap "rounds") (spPap "highs")) := ⟨f_groups_paper, e_groups_paper, ok_groups_paper F_groups_paper , m_groups_paper, F_groups_paper.kp, b_groups_paper⟩
 have Crises_paper : Cal l.prog w K mg base 5 "rises_paper" ["many", "number"] (spPap "rises") := ⟨f_rises_paper, e_rises_paper, ok_rises_paper F_rises_paper Cmean Cspread, m_rises_paper, F_rises_paper.kp, b_rises_paper⟩
 have Ccrossed_paper : Cal l.prog w K mg base 5 "crossed_paper" ["many", "number"] (spPap "crossed") := ⟨f_crossed_paper, e_crossed_paper, ok_crossed_paper F_crossed_paper Cmean Cspread, m_crossed_paper, F_crossed_paper.kp, b_crossed_paper⟩
 have Cown_paper : Cal l.prog w K mg base 6 "own_paper" ["kind", "many", "number"] (spOwn) := ⟨f_own_paper, e_own_paper, ok_own_paper F_own_paper (PySem.W.mg_of X G a_PAPERS) GD_PAPERS (CalF.of Cgroups_paper (PySem.W.mg_of X G n_groups_paper) (by decide)) (CalF.of Cstays_paper (PySem.W.mg_of X G n_stays_paper) (by decide)) (CalF.of Crises_paper (PySem.W.mg_of X G n_rises_paper) (by decide)) (CalF.of Ccrossed_paper (PySem.W.mg_of X G n_crossed_paper) (by decide)) (CalF.of Clongest_paper (PySem.W.mg_of X G n_longest_paper) (by decide)), m_own_paper, F_own_paper.kp, b_own_paper⟩
 have Cshows_by_sets : Cal l.prog w K mg base 4 "shows_by_sets" ["paper", "number", "bound", "thing"] (spLook ["stays", "longest"]) := ⟨f_shows_by_sets, e_shows_by_sets, ok_shows_by_sets F_shows_by_sets Care_just Cis_less Ctimes, m_shows_by_sets, F_shows_by_sets.kp, b_shows_by_sets⟩
 have Cshows_by_groups : Cal l.prog w K mg base 2 "shows_by_groups" ["paper", "number", "bound", "thing"] (spLook ["rounds", "highs"]) := ⟨f_shows_by_groups, e_shows_by_groups, ok_shows_by_groups F_shows_by_groups T Cis_whole (Cal.l Cproduct), m_shows_by_groups, F_shows_by_groups.kp, b_shows_by_groups⟩
 have Cshows_by_spread : Cal l.prog w K mg base 4 "shows_by_spread" ["paper", "number", "bound", "thing"] (spLook ["rises", "crossed"]) := ⟨f_shows_by_spread, e_shows_by_spread, ok_shows_by_spread F_shows_by_spread Care_just Cis_less Ctimes Cless Cparted, m_shows_by_spread, F_shows_by_spread.kp, b_shows_by_spread⟩
 have Cshows_bound : Cal l.prog w K mg base 7 "shows_bound" ["kind", "many", "number", "bound", "thing"] (spShows) := ⟨f_shows_bound, e_shows_bound, ok_shows_bound F_shows_bound T (PySem.W.mg_of X G a_ALL) h_ALL (PySem.W.mg_of X G a_LOOKS) GD_LOOKS (CalF.of Cshows_by_sets (PySem.W.mg_of X G n_shows_by_sets) (by decide)) (CalF.of Cshows_by_groups (PySem.W.mg_of X G n_shows_by_groups) (by decide)) (CalF.of Cshows_by_spread (PySem.W.mg_of X G n_shows_by_spread) (by decide)) Cis_less Cown_paper, m_shows_bound, F_shows_bound.kp, b_shows_bound⟩
 have Cbound_paper : Cal l.prog w K mg base 8 "bound_paper" ["kind", "many", "number"] (spBPap K) := ⟨f_bound_paper, e_bound_paper, ok_bound_paper F_bound_paper (PySem.W.mg_of X G a_ALL) h_ALL Cown_paper Cmost_share Cshows_bound, m_bound_paper, F_bound_paper.kp, b_bound_paper⟩
 have C_law_pot : Cal l.prog w K mg base 1 "_law_pot" ["_law_script", "_law_k"] (spPot2 K) := ⟨f__law_pot, e__law_pot, ok__law_pot F__law_pot T, m__law_pot, F__law_pot.kp, b__law_pot⟩
 have C_law_next : Cal l.prog w K mg base 1 "_law_next" ["_law_pot_here", "_law_many"] (spNext2) := ⟨f__law_next, e__law_next, ok__law_next F__law_next , m__law_next, F__law_next.kp, b__law_next⟩
 have C_law_of : Cal l.prog w K mg base 2 "_law_of" ["_law_pot_here", "_law_some"] (spOf2) := ⟨f__law_of, e__law_of, ok__law_of F__law_of T C_law_next, m__law_of, F__law_of.kp, b__law_of⟩
 have C_law_same : Cal l.prog w K mg base 3 "_law_same" ["_law_one", "_law_two"] (spSameY K 2) := ⟨f__law_same, e__law_same, ok__law_same F__law_same T TX m__law_same b__law_same 2, m__law_same, F__law_same.kp, b__law_same⟩
 have C_law_odd : Cal l.prog w K mg base 3 "_law_odd" ["_law_pot_here", "_law_thing"] (spOddY) := ⟨f__law_odd, e__law_odd, ok__law_odd F__law_odd T TX C_law_of, m__law_odd, F__law_odd.kp, b__law_odd⟩
 have C_law_deep : Cal l.prog w K mg base 1 "_law_deep" ["_law_many", "_law_by_list"] (spDeepY) := ⟨f__law_deep, e__law_deep, ok__law_deep F__law_deep T, m__law_deep, F__law_deep.kp, b__law_deep⟩
 exact ok_law F_law T C_law_pot C_law_next Cbound_paper C_law_deep C_law_odd C_law_same Cshows_bound
theorem walk {l : PySem.W.OpenLaw} {q : Program} {loose : List Str} {XP : (Str -> Option Value) -> Heap -> Prop} {YP : World -> Heap -> Prop} {d : DefRec} {K : Params -> PySem.W.Frag} (hn : l.most = some 63) (hdf : d.params.defaults = [])
  (hY : ∀ (w : World) (h : Heap), YP w h -> (K w.params).In h)
  (F : ∀ (w : World) (mg : Str -> Option Value) (fa : Addr) (h : Heap), (K w.params).In h -> h.Ns mainGlobals mg -> mg d.name = some (.ref fa) ->
   ∃ fd : FuncData, (∀ (s : Shared) (u : Value), BindsTo s fd ⟨[u], []⟩ [("_law_script", u)]) /\ ∀ base : Heap, (K w.params).In base -> base.Ns mainGlobals mg -> FnOk l.prog w (K w.params) mg base CX0 9 fa fd ["_law_script"] (spLaw (K w.params))) :
  PySem.W.WalkO q loose XP YP l.row.toRowW d [] (fun f vs => PySem.call f vs) :=
 L2.walk_of (n := 63) (k := 9) (x := "_law_script") (CX := fun _ => CX0) (sp := fun w => spLaw (K w.params)) hn (by decide) hdf ⟨rfl, by decide, by decide, rfl⟩ hY F (fun _ _ a ns hl _ hS => ⟨a, ns, rfl, hS, hl, fun _ => rfl⟩) fun _ _ _ _ _ z => z
end K65
end
namespace PySem.W.Fast
theorem tw795747936778856325 : True := trivial
theorem tw14216115357799942831 : True := trivial
theorem tw15602731481027933046 : True := trivial
theorem tw6496573333672438368 : True := trivial
theorem tw2921464809141856657 : True := trivial
theorem tw13201545140928856305 : True := trivial
theorem tw4450975542714483398 : True := trivial
theorem tw11867856673954840478 : True := trivial
theorem tw2481892259476922681 : True := trivial
theorem tw9719869447647773413 : True := trivial
theorem tw5418610754028353292 : True := trivial
theorem tw4790959768116528161 : True := trivial
theorem tw9580471065261388688 : True := trivial
theorem tw17532538555125863855 : True := trivial
theorem tw10031476729981868513 : True := trivial
theorem tw11662708219809511115 : True := trivial
theorem tw14214369467575767146 : True := trivial
theorem tw18354822152640511408 : True := trivial
theorem tw16786181031929140256 : True := trivial
theorem tw85794184048502180 : True := trivial
theorem tw1453010294224234158 : True := trivial
theorem tw12456172536363585563 : True := trivial
theorem tw1113909609537109238 : True := trivial
theorem tw15106722648976273229 : True := trivial
theorem tw12134441794789434074 : True := trivial
theorem tw3299068428999768662 : True := trivial
theorem tw4102579255398152047 : True := trivial
theorem tw4689554006620435393 : True := trivial
theorem tw5224105168274252362 : True := trivial
theorem tw16924267034824705886 : True := trivial
theorem tw17981466607432609013 : True := trivial
theorem tw7319345318959663519 : True := trivial
theorem tw14569174234892024575 : True := trivial
theorem tw16379999550086381005 : True := trivial
theorem tw6361393546407327114 : True := trivial
theorem tw4330652425504005505 : True := trivial
theorem tw8420289106024933843 : True := trivial
theorem tw9780873185606533488 : True := trivial
theorem tw18413921785386821530 : True := trivial
theorem tw13749220930443733848 : True := trivial
theorem tw6750836338227270009 : True := trivial
theorem tw12225456867018652448 : True := trivial
theorem tw8412780235774819131 : True := trivial
theorem tw4929723188931775102 : True := trivial
theorem tw16029453926862922131 : True := trivial
theorem tw2952093636902895689 : True := trivial
theorem tw7917516147092145779 : True := trivial
theorem tw4789629872897894983 : True := trivial
theorem tw9884330684581429077 : True := trivial
theorem tw11053043651033927144 : True := trivial
theorem tw11151229820872654817 : True := trivial
theorem tw10494518538214949511 : True := trivial
theorem tw14910568804715816729 : True := trivial
theorem tw17188546322748293232 : True := trivial
theorem tw16878707419075839594 : True := trivial
theorem tw2052979776863365808 : True := trivial
theorem tw10609401123414771316 : True := trivial
theorem tw7607112257716829900 : True := trivial
theorem tw14128875049721729509 : True := trivial
theorem tw11367442178750196556 : True := trivial
theorem tw16721021341519135920 : True := trivial
theorem tw14372716695433482581 : True := trivial
theorem tw16566659821032239468 : True := trivial
theorem tw13285819674450169350 : True := trivial
theorem tw6526595017353385459 : True := trivial
theorem tw5348151123043205094 : True := trivial
theorem tw2575339729015967363 : True := trivial
theorem tw6673774364758892013 : True := trivial
theorem tw18260835449683499548 : True := trivial
theorem tw16388030886223400734 : True := trivial
theorem tw10122120773065762815 : True := trivial
theorem tw9780780956070113152 : True := trivial
theorem tw10427383561593887623 : True := trivial
theorem tw1552195277198484317 : True := trivial
theorem tw14137998352883092790 : True := trivial
theorem tw12086439278431487443 : True := trivial
theorem tw1877139303047621099 : True := trivial
theorem tw11539386658873129758 : True := trivial
theorem tw15285180457857065621 : True := trivial
theorem tw8164009335676440501 : True := trivial
theorem tw12250069419913067744 : True := trivial
theorem tw10304420703845330457 : True := trivial
theorem tw17847558142284342115 : True := trivial
theorem tw16627271983781925559 : True := trivial
theorem tw8118503242276781750 : True := trivial
theorem tw10992304344697719312 : True := trivial
theorem tw13200282975214219284 : True := trivial
theorem tw13185032239294860917 : True := trivial
theorem tw1202229654459159118 : True := trivial
theorem tw572298277779015011 : True := trivial
theorem tw3413967707965714363 : True := trivial
theorem tw8075332120545800907 : True := trivial
theorem tw1316526139893835508 : True := trivial
theorem tw15046964710169581017 : True := trivial
theorem tw11828475846780867929 : True := trivial
theorem tw7894455058487768488 : True := trivial
theorem tw2907722015835683120 : True := trivial
theorem tw5916377522459920274 : True := trivial
theorem tw10507622638824929102 : True := trivial
theorem tw7805703812916697174 : True := trivial
theorem tw4522097960399836197 : True := trivial
theorem tw15067127509204971908 : True := trivial
theorem tw1019556686204451576 : True := trivial
theorem tw1534983543183898378 : True := trivial
theorem tw225421934869870321 : True := trivial
theorem tw11708644213314378927 : True := trivial
theorem tw457513067214084792 : True := trivial
theorem tw614712552729079529 : True := trivial
theorem tw3094713932083572850 : True := trivial
theorem tw6196263658082641844 : True := trivial
theorem tw5833128785078525888 : True := trivial
theorem tw11630317187291320836 : True := trivial
theorem tw12452723205515508756 : True := trivial
theorem tw3703185402601378448 : True := trivial
theorem tw10739629759311545630 : True := trivial
theorem tw13285334461729139753 : True := trivial
theorem tw14360838721383054167 : True := trivial
theorem tw11107418582722728375 : True := trivial
theorem tw10371464338079937847 : True := trivial
theorem tw4910105713040769496 : True := trivial
theorem tw1250798738649084300 : True := trivial
theorem tw6073555214250598810 : True := trivial
theorem tw11121317404914194249 : True := trivial
theorem tw5915320041224317262 : True := trivial
theorem tw8282783550989562713 : True := trivial
theorem tw11334920232822645644 : True := trivial
theorem tw74019052058142992 : True := trivial
theorem tw16203922240284445378 : True := trivial
theorem tw9512842205881770904 : True := trivial
theorem tw9448357016117475705 : True := trivial
theorem tw16427446351630064027 : True := trivial
theorem tw5504293093956802608 : True := trivial
theorem tw14856339740038062397 : True := trivial
theorem tw7214760294495294063 : True := trivial
theorem tw9305249696806385662 : True := trivial
theorem tw2178838308975673183 : True := trivial
theorem tw286631408477515859 : True := trivial
theorem tw10670422620571579646 : True := trivial
theorem tw14586650161964015131 : True := trivial
theorem tw17616441495923678337 : True := trivial
theorem tw12907345444857460708 : True := trivial
theorem tw1374262486123964939 : True := trivial
theorem tw17288199439992337510 : True := trivial
theorem tw1244667323628470841 : True := trivial
theorem tw3922961839684034250 : True := trivial
theorem tw8985518052718820078 : True := trivial
theorem tw15251143381181336710 : True := trivial
theorem tw9483382770702938539 : True := trivial
theorem tw2358116009677565568 : True := trivial
theorem tw11989567788610479564 : True := trivial
theorem tw2732279202936711808 : True := trivial
theorem tw10448408714901468370 : True := trivial
theorem tw9031616881077188979 : True := trivial
theorem tw15962768922593281802 : True := trivial
theorem tw229547827635943805 : True := trivial
theorem tw14159983113553468862 : True := trivial
theorem tw18153513978491799197 : True := trivial
theorem tw9388274323789653841 : True := trivial
theorem tw3756093384200328460 : True := trivial
theorem tw6081037614742124189 : True := trivial
theorem tw283377643728106803 : True := trivial
theorem tw9845443096753237000 : True := trivial
theorem tw9447632547850580504 : True := trivial
theorem tw2488106529274634083 : True := trivial
theorem tw7593532767609683185 : True := trivial
theorem tw2789017919854986940 : True := trivial
theorem tw17231029448794904021 : True := trivial
theorem tw601189702064563516 : True := trivial
theorem tw6409117629023962784 : True := trivial
theorem tw3030289879786051583 : True := trivial
theorem tw8857146346853319249 : True := trivial
theorem tw8114428124481867146 : True := trivial
theorem tw10623611634089618680 : True := trivial
theorem tw14159882410029398694 : True := trivial
theorem tw18100258082480494545 : True := trivial
theorem tw5339331577213358756 : True := trivial
theorem tw5726013470104657136 : True := trivial
theorem tw1656759937590120222 : True := trivial
theorem tw14647466041734283174 : True := trivial
theorem tw4822041030289290561 : True := trivial
theorem tw9773601427296021815 : True := trivial
theorem tw1908114078498194843 : True := trivial
theorem tw15267505785167788217 : True := trivial
theorem tw15181446959834560019 : True := trivial
theorem tw11326026076059182104 : True := trivial
theorem tw9367948250388221007 : True := trivial
theorem tw6710496080505801610 : True := trivial
theorem tw664302317312640565 : True := trivial
theorem tw16217136399764339967 : True := trivial
theorem tw10330838186850381172 : True := trivial
theorem tw13978840903238890650 : True := trivial
theorem tw13630062768568808911 : True := trivial
theorem tw13400847245835533680 : True := trivial
theorem tw14393548945144562947 : True := trivial
theorem tw10075322729875910069 : True := trivial
theorem tw7225061492033828587 : True := trivial
theorem tw16058313843278918832 : True := trivial
theorem tw3382016662328341342 : True := trivial
theorem tw16639336166459158717 : True := trivial
theorem tw12328981103038679104 : True := trivial
theorem tw3728765800180358718 : True := trivial
theorem tw1999380326982008610 : True := trivial
theorem tw9630451308204214491 : True := trivial
theorem tw6492196116030310744 : True := trivial
theorem tw12355992103805731967 : True := trivial
theorem tw7427141715133120092 : True := trivial
theorem tw13886568625501649745 : True := trivial
theorem tw10867014218856868655 : True := trivial
theorem tw15859896677598333767 : True := trivial
theorem tw13016637836865760032 : True := trivial
theorem tw9058206068442174439 : True := trivial
theorem tw14943263709725608860 : True := trivial
theorem tw17533425775440717806 : True := trivial
theorem tw442918716453225160 : True := trivial
theorem tw5712613724754110289 : True := trivial
theorem tw14530692405159590700 : True := trivial
theorem tw11164819103614233141 : True := trivial
theorem tw16219743662595061310 : True := trivial
theorem tw1247975338365543351 : True := trivial
theorem tw8828883425617389799 : True := trivial
theorem tw708010804280910801 : True := trivial
theorem tw10285681765400513530 : True := trivial
theorem tw12633645850573841511 : True := trivial
theorem tw14227678761441192359 : True := trivial
theorem tw16167697590972241430 : True := trivial
theorem tw9187213715483531432 : True := trivial
theorem tw1025100429678819818 : True := trivial
theorem tw18260120860660324938 : True := trivial
theorem tw16417456019474905351 : True := trivial
theorem tw16859830938975938132 : True := trivial
theorem tw1850508006360474815 : True := trivial
theorem tw5940793890843759388 : True := trivial
theorem tw4607678231597184898 : True := trivial
theorem tw2154990590340603158 : True := trivial
theorem tw15350003398684966215 : True := trivial
theorem tw11270032821836760211 : True := trivial
theorem tw11444895180669470873 : True := trivial
theorem tw18222578242405171245 : True := trivial
theorem tw10478613446349080673 : True := trivial
theorem tw3378415172389802373 : True := trivial
theorem tw13172206383334954138 : True := trivial
theorem tw2799060014802924774 : True := trivial
theorem tw8078895482662863256 : True := trivial
theorem tw17171503166390003087 : True := trivial
theorem tw5954085412775257695 : True := trivial
theorem tw4704380309136264405 : True := trivial
theorem tw666888058153448387 : True := trivial
theorem tw12735484574569713599 : True := trivial
theorem tw6211292004372453011 : True := trivial
theorem tw14391035763840042081 : True := trivial
theorem tw6559726516547584021 : True := trivial
theorem tw5404845678419659926 : True := trivial
theorem tw15631839550401664150 : True := trivial
theorem tw3204677018131659760 : True := trivial
theorem tw11441914431655710892 : True := trivial
theorem tw2863877798622444246 : True := trivial
theorem tw10147460946153148101 : True := trivial
theorem tw16681021703285450572 : True := trivial
theorem tw2129698556677902752 : True := trivial
theorem tw16143253015251300269 : True := trivial
theorem tw17192579900297437068 : True := trivial
theorem tw17917558815853684574 : True := trivial
theorem tw13542492606012856738 : True := trivial
theorem tw10562912543257998719 : True := trivial
theorem tw1554632404468106247 : True := trivial
theorem tw16212166230349359631 : True := trivial
theorem tw11733165050204930638 : True := trivial
theorem tw136255325173198605 : True := trivial
theorem tw3187254337584937964 : True := trivial
theorem tw1241129943959840360 : True := trivial
theorem tw1386482287162321802 : True := trivial
theorem tw216173551099649373 : True := trivial
theorem tw10340421142020661519 : True := trivial
theorem tw6149005664709908445 : True := trivial
theorem tw13435514045163155041 : True := trivial
theorem tw10061604702886522468 : True := trivial
theorem tw17444838977347925309 : True := trivial
theorem tw15141000627412835515 : True := trivial
theorem tw6117883092985864627 : True := trivial
theorem tw14730138790571299821 : True := trivial
theorem tw17451825682263443623 : True := trivial
theorem tw343372234238488469 : True := trivial
theorem tw17037294910405603758 : True := trivial
theorem tw7577093584210196122 : True := trivial
theorem tw3193214197557530379 : True := trivial
theorem tw7861832396862602429 : True := trivial
theorem tw16996395475953305774 : True := trivial
theorem tw2340206330475808066 : True := trivial
theorem tw7509164735822972099 : True := trivial
theorem tw14636891981868320614 : True := trivial
theorem tw455731457968875279 : True := trivial
theorem tw15923492445928053939 : True := trivial
theorem tw3781207667854154485 : True := trivial
theorem tw3451900512108348750 : True := trivial
theorem tw9862770182082922462 : True := trivial
theorem tw7334595920247357086 : True := trivial
theorem tw5496380392426889942 : True := trivial
theorem tw2384840767804426039 : True := trivial
theorem tw2515412369278006904 : True := trivial
theorem tw4030112011389703735 : True := trivial
theorem tw724651362251663653 : True := trivial
theorem tw4259896518011384334 : True := trivial
theorem tw18172158316182485128 : True := trivial
theorem tw12303127587230561324 : True := trivial
theorem tw10986115343851776186 : True := trivial
theorem tw9944884341382466258 : True := trivial
theorem tw5863677222645732254 : True := trivial
theorem tw1448732105444969202 : True := trivial
theorem tw10372232986221819202 : True := trivial
theorem tw1700071807788386735 : True := trivial
theorem tw9954688098149915037 : True := trivial
theorem tw9489474505297490519 : True := trivial
theorem tw12178058650148411405 : True := trivial
theorem tw2434185643386172259 : True := trivial
theorem tw654396383425417586 : True := trivial
theorem tw2594514223615497404 : True := trivial
theorem tw10873727421740548183 : True := trivial
theorem tw17777459657731264497 : True := trivial
theorem tw12033924297320736191 : True := trivial
theorem tw14611158568015122264 : True := trivial
theorem tw15720308511655699056 : True := trivial
theorem tw620368994085451572 : True := trivial
theorem tw8244826351012298007 : True := trivial
theorem tw16590109758558695639 : True := trivial
theorem tw13061709833926809516 : True := trivial
theorem tw3283132682499603843 : True := trivial
theorem tw5574916707627005875 : True := trivial
theorem tw1878904036858766064 : True := trivial
theorem tw7403821575104727958 : True := trivial
theorem tw15267173544159840535 : True := trivial
theorem tw8765769121440552289 : True := trivial
theorem tw17200716080087223836 : True := trivial
theorem tw1271444860755187203 : True := trivial
theorem tw5552202269079523551 : True := trivial
theorem tw18006908716012714803 : True := trivial
theorem tw6714972472678382835 : True := trivial
theorem tw2808004284529072453 : True := trivial
theorem tw10889092697761243364 : True := trivial
theorem tw14459819511526845431 : True := trivial
theorem tw4574265711828250089 : True := trivial
theorem tw3874436830312378765 : True := trivial
theorem tw5269882030170064555 : True := trivial
theorem tw8556745307758707829 : True := trivial
theorem tw5393714263631871203 : True := trivial
theorem tw1831350878737039511 : True := trivial
theorem tw18156375782440766216 : True := trivial
theorem tw9735515338148469952 : True := trivial
theorem tw3774424274720172034 : True := trivial
theorem tw17499153200663315236 : True := trivial
theorem tw14040255371289436548 : True := trivial
theorem tw2394729570493336478 : True := trivial
theorem tw10813334460834628687 : True := trivial
theorem tw588118261066203138 : True := trivial
theorem tw11548358575416460650 : True := trivial
theorem tw13536306029627166202 : True := trivial
theorem tw14578680227971957062 : True := trivial
theorem tw1010388925045035247 : True := trivial
theorem tw10538003618185628734 : True := trivial
theorem tw147556889701287413 : True := trivial
theorem tw11532458733472777902 : True := trivial
theorem tw1908184779203238709 : True := trivial
theorem tw11430307841335942689 : True := trivial
theorem tw2418848153231320519 : True := trivial
theorem tw14650345394904823249 : True := trivial
theorem tw10953333779377417754 : True := trivial
theorem tw13861299090294251627 : True := trivial
theorem tw3844730744379844265 : True := trivial
theorem tw1665787512277068316 : True := trivial
theorem tw1915134010956023074 : True := trivial
theorem tw8001624491893522553 : True := trivial
theorem tw3763790692315405513 : True := trivial
theorem tw15070268129297058994 : True := trivial
theorem tw1868073454048733695 : True := trivial
theorem tw151012250039459409 : True := trivial
theorem tw16898997009022704687 : True := trivial
theorem tw13498008719560247467 : True := trivial
theorem tw10836371306629191594 : True := trivial
theorem tw770628573451284793 : True := trivial
end PySem.W.Fast
open PySem PySem.W PyProof.Rows
set_option maxRecDepth 100000 in
set_option maxHeartbeats 0 in
theorem PySem.Challenge.cw_shuffletold_k65_bound_papers_of_anything_holds : PySem.Challenge.rw_shuffletold_k65_bound_papers_of_anything.Holds := by
 w_on; o_law; k_head; (case hw => w_witness2)
 k_fill
 refine K65.walk (l := PySem.Challenge.rw_shuffletold_k65_bound_papers_of_anything) rfl rfl (fun w h Y => PySem.W.kIn_of Y) ?F
 case F =>
  intro w mg fa h KX G hmg
  refine' K65.all_mk KX G hmg ⟨?_, ?_, ?_, ?_, ?_, ?_, ?_, ?_, ?_, ?_, ?_, ?_, ?_, ?_, ?_⟩ ⟨?_, ?_, ?_⟩ ?dA0 (L2.GDict.of ?dL0 ?dE0 ?dN0) ?dA1 (L2.GDict.of ?dL1 ?dE1 ?dN1) ?dA2 (L2.GDict.of ?dL2 ?dE2 ?dN2) ?dA3 (L2.GDict.of ?dL3 ?dE3 ?dN3) ?dA4 (L2.GDict.of ?dL4 ?dE4 ?dN4) ?tA0 (L2.sqT_ofK ?tL0 ?tZ0 ?tR0) ?nF0 ?nF1 ?nF2 ?nF3 ?nF4 ?nF5 ?nF6 ?nF7 ?nF8 ?nF9 ?nF10 ?nF11 ?nF12 ?nF13 ?nF14 ?nF15 ?nF16 ?nF17 ?nF18 ?nF19 ?nF20 (L2.Def.of ?a0 ?l0 ?c0 ?k0) (L2.Def.of ?a1 ?l1 ?c1 ?k1) (L2.Def.of ?a2 ?l2 ?c2 ?k2) (L2.Def.of ?a3 ?l3 ?c3 ?k3) (L2.Def.of ?a4 ?l4 ?c4 ?k4) (L2.Def.of ?a5 ?l5 ?c5 ?k5) (L2.Def.of ?a6 ?l6 ?c6 ?k6) (L2.Def.of ?a7 ?l7 ?c7 ?k7) (L2.Def.of ?a8 ?l8 ?c8 ?k8) (L2.Def.of ?a9 ?l9 ?c9 ?k9) (L2.Def.of ?a10 ?l10 ?c10 ?k10) (L2.Def.of ?a11 ?l11 ?c11 ?k11) (L2.Def.of ?a12 ?l12 ?c12 ?k12) (L2.Def.of ?a13 ?l13 ?c13 ?k13) (L2.Def.of ?a14 ?l14 ?c14 ?k14) (L2.Def.of ?a15 ?l15 ?c15 ?k15) (L2.Def.of ?a16 ?l16 ?c16 ?k16) (L2.Def.of ?a17 ?l17 ?c17 ?k17) (L2.Def.of ?a18 ?l18 ?c18 ?k18) (L2.Def.of ?a19 ?l19 ?c19 ?k19) (L2.Def.of ?a20 ?l20 ?c20 ?k20) (L2.Def.of ?a21 ?l21 ?c21 ?k21) (L2.Def.of ?a22 ?l22 ?c22 ?k22) (L2.Def.of ?a23 ?l23 ?c23 ?k23) (L2.Def.of ?a24 ?l24 ?c24 ?k24) (L2.Def.of ?a25 ?l25 ?c25 ?k25) (L2.Def.of ?a26 ?l26 ?c26 ?k26) (L2.Def.of ?a27 ?l27 ?c27 ?k27) (L2.Def.of ?a28 ?l28 ?c28 ?k28) (L2.Def.of ?a29 ?l29 ?c29 ?k29) (L2.Def.of ?a30 ?l30 ?c30 ?k30) (L2.Def.of ?a31 ?l31 ?c31 ?k31) (L2.Def.of ?a32 ?l32 ?c32 ?k32) (L2.Def.of ?a33 ?l33 ?c33 ?k33) (L2.Def.of ?a34 ?l34 ?c34 ?k34) (L2.Def.of ?a35 ?l35 ?c35 ?k35) (L2.Def.of ?a36 ?l36 ?c36 ?k36) (L2.Def.of ?a37 ?l37 ?c37 ?k37) (L2.Def.of ?a38 ?l38 ?c38 ?k38) (L2.Def.of ?a39 ?l39 ?c39 ?k39) (L2.Def.of ?a40 ?l40 ?c40 ?k40) (L2.Def.of ?a41 ?l41 ?c41 ?k41) (L2.Def.of ?a42 ?l42 ?c42 ?k42) (L2.Def.of ?a43 ?l43 ?c43 ?k43) (L2.Def.of ?a44 ?l44 ?c44 ?k44) (L2.Def.of ?a45 ?l45 ?c45 ?k45) (L2.Def.of ?a46 ?l46 ?c46 ?k46) (L2.Def.of ?a47 ?l47 ?c47 ?k47)
  (case dA0 => k_is); (case dL0 => k_is); (case dE0 => exact (.cons (.cons (.cons (.cons (.cons .nil)))))); (case dN0 => decide +kernel)
  (case dA1 => k_is); (case dL1 => k_is); (case dE1 => exact (.cons (.cons (.cons (.cons (.cons .nil)))))); (case dN1 => decide +kernel)
  (case dA2 => k_is); (case dL2 => k_is); (case dE2 => exact (.cons (.cons (.cons (.cons (.cons (.cons .nil))))))); (case dN2 => decide +kernel)
  (case dA3 => k_is); (case dL3 => k_is); (case dE3 => exact (.cons (.cons (.cons (.cons (.cons (.cons .nil))))))); (case dN3 => decide +kernel)
  (case dA4 => k_is); (case dL4 => k_is); (case dE4 => exact (.cons (.cons (.cons .nil)))); (case dN4 => decide +kernel)
  (case tA0 => k_is); (case tL0 => k_is); (case tZ0 => exact (by decide)); (case tR0 => exact (.cons ⟨_, rfl⟩ .nil))
  (case nF0 => k_is)
  (case nF1 => k_is)
  (case nF2 => k_is)
  (case nF3 => k_is)
  (case nF4 => k_is)
  (case nF5 => k_is)
  (case nF6 => k_is)
  (case nF7 => k_is)
  (case nF8 => k_is)
  (case nF9 => k_is)
  (case nF10 => k_is)
  (case nF11 => k_is)
  (case nF12 => k_is)
  (case nF13 => k_is)
  (case nF14 => k_is)
  (case nF15 => k_is)
  (case nF16 => k_is)
  (case nF17 => k_is)
  (case nF18 => k_is)
  (case nF19 => k_is)
  (case nF20 => k_is)
  (case a0 => k_is); (case l0 => k_is); (case c0 => k_is); (case k0 => k_is)
  (case a1 => k_is); (case l1 => k_is); (case c1 => k_is); (case k1 => k_is)
  (case a2 => k_is); (case l2 => k_is); (case c2 => k_is); (case k2 => k_is)
  (case a3 => k_is); (case l3 => k_is); (case c3 => k_is); (case k3 => k_is)
  (case a4 => k_is); (case l4 => k_is); (case c4 => k_is); (case k4 => k_is)
  (case a5 => k_is); (case l5 => k_is); (case c5 => k_is); (case k5 => k_is)
  (case a6 => k_is); (case l6 => k_is); (case c6 => k_is); (case k6 => k_is)
  (case a7 => k_is); (case l7 => k_is); (case c7 => k_is); (case k7 => k_is)
  (case a8 => k_is); (case l8 => k_is); (case c8 => k_is); (case k8 => k_is)
  (case a9 => k_is); (case l9 => k_is); (case c9 => k_is); (case k9 => k_is)
  (case a10 => k_is); (case l10 => k_is); (case c10 => k_is); (case k10 => k_is)
  (case a11 => k_is); (case l11 => k_is); (case c11 => k_is); (case k11 => k_is)
  (case a12 => k_is); (case l12 => k_is); (case c12 => k_is); (case k12 => k_is)
  (case a13 => k_is); (case l13 => k_is); (case c13 => k_is); (case k13 => k_is)
  (case a14 => k_is); (case l14 => k_is); (case c14 => k_is); (case k14 => k_is)
  (case a15 => k_is); (case l15 => k_is); (case c15 => k_is); (case k15 => k_is)
  (case a16 => k_is); (case l16 => k_is); (case c16 => k_is); (case k16 => k_is)
  (case a17 => k_is); (case l17 => k_is); (case c17 => k_is); (case k17 => k_is)
  (case a18 => k_is); (case l18 => k_is); (case c18 => k_is); (case k18 => k_is)
  (case a19 => k_is); (case l19 => k_is); (case c19 => k_is); (case k19 => k_is)
  (case a20 => k_is); (case l20 => k_is); (case c20 => k_is); (case k20 => k_is)
  (case a21 => k_is); (case l21 => k_is); (case c21 => k_is); (case k21 => k_is)
  (case a22 => k_is); (case l22 => k_is); (case c22 => k_is); (case k22 => k_is)
  (case a23 => k_is); (case l23 => k_is); (case c23 => k_is); (case k23 => k_is)
  (case a24 => k_is); (case l24 => k_is); (case c24 => k_is); (case k24 => k_is)
  (case a25 => k_is); (case l25 => k_is); (case c25 => k_is); (case k25 => k_is)
  (case a26 => k_is); (case l26 => k_is); (case c26 => k_is); (case k26 => k_is)
  (case a27 => k_is); (case l27 => k_is); (case c27 => k_is); (case k27 => k_is)
  (case a28 => k_is); (case l28 => k_is); (case c28 => k_is); (case k28 => k_is)
  (case a29 => k_is); (case l29 => k_is); (case c29 => k_is); (case k29 => k_is)
  (case a30 => k_is); (case l30 => k_is); (case c30 => k_is); (case k30 => k_is)
  (case a31 => k_is); (case l31 => k_is); (case c31 => k_is); (case k31 => k_is)
  (case a32 => k_is); (case l32 => k_is); (case c32 => k_is); (case k32 => k_is)
  (case a33 => k_is); (case l33 => k_is); (case c33 => k_is); (case k33 => k_is)
  (case a34 => k_is); (case l34 => k_is); (case c34 => k_is); (case k34 => k_is)
  (case a35 => k_is); (case l35 => k_is); (case c35 => k_is); (case k35 => k_is)
  (case a36 => k_is); (case l36 => k_is); (case c36 => k_is); (case k36 => k_is)
  (case a37 => k_is); (case l37 => k_is); (case c37 => k_is); (case k37 => k_is)
  (case a38 => k_is); (case l38 => k_is); (case c38 => k_is); (case k38 => k_is)
  (case a39 => k_is); (case l39 => k_is); (case c39 => k_is); (case k39 => k_is)
  (case a40 => k_is); (case l40 => k_is); (case c40 => k_is); (case k40 => k_is)
  (case a41 => k_is); (case l41 => k_is); (case c41 => k_is); (case k41 => k_is)
  (case a42 => k_is); (case l42 => k_is); (case c42 => k_is); (case k42 => k_is)
  (case a43 => k_is); (case l43 => k_is); (case c43 => k_is); (case k43 => k_is)
  (case a44 => k_is); (case l44 => k_is); (case c44 => k_is); (case k44 => k_is)
  (case a45 => k_is); (case l45 => k_is); (case c45 => k_is); (case k45 => k_is)
  (case a46 => k_is); (case l46 => k_is); (case c46 => k_is); (case k46 => k_is)
  (case a47 => k_is); (case l47 => k_is); (case c47 => k_is); (case k47 => k_is)
  all_goals k_is
