import PyProof.Rows.All
import Wide.All
import OpenK.AllK
import Wide.FinOn
import Lean
import PyProof.EqAt
import PyProof.EqKinds
import PyProof.TupleCall
import PySem.Challenge.RW_shuffletold_k44_places_by_beginnings
set_option Elab.async false
set_option linter.all false
set_option maxRecDepth 100000
set_option genSizeOfSpec false
noncomputable section
namespace L2
open PySem PySem.Spec PyProof.Rows
noncomputable abbrev Key := Sum Int Str
noncomputable def keyIs : Key -> Value -> Bool
 | .inl k, v => Value.isInt k v
 | .inr x, v => Value.isStrOf x v
noncomputable def keyH (w : World) : Key -> Int
 | .inl k => hashInt k
 | .inr x => hashStr w x
theorem keyIs_shape : ∀ {k : Key} {v : Value}, keyIs k v = true -> (∃ i t, k = Sum.inl i /\ v = Value.int i t) ∨ (∃ x t, k = Sum.inr x /\ v = Value.str x t)
 | .inl i, v, h => by
  obtain ⟨t, e⟩ := Value.isInt_shape (k := i) (v := v) h
  exact .inl ⟨i, t, rfl, e⟩
 | .inr x, v, h => by
  obtain ⟨t, e⟩ := Value.isStrOf_shape (x := x) (v := v) h
  exact .inr ⟨x, t, rfl, e⟩
theorem keyIs_int (i : Int) (t : Tok) : keyIs (.inl i) (.int i t) = true := by simp [keyIs, Value.isInt]
theorem keyIs_str (x : Str) (t : Tok) : keyIs (.inr x) (.str x t) = true := by simp [keyIs, Value.isStrOf]
theorem key_ll (a b : Int) : decide ((Sum.inl a : Key) = Sum.inl b) = (a == b) := by
 by_cases e : a = b
 ·subst e; simp
 ·have h : ¬ (Sum.inl a : Key) = Sum.inl b := fun q => e (Sum.inl.inj q)
  rw [decide_eq_false h]
  exact (beq_eq_false_iff_ne.mpr e).symm
theorem key_rr (a b : Str) : decide ((Sum.inr a : Key) = Sum.inr b) = decide (a = b) := by
 by_cases e : a = b
 ·subst e; simp
 ·have h : ¬ (Sum.inr a : Key) = Sum.inr b := fun q => e (Sum.inr.inj q)
  rw [decide_eq_false h, decide_eq_false e]
theorem key_lr (a : Int) (b : Str) : decide ((Sum.inl a : Key) = Sum.inr b) = false := decide_eq_false (fun q => nomatch q)
theorem key_rl (a : Str) (b : Int) : decide ((Sum.inr a : Key) = Sum.inl b) = false := decide_eq_false (fun q => nomatch q)
noncomputable def mixKind (prog : Program) (w : World) : PySem.KeyKind prog w Key where
 is := keyIs
 hash := keyH w
 inj := fun v a b ha hb => by
  rcases keyIs_shape ha with ⟨i, t, rfl, rfl⟩ | ⟨x, t, rfl, rfl⟩
  ·rcases keyIs_shape hb with ⟨j, u, rfl, e⟩ | ⟨y, u, rfl, e⟩
   ·injection e with e1 _; rw [e1]
   ·exact nomatch e
  ·rcases keyIs_shape hb with ⟨j, u, rfl, e⟩ | ⟨y, u, rfl, e⟩
   ·exact nomatch e
   ·injection e with e1 _; rw [e1]
 byValue := fun k v h => by
  rcases keyIs_shape h with ⟨i, t, rfl, rfl⟩ | ⟨x, t, rfl, rfl⟩ <;> rfl
 pyHash := fun hv h => by
  rcases keyIs_shape hv with ⟨i, t, rfl, rfl⟩ | ⟨x, t, rfl, rfl⟩
  ·exact wpAny_pyHash_int h
  ·exact wpAny_pyHash_str h
 eqBool := fun hu hv h => by
  rcases keyIs_shape hu with ⟨i, t, rfl, rfl⟩ | ⟨x, t, rfl, rfl⟩
  ·rcases keyIs_shape hv with ⟨j, u, rfl, rfl⟩ | ⟨y, u, rfl, rfl⟩
   ·rw [key_ll] at h; exact wpAny_eqBool_int h
   ·rw [key_lr] at h; exact SeqAt.EqAt.int_str i t y u _ _ _ _ h
  ·rcases keyIs_shape hv with ⟨j, u, rfl, rfl⟩ | ⟨y, u, rfl, rfl⟩
   ·rw [key_rl] at h; exact SeqAt.EqAt.str_int x t j u _ _ _ _ h
   ·rw [key_rr] at h; exact wpAny_eqBool_str h
 «strs» := fun k x t v h => by
  rcases keyIs_shape h with ⟨i, u, rfl, e⟩ | ⟨y, u, rfl, e⟩
  ·exact nomatch e
  ·injection e with e1 _
   subst e1
   cases v <;> rfl
theorem mixKind_int (prog : Program) (w : World) (i : Int) (t : Tok) : (mixKind prog w).is (.inl i) (.int i t) = true := keyIs_int i t
theorem mixKind_str (prog : Program) (w : World) (x : Str) (t : Tok) : (mixKind prog w).is (.inr x) (.str x t) = true := keyIs_str x t
end L2
namespace L2
open PySem PySem.Spec PyProof.Rows
inductive V where
 | non | bl (b : Bool) | int (i : Int) | str (x : Str) | byt (b : Array UInt8) | flt (b : UInt64) | ref (a : Addr) | ty (n : String)
 deriving DecidableEq
noncomputable def RelV : V -> Value -> Prop
 | .non, u => u = Value.none
 | .bl b, u => u = Value.bool b
 | .int i, u => ∃ t, u = Value.int i t
 | .str x, u => ∃ t, u = Value.str x t
 | .byt b, u => ∃ t, u = Value.bytes b t
 | .flt b, u => ∃ t, u = Value.float b t
 | .ref a, u => u = Value.ref a
 | .ty n, u => u = Value.type n
noncomputable abbrev Vals : List V -> List Value -> Prop := Paired RelV
theorem Vals.length {xs : List V} {us : List Value} (r : Vals xs us) : xs.length = us.length := Paired.length r
theorem Vals.get : ∀ {xs : List V} {us : List Value} {i : Nat} {x : V}, Vals xs us -> xs[i]? = some x -> ∃ u, us[i]? = some u /\ RelV x u
 | _, _, _, _, .nil, e => by simp at e
 | _, _, 0, _, .cons r _, e => by simp at e; subst e; exact ⟨_, rfl, r⟩
 | _, _, i + 1, x, .cons _ t, e => by
  obtain ⟨u, h1, h2⟩ := Vals.get (i := i) (x := x) t (by simpa using e)
  exact ⟨u, by simpa using h1, h2⟩
theorem Vals.set {x : V} {u : Value} (r : RelV x u) : ∀ {xs : List V} {us : List Value} (i : Nat), Vals xs us -> Vals (xs.set i x) (us.set i u)
 | _, _, _, .nil => .nil
 | _, _, 0, .cons _ t => .cons r t
 | _, _, i + 1, .cons q t => .cons q (Vals.set r i t)
theorem Vals.append : ∀ {xs ys : List V} {us ws : List Value}, Vals xs us -> Vals ys ws -> Vals (xs ++ ys) (us ++ ws)
 | _, _, _, _, .nil, s => s
 | _, _, _, _, .cons r t, s => .cons r (Vals.append t s)
theorem Vals.take : ∀ {xs : List V} {us : List Value} (n : Nat), Vals xs us -> Vals (xs.take n) (us.take n)
 | _, _, 0, _ => .nil
 | _, _, _ + 1, .nil => .nil
 | _, _, n + 1, .cons r t => .cons r (Vals.take n t)
theorem Vals.drop : ∀ {xs : List V} {us : List Value} (n : Nat), Vals xs us -> Vals (xs.drop n) (us.drop n)
 | _, _, 0, r => r
 | _, _, _ + 1, .nil => .nil
 | _, _, n + 1, .cons _ t => Vals.drop n t
theorem Vals.none_of : ∀ {xs : List V} {us : List Value} {i : Nat}, Vals xs us -> xs[i]? = none -> us[i]? = none := fun {xs us i} r e => by
 have h1 := r.length
 have h2 : xs.length <= i := List.getElem?_eq_none_iff.mp e
 exact List.getElem?_eq_none_iff.mpr (by (first | lia | omega))
noncomputable def RelO : Option V -> Option Value -> Prop
 | some v, some u => RelV v u
 | none, none => True
 | _, _ => False
noncomputable def KV {κ : Type} : List (κ × V) -> List (κ × Value) -> Prop := Paired fun (p : κ × V) (q : κ × Value) => p.1 = q.1 /\ RelV p.2 q.2
noncomputable def kV : Key -> V
 | .inl i => .int i
 | .inr x => .str x
inductive HO where
  | lst (xs : List V)
  | tup (xs : List V)
  | dK (kvs : List (Key × V)) | dT (kvs : List (List Key × V))
  | set (S : Int -> Bool) (n : Nat)
  | ins (C dx : Addr) (fs : List (Str × V))
  | own (x : Addr)
  | xd (fs : List (Str × V))
  | met (f x : Addr)
  | rng (lo hi : Int)
  | frz (o : Obj) (u : HO)
  | tbl (ps : Array Value)
  | ext (φ : Heap -> Prop)
noncomputable abbrev Hp := Addr -> Option HO
noncomputable def upd (H : Hp) (a : Addr) (o : HO) : Hp := fun b => if b = a then some o else H b
theorem upd_same {H : Hp} {a : Addr} {o : HO} : upd H a o a = some o := by unfold upd; rw [if_pos rfl]
theorem upd_ne {H : Hp} {a b : Addr} {o : HO} (h : b ≠ a) : upd H a o b = H b := by unfold upd; rw [if_neg h]
theorem upd_upd {H : Hp} {a : Addr} {o u : HO} : upd (upd H a o) a u = upd H a u := by
 funext b; unfold upd; split <;> rfl
theorem ne_of {H : Hp} {a b : Addr} {o u : HO} (h : H a = some o) (h' : H b = some u) (d : o ≠ u) : a ≠ b := by
 intro e; subst e; rw [h] at h'; exact d (Option.some.inj h')
theorem ne_of_none {H : Hp} {a b : Addr} {o : HO} (h : H a = some o) (h' : H b = none) : a ≠ b := by
 intro e; subst e; rw [h] at h'; cases h'
noncomputable def PTup (h : Heap) (a : Addr) (items : Array Value) : Prop := ∃ o, h.get? a = some o /\ o.cls = .type "tuple" /\ (∃ n, o.data = .seq items n) /\ o.dict = none /\ o.slots = #[]
theorem PTup.tup {h : Heap} {a : Addr} {items : Array Value} (p : PTup h a items) : IsTup h a items := by
 obtain ⟨o, e, c, d, _⟩ := p
 exact ⟨o, e, c, d⟩
theorem PTup.new {h : Heap} {items : Array Value} {n : Nat} : PTup (h.push { cls := .type "tuple", data := .seq items n }) h.objs.size items := ⟨_, Heap.get?_push_size _ rfl, rfl, ⟨_, rfl⟩, rfl, rfl⟩
section
variable (P : Program) (w : World)
noncomputable def ObjOk (H : Hp) (h : Heap) (a : Addr) : HO -> Prop
 | .lst xs => xs.length <= sizeLine /\ ∃ (its : List Value) (n : Nat), Vals xs its /\ h.get? a = some { cls := .type "list", data := .seq its.toArray n }
 | .tup xs => xs.length <= sizeLine /\ ∃ its : List Value, Vals xs its /\ PTup h a its.toArray
 | .dK kvs => kvs.length <= sizeLine /\ (a == sysModules) = false /\ ∃ vs, KV kvs vs /\ h.DictOf (mixKind P w) a vs
 | .dT kvs => kvs.length <= sizeLine /\ (a == sysModules) = false /\ ∃ xs : List (List Key × Addr × Value),
   Paired (fun (p : List Key × V) (q : List Key × Addr × Value) => p.1 = q.1 /\ H q.2.1 = some (.tup (p.1.map kV)) /\ RelV p.2 q.2.2) kvs xs /\
   ∃ o es ep, h.get? a = some o /\ o.ExactDict /\ o.data = .dict es ep /\ es.toList = xs.map (entryOfKey (tupleKind (mixKind P w))) /\ (xs.map (·.1)).Nodup
 | .set S n => h.SetOf (intKind P w) a S n
 | .ins C dx fs => H dx = some (.own a) /\ fs.length <= 1000 /\ dx ≠ a /\ h.get? a = some (PySem.W.instObj C dx) /\
   ∃ mA, h.Ns1 dx mA /\ (∀ f, RelO (fs.lookup f) (mA f)) /\ PySem.Within mA (fs.map (·.1))
 | .own _ => ∃ o, h.get? a = some o
 | .xd fs => ∃ mA, h.Ns1 a mA /\ ∀ f, RelO (fs.lookup f) (mA f)
 | .rng lo hi => ∃ t u v, h.get? a = some { cls := .type "range", data := .fields #[.int lo t, .int hi u, .int 1 v] }
 | .frz o u => h.get? a = some o /\ ObjOk H h a u
 | .tbl ps => h.get? a = some { cls := .none, data := .fields ps }
 | .met f x => h.get? a = some (PySem.W.methodObj (.ref f) (.ref x))
 | .ext φ => φ h /\ (∃ o, h.get? a = some o) /\ ∀ h1 h2 : Heap, φ h1 -> (∀ o, h1.get? a = some o -> h2.get? a = some o) -> φ h2
noncomputable def HOk (H : Hp) (h : Heap) : Prop := ∀ a o, H a = some o -> ObjOk P w H h a o
end
section
variable {P : Program} {w : World} {H H' : Hp} {h h' : Heap} {a : Addr} {o : HO}
theorem ObjOk.lt (x : ObjOk P w H h a o) : a < h.objs.size := by
 cases o with
 | lst xs => obtain ⟨_, _, _, _, e⟩ := x; exact Heap.lt_size e
 | tup xs => obtain ⟨_, _, _, p⟩ := x; exact p.tup.lt
 | dK kvs => obtain ⟨_, _, _, _, o, _, _, e, _⟩ := x; exact Heap.lt_size e
 | dT kvs => obtain ⟨_, _, _, _, o, _, _, e, _⟩ := x; exact Heap.lt_size e
 | set S n => obtain ⟨o, _, _, _, e, _⟩ := x; exact Heap.lt_size e
 | ins C dx fs => obtain ⟨_, _, _, e, _⟩ := x; exact Heap.lt_size e
 | own y => obtain ⟨_, e⟩ := x; exact Heap.lt_size e
 | xd fs => obtain ⟨_, ⟨_, _, _, e, _⟩, _⟩ := x; exact Heap.lt_size e
 | rng lo hi => obtain ⟨_, _, _, e⟩ := x; exact Heap.lt_size e
 | frz ob u => obtain ⟨e, _⟩ := x; exact Heap.lt_size e
 | tbl ps => exact Heap.lt_size (show h.get? a = some _ from x)
 | met f y => exact Heap.lt_size (show h.get? a = some _ from x)
 | ext φ => obtain ⟨_, ⟨_, e⟩, _⟩ := x; exact Heap.lt_size e
theorem Paired.mapP {α β : Type} {F G : α -> β -> Prop} : ∀ {l₁ : List α} {l₂ : List β}, Paired F l₁ l₂ -> (∀ a b, F a b -> G a b) -> Paired G l₁ l₂
 | _, _, .nil, _ => .nil
 | _, _, .cons r t, f => .cons (f _ _ r) (Paired.mapP t f)
theorem ObjOk.stay (x : ObjOk P w H h a o) (k : ∀ b u, (b = a ∨ H b = some (.own a)) -> h.get? b = some u -> h'.get? b = some u)
  (ho : ∀ b, H b = some (.own a) -> H' b = some (.own a)) (ht : ∀ b xs, H b = some (.tup xs) -> H' b = some (.tup xs)) : ObjOk P w H' h' a o := by
 induction o with
 | lst xs => obtain ⟨z, its, n, r, e⟩ := x; exact ⟨z, its, n, r, k _ _ (.inl rfl) e⟩
 | tup xs => obtain ⟨z, its, r, ob, e, c⟩ := x; exact ⟨z, its, r, ob, k _ _ (.inl rfl) e, c⟩
 | dK kvs => obtain ⟨z, y, vs, r, ob, es, ep, e, c⟩ := x; exact ⟨z, y, vs, r, ob, es, ep, k _ _ (.inl rfl) e, c⟩
 | dT kvs =>
  obtain ⟨z, y, xs, r, ob, es, ep, e, c⟩ := x
  exact ⟨z, y, xs, Paired.mapP r fun p q z => ⟨z.1, ht _ _ z.2.1, z.2.2⟩, ob, es, ep, k _ _ (.inl rfl) e, c⟩
 | set S n => obtain ⟨ob, es, ep, t, e, c⟩ := x; exact ⟨ob, es, ep, t, k _ _ (.inl rfl) e, c⟩
 | ins C dx fs =>
  obtain ⟨d, z, ne, e, mA, ⟨od, es, ep, e2, c⟩, r⟩ := x
  exact ⟨ho _ d, z, ne, k _ _ (.inl rfl) e, mA, ⟨od, es, ep, k _ _ (.inr d) e2, c⟩, r⟩
 | own y => obtain ⟨ob, e⟩ := x; exact ⟨ob, k _ _ (.inl rfl) e⟩
 | xd fs => obtain ⟨mA, ⟨od, es, ep, e, c⟩, r⟩ := x; exact ⟨mA, ⟨od, es, ep, k _ _ (.inl rfl) e, c⟩, r⟩
 | rng lo hi => obtain ⟨t, u, v, e⟩ := x; exact ⟨t, u, v, k _ _ (.inl rfl) e⟩
 | frz ob u ih => obtain ⟨e, q⟩ := x; exact ⟨k _ _ (.inl rfl) e, ih q⟩
 | tbl ps =>
  have e : h.get? a = some { cls := .none, data := .fields ps } := x
  show h'.get? a = some { cls := .none, data := .fields ps }
  exact k a _ (.inl rfl) e
 | met f y =>
  have e : h.get? a = some (PySem.W.methodObj (.ref f) (.ref y)) := x
  show h'.get? a = some (PySem.W.methodObj (.ref f) (.ref y))
  exact k a _ (.inl rfl) e
 | ext φ => obtain ⟨p, ⟨o, e⟩, st⟩ := x; exact ⟨st _ _ p fun o q => k _ _ (.inl rfl) q, ⟨o, k _ _ (.inl rfl) e⟩, st⟩
theorem HOk.lt (x : HOk P w H h) (e : H a = some o) : a < h.objs.size := (x a o e).lt
theorem HOk.fresh (x : HOk P w H h) (e : h.objs.size <= a) : H a = none := by
 cases q : H a with
 | none => rfl
 | some u => exact absurd (Nat.lt_of_lt_of_le (x.lt q) e) (Nat.lt_irrefl _)
theorem HOk.kept (x : HOk P w H h) (k : ∀ b u, h.get? b = some u -> h'.get? b = some u) : HOk P w H h' := fun a o e =>
 (x a o e).stay (fun b u _ q => k b u q) (fun _ q => q) fun _ _ q => q
theorem HOk.laid (x : HOk P w H h) (k : ∀ b u, h.get? b = some u -> h'.get? b = some u) (hp : h.objs.size <= a) (new : ObjOk P w (upd H a o) h' a o) : HOk P w (upd H a o) h' := fun b u e => by
 have hn := x.fresh hp
 by_cases hb : b = a
 ·subst hb; rw [upd_same] at e; cases e; exact new
 ·rw [upd_ne hb] at e
  exact (x b u e).stay (fun c v _ q => k c v q) (fun c q => by rw [upd_ne (ne_of_none q hn)]; exact q) fun c xs q => by rw [upd_ne (ne_of_none q hn)]; exact q
end
noncomputable def Rd (H : Hp) (a : Addr) (u : HO) : Prop := H a = some u ∨ ∃ o, H a = some (.frz o u)
theorem Rd.ok {P : Program} {w : World} {H : Hp} {h : Heap} {a : Addr} {u : HO} (r : Rd H a u) (x : HOk P w H h) : ObjOk P w H h a u := by
 rcases r with r | ⟨o, r⟩
 ·exact x a u r
 ·obtain ⟨_, q⟩ := x a _ r
  exact q
noncomputable def Mut : Option HO -> Prop
 | some (.lst _) => True
 | some (.dK _) => True
 | some (.dT _) => True
 | some (.set _ _) => True
 | some (.ins _ _ _) => True
 | some (.ext _) => True
 | _ => False
section
variable {P : Program} {w : World} {H : Hp} {h h' : Heap} {x e : Addr} {o' : HO}
theorem HOk.write (ok : HOk P w H h) (mu : Mut (H x)) (he : e = x ∨ H e = some (.own x)) (k : ∀ b u, b ≠ e -> h.get? b = some u -> h'.get? b = some u) (heo : ∃ u, h'.get? e = some u)
  (new : ObjOk P w (upd H x o') h' x o') : HOk P w (upd H x o') h' := fun b u q => by
 have nown : ∀ c y, H c = some (.own y) -> c ≠ x := fun c y r z => by subst z; rw [r] at mu; exact mu
 have ntup : ∀ c xs, H c = some (.tup xs) -> c ≠ x := fun c xs r z => by subst z; rw [r] at mu; exact mu
 by_cases hb : b = x
 ·subst hb; rw [upd_same] at q; cases q; exact new
 ·rw [upd_ne hb] at q
  by_cases hbe : b = e
  ·have q' : H b = some (.own x) := by
    rcases he with z | z
    ·exact absurd (hbe.trans z) hb
    ·rw [hbe]; exact z
   rw [q] at q'; cases q'
   obtain ⟨v, hv⟩ := heo
   exact ⟨v, by rw [hbe]; exact hv⟩
  ·refine (ok b u q).stay (fun c v hc r => k c v ?_ r) (fun c r => by rw [upd_ne (nown c b r)]; exact r) fun c xs r => by rw [upd_ne (ntup c xs r)]; exact r
   rcases hc with rfl | hc
   ·exact hbe
   ·rintro rfl
    rcases he with z | z
    ·exact nown c b hc z
    ·rw [hc] at z; cases z; exact hb rfl
end
structure Un (fs ex : List Addr) (H H' : Hp) (h h' : Heap) : Prop where
 keep : ∀ b o, h.get? b = some o -> H b = none -> b ∉ fs -> b ∉ ex -> h'.get? b = some o
 slot : ∀ b o, h.get? b = some o -> H b = none -> b ∈ fs -> b ∉ ex -> ∃ sl, h'.get? b = some { o with slots := sl }
 free : ∀ b o, h.get? b = some o -> H b = none -> b ∉ ex -> H' b = none
 there : ∀ b o, h.get? b = some o -> b ∉ ex -> ∃ o', h'.get? b = some o'
 tups : ∀ b xs, H b = some (.tup xs) -> H' b = some (.tup xs)
 frzs : ∀ b o u, H b = some (.frz o u) -> H' b = some (.frz o u)
 tbls : ∀ b ps, H b = some (.tbl ps) -> ∃ more, H' b = some (.tbl (ps ++ more))
section
variable {fs fs' ex ex' : List Addr} {H H1 H2 : Hp} {h h1 h2 h' : Heap} {a x e : Addr} {o : HO}
theorem Un.any (u : Un fs ex H H1 h h1) {b : Addr} {ob : Obj} (q : h.get? b = some ob) (n : H b = none) (hx : b ∉ ex) : ∃ sl, h1.get? b = some { ob with slots := sl } := by
 by_cases hb : b ∈ fs
 ·exact u.slot b ob q n hb hx
 ·exact ⟨ob.slots, u.keep b ob q n hb hx⟩
theorem Un.kept (k : ∀ b u, h.get? b = some u -> h'.get? b = some u) : Un fs ex H H h h' :=
 ⟨fun b ob q _ _ _ => k b ob q, fun b ob q _ _ _ => ⟨ob.slots, k b ob q⟩, fun _ _ _ n _ => n, fun b ob q _ => ⟨ob, k b ob q⟩, fun _ _ q => q, fun _ _ _ q => q, fun _ ps q => ⟨#[], by rw [q]; simp⟩⟩
theorem Un.refl : Un fs ex H H h h := Un.kept fun _ _ q => q
theorem Un.laid (k : ∀ b u, h.get? b = some u -> h'.get? b = some u) (hp : h.objs.size <= a) (hn : H a = none) : Un fs ex H (upd H a o) h h' where
 keep := fun b u q _ _ _ => k b u q
 slot := fun b u q _ _ _ => ⟨u.slots, k b u q⟩
 free := fun b u q n _ => by rw [upd_ne (Nat.ne_of_lt (Nat.lt_of_lt_of_le (Heap.lt_size q) hp))]; exact n
 there := fun b u q _ => ⟨u, k b u q⟩
 tups := fun b xs q => by rw [upd_ne (ne_of_none q hn)]; exact q
 frzs := fun b u xs q => by rw [upd_ne (ne_of_none q hn)]; exact q
 tbls := fun b ps q => ⟨#[], by rw [upd_ne (ne_of_none q hn), q]; simp⟩
theorem Un.write (mu : Mut (H x)) (he : e = x ∨ H e = some (.own x)) (k : ∀ b u, b ≠ e -> h.get? b = some u -> h'.get? b = some u) (heo : ∃ u, h'.get? e = some u) : Un fs ex H (upd H x o) h h' := by
 have hx : ∀ b, H b = none -> b ≠ x := fun b n z => by subst z; rw [n] at mu; exact mu
 have hb : ∀ b, H b = none -> b ≠ e := fun b n z => by
  subst z
  rcases he with r | r
  ·exact hx b n r
  ·rw [n] at r; cases r
 have hm : ∀ b u, H b = some u -> ¬ Mut (some u) -> b ≠ x := fun b u q nm z => by subst z; rw [q] at mu; exact nm mu
 refine ⟨fun b u q n _ _ => k b u (hb b n) q, fun b u q n _ _ => ⟨u.slots, k b u (hb b n) q⟩, fun b u q n _ => by rw [upd_ne (hx b n)]; exact n, fun b u q _ => ?_,
  fun b xs q => by rw [upd_ne (hm b _ q fun z => z)]; exact q, fun b u xs q => by rw [upd_ne (hm b _ q fun z => z)]; exact q, fun b ps q => ⟨#[], by rw [upd_ne (hm b _ q fun z => z), q]; simp⟩⟩
 by_cases hbe : b = e
 ·subst hbe; exact heo
 ·exact ⟨u, k b u hbe q⟩
end
noncomputable def trk (h : Heap) (H : Hp) : List Addr := (List.range h.objs.size).filter fun a => (H a).isSome
noncomputable def hidT (h : Heap) (H : Hp) : Heap := PySem.W.hideAll h (trk h H)
theorem hidT_size (h : Heap) (H : Hp) : (hidT h H).objs.size = h.objs.size := PySem.W.hideAll_size _ _
theorem hidT_get {h : Heap} {H : Hp} {b : Addr} {o : Obj} (e : h.get? b = some o) (n : H b = none) : (hidT h H).get? b = some o :=
 PySem.W.hideAll_get _ e fun hm => by
  have q : (H b).isSome = true := (List.mem_filter.mp hm).2
  rw [n] at q; simp at q
theorem of_hidT {h : Heap} {H : Hp} {b : Addr} {o : Obj} (e : (hidT h H).get? b = some o) : h.get? b = some o /\ H b = none := by
 have e' : h.get? b = some o := PySem.W.of_hideAll (trk h H) e
 refine ⟨e', ?_⟩
 cases q : H b with
 | none => rfl
 | some x =>
  have hm : b ∈ trk h H := List.mem_filter.mpr ⟨List.mem_range.mpr (Heap.lt_size e'), by simp [q]⟩
  have z : (hidT h H).get? b = none := PySem.W.hideAll_none (trk h H) hm
  rw [z] at e; cases e
noncomputable def allNews (g h : Heap) (L : Addr) : List (Addr × Obj) := (List.range h.objs.size).filterMap fun a => if a = L ∨ (g.get? a).isSome = true then none else (h.get? a).map fun o => (a, o)
noncomputable def rest (g h : Heap) (L d : Addr) : List (Addr × Obj) := (allNews g h L).filter fun p => decide (p.1 ≠ d)
end L2
namespace L2
open PySem PySem.Spec PyProof.Rows
structure Mod (K : PySem.W.Frag) (mg : Str -> Option Value) (base : Heap) : Prop where
 kin : K.In base
 glob : base.Ns mainGlobals mg
 blt : ∃ mb, base.Ns builtinsNs mb /\ ∀ x : Str, x ≠ "__name__" -> mb x = bootBuiltins x
 nolimit : base.NoLimit
structure Cx where
 prog : Program
 w : World
 K : PySem.W.Frag
 mg : Str -> Option Value
 base : Heap
 A : Around
 N : List Str
 s₀ : Shared
 H₀ : Hp
 env : Env
 outer : List Env
 stack : List Env
 ex : List Addr
 fn : Str -> Bool
 calm : Bool
 pn : List (Addr × Obj)
 xe : Value -> Shared -> Prop
noncomputable def frs (l : List Env) : List Addr := l.filterMap (·.frame)
noncomputable abbrev Cx.fs (X : Cx) : List Addr := frs X.outer
noncomputable def Vis (sc : Scope) (x : Str) : Prop := sc.names.lookup x = some .local ∨ sc.names.lookup x = some .cell ∨ sc.names.lookup x = some .free
noncomputable def Loc (sc : Scope) (x : Str) : Prop := sc.names.lookup x = some .local ∨ sc.names.lookup x = some .cell
noncomputable def Look (env : Env) (h : Heap) (m : Str -> Option Value) (x : Str) (u : Value) : Prop :=
 (env.kindOf x = some .local /\ m x = some u) ∨ ((env.kindOf x = some .cell ∨ env.kindOf x = some .free) /\ ∃ c, env.cells.lookup x = some c /\ h.IsCell c (some u))
structure Cx.Ok (X : Cx) : Prop where
 mod : Mod X.K X.mg X.base
 kind : X.env.scope.kind = .function
 glob : X.env.globals = mainGlobals
 blt : X.env.builtins = builtinsNs
 above : X.s₀.heap.objs.size <= X.env.locals
 inj : ∀ x y c, X.env.cells.lookup x = some c -> X.env.cells.lookup y = some c -> x = y
 has : ∀ x, (X.env.kindOf x = some .cell ∨ X.env.kindOf x = some .free) -> ∃ c, X.env.cells.lookup x = some c
 cab : ∀ x c, X.fn x = true -> X.env.cells.lookup x = some c -> X.s₀.heap.objs.size <= c
 hd : X.calm = true -> X.A.handled = none
 frames : X.A.frames = some X.stack
 stk : X.stack = X.outer ∨ (X.stack = X.env :: X.outer /\ X.env.frame = some X.env.locals)
 exf : ∀ b ∈ X.ex, b ≠ X.env.locals /\ ∀ x c, X.env.cells.lookup x = some c -> c ≠ b
 bs : ∀ b o, X.base.get? b = some o -> X.s₀.heap.get? b = some o /\ X.H₀ b = none
 bsz : X.base.objs.size <= X.s₀.heap.objs.size
 noex : ∀ b o, X.base.get? b = some o -> b ∉ X.ex
 exfs : ∀ b ∈ X.ex, b ∉ X.fs
 funs : X.s₀.heap.FunFrames X.base X.outer
 frf : ∀ b ∈ X.fs, X.H₀ b = none
structure Inv (X : Cx) (pins : List (Addr × Obj)) (σ : List (Option V)) (H : Hp) (s : Shared) : Prop where
 ok : X.Ok
 os : s.os = X.s₀.os
 bare : AllBare s.gens
 base : Un X.fs X.ex X.H₀ H X.s₀.heap s.heap
 loc : ∃ m, s.heap.Ns X.env.locals m /\ ∀ (i : Nat) (x : Str) (v : V), X.N[i]? = some x -> σ[i]? = some (some v) -> Vis X.env.scope x -> ∃ u, RelV v u /\ Look X.env s.heap m x u
 cell : ∀ x c, X.env.cells.lookup x = some c -> ∃ v, s.heap.IsCell c v
 free : H X.env.locals = none
 freeC : ∀ x c, X.env.cells.lookup x = some c -> H c = none
 pin : ∀ p ∈ X.pn ++ pins, s.heap.get? p.1 = some p.2 /\ H p.1 = none /\ p.1 ≠ X.env.locals /\ p.1 ∉ X.fs /\ ∀ v, p.2.data ≠ .cell v
 hok : HOk X.prog X.w H s.heap
 len : σ.length = X.N.length
section
variable {X : Cx} {pins : List (Addr × Obj)} {σ : List (Option V)} {H H' : Hp} {s : Shared} {h' : Heap}
theorem Cx.Ok.nofr (ok : X.Ok) {b : Addr} {o : Obj} (e : X.base.get? b = some o) : b ∉ X.fs := fun hb => by
 have := (ok.funs.mem hb).1
 rw [e] at this; cases this
theorem Inv.bs (I : Inv X pins σ H s) : ∀ b o, X.base.get? b = some o -> s.heap.get? b = some o /\ H b = none := fun b o e =>
 ⟨I.base.keep b o (I.ok.bs b o e).1 (I.ok.bs b o e).2 (I.ok.nofr e) (I.ok.noex b o e), I.base.free b o (I.ok.bs b o e).1 (I.ok.bs b o e).2 (I.ok.noex b o e)⟩
theorem Inv.bk (I : Inv X pins σ H s) : ∀ b o, X.base.get? b = some o -> s.heap.get? b = some o := fun b o e => (I.bs b o e).1
theorem Inv.mod (I : Inv X pins σ H s) : Mod X.K X.mg X.base := I.ok.mod
theorem Inv.kIn (I : Inv X pins σ H s) : X.K.In s.heap := I.ok.mod.kin.keeps I.bk
theorem Inv.lt (I : Inv X pins σ H s) : X.env.locals < s.heap.objs.size := let ⟨_, hn, _⟩ := I.loc; hn.lt
theorem Inv.sz (I : Inv X pins σ H s) : X.s₀.heap.objs.size <= s.heap.objs.size := Nat.le_trans I.ok.above (Nat.le_of_lt I.lt)
theorem Inv.nofs (I : Inv X pins σ H s) {a : Addr} (h : s.heap.objs.size <= a) : a ∉ X.fs := fun hb => by
 obtain ⟨_, o, ho, _⟩ := I.ok.funs.mem hb
 exact absurd (Nat.lt_of_lt_of_le (Heap.lt_size ho) (Nat.le_trans I.sz h)) (Nat.lt_irrefl _)
theorem Inv.cne (I : Inv X pins σ H s) : ∀ x c, X.env.cells.lookup x = some c -> c ≠ X.env.locals := fun x c e z => by
 obtain ⟨v, o, ho, hd⟩ := I.cell x c e
 obtain ⟨m, ⟨o', es, ep, ho', hd', _⟩, _⟩ := I.loc
 rw [z, ho'] at ho; cases ho; rw [hd'] at hd; cases hd
theorem Inv.funs (I : Inv X pins σ H s) : s.heap.FunFrames X.base X.outer := by
 have all : ∀ (l : List Env), (∀ b ∈ frs l, b ∈ X.fs) -> X.s₀.heap.FunFrames X.base l -> s.heap.FunFrames X.base l := by
  intro l
  induction l with
  | nil => intro _ _; trivial
  | cons env r ih =>
   intro hs hl
   obtain ⟨hk, ⟨L, o, hf, hn, ho, hd⟩, hr⟩ := hl
   have hL : L ∈ X.fs := hs L (by unfold frs; rw [List.filterMap_cons, hf]; exact List.mem_cons_self)
   obtain ⟨sl, e⟩ := I.base.slot L o ho (I.ok.frf L hL) hL fun z => I.ok.exfs L z hL
   exact ⟨hk, ⟨L, _, hf, hn, e, hd⟩, ih (fun b hb => hs b (by unfold frs; rw [List.filterMap_cons, hf]; exact List.mem_cons_of_mem _ hb)) hr⟩
 exact all X.outer (fun _ hb => hb) I.ok.funs
theorem Inv.stack (I : Inv X pins σ H s) : s.heap.FunFrames X.base X.stack := by
 rcases I.ok.stk with e | ⟨e, hf⟩
 ·rw [e]; exact I.funs
 ·rw [e]
  obtain ⟨m, hn, _⟩ := I.loc
  refine .cons (by rw [I.ok.kind]; decide) hf hn ?_ I.funs
  exact Heap.get?_none_of_le (Nat.le_trans I.ok.bsz I.ok.above)
theorem Inv.stkSub (I : Inv X pins σ H s) : ∀ b ∈ frs X.stack, b ∈ X.env.locals :: X.fs := fun b hb => by
 rcases I.ok.stk with e | ⟨e, hf⟩
 ·rw [e] at hb; exact List.mem_cons_of_mem _ hb
 ·rw [e] at hb
  unfold frs at hb
  rw [List.filterMap_cons, hf] at hb
  exact hb
theorem Inv.stkFree (I : Inv X pins σ H s) : ∀ b ∈ frs X.stack, H b = none := fun b hb => by
 rcases List.mem_cons.mp (I.stkSub b hb) with e | hb
 ·rw [e]; exact I.free
 ·obtain ⟨_, o, ho, _⟩ := I.ok.funs.mem hb
  exact I.base.free b o ho (I.ok.frf b hb) fun z => I.ok.exfs b z hb
theorem Inv.step {g' : Array GenState} {t' : Nat} {d' : Drawn} {ch : List Addr} (I : Inv X pins σ H s)
  (hch : ∀ b ∈ ch, (b ∈ X.ex ∨ X.s₀.heap.objs.size <= b) /\ b ≠ X.env.locals /\ (∀ x c, X.env.cells.lookup x = some c -> c ≠ b) /\ ∀ p ∈ X.pn ++ pins, p.1 ≠ b)
  (keep : ∀ b o, b ≠ X.env.locals -> b ∉ X.fs -> b ∉ ch -> s.heap.get? b = some o -> H b = none -> h'.get? b = some o)
  (slot : ∀ b o, b ≠ X.env.locals -> b ∈ X.fs -> b ∉ ch -> s.heap.get? b = some o -> H b = none -> ∃ sl, h'.get? b = some { o with slots := sl }) (free : ∀ b o, b ∉ ch -> s.heap.get? b = some o -> H b = none -> H' b = none)
  (there : ∀ b o, b ∉ ch -> s.heap.get? b = some o -> ∃ o', h'.get? b = some o')
  (tups : ∀ b xs, H b = some (.tup xs) -> H' b = some (.tup xs)) (frzs : ∀ b o u, H b = some (.frz o u) -> H' b = some (.frz o u)) (tbls : ∀ b ps, H b = some (.tbl ps) -> ∃ more, H' b = some (.tbl (ps ++ more)))
  (ns : ∀ m, s.heap.Ns X.env.locals m -> h'.Ns X.env.locals m) (hok : HOk X.prog X.w H' h') (hg : AllBare g') :
  Inv X pins σ H' { s with heap := h', gens := g', drawn := d', toks := t' } := by
 have neL : ∀ b o, X.s₀.heap.get? b = some o -> b ≠ X.env.locals := fun b o e => Nat.ne_of_lt (Nat.lt_of_lt_of_le (Heap.lt_size e) I.ok.above)
 have neC : ∀ b o, X.s₀.heap.get? b = some o -> b ∉ X.ex -> b ∉ ch := fun b o e hx hb => by
  rcases (hch b hb).1 with z | z
  ·exact hx z
  ·exact absurd (Nat.lt_of_lt_of_le (Heap.lt_size e) z) (Nat.lt_irrefl _)
 have cellK : ∀ x c, X.env.cells.lookup x = some c -> ∀ v, s.heap.IsCell c v -> h'.IsCell c v := fun x c e v ⟨o, ho, hd⟩ => by
  have nch : c ∉ ch := fun z => (hch c z).2.2.1 x c e rfl
  by_cases hc : c ∈ X.fs
  ·obtain ⟨sl, q⟩ := slot c o (I.cne x c e) hc nch ho (I.freeC x c e)
   exact ⟨_, q, hd⟩
  ·exact ⟨o, keep c o (I.cne x c e) hc nch ho (I.freeC x c e), hd⟩
 refine ⟨I.ok, I.os, hg, ⟨fun b o e n hb hx => ?_, fun b o e n hb hx => ?_, fun b o e n hx => ?_, fun b o e hx => ?_, fun b xs e => tups b xs (I.base.tups b xs e), fun b o xs e => frzs b o xs (I.base.frzs b o xs e), fun b ps e => ?_⟩, ?_, fun x c e => ?_, ?_, fun x c e => ?_, fun p hp => ?_, hok, I.len⟩
 ·exact keep b o (neL b o e) hb (neC b o e hx) (I.base.keep b o e n hb hx) (I.base.free b o e n hx)
 ·obtain ⟨sl, e1⟩ := I.base.slot b o e n hb hx
  obtain ⟨sl', e2⟩ := slot b _ (neL b o e) hb (neC b o e hx) e1 (I.base.free b o e n hx)
  exact ⟨sl', e2⟩
 ·obtain ⟨o', e1⟩ := I.base.there b o e hx
  exact free b o' (neC b o e hx) e1 (I.base.free b o e n hx)
 ·obtain ⟨o', e1⟩ := I.base.there b o e hx
  exact there b o' (neC b o e hx) e1
 ·obtain ⟨m1, e1⟩ := I.base.tbls b ps e
  obtain ⟨m2, e2⟩ := tbls b _ e1
  exact ⟨m1 ++ m2, by rw [e2, Array.append_assoc]⟩
 ·obtain ⟨m, hn, hl⟩ := I.loc
  refine ⟨m, ns m hn, fun i x v e1 e2 e3 => ?_⟩
  obtain ⟨u, r, l⟩ := hl i x v e1 e2 e3
  refine ⟨u, r, ?_⟩
  rcases l with l | ⟨k, c, e, z⟩
  ·exact .inl l
  ·exact .inr ⟨k, c, e, cellK x c e _ z⟩
 ·obtain ⟨v, z⟩ := I.cell x c e
  exact ⟨v, cellK x c e v z⟩
 ·obtain ⟨m, ⟨o, _, _, ho, _⟩, _⟩ := I.loc
  exact free _ o (fun z => (hch _ z).2.1 rfl) ho I.free
 ·obtain ⟨v, o, ho, hd⟩ := I.cell x c e
  exact free c o (fun z => (hch c z).2.2.1 x c e rfl) ho (I.freeC x c e)
 ·obtain ⟨e, n, ne, nf, d⟩ := I.pin p hp
  have nch : p.1 ∉ ch := fun z => (hch p.1 z).2.2.2 p hp rfl
  exact ⟨keep p.1 p.2 ne nf nch e n, free p.1 p.2 nch e n, ne, nf, d⟩
theorem Inv.un {t' : Nat} (I : Inv X pins σ H s) (u : Un X.fs [] H H' s.heap h') (hok : HOk X.prog X.w H' h') : Inv X pins σ H' { s with heap := h', toks := t' } := by
 obtain ⟨m, ⟨o, es, ep, ho, r⟩, _⟩ := id I.loc
 obtain ⟨sl, hL⟩ := u.any ho I.free (by simp)
 exact I.step (g' := s.gens) (d' := s.drawn) (ch := []) (fun _ z => nomatch z) (fun b o _ hb _ e n => u.keep b o e n hb (by simp)) (fun b o _ hb _ e n => u.slot b o e n hb (by simp)) (fun b o _ e n => u.free b o e n (by simp)) (fun b o _ e => u.there b o e (by simp)) u.tups u.frzs u.tbls (fun m' hm => by
  obtain ⟨o', es', ep', ho', r'⟩ := hm
  rw [ho] at ho'; cases ho'
  exact ⟨_, es', ep', hL, r'⟩) hok I.bare
theorem Inv.call {g' : Array GenState} {t' : Nat} {d' : Drawn} {ch : List Addr} (I : Inv X pins σ H s) (u : Un (frs X.stack) ch H H' s.heap h') (hok : HOk X.prog X.w H' h') (hg : AllBare g')
  (hch : ∀ b ∈ ch, (b ∈ X.ex ∨ X.s₀.heap.objs.size <= b) /\ b ≠ X.env.locals /\ (∀ x c, X.env.cells.lookup x = some c -> c ≠ b) /\ ∀ p ∈ X.pn ++ pins, p.1 ≠ b) :
  Inv X pins σ H' { s with heap := h', gens := g', drawn := d', toks := t' } := by
 obtain ⟨m, ⟨o, es, ep, ho, r⟩, _⟩ := id I.loc
 obtain ⟨sl, hL⟩ := u.any ho I.free fun z => (hch _ z).2.1 rfl
 exact I.step (ch := ch) hch (fun b o hL hb hc e n => u.keep b o e n (fun z => (List.mem_cons.mp (I.stkSub b z)).elim hL hb) hc) (fun b o _ _ hc e n => u.any e n hc) (fun b o hc e n => u.free b o e n hc) (fun b o hc e => u.there b o e hc) u.tups u.frzs u.tbls (fun m' hm => by
  obtain ⟨o', es', ep', ho', r'⟩ := hm
  rw [ho] at ho'; cases ho'
  exact ⟨_, es', ep', hL, r'⟩) hok hg
theorem Inv.turned {t' : Nat} {it : Addr} (I : Inv X pins σ H s) (k : ∀ b o, b ≠ it -> s.heap.get? b = some o -> h'.get? b = some o) (hn : H it = none) (hL : it ≠ X.env.locals)
  (h1 : it ∈ X.ex ∨ X.s₀.heap.objs.size <= it) (h2 : ∀ x c, X.env.cells.lookup x = some c -> c ≠ it) (h3 : ∀ p ∈ X.pn ++ pins, p.1 ≠ it) : Inv X pins σ H { s with heap := h', toks := t' } := by
 have nit : ∀ b u, H b = some u -> b ≠ it := fun b u e z => by rw [z, hn] at e; cases e
 refine I.step (g' := s.gens) (d' := s.drawn) (ch := [it]) (fun b hb => ?_) (fun b o _ _ hc e _ => k b o (fun z => hc (by simp [z])) e) (fun b o _ _ hc e _ => ⟨o.slots, k b o (fun z => hc (by simp [z])) e⟩) (fun _ _ _ _ n => n)
  (fun b o hc e => ⟨o, k b o (fun z => hc (by simp [z])) e⟩) (fun _ _ e => e) (fun _ _ _ e => e) (fun b ps e => ⟨#[], by rw [e]; simp⟩) (fun m hm => ?_) (fun b u e => ?_) I.bare
 ·have e : b = it := by simpa using hb
  subst e
  exact ⟨h1, hL, h2, h3⟩
 ·obtain ⟨o, es, ep, ho, r⟩ := hm
  exact ⟨o, es, ep, k _ o (Ne.symm hL) ho, r⟩
 ·refine (I.hok b u e).stay (fun c v hc q => k c v ?_ q) (fun _ q => q) fun _ _ q => q
  rcases hc with z | z
  ·rw [z]; exact nit b u e
  ·exact nit c _ z
theorem Inv.tok (I : Inv X pins σ H s) (t : Nat) : Inv X pins σ H { s with toks := t } := I.un (h' := s.heap) (t' := t) Un.refl I.hok
theorem Inv.kept {t' : Nat} (I : Inv X pins σ H s) (k : ∀ b u, s.heap.get? b = some u -> h'.get? b = some u) : Inv X pins σ H { s with heap := h', toks := t' } := I.un (Un.kept k) (I.hok.kept k)
theorem Inv.laid {a : Addr} {o : HO} {t' : Nat} (I : Inv X pins σ H s) (k : ∀ b u, s.heap.get? b = some u -> h'.get? b = some u) (hp : s.heap.objs.size <= a) (new : ObjOk X.prog X.w (upd H a o) h' a o) :
  Inv X pins σ (upd H a o) { s with heap := h', toks := t' } := I.un (Un.laid k hp (I.hok.fresh hp)) (I.hok.laid k hp new)
theorem Inv.write {x e : Addr} {o : HO} {t' : Nat} (I : Inv X pins σ H s) (mu : Mut (H x)) (he : e = x ∨ H e = some (.own x)) (k : ∀ b u, b ≠ e -> s.heap.get? b = some u -> h'.get? b = some u) (heo : ∃ u, h'.get? e = some u)
  (new : ObjOk X.prog X.w (upd H x o) h' x o) : Inv X pins σ (upd H x o) { s with heap := h', toks := t' } := I.un (Un.write mu he k heo) (I.hok.write mu he k heo new)
theorem Inv.weak {σ' : List (Option V)} (I : Inv X pins σ H s) (hl : σ'.length = σ.length) (w : ∀ (i : Nat) v, σ'[i]? = some (some v) -> σ[i]? = some (some v)) : Inv X pins σ' H s :=
 ⟨I.ok, I.os, I.bare, I.base, let ⟨m, hn, hl'⟩ := I.loc; ⟨m, hn, fun i x v e1 e2 e3 => hl' i x v e1 (w i v e2) e3⟩, I.cell, I.free, I.freeC, I.pin, I.hok, hl.trans I.len⟩
theorem Inv.pins_of {pins' : List (Addr × Obj)} (I : Inv X pins σ H s) (h : ∀ p ∈ pins', s.heap.get? p.1 = some p.2 /\ H p.1 = none /\ p.1 ≠ X.env.locals /\ p.1 ∉ X.fs /\ ∀ v, p.2.data ≠ .cell v) : Inv X pins' σ H s :=
 ⟨I.ok, I.os, I.bare, I.base, I.loc, I.cell, I.free, I.freeC, fun p hp => (List.mem_append.mp hp).elim (fun z => I.pin p (List.mem_append_left _ z)) (h p), I.hok, I.len⟩
theorem nodup_ix {N : List Str} (hN : N.Nodup) {i j : Nat} {x : Str} (a : N[i]? = some x) (b : N[j]? = some x) : i = j := by
 obtain ⟨h1, e1⟩ := List.getElem?_eq_some_iff.mp a
 obtain ⟨h2, e2⟩ := List.getElem?_eq_some_iff.mp b
 exact (List.getElem_inj hN).mp (e1.trans e2.symm)
theorem store_ok2 {M : Model} {A : Around} {E : Value -> Shared -> Prop} {i : Nat} {x : Str} {v : V} {u : Value} {Q : Unit -> Shared -> Prop} (I : Inv X pins σ H s) (hN : X.N.Nodup) (hi : X.N[i]? = some x) (hx : Loc X.env.scope x) (r : RelV v u)
  (h : ∀ s', Inv X pins (σ.set i (some v)) H s' -> (∃ a, Heap.SameBut a s.heap s'.heap /\ (a = X.env.locals ∨ X.env.cells.lookup x = some a)) -> Q () s') (hf : X.fn x = true ∨ X.env.scope.names.lookup x = some .local := by first | exact .inl rfl | exact .inr rfl | assumption) : wpAny M A (storeName X.env x u) Q E s := by
 obtain ⟨m, hn, hl⟩ := id I.loc
 have hcls : (X.env.scope.kind == .class || (X.env.scope.kind == .module && X.env.locals != X.env.globals)) = false := by rw [I.ok.kind]; rfl
 have hiσ : i < σ.length := by rw [I.len]; exact (List.getElem?_eq_some_iff.mp hi).1
 have cne := I.cne
 have tracked : ∀ {a : Addr} {h' : Heap}, (∃ o, s.heap.get? a = some o /\ H a = none) -> Heap.SameBut a s.heap h' -> HOk X.prog X.w H h' := fun {a h'} ha hs b ob e => by
  obtain ⟨_, _, hfree⟩ := ha
  refine (I.hok b ob e).stay (fun c w' hc q => (hs.2 c ?_).trans q) (fun _ q => q) fun _ _ q => q
  rintro rfl
  rcases hc with rfl | hc
  ·rw [hfree] at e; cases e
  ·rw [hfree] at hc; cases hc
 rcases hx with hk | hk
 ·refine wpAny_storeName_local hk hn (fun h' hn' hs => ?_) hcls
  obtain ⟨oL, _, _, hoL, _⟩ := id hn
  refine h _ ⟨I.ok, I.os, I.bare, ⟨fun b o e n hb hx => ?_, fun b o e n hb hx => ?_, I.base.free, fun b o e hx => ?_, I.base.tups, I.base.frzs, I.base.tbls⟩, ⟨_, hn', fun j y v' e1 e2 e3 => ?_⟩, fun y c e => ?_, I.free, I.freeC, fun p hp => ?_, tracked ⟨oL, hoL, I.free⟩ hs, by simpa using I.len⟩ ⟨_, hs, .inl rfl⟩
  ·exact (hs.2 b (Nat.ne_of_lt (Nat.lt_of_lt_of_le (Heap.lt_size e) I.ok.above))).trans (I.base.keep b o e n hb hx)
  ·obtain ⟨sl, e1⟩ := I.base.slot b o e n hb hx
   exact ⟨sl, (hs.2 b (Nat.ne_of_lt (Nat.lt_of_lt_of_le (Heap.lt_size e) I.ok.above))).trans e1⟩
  ·obtain ⟨o', e1⟩ := I.base.there b o e hx
   exact ⟨o', (hs.2 b (Nat.ne_of_lt (Nat.lt_of_lt_of_le (Heap.lt_size e) I.ok.above))).trans e1⟩
  ·by_cases hj : j = i
   ·subst hj
    rw [hi] at e1; cases e1
    rw [List.getElem?_set_self hiσ] at e2
    cases e2
    exact ⟨u, r, .inl ⟨hk, by simp⟩⟩
   ·rw [List.getElem?_set_ne (Ne.symm hj)] at e2
    obtain ⟨u', r', q⟩ := hl j y v' e1 e2 e3
    refine ⟨u', r', ?_⟩
    rcases q with ⟨k, e⟩ | ⟨k, c, e, z⟩
    ·refine .inl ⟨k, ?_⟩
     have : y ≠ x := fun e => hj (nodup_ix hN e1 (e ▸ hi))
     simp [this, e]
    ·exact .inr ⟨k, c, e, z.sameBut hs (cne y c e)⟩
  ·obtain ⟨w', z⟩ := I.cell y c e
   exact ⟨w', z.sameBut hs (cne y c e)⟩
  ·obtain ⟨e, n, ne, nf, d⟩ := I.pin p hp
   exact ⟨(hs.2 p.1 ne).trans e, n, ne, nf, d⟩
 ·have hfn : X.fn x = true := by
   rcases hf with z | z
   ·exact z
   ·rw [z] at hk; cases hk
  obtain ⟨c, hc⟩ := I.ok.has x (.inl hk)
  obtain ⟨w', z⟩ := I.cell x c hc
  refine wpAny_storeName_cell I.ok.kind hk hc z (fun h' hc' hs => ?_)
  obtain ⟨oc, hoc, hocd⟩ := id z
  refine h { s with heap := h' } ⟨I.ok, I.os, I.bare, ⟨fun b o e n hb hx => ?_, fun b o e n hb hx => ?_, I.base.free, fun b o e hx => ?_, I.base.tups, I.base.frzs, I.base.tbls⟩, ⟨m, hn.sameBut hs (Ne.symm (cne x c hc)), fun j y v' e1 e2 e3 => ?_⟩, fun y c' e => ?_, I.free, I.freeC, fun p hp => ?_, tracked ⟨oc, hoc, I.freeC x c hc⟩ hs, by simpa using I.len⟩ ⟨c, hs, .inr hc⟩
  ·exact (hs.2 b (Nat.ne_of_lt (Nat.lt_of_lt_of_le (Heap.lt_size e) (I.ok.cab x c hfn hc)))).trans (I.base.keep b o e n hb hx)
  ·obtain ⟨sl, e1⟩ := I.base.slot b o e n hb hx
   exact ⟨sl, (hs.2 b (Nat.ne_of_lt (Nat.lt_of_lt_of_le (Heap.lt_size e) (I.ok.cab x c hfn hc)))).trans e1⟩
  ·obtain ⟨o', e1⟩ := I.base.there b o e hx
   exact ⟨o', (hs.2 b (Nat.ne_of_lt (Nat.lt_of_lt_of_le (Heap.lt_size e) (I.ok.cab x c hfn hc)))).trans e1⟩
  ·by_cases hj : j = i
   ·subst hj
    rw [hi] at e1; cases e1
    rw [List.getElem?_set_self hiσ] at e2
    cases e2
    exact ⟨u, r, .inr ⟨.inl hk, c, hc, hc'⟩⟩
   ·rw [List.getElem?_set_ne (Ne.symm hj)] at e2
    obtain ⟨u', r', q⟩ := hl j y v' e1 e2 e3
    refine ⟨u', r', ?_⟩
    rcases q with q | ⟨k, c', e, z'⟩
    ·exact .inl q
    ·refine .inr ⟨k, c', e, z'.sameBut hs ?_⟩
     rintro rfl
     exact hj (nodup_ix hN e1 (I.ok.inj _ _ _ e hc ▸ hi))
  ·by_cases hcc : c' = c
   ·subst hcc; exact ⟨_, hc'⟩
   ·obtain ⟨w2, z2⟩ := I.cell y c' e
    exact ⟨w2, z2.sameBut hs hcc⟩
  ·obtain ⟨e, n, ne, nf, d⟩ := I.pin p hp
   refine ⟨(hs.2 p.1 ?_).trans e, n, ne, nf, d⟩
   intro q
   rw [q, hoc] at e
   have q' : oc = p.2 := Option.some.inj e
   exact d w' (by rw [<- q']; exact hocd)
theorem store_ok {M : Model} {A : Around} {E : Value -> Shared -> Prop} {i : Nat} {x : Str} {v : V} {u : Value} {Q : Unit -> Shared -> Prop} (I : Inv X pins σ H s) (hN : X.N.Nodup) (hi : X.N[i]? = some x) (hx : Loc X.env.scope x) (r : RelV v u)
  (h : ∀ s', Inv X pins (σ.set i (some v)) H s' -> Q () s') (hf : X.fn x = true ∨ X.env.scope.names.lookup x = some .local := by first | exact .inl rfl | exact .inr rfl | assumption) : wpAny M A (storeName X.env x u) Q E s :=
 store_ok2 I hN hi hx r (fun s' I' _ => h s' I') hf
theorem Inv.call' {s' : Shared} {ch : List Addr} (I : Inv X pins σ H s) (ho : s'.os = s.os) (u : Un (frs X.stack) ch H H' s.heap s'.heap) (hok : HOk X.prog X.w H' s'.heap) (hg : AllBare s'.gens)
  (hch : ∀ b ∈ ch, (b ∈ X.ex ∨ X.s₀.heap.objs.size <= b) /\ b ≠ X.env.locals /\ (∀ x c, X.env.cells.lookup x = some c -> c ≠ b) /\ ∀ p ∈ X.pn ++ pins, p.1 ≠ b) : Inv X pins σ H' s' := by
 obtain ⟨h', g', d', t', o'⟩ := s'
 have e : o' = s.os := ho
 subst e
 exact I.call (g' := g') (t' := t') (d' := d') u hok hg hch
end
noncomputable abbrev XK := Value -> Option Addr -> Hp -> Prop
noncomputable abbrev St := List (Option V)
noncomputable abbrev VK := V -> Hp -> Prop
noncomputable abbrev TE := St -> Hp -> VK -> Prop
noncomputable abbrev TT := St -> Hp -> (Bool -> Hp -> Prop) -> Prop
noncomputable abbrev TA := St -> Hp -> (List V -> Hp -> Prop) -> Prop
structure Ends where
 nx : St -> Hp -> Prop
 rt : VK
 bk : St -> Hp -> Prop := fun _ _ => False
 ct : St -> Hp -> Prop := fun _ _ => False
noncomputable abbrev TS := Ends -> St -> Hp -> Prop
noncomputable def EP (X : Cx) (pins : List (Addr × Obj)) (σ : St) (Q : VK) (u : Value) (s' : Shared) : Prop := ∃ v H', Inv X pins σ H' s' /\ RelV v u /\ Q v H'
noncomputable def TP (X : Cx) (pins : List (Addr × Obj)) (σ : St) (Q : Bool -> Hp -> Prop) (b : Bool) (s' : Shared) : Prop := ∃ H', Inv X pins σ H' s' /\ Q b H'
noncomputable def AP (X : Cx) (pins : List (Addr × Obj)) (σ : St) (Q : List V -> Hp -> Prop) (us : List Value) (s' : Shared) : Prop := ∃ vs H', Inv X pins σ H' s' /\ Vals vs us /\ Q vs H'
noncomputable def SP (X : Cx) (pins : List (Addr × Obj)) (D : Ends) (f : Flow) (s' : Shared) : Prop :=
 match f with
 | .next => ∃ σ' H', Inv X pins σ' H' s' /\ D.nx σ' H'
 | .brk => ∃ σ' H', Inv X pins σ' H' s' /\ D.bk σ' H'
 | .cont => ∃ σ' H', Inv X pins σ' H' s' /\ D.ct σ' H'
 | .ret u => ∃ v σ' H', Inv X pins σ' H' s' /\ RelV v u /\ D.rt v H'
noncomputable def PE (X : Cx) (e : Expr) (t : TE) : Prop :=
 ∀ (pins : List (Addr × Obj)) (s : Shared) (σ : St) (H : Hp) (Q : VK), Inv X pins σ H s -> t σ H Q -> wpAny (model X.prog X.w) X.A (eval e X.env) (EP X pins σ Q) X.xe s
noncomputable def PT (X : Cx) (e : Expr) (t : TT) : Prop :=
 ∀ (pins : List (Addr × Obj)) (s : Shared) (σ : St) (H : Hp) (Q : Bool -> Hp -> Prop), Inv X pins σ H s -> t σ H Q -> wpAny (model X.prog X.w) X.A (isTrue e X.env (eval e X.env)) (TP X pins σ Q) X.xe s
noncomputable def PW (X : Cx) (e : Expr) (t : TT) : Prop :=
 ∀ (whole : Sem Value) (pins : List (Addr × Obj)) (s : Shared) (σ : St) (H : Hp) (Q : Bool -> Hp -> Prop), Inv X pins σ H s -> t σ H Q -> wpAny (model X.prog X.w) X.A (isTrue e X.env whole) (TP X pins σ Q) X.xe s
theorem PW.pt {X : Cx} {e : Expr} {t : TT} (h : PW X e t) : PT X e t := h _
noncomputable def PA (X : Cx) (es : List Expr) (t : TA) : Prop :=
 ∀ (pos : Pos) (pins : List (Addr × Obj)) (s : Shared) (σ : St) (H : Hp) (Q : List V -> Hp -> Prop), Inv X pins σ H s -> t σ H Q -> wpAny (model X.prog X.w) X.A (spliced (backTo pos (starEach es X.env))) (AP X pins σ Q) X.xe s
noncomputable def PS (X : Cx) (st : Stmt) (t : TS) : Prop :=
 ∀ (pins : List (Addr × Obj)) (s : Shared) (σ : St) (H : Hp) (D : Ends), Inv X pins σ H s -> t D σ H -> wpAny (model X.prog X.w) X.A (exec st X.env) (SP X pins D) X.xe s
noncomputable def PSs (X : Cx) (st : List Stmt) (t : TS) : Prop :=
 ∀ (pins : List (Addr × Obj)) (s : Shared) (σ : St) (H : Hp) (D : Ends), Inv X pins σ H s -> t D σ H -> wpAny (model X.prog X.w) X.A (execs st X.env) (SP X pins D) X.xe s
theorem thn {α : Type} {t : Sem α} {Q Q' : α -> Shared -> Prop} {M : Model} {A : Around} {E : Value -> Shared -> Prop} {s : Shared} (h : wpAny M A t Q E s) (hQ : ∀ a s, Q a s -> Q' a s) : wpAny M A t Q' E s := wpAny_mono h hQ fun _ _ x => x
end L2
namespace L2
open PySem PySem.Spec PyProof.Rows
section
variable {X : Cx}
noncomputable def tVar (i : Nat) : TE := fun σ H Q => ∃ v, σ[i]? = some (some v) /\ Q v H
noncomputable def tC (v : V) : TE := fun _ H Q => Q v H
theorem pe_var {i : Nat} {x : Str} {pos : Pos} (hN : X.N[i]? = some x) (hv : Vis X.env.scope x) (hd : (x == ("__debug__" : Str)) = false := by decide) (hcd : (x == ("__classdict__" : Str)) = false := by decide) : PE X (.Name x pos) (tVar i) := by
 intro pins s σ H Q I h
 obtain ⟨v, e, h⟩ := h
 obtain ⟨m, hn, hl⟩ := I.loc
 obtain ⟨u, r, l⟩ := hl i x v hN e hv
 have fin : EP X pins σ Q u s := ⟨v, H, I, r, h⟩
 rcases l with ⟨hk, hm⟩ | ⟨hk, c, hc, hcell⟩
 ·exact wpAny_Name (wpAny_loadName_local I.ok.kind hk hn hm fin) hd
 ·rcases hk with hk | hk
  ·exact wpAny_Name (wpAny_loadName_cell I.ok.kind hk hc hcell fin) hd
  ·exact wpAny_Name (wpAny_loadName_free I.ok.kind hk hc hcell fin hcd) hd
theorem pe_int {i j pos} : PE X (.Constant (.int i) j pos) (tC (.int i)) := fun _ _ _ H _ I h => wpAny_Constant_int ⟨.int i, H, I.tok _, ⟨_, rfl⟩, h⟩
theorem pe_bl {b j pos} : PE X (.Constant (.bool b) j pos) (tC (.bl b)) := fun _ _ _ H _ I h => Constant_bool ⟨.bl b, H, I, rfl, h⟩
theorem pe_non {j pos} : PE X (.Constant .none j pos) (tC .non) := fun _ _ _ H _ I h => Constant_none ⟨.non, H, I, rfl, h⟩
theorem pe_str {x j pos} : PE X (.Constant (.str x) j pos) (tC (.str x)) := fun _ _ _ H _ I h => Calls.Constant_str ⟨.str x, H, I.tok _, ⟨_, rfl⟩, h⟩
noncomputable def Gl (X : Cx) (x : Str) : Prop := X.env.kindOf x = some .globalImplicit
theorem ld_glob {E : Value -> Shared -> Prop} {pins : List (Addr × Obj)} {s : Shared} {σ : St} {H : Hp} {x : Str} {u : Value} {pos : Pos} {Q : Value -> Shared -> Prop} (I : Inv X pins σ H s) (hg : Gl X x) (hm : X.mg x = some u) (h : Q u s)
  (hd : (x == ("__debug__" : Str)) = false := by decide) : wpAny (model X.prog X.w) X.A (eval (.Name x pos) X.env) Q E s :=
 Calls.Name_function_global I.ok.kind hg (Calls.loadGlobal_global (by rw [I.ok.glob]; exact I.mod.glob.keeps I.bk) hm h) hd
theorem ld_blt {E : Value -> Shared -> Prop} {pins : List (Addr × Obj)} {s : Shared} {σ : St} {H : Hp} {x : Str} {u : Value} {pos : Pos} {Q : Value -> Shared -> Prop} (I : Inv X pins σ H s) (hg : Gl X x) (hm : X.mg x = none) (hv : bootBuiltins x = some u) (h : Q u s)
  (hn : x ≠ "__name__" := by decide) (hd : (x == ("__debug__" : Str)) = false := by decide) : wpAny (model X.prog X.w) X.A (eval (.Name x pos) X.env) Q E s := by
 obtain ⟨mb, h1, h2⟩ := I.mod.blt
 exact Calls.Name_function_global I.ok.kind hg (Calls.loadGlobal_builtin (by rw [I.ok.glob]; exact I.mod.glob.keeps I.bk) hm (by rw [I.ok.blt]; exact h1.keeps I.bk) ((h2 x hn).trans hv) h) hd
theorem pe_glob {x : Str} {v : V} {u : Value} {pos : Pos} (hg : Gl X x) (hm : X.mg x = some u) (r : RelV v u) (hd : (x == ("__debug__" : Str)) = false := by decide) : PE X (.Name x pos) (tC v) :=
 fun _ _ _ H _ I h => ld_glob I hg hm ⟨v, H, I, r, h⟩ hd
variable {a b : Expr} {ta tb : TE} {pos : Pos}
noncomputable def tB (t : TE) : TT := fun σ H Q => t σ H fun x H1 => ∃ c, x = .bl c /\ Q c H1
theorem pt_val {e : Expr} {t : TE} (h : PE X e t) (he : ∀ whole, isTrue e X.env whole = (do let v <- whole; standAt e.pos; holding [v] (truthy v)) := by intro _; rfl) : PT X e (tB t) := by
 intro pins s σ H Q I hw
 refine isTrue_plain (thn (h pins s σ H _ I hw) fun v s1 zq => ?_) (he _)
 obtain ⟨x, H1, I1, r1, q1⟩ := zq
 obtain ⟨d, rfl, q⟩ := q1
 cases r1
 exact wpAny_truthy_bool ⟨H1, I1, q⟩
variable {tA tB' : TT} {rest : List Expr}
noncomputable def tAnd (t u : TT) : TT := fun σ H Q => t σ H fun c H1 => if c = true then u σ H1 Q else Q false H1
noncomputable def tOr (t u : TT) : TT := fun σ H Q => t σ H fun c H1 => if c = true then Q true H1 else u σ H1 Q
noncomputable def tNot (t : TT) : TT := fun σ H Q => t σ H fun c H1 => Q (!c) H1
theorem pw_and1 (ha : PT X a tA) : PW X (.BoolOp .And [a] pos) tA := by
 intro wh pins s σ H Q I h
 refine isTrue_and (thn (ha pins s σ H Q I h) fun c s1 e => ?_)
 cases c with
 | true => exact isTrue_and_nil e
 | false => exact e
theorem pw_or1 (ha : PT X a tA) : PW X (.BoolOp .Or [a] pos) tA := by
 intro wh pins s σ H Q I h
 refine isTrue_or (thn (ha pins s σ H Q I h) fun c s1 e => ?_)
 cases c with
 | false => exact isTrue_or_nil e
 | true => exact e
theorem pw_and (ha : PT X a tA) (hb : PW X (.BoolOp .And (b :: rest) pos) tB') : PW X (.BoolOp .And (a :: b :: rest) pos) (tAnd tA tB') := by
 intro wh pins s σ H Q I h
 refine isTrue_and (thn (ha pins s σ H _ I h) fun c s1 zq => ?_)
 obtain ⟨H1, I1, q1⟩ := zq
 cases c with
 | true => exact hb wh pins s1 σ H1 Q I1 q1
 | false => exact ⟨H1, I1, q1⟩
theorem pw_or (ha : PT X a tA) (hb : PW X (.BoolOp .Or (b :: rest) pos) tB') : PW X (.BoolOp .Or (a :: b :: rest) pos) (tOr tA tB') := by
 intro wh pins s σ H Q I h
 refine isTrue_or (thn (ha pins s σ H _ I h) fun c s1 zq => ?_)
 obtain ⟨H1, I1, q1⟩ := zq
 cases c with
 | true => exact ⟨H1, I1, q1⟩
 | false => exact hb wh pins s1 σ H1 Q I1 q1
theorem pt_not (ha : PT X a tA) : PT X (.UnaryOp .Not a pos) (tNot tA) := by
 intro pins s σ H Q I h
 exact isTrue_not (ha pins s σ H (fun c H1 => Q (!c) H1) I h)
noncomputable def tIf (t : TT) (ta tb : TE) : TE := fun σ H Q => t σ H fun c H1 => if c = true then ta σ H1 Q else tb σ H1 Q
theorem pe_ifExp {c : Expr} (hc : PT X c tA) (ha : PE X a ta) (hb : PE X b tb) : PE X (.IfExp c a b pos) (tIf tA ta tb) := by
 intro pins s σ H Q I h
 refine wpAny_IfExp (thn (hc pins s σ H _ I h) fun d s1 zq => ?_)
 obtain ⟨H1, I1, q1⟩ := zq
 cases d with
 | true => exact ha pins s1 σ H1 Q I1 q1
 | false => exact hb pins s1 σ H1 Q I1 q1
end
end L2
namespace L2
open PySem PySem.Spec PyProof.Rows
noncomputable def SqL (K : PySem.W.Frag) (H : Hp) (a : Addr) (xs : List V) : Prop :=
 Rd H a (.lst xs) ∨
  ∃ (o : Obj) (its : Array Value) (n : Nat), K.lookup a = some o /\ o.cls = .type "list" /\ o.dict = none /\ o.data = .seq its n /\ its.size <= sizeLine /\ Vals xs its.toList
noncomputable def SqT (K : PySem.W.Frag) (H : Hp) (a : Addr) (xs : List V) : Prop :=
 Rd H a (.tup xs) ∨
  ∃ (o : Obj) (its : Array Value) (n : Nat), K.lookup a = some o /\ o.cls = .type "tuple" /\ o.data = .seq its n /\ its.size <= sizeLine /\ Vals xs its.toList
noncomputable def absV : Value -> Option V
 | .none => some .non
 | .bool b => some (.bl b)
 | .int i _ => some (.int i)
 | .str x _ => some (.str x)
 | .bytes b _ => some (.byt b)
 | .float b _ => some (.flt b)
 | .ref a => some (.ref a)
 | .type n => some (.ty n)
 | _ => none
theorem RelV.abs {x : V} {u : Value} (r : RelV x u) : absV u = some x := by
 cases x with
 | non => cases r; rfl
 | bl _ => cases r; rfl
 | int _ => obtain ⟨t, rfl⟩ := r; rfl
 | str _ => obtain ⟨t, rfl⟩ := r; rfl
 | byt _ => obtain ⟨t, rfl⟩ := r; rfl
 | flt _ => obtain ⟨t, rfl⟩ := r; rfl
 | ref _ => cases r; rfl
 | ty _ => cases r; rfl
theorem RelV.inj {x y : V} {u : Value} (r : RelV x u) (q : RelV y u) : x = y := Option.some.inj (r.abs.symm.trans q.abs)
theorem Vals.inj : ∀ {xs ys : List V} {us : List Value}, Vals xs us -> Vals ys us -> xs = ys
 | _, _, _, .nil, .nil => rfl
 | _, _, _, .cons r t, .cons r' t' => by rw [r.inj r', Vals.inj t t']
section
variable {X : Cx} {pins : List (Addr × Obj)} {σ : St} {H : Hp} {s : Shared} {a : Addr} {xs ys : List V}
theorem SqL.of {K : PySem.W.Frag} (h : H a = some (.lst xs)) : SqL K H a xs := .inl (.inl h)
theorem SqT.of {K : PySem.W.Frag} (h : H a = some (.tup xs)) : SqT K H a xs := .inl (.inl h)
theorem Inv.list (I : Inv X pins σ H s) (h : SqL X.K H a xs) : ∃ its : List Value, Vals xs its /\ PlainL s.heap a its.toArray /\ xs.length <= sizeLine := by
 rcases h with h | ⟨o, its, n, hk, hc, hd, hs, hz, r⟩
 ·obtain ⟨z, its, n, r, e⟩ := h.ok I.hok
  exact ⟨its, r, ⟨_, n, e, rfl, rfl, rfl⟩, z⟩
 ·refine ⟨its.toList, r, ⟨o, n, I.kIn a o hk, hc, hd, by simpa using hs⟩, ?_⟩
  have e := r.length
  simp only [Array.length_toList] at e
  (first | lia | omega)
theorem Inv.tuple (I : Inv X pins σ H s) (h : SqT X.K H a xs) : ∃ its : List Value, Vals xs its /\ IsTup s.heap a its.toArray /\ xs.length <= sizeLine := by
 rcases h with h | ⟨o, its, n, hk, hc, hs, hz, r⟩
 ·obtain ⟨z, its, r, p⟩ := h.ok I.hok
  exact ⟨its, r, p.tup, z⟩
 ·refine ⟨its.toList, r, ⟨o, I.kIn a o hk, hc, n, by simpa using hs⟩, ?_⟩
  have e := r.length
  simp only [Array.length_toList] at e
  (first | lia | omega)
theorem Inv.list_inj (I : Inv X pins σ H s) (h : SqL X.K H a xs) (h' : SqL X.K H a ys) : xs = ys := by
 obtain ⟨its, r, ⟨o, n, e, _, _, d⟩, _⟩ := I.list h
 obtain ⟨its', r', ⟨o', n', e', _, _, d'⟩, _⟩ := I.list h'
 rw [e] at e'; cases e'
 rw [d] at d'
 injection d' with d1 _
 have : its = its' := by simpa using congrArg Array.toList d1
 subst this
 exact r.inj r'
theorem Inv.tuple_inj (I : Inv X pins σ H s) (h : SqT X.K H a xs) (h' : SqT X.K H a ys) : xs = ys := by
 obtain ⟨its, r, ⟨o, e, _, n, d⟩, _⟩ := I.tuple h
 obtain ⟨its', r', ⟨o', e', _, n', d'⟩, _⟩ := I.tuple h'
 rw [e] at e'; cases e'
 rw [d] at d'
 injection d' with d1 _
 have : its = its' := by simpa using congrArg Array.toList d1
 subst this
 exact r.inj r'
end
noncomputable abbrev Cx.wish (X : Cx) (E : Value -> Shared -> Prop) : Cx := { X with xe := E }
noncomputable abbrev Cx.nox (X : Cx) : Cx := X.wish fun _ _ => False
theorem Cx.Ok.wish {X : Cx} (ok : X.Ok) (E : Value -> Shared -> Prop) : (X.wish E).Ok :=
 ⟨ok.mod, ok.kind, ok.glob, ok.blt, ok.above, ok.inj, ok.has, ok.cab, ok.hd, ok.frames, ok.stk, ok.exf, ok.bs, ok.bsz, ok.noex, ok.exfs, ok.funs, ok.frf⟩
theorem Cx.Ok.unwish {X : Cx} {E : Value -> Shared -> Prop} (ok : (X.wish E).Ok) : X.Ok :=
 ⟨ok.mod, ok.kind, ok.glob, ok.blt, ok.above, ok.inj, ok.has, ok.cab, ok.hd, ok.frames, ok.stk, ok.exf, ok.bs, ok.bsz, ok.noex, ok.exfs, ok.funs, ok.frf⟩
section
variable {X : Cx} {pins : List (Addr × Obj)} {σ : St} {H : Hp} {s : Shared} {E : Value -> Shared -> Prop}
theorem Inv.wish (I : Inv X pins σ H s) (E : Value -> Shared -> Prop) : Inv (X.wish E) pins σ H s := ⟨I.ok.wish E, I.os, I.bare, I.base, I.loc, I.cell, I.free, I.freeC, I.pin, I.hok, I.len⟩
theorem Inv.unwish (I : Inv (X.wish E) pins σ H s) : Inv X pins σ H s := ⟨I.ok.unwish, I.os, I.bare, I.base, I.loc, I.cell, I.free, I.freeC, I.pin, I.hok, I.len⟩
theorem SP.unwish {D : Ends} {f : Flow} {s' : Shared} (h : SP (X.wish E) pins D f s') : SP X pins D f s' := by
 cases f with
 | next => obtain ⟨σ', H', I, q⟩ := h; exact ⟨σ', H', I.unwish, q⟩
 | brk => obtain ⟨σ', H', I, q⟩ := h; exact ⟨σ', H', I.unwish, q⟩
 | cont => obtain ⟨σ', H', I, q⟩ := h; exact ⟨σ', H', I.unwish, q⟩
 | ret u => obtain ⟨v, σ', H', I, r, q⟩ := h; exact ⟨v, σ', H', I.unwish, r, q⟩
theorem PE.nox {e : Expr} {t : TE} (h : PE X.nox e t) : PE X e t := fun pins s σ H Q I hw =>
 wpAny_mono (h pins s σ H Q (I.wish _) hw) (fun _ _ ⟨v, H', I', r, q⟩ => ⟨v, H', I'.unwish, r, q⟩) fun _ _ z => False.elim z
theorem PSs.nox {st : List Stmt} {t : TS} (h : PSs X.nox st t) : PSs X st t := fun pins s σ H D I hw =>
 wpAny_mono (h pins s σ H D (I.wish _) hw) (fun _ _ q => q.unwish) fun _ _ z => False.elim z
end
section
variable {X : Cx} {st : Stmt} {rest : List Stmt} {t u : TS} {e : Expr} {te : TE} {pos : Pos}
noncomputable def tNext : TS := fun D σ H => D.nx σ H
noncomputable def tSeq (t u : TS) : TS := fun D σ H => t { D with nx := u D } σ H
theorem pss_nil : PSs X [] tNext := fun _ _ σ H _ I h => wpAny_execs_nil ⟨σ, H, I, h⟩
theorem pss_cons (h1 : PS X st t) (h2 : PSs X rest u) : PSs X (st :: rest) (tSeq t u) := by
 intro pins s σ H D I h
 refine wpAny_execs_cons (thn (h1 pins s σ H { D with nx := u D } I h) fun f s1 q => ?_)
 cases f with
 | next =>
  obtain ⟨σ', H', I', q⟩ := q
  exact h2 pins s1 σ' H' D I' q
 | ret v => exact q
 | brk => exact q
 | cont => exact q
theorem pss_one (h1 : PS X st t) : PSs X [st] t := by
 intro pins s σ H D I h
 refine wpAny_execs_cons (thn (h1 pins s σ H D I h) fun f s1 q => ?_)
 cases f with
 | next => exact wpAny_execs_nil q
 | ret v => exact q
 | brk => exact q
 | cont => exact q
theorem Inv.quiet {pins : List (Addr × Obj)} {σ : St} {H : Hp} {s : Shared} (I : Inv X pins σ H s) : interactive X.env = false := by simp [interactive, I.ok.kind]
noncomputable def tDrop (te : TE) : TS := fun D σ H => te σ H fun _ H1 => D.nx σ H1
theorem ps_expr (he : PE X e te) (hs : swapsWith e none pos.line X.env = pure false := by rfl) : PS X (.Expr e pos) (tDrop te) := by
 intro pins s σ H D I h
 exact wpAny_Expr_any (thn (he pins s σ H _ I h) fun v s1 ⟨x, H1, I1, r1, q1⟩ => ⟨σ, H1, I1, q1⟩) I.quiet hs
noncomputable def tRet (te : TE) : TS := fun D σ H => te σ H D.rt
theorem ps_ret (he : PE X e te) : PS X (.Return (some e) pos) (tRet te) := by
 intro pins s σ H D I h
 exact wpAny_Return_some (thn (he pins s σ H _ I h) fun v s1 ⟨x, H1, I1, r1, q1⟩ => ⟨x, σ, H1, I1, r1, q1⟩)
noncomputable def tIfS (c : TT) (t u : TS) : TS := fun D σ H => c σ H fun b H1 => if b = true then t D σ H1 else u D σ H1
theorem ps_if {c : Expr} {a b : List Stmt} {tc : TT} (hc : PT X c tc) (ha : PSs X a t) (hb : PSs X b u) : PS X (.If c a b pos) (tIfS tc t u) := by
 intro pins s σ H D I h
 refine wpAny_If (thn (hc pins s σ H _ I h) fun d s1 zq => ?_)
 obtain ⟨H1, I1, q1⟩ := zq
 cases d with
 | true => exact ha pins s1 σ H1 D I1 q1
 | false => exact hb pins s1 σ H1 D I1 q1
noncomputable def tNever : TS := fun _ _ _ => False
theorem pss_never {sts : List Stmt} : PSs X sts tNever := fun _ _ _ _ _ _ h => h.elim
end
noncomputable abbrev TG := V -> St -> Hp -> (St -> Hp -> Prop) -> Prop
noncomputable abbrev TGs := List V -> St -> Hp -> (St -> Hp -> Prop) -> Prop
noncomputable def PG (X : Cx) (target : Expr) (t : TG) : Prop :=
 ∀ (pins : List (Addr × Obj)) (s : Shared) (σ : St) (H : Hp) (v : V) (u : Value) (Q : St -> Hp -> Prop), Inv X pins σ H s -> RelV v u -> t v σ H Q ->
  wpAny (model X.prog X.w) X.A (assign target X.env u) (fun _ s' => ∃ σ' H', Inv X pins σ' H' s' /\ Q σ' H') X.xe s
noncomputable def PGs (X : Cx) (ts : List Expr) (t : TGs) : Prop :=
 ∀ (pins : List (Addr × Obj)) (s : Shared) (σ : St) (H : Hp) (vs : List V) (us : List Value) (Q : St -> Hp -> Prop), Inv X pins σ H s -> Vals vs us -> t vs σ H Q ->
  wpAny (model X.prog X.w) X.A (assignInOrder ((assignEach ts X.env).map (·.2)) us) (fun _ s' => ∃ σ' H', Inv X pins σ' H' s' /\ Q σ' H') X.xe s
noncomputable abbrev TSet := V -> V -> V -> Hp -> (Hp -> Prop) -> Prop
noncomputable def PSet (X : Cx) (t : TSet) : Prop :=
 ∀ (pins : List (Addr × Obj)) (s : Shared) (σ : St) (H : Hp) (o i v : V) (ov iv u : Value) (Q : Hp -> Prop), Inv X pins σ H s -> RelV o ov -> RelV i iv -> RelV v u -> t o i v H Q ->
  wpAny (model X.prog X.w) X.A (setItem ov iv u) (fun _ s' => ∃ H', Inv X pins σ H' s' /\ Q H') X.xe s
noncomputable abbrev TIp := V -> V -> Hp -> VK -> Prop
noncomputable def PIp (X : Cx) (op : Operator) (t : TIp) : Prop :=
 ∀ (pins : List (Addr × Obj)) (s : Shared) (σ : St) (H : Hp) (x y : V) (v u : Value) (Q : VK), Inv X pins σ H s -> RelV x v -> RelV y u -> t x y H Q ->
  wpAny (model X.prog X.w) X.A (inplaceOp op v u) (EP X pins σ Q) X.xe s
section
variable {X : Cx} {pos : Pos}
noncomputable def gName (i : Nat) : TG := fun v σ H Q => Q (σ.set i (some v)) H
theorem pg_name {i : Nat} {x : Str} (hN : X.N.Nodup) (hi : X.N[i]? = some x) (hx : Loc X.env.scope x) (hf : X.fn x = true ∨ X.env.scope.names.lookup x = some .local := by first | exact .inl rfl | exact .inr rfl | assumption) : PG X (.Name x pos) (gName i) := by
 intro pins s σ H v u Q I r h
 exact wpAny_assign_Name (store_ok I hN hi hx r (fun s' I' => ⟨_, H, I', h⟩) hf)
noncomputable def gNil : TGs := fun vs σ H Q => vs = [] /\ Q σ H
noncomputable def gCons (t : TG) (u : TGs) : TGs := fun vs σ H Q => ∃ v r, vs = v :: r /\ t v σ H fun σ' H' => u r σ' H' Q
theorem pgs_nil : PGs X [] gNil := by
 intro pins s σ H vs us Q I r h
 obtain ⟨e, h⟩ := h
 subst e
 cases r
 exact assignInOrder_nil ⟨σ, H, I, h⟩
theorem pgs_cons {e : Expr} {es : List Expr} {t : TG} {u : TGs} (h1 : PG X e t) (h2 : PGs X es u)
  (hs : (assignEach (e :: es) X.env).map (·.2) = assign e X.env :: (assignEach es X.env).map (·.2) := by rfl) : PGs X (e :: es) (gCons t u) := by
 intro pins s σ H vs us Q I r h
 obtain ⟨v, vr, e1, h⟩ := h
 subst e1
 cases r with
 | cons r rr =>
  rw [hs]
  refine assignInOrder_cons (thn (h1 pins s σ H _ _ _ I r h) fun _ s1 zq => ?_)
  obtain ⟨σ1, H1, I1, q1⟩ := zq
  exact h2 pins s1 σ1 H1 _ _ Q I1 rr q1
noncomputable def gTup (K : PySem.W.Frag) (n : Nat) (t : TGs) : TG := fun v σ H Q => ∃ a xs, v = .ref a /\ SqT K H a xs /\ xs.length = n /\ t xs σ H Q
theorem pg_tup {es : List Expr} {k : Nat} {t : TGs} {n : Nat} (hc : X.calm = true) (h : PGs X es t)
  (hn : (assignEach es X.env).length = n := by rfl) (hst : (assignEach es X.env).findIdx? (·.1) = none := by rfl) : PG X (.Tuple es k pos) (gTup X.K n t) := by
 intro pins s σ H v u Q I r hw
 obtain ⟨a, xs, e1, hq, hl, hw⟩ := hw
 subst e1
 cases r
 obtain ⟨its, rv, ht, hz⟩ := I.tuple hq
 refine assign_Tuple_tuple (I.ok.hd hc) ht (by simp [hn, <- hl, rv.length]) hst fun h' hx => ?_
 have I1 : Inv X pins σ H { s with heap := h' } := I.kept (t' := s.toks) fun b o e => hx b o (Nat.ne_of_lt (Heap.lt_size e)) e
 exact h pins _ σ H xs _ Q I1 (by simpa using rv) hw
noncomputable def gSub (to ti : TE) (t : TSet) : TG := fun v σ H Q => to σ H fun o H1 => ti σ H1 fun i H2 => t o i v H2 fun H3 => Q σ H3
theorem pg_sub {o i : Expr} {to ti : TE} {t : TSet} (ho : PE X o to) (hi : PE X i ti) (hs : PSet X t)
  (ha : ∀ v, assign (.Subscript o i pos) X.env v = (do
   let ov <- holding [v] (eval o X.env)
   let iv <- holding [v, ov] (eval i X.env)
   standAt pos
   holding [v, ov, iv] (setItem ov iv v)
   release [v, ov, iv] []) := by intro _; rfl) : PG X (.Subscript o i pos) (gSub to ti t) := by
 intro pins s σ H v u Q I r h
 rw [ha]
 refine wpAny_bind (wpAny_holding (thn (ho pins s σ H _ I h) fun ov s1 zq => ?_))
 obtain ⟨x, H1, I1, r1, q1⟩ := zq
 refine wpAny_bind (wpAny_holding (thn (hi pins s1 σ H1 _ I1 q1) fun iv s2 zq => ?_))
 obtain ⟨y, H2, I2, r2, q2⟩ := zq
 refine wpAny_bind (wpAny_standAt (wpAny_bind (wpAny_holding (thn (hs pins s2 σ H2 x y v ov iv u _ I2 r1 r2 r q2) fun _ s3 zq => ?_))))
 obtain ⟨H3, I3, q3⟩ := zq
 exact wpAny_release ⟨σ, H3, I3, q3⟩
noncomputable def tAsg (te : TE) (g : TG) : TS := fun D σ H => te σ H fun x H1 => g x σ H1 D.nx
theorem ps_asg {tg e : Expr} {te : TE} {g : TG} (he : PE X e te) (hg : PG X tg g) (hs : swapsWithSole [tg] e pos.line X.env = pure false := by rfl) (hw : swappedStores [tg] e X.env = pure none := by rfl)
  (h1 : (assignEach [tg] X.env).map (·.2) = [assign tg X.env] := by rfl) : PS X (.Assign [tg] e pos) (tAsg te g) := by
 intro pins s σ H D I h
 refine wpAny_Assign_stores (thn (he pins s σ H _ I h) fun v s1 zq => ?_) hs hw
 obtain ⟨x, H1, I1, r1, q1⟩ := zq
 rw [h1]
 exact thn (hg pins s1 σ H1 x v _ I1 r1 q1) fun _ s2 q => q
theorem ps_set {i : Nat} {x : Str} {e : Expr} {te : TE} {pos' : Pos} (hN : X.N.Nodup) (hi : X.N[i]? = some x) (hx : Loc X.env.scope x) (he : PE X e te) (hs : swapsWith e (some (.Name x pos')) pos.line X.env = pure false := by rfl) (hf : X.fn x = true ∨ X.env.scope.names.lookup x = some .local := by first | exact .inl rfl | exact .inr rfl | assumption) :
  PS X (.Assign [.Name x pos'] e pos) (tAsg te (gName i)) := by
 intro pins s σ H D I h
 refine wpAny_Assign_Name (thn (he pins s σ H _ I h) fun v s1 zq => ?_) hs
 obtain ⟨y, H1, I1, r1, q1⟩ := zq
 exact store_ok I1 hN hi hx r1 (fun s2 I2 => ⟨_, H1, I2, q1⟩) hf
noncomputable def tPar (i j : Nat) (ta : TA) : TS := fun D σ H => ta σ H fun vs H1 => ∃ v w, vs = [v, w] /\ D.nx ((σ.set i (some v)).set j (some w)) H1
theorem ps_par {i j : Nat} {x y : Str} {a b : Expr} {ta : TA} {px py pt : Pos} {kt k2 pt2} (hc : X.calm = true) (hN : X.N.Nodup) (hi : X.N[i]? = some x) (hj : X.N[j]? = some y) (hij : i ≠ j)
  (hx : X.env.scope.names.lookup x = some .local) (hy : X.env.scope.names.lookup y = some .local) (ha : PA X [a, b] ta)
  (hw : swappedStores [.Tuple [.Name x px, .Name y py] kt pt] (.Tuple [a, b] k2 pt2) X.env = pure (some [x, y]))
  (hs : swapsWithSole [.Tuple [.Name x px, .Name y py] kt pt] (.Tuple [a, b] k2 pt2) pos.line X.env = pure false := by rfl) :
  PS X (.Assign [.Tuple [.Name x px, .Name y py] kt pt] (.Tuple [a, b] k2 pt2) pos) (tPar i j ta) := by
 intro pins s σ H D I h
 rw [exec_Assign_arm]
 refine wpAny_bind (wpAny_standAt ?_)
 rw [hs]
 refine wpAny_bind (wpAny_pure ?_)
 rw [if_neg (by decide)]
 refine wpAny_bind (Tuple_ (thn (ha _ pins s σ H _ I h) fun us s1 zq => ?_))
 obtain ⟨vs, H1, I1, r1, q1⟩ := zq
 obtain ⟨v, w, e1, q1⟩ := q1
 subst e1
 obtain ⟨u1, u2, rfl, rv, rw'⟩ : ∃ u1 u2, us = [u1, u2] /\ RelV v u1 /\ RelV w u2 := by
  cases r1 with
  | cons p q =>
   cases q with
   | cons p' q' =>
    cases q'
    exact ⟨_, _, rfl, p, p'⟩
 refine wpAny_newObj_type ?_ (by show 2 <= sizeLine; decide)
 have I2 : Inv X pins σ H1 { s1 with heap := s1.heap.push { cls := .type "tuple", data := .seq [u1, u2].toArray } } := I1.kept (t' := s1.toks) fun b o e => Heap.get?_push_of_some _ e
 rw [hw]
 refine wpAny_bind (wpAny_pure ?_)
 show wpAny (model X.prog X.w) X.A (do rule "assign.swapped-stores"; let items <- unpackItems (.ref s1.heap.objs.size) 2 none; assignInOrder [fun v => bindName X.env y v, fun v => bindName X.env x v] items.reverse; pure Flow.next) _ _ _
 refine wpAny_bind (wpAny_rule (wpAny_bind (unpackItems_tuple (items := #[u1, u2]) (I.ok.hd hc) (IsTup.new s1.heap _) fun h' hx' => ?_)))
 have I3 := I2.kept (h' := h') (t' := s1.toks) fun b o e => hx' b o (Nat.ne_of_lt (Heap.lt_size e)) e
 show wpAny _ _ (assignInOrder [fun v => bindName X.env y v, fun v => bindName X.env x v] [u2, u1] >>= fun _ => pure Flow.next) _ _ _
 refine wpAny_bind (assignInOrder_cons (wpAny_bindName (store_ok I3 hN hj (.inl hy) rw' (fun s2 I4 => ?_) (.inr hy))))
 refine assignInOrder_cons (wpAny_bindName (store_ok I4 hN hi (.inl hx) rv (fun s3 I5 => assignInOrder_nil (wpAny_pure ?_)) (.inr hx)))
 rw [List.set_comm _ _ (Ne.symm hij)] at I5
 exact ⟨_, H1, I5, q1⟩
noncomputable def tAug (i : Nat) (te : TE) (ti : TIp) : TS := fun D σ H => ∃ x, σ[i]? = some (some x) /\ te σ H fun y H1 => ti x y H1 fun z H2 => D.nx (σ.set i (some z)) H2
theorem ps_aug {i : Nat} {x : Str} {e : Expr} {te : TE} {op : Operator} {ti : TIp} {pos' : Pos} (hN : X.N.Nodup) (hi : X.N[i]? = some x) (hx : Loc X.env.scope x) (he : PE X e te) (ho : PIp X op ti) (hf : X.fn x = true ∨ X.env.scope.names.lookup x = some .local := by first | exact .inl rfl | exact .inr rfl | assumption) :
  PS X (.AugAssign (.Name x pos') op e pos) (tAug i te ti) := by
 intro pins s σ H D I h
 obtain ⟨v, e1, h⟩ := h
 obtain ⟨m, hn, hl⟩ := I.loc
 have vis : Vis X.env.scope x := by rcases hx with k | k; exact .inl k; exact .inr (.inl k)
 obtain ⟨u, r, l⟩ := hl i x v hi e1 vis
 refine wpAny_AugAssign_Name ?_
 have go : wpAny (model X.prog X.w) X.A (eval e X.env) (fun w s₂ => wpAny (model X.prog X.w) X.A (inplaceOp op u w) (fun r s₃ => wpAny (model X.prog X.w) X.A (storeName X.env x r) (fun _ => SP X pins D .next) X.xe s₃) X.xe s₂) X.xe s := by
  refine thn (he pins s σ H _ I h) fun w s1 zq => ?_
  obtain ⟨y, H1, I1, r1, q1⟩ := zq
  refine thn (ho pins s1 σ H1 v y u w _ I1 r r1 q1) fun z s2 zq => ?_
  obtain ⟨zv, H2, I2, r2, q2⟩ := zq
  exact store_ok I2 hN hi hx r2 (fun s3 I3 => ⟨_, H2, I3, q2⟩) hf
 rcases l with ⟨hk, hm⟩ | ⟨hk, c, hc, hcell⟩
 ·exact wpAny_loadName_local I.ok.kind hk hn hm go
 ·rcases hk with hk | hk
  ·exact wpAny_loadName_cell I.ok.kind hk hc hcell go
  ·rcases hx with k | k
   ·have : X.env.scope.names.lookup x = some .free := hk
    rw [k] at this; cases this
   ·have : X.env.scope.names.lookup x = some .free := hk
    rw [k] at this; cases this
noncomputable def ipI (f : Int -> Int -> Int) : TIp := fun x y H Q => ∃ i j, x = .int i /\ y = .int j /\ Q (.int (f i j)) H
theorem ip_add : PIp X .Add (ipI fun i j => i + j) := by
 intro pins s σ H x y v u Q I r1 r2 h
 obtain ⟨i, j, e1, e2, q⟩ := h
 subst e1; subst e2
 obtain ⟨t, rfl⟩ := r1
 obtain ⟨t', rfl⟩ := r2
 exact iadd_int ⟨.int _, H, I.tok _, ⟨_, rfl⟩, q⟩
end
section
variable {X : Cx} {pos : Pos}
noncomputable def tWhile (c : TT) (tb : TS) : TS := fun D σ H => ∃ W : Nat -> St -> Hp -> Prop, (∃ m, W m σ H) /\ ∀ m σ H, W m σ H ->
 c σ H fun b H1 => if b = true then ∃ N : St -> Hp -> Prop, (∀ σ' H', N σ' H' -> ∃ m', m' < m /\ W m' σ' H') /\ tb { D with nx := N, ct := N, bk := D.nx } σ H1 else D.nx σ H1
theorem ps_while {c : Expr} {body : List Stmt} {tc : TT} {tb : TS} (hp : PassesOwn (model X.prog X.w) X.A X.env X.xe) (hc : PT X c tc) (hb : PSs X body tb) : PS X (.While c body [] pos) (tWhile tc tb) := by
 intro pins s σ H D I h
 obtain ⟨W, ⟨m0, w0⟩, turn⟩ := h
 refine wpAny_While (codeAny_whileLoop (fun n s' => ∃ σ' H', Inv X pins σ' H' s' /\ W n σ' H') ?_ m0 ⟨σ, H, I, w0⟩)
 rintro n s1 ⟨σ1, H1, I1, w1⟩
 refine wpAny_passesOwn hp (thn (hc pins s1 σ1 H1 _ I1 (turn n σ1 H1 w1)) fun b s2 zq => ?_)
 obtain ⟨H2, I2, q2⟩ := zq
 cases b with
 | true =>
  obtain ⟨N, hN, q2⟩ := q2
  rw [if_pos rfl]
  refine wpAny_passesOwn hp (thn (hb pins s2 σ1 H2 _ I2 q2) fun f s3 q3 => ?_)
  cases f with
  | next =>
   obtain ⟨σ3, H3, I3, n3⟩ := q3
   obtain ⟨m', hm, w3⟩ := hN σ3 H3 n3
   exact ⟨m', hm, σ3, H3, I3, w3⟩
  | cont =>
   obtain ⟨σ3, H3, I3, n3⟩ := q3
   obtain ⟨m', hm, w3⟩ := hN σ3 H3 n3
   exact ⟨m', hm, σ3, H3, I3, w3⟩
  | brk => exact q3
  | ret v => exact q3
 | false =>
  rw [if_neg Bool.false_ne_true]
  exact wpAny_execs_nil ⟨σ1, H2, I2, q2⟩
end
structure It where
 go : Nat -> Hp -> Prop
 yld : Nat -> Hp -> V -> Hp -> Prop
 stop : Nat -> Hp -> Prop
noncomputable def FpOk (X : Cx) (pins : List (Addr × Obj)) (H : Hp) (b : Addr) : Prop :=
 H b = none /\ b ≠ X.env.locals /\ b ∉ X.fs /\ (b ∈ X.ex ∨ X.s₀.heap.objs.size <= b) /\ (∀ x c, X.env.cells.lookup x = some c -> c ≠ b) /\ ∀ p ∈ X.pn ++ pins, p.1 ≠ b
theorem Inv.fpOk {X : Cx} {pins : List (Addr × Obj)} {σ : St} {H H' : Hp} {s : Shared} {b : Addr} (I : Inv X pins σ H s) (hb : s.heap.objs.size <= b) (hn : H' b = none) : FpOk X pins H' b := by
 refine ⟨hn, Nat.ne_of_gt (Nat.lt_of_lt_of_le I.lt hb), I.nofs hb, .inr (Nat.le_trans I.sz hb), fun x c e z => ?_, fun p hp z => ?_⟩
 ·obtain ⟨v, q⟩ := I.cell x c e
  exact absurd (Nat.lt_of_lt_of_le q.lt (by rw [z]; exact hb)) (Nat.lt_irrefl _)
 ·exact absurd (Nat.lt_of_lt_of_le (Heap.lt_size (I.pin p hp).1) (by rw [z]; exact hb)) (Nat.lt_irrefl _)
structure Turn (P : Program) (w : World) (K : PySem.W.Frag) (tg : Expr) (J : It) (fp : List Addr) (it : Addr) (tn : Nat -> Heap -> Prop) : Prop where
 mem : it ∈ fp
 obj : ∀ i h, tn i h -> ∀ b ∈ fp, ∃ o, h.get? b = some o /\ ∀ v, o.data ≠ .cell v
 keep : ∀ i h h', tn i h -> (∀ b ∈ fp, ∀ o, h.get? b = some o -> h'.get? b = some o) -> tn i h'
 item : ∀ (X : Cx), X.prog = P -> X.w = w -> X.K = K -> X.calm = true -> ∀ (i : Nat) (pins : List (Addr × Obj)) (s : Shared) (σ : St) (H : Hp) (E : Value -> Shared -> Prop), Inv X pins σ H s -> (∀ b ∈ fp, FpOk X pins H b) -> tn i s.heap -> J.go i H ->
  wpAny (model P w) X.A (pyNext (.ref it)) (fun r s1 => ∃ u, r = some u /\
   wpAny (model P w) X.A (letOwnedTupleGo tg (.ref it) u) (fun _ s2 => ∃ x H', Inv X pins σ H' s2 /\ RelV x u /\ J.yld i H x H' /\ tn (i + 1) s2.heap /\ ∀ b ∈ fp, H' b = none) E s1) E s
 done : ∀ (X : Cx), X.prog = P -> X.w = w -> X.K = K -> X.calm = true -> ∀ (i : Nat) (pins : List (Addr × Obj)) (s : Shared) (σ : St) (H : Hp) (E : Value -> Shared -> Prop), Inv X pins σ H s -> (∀ b ∈ fp, FpOk X pins H b) -> tn i s.heap -> J.stop i H ->
  wpAny (model P w) X.A (pyNext (.ref it)) (fun r s1 => r = none /\ Inv X pins σ H s1) E s
 self : ∀ (A : Around) (i : Nat) (s : Shared) (Q : Value -> Shared -> Prop) (E : Value -> Shared -> Prop), tn i s.heap -> Q (.ref it) s -> wpAny (model P w) A (pyIter (.ref it)) Q E s
noncomputable abbrev TI := St -> Hp -> (It -> Hp -> Prop) -> Prop
noncomputable def PIE (X : Cx) (pins : List (Addr × Obj)) (σ : St) (tg : Expr) (R : It -> Hp -> Prop) (itv : Value) (s2 : Shared) : Prop :=
 ∃ (it : Addr) (fp : List Addr) (tn : Nat -> Heap -> Prop) (J : It) (H' : Hp), itv = .ref it /\ Inv X pins σ H' s2 /\ Turn X.prog X.w X.K tg J fp it tn /\ tn 0 s2.heap /\ (∀ b ∈ fp, FpOk X pins H' b) /\ R J H'
noncomputable def PI (X : Cx) (tg iter : Expr) (wi : TI) : Prop :=
 ∀ (pins : List (Addr × Obj)) (s : Shared) (σ : St) (H : Hp) (R : It -> Hp -> Prop), Inv X pins σ H s -> wi σ H R ->
  wpAny (model X.prog X.w) X.A (eval iter X.env) (fun v s1 => wpAny (model X.prog X.w) X.A (pyIter v) (PIE X pins σ tg R) X.xe s1) X.xe s
theorem go_of {M : Model} {A : Around} {E : Value -> Shared -> Prop} {s : Shared} {tg : Expr} {it : Addr} {u : Value} {o : Obj} {n : String} {vs : Array Value} {Q : Unit -> Shared -> Prop} (ho : s.heap.get? it = some o) (hc : o.cls = .type n) (hd : o.data = .fields vs)
    (hn : ["enumerate", "zip", "dict_itemiterator", "dict_reverseitemiterator", "odict_iterator", "itertools.zip_longest", "itertools.pairwise"].contains n = false) (hQ : Q () s) : wpAny M A (letOwnedTupleGo tg (.ref it) u) Q E s := by
  unfold letOwnedTupleGo
  cases tg <;> first
    | exact wpAny_pure hQ
    | (cases u <;> first
        | exact wpAny_pure hQ
        | (refine wpAny_bind (wpAny_load ho ?_)
           rw [hc, hd]
           show wpAny M A (if (["enumerate", "zip", "dict_itemiterator", "dict_reverseitemiterator", "odict_iterator", "itertools.zip_longest", "itertools.pairwise"].contains n && vs[0]? == some (rawInt _)) = true then _ else _) Q E s
           rw [if_neg (by intro h; rw [hn, Bool.false_and] at h; cases h)]
           exact wpAny_pure hQ))
noncomputable def Itl (K : PySem.W.Frag) (a : Addr) : It :=
 ⟨fun i H => ∃ xs x, SqL K H a xs /\ xs[i]? = some x, fun i H x H' => H' = H /\ ∀ xs, SqL K H a xs -> xs[i]? = some x, fun i H => ∃ xs, SqL K H a xs /\ xs.length <= i⟩
noncomputable def Itt (K : PySem.W.Frag) (a : Addr) : It :=
 ⟨fun i H => ∃ xs x, SqT K H a xs /\ xs[i]? = some x, fun i H x H' => H' = H /\ ∀ xs, SqT K H a xs -> xs[i]? = some x, fun i H => ∃ xs, SqT K H a xs /\ xs.length <= i⟩
noncomputable def Itr (lo : Int) (n : Nat) : It := ⟨fun i _ => i < n, fun i H x H' => H' = H /\ x = .int (lo + i), fun i _ => n <= i⟩
theorem turn_list {P : Program} {w : World} {K : PySem.W.Frag} {tg : Expr} (a it : Addr) : Turn P w K tg (Itl K a) [it] it (fun i h => h.IsListIter it a i) where
 mem := by simp
 obj := fun i h st b hb => by
  have e : b = it := by simpa using hb
  subst e
  obtain ⟨o, e, c, d⟩ := st
  exact ⟨o, e, fun v z => by rw [d] at z; cases z⟩
 keep := fun i h h' st k => st.at fun o e => k it (by simp) o e
 item := by
  intro X hP hw hK hc i pins s σ H E I hf st hg
  subst hP hw hK
  obtain ⟨xs, x, hq, hx⟩ := hg
  obtain ⟨its, rv, p, hz⟩ := I.list hq
  obtain ⟨u, hu, ru⟩ := rv.get hx
  obtain ⟨f0, f1, f2, f3, f4, f5⟩ := hf it (by simp)
  refine wpAny_pyNext_list_item st p.isList (x := u) (by simpa using hu) fun h' st' sb => ?_
  have I1 : Inv X pins σ H { s with heap := h' } := I.turned (t' := s.toks) (fun b o hb e => (sb.2 b hb).trans e) f0 f1 f3 f4 f5
  obtain ⟨o, e, c, d⟩ := id st'
  exact ⟨u, rfl, go_of (s := { s with heap := h' }) e c d (by decide) ⟨x, H, I1, ru, ⟨rfl, fun ys hy => by rw [I.list_inj hy hq]; exact hx⟩, st', fun b hb => (hf b hb).1⟩⟩
 done := by
  intro X hP hw hK hc i pins s σ H E I hf st hg
  subst hP hw hK
  obtain ⟨xs, hq, hx⟩ := hg
  obtain ⟨its, rv, p, hz⟩ := I.list hq
  obtain ⟨f0, f1, f2, f3, f4, f5⟩ := hf it (by simp)
  have hl := rv.length
  exact wpAny_pyNext_list_end (I.ok.hd hc) st p.isList (by simp; (first | lia | omega)) fun h' eb => ⟨rfl, I.turned (t' := s.toks) (fun b o hb e => eb b o hb e) f0 f1 f3 f4 f5⟩
 self := fun _ _ _ _ _ st h => wpAny_pyIter_listiter st h
theorem turn_tuple {P : Program} {w : World} {K : PySem.W.Frag} {tg : Expr} (a it : Addr) : Turn P w K tg (Itt K a) [it] it (fun i h => h.IsTupleIter it a i) where
 mem := by simp
 obj := fun i h st b hb => by
  have e : b = it := by simpa using hb
  subst e
  obtain ⟨o, e, c, d⟩ := st
  exact ⟨o, e, fun v z => by rw [d] at z; cases z⟩
 keep := fun i h h' st k => st.at fun o e => k it (by simp) o e
 item := by
  intro X hP hw hK hc i pins s σ H E I hf st hg
  subst hP hw hK
  obtain ⟨xs, x, hq, hx⟩ := hg
  obtain ⟨its, rv, p, hz⟩ := I.tuple hq
  obtain ⟨u, hu, ru⟩ := rv.get hx
  obtain ⟨f0, f1, f2, f3, f4, f5⟩ := hf it (by simp)
  refine wpAny_pyNext_tuple_item st (show s.heap.IsTuple a its.toArray from p) (x := u) (by simpa using hu) fun h' st' sb => ?_
  have I1 : Inv X pins σ H { s with heap := h' } := I.turned (t' := s.toks) (fun b o hb e => (sb.2 b hb).trans e) f0 f1 f3 f4 f5
  obtain ⟨o, e, c, d⟩ := id st'
  exact ⟨u, rfl, go_of (s := { s with heap := h' }) e c d (by decide) ⟨x, H, I1, ru, ⟨rfl, fun ys hy => by rw [I.tuple_inj hy hq]; exact hx⟩, st', fun b hb => (hf b hb).1⟩⟩
 done := by
  intro X hP hw hK hc i pins s σ H E I hf st hg
  subst hP hw hK
  obtain ⟨xs, hq, hx⟩ := hg
  obtain ⟨its, rv, p, hz⟩ := I.tuple hq
  obtain ⟨f0, f1, f2, f3, f4, f5⟩ := hf it (by simp)
  have hl := rv.length
  exact wpAny_pyNext_tuple_end (I.ok.hd hc) st (show s.heap.IsTuple a its.toArray from p) (by simp; (first | lia | omega)) fun h' eb => ⟨rfl, I.turned (t' := s.toks) (fun b o hb e => eb b o hb e) f0 f1 f3 f4 f5⟩
 self := fun _ _ _ _ _ st h => wpAny_pyIter_tupleiter st h
theorem turn_range {P : Program} {w : World} {K : PySem.W.Frag} {tg : Expr} (it : Addr) (lo : Int) (n : Nat) : Turn P w K tg (Itr lo n) [it] it (fun i h => IsRangeIter h it (lo + (i : Nat) * 1) ((n : Int) - (i : Nat)) 1) where
 mem := by simp
 obj := fun i h st b hb => by
  have e : b = it := by simpa using hb
  subst e
  exact ⟨_, st, fun v z => by
   have z' : Data.fields _ = Data.cell v := z
   cases z'⟩
 keep := fun i h h' st k => k it (by simp) _ st
 item := by
  intro X hP hw hK hc i pins s σ H E I hf st hg
  subst hP hw hK
  obtain ⟨f0, f1, f2, f3, f4, f5⟩ := hf it (by simp)
  have W := Walks.range (prog := X.prog) (w := X.w) (I.ok.hd hc) it lo 1 n
  refine W.item i s _ _ hg st fun v h' tk hv st' kk => ?_
  obtain ⟨t, rfl⟩ := hv
  have I1 : Inv X pins σ H { s with heap := h', toks := tk } := I.turned (fun b o hb e => kk b o (by simpa using hb) e) f0 f1 f3 f4 f5
  refine ⟨_, rfl, go_of (s := { s with heap := h', toks := tk }) (n := "range_iterator") st' rfl rfl (by decide) ⟨.int (lo + i), H, I1, ⟨t, ?_⟩, ⟨rfl, rfl⟩, st', fun b hb => (hf b hb).1⟩⟩
  rw [Int.mul_one]
 done := by
  intro X hP hw hK hc i pins s σ H E I hf st hg
  subst hP hw hK
  obtain ⟨f0, f1, f2, f3, f4, f5⟩ := hf it (by simp)
  exact wpAny_pyNext_range_end (I.ok.hd hc) st (by have : n <= i := hg; (first | lia | omega)) fun h' eb => ⟨rfl, I.turned (t' := s.toks) (fun b o hb e => eb b o hb e) f0 f1 f3 f4 f5⟩
 self := fun _ _ _ _ _ st h => wpAny_pyIter_rangeiter st h
end L2
namespace L2
open PySem PySem.Spec PyProof.Rows
section
variable {X : Cx} {tg : Expr}
noncomputable def iList (K : PySem.W.Frag) (tl : TE) : TI := fun σ H R => tl σ H fun x H1 => ∃ a, x = .ref a /\ (∃ xs, SqL K H1 a xs) /\ R (Itl K a) H1
noncomputable def iTup (K : PySem.W.Frag) (tl : TE) : TI := fun σ H R => tl σ H fun x H1 => ∃ a, x = .ref a /\ (∃ xs, SqT K H1 a xs) /\ R (Itt K a) H1
theorem pi_list {l : Expr} {tl : TE} (hl : PE X l tl) : PI X tg l (iList X.K tl) := by
 intro pins s σ H R I h
 refine thn (hl pins s σ H _ I h) fun v s1 zq => ?_
 obtain ⟨x, H1, I1, r1, q1⟩ := zq
 obtain ⟨a, e, ⟨xs, hq⟩, q⟩ := q1
 subst e
 cases r1
 obtain ⟨its, rv, p, hz⟩ := I1.list hq
 refine wpAny_pyIter_list p.isList ?_
 refine ⟨s1.heap.objs.size, [s1.heap.objs.size], _, _, H1, rfl, I1.kept (t' := s1.toks) fun b o e => Heap.get?_push_of_some _ e, turn_list a _, ⟨_, Heap.get?_push_size _ rfl, rfl, rfl⟩, fun b hb => ?_, q⟩
 have e : b = s1.heap.objs.size := by simpa using hb
 subst e
 exact I1.fpOk (Nat.le_refl _) (I1.hok.fresh (Nat.le_refl _))
theorem pi_tup {l : Expr} {tl : TE} (hl : PE X l tl) : PI X tg l (iTup X.K tl) := by
 intro pins s σ H R I h
 refine thn (hl pins s σ H _ I h) fun v s1 zq => ?_
 obtain ⟨x, H1, I1, r1, q1⟩ := zq
 obtain ⟨a, e, ⟨xs, hq⟩, q⟩ := q1
 subst e
 cases r1
 obtain ⟨its, rv, p, hz⟩ := I1.tuple hq
 refine wpAny_pyIter_tuple (show s1.heap.IsTuple a its.toArray from p) ?_
 refine ⟨s1.heap.objs.size, [s1.heap.objs.size], _, _, H1, rfl, I1.kept (t' := s1.toks) fun b o e => Heap.get?_push_of_some _ e, turn_tuple a _, ⟨_, Heap.get?_push_size _ rfl, rfl, rfl⟩, fun b hb => ?_, q⟩
 have e : b = s1.heap.objs.size := by simpa using hb
 subst e
 exact I1.fpOk (Nat.le_refl _) (I1.hok.fresh (Nat.le_refl _))
theorem range_it {pins : List (Addr × Obj)} {σ : St} {H : Hp} {s : Shared} {R : It -> Hp -> Prop} {E : Value -> Shared -> Prop} {lo hi : Int} {t u v : Tok} {tk : Nat} (I : Inv X pins σ H s) (h1 : -(2 ^ 62) <= lo) (h2 : lo < 2 ^ 62) (h3 : -(2 ^ 62) <= hi) (h4 : hi < 2 ^ 62)
  (q : R (Itr lo (hi - lo).toNat) H) : wpAny (model X.prog X.w) X.A (pyIter (.ref s.heap.objs.size)) (PIE X pins σ tg R) E { s with heap := s.heap.push { cls := .type "range", data := .fields #[.int lo t, .int hi u, .int 1 v] }, toks := tk } := by
 refine wpAny_pyIter_range (IsRange.new ..) (small_one h1 h2 h3 h4) ?_
 have I1 : Inv X pins σ H { s with heap := s.heap.push { cls := .type "range", data := .fields #[.int lo t, .int hi u, .int 1 v] }, toks := tk } := I.kept fun b o e => Heap.get?_push_of_some _ e
 refine ⟨(s.heap.push { cls := .type "range", data := .fields #[.int lo t, .int hi u, .int 1 v] }).objs.size, [(s.heap.push { cls := .type "range", data := .fields #[.int lo t, .int hi u, .int 1 v] }).objs.size], _, _, H, rfl,
  I1.kept (t' := tk) fun b o e => Heap.get?_push_of_some _ e, turn_range _ lo (hi - lo).toNat, ?_, fun b hb => ?_, q⟩
 ·have e1 : lo + ((0 : Nat) : Int) * 1 = lo := by simp
  have e2 : (((hi - lo).toNat : Nat) : Int) - ((0 : Nat) : Int) = Builtin.Range.rangeSize lo hi 1 := by rw [rangeSize_one]; split <;> (first | lia | omega)
  show IsRangeIter _ _ (lo + ((0 : Nat) : Int) * 1) ((((hi - lo).toNat : Nat) : Int) - ((0 : Nat) : Int)) 1
  rw [e1, e2]
  exact Heap.get?_push_size _ rfl
 ·have e : b = (s.heap.push { cls := .type "range", data := .fields #[.int lo t, .int hi u, .int 1 v] }).objs.size := by simpa using hb
  subst e
  exact I1.fpOk (Nat.le_refl _) (I1.hok.fresh (Nat.le_refl _))
noncomputable def iRng1 (ta : TA) : TI := fun σ H R => ta σ H fun vs H1 => ∃ j : Int, vs = [.int j] /\ -(2 ^ 62) <= j /\ j < 2 ^ 62 /\ R (Itr 0 j.toNat) H1
noncomputable def iRng2 (ta : TA) : TI := fun σ H R => ta σ H fun vs H1 => ∃ i j : Int, vs = [.int i, .int j] /\ (-(2 ^ 62) <= i /\ i < 2 ^ 62 /\ -(2 ^ 62) <= j /\ j < 2 ^ 62) /\ R (Itr i (j - i).toNat) H1
theorem pi_range1 {a : Expr} {ta : TA} {p pos : Pos} (hg : Gl X "range") (hm : X.mg "range" = none) (ha : PA X [a] ta) (hs : starEach [a] X.env = [(false, eval a X.env)] := by rfl) : PI X tg (.Call (.Name "range" p) [a] [] pos) (iRng1 ta) := by
 intro pins s σ H R I h
 refine Call_ (ld_blt I hg hm boot_range (PyProof.Rows.callWith_type1 (thn (ha pos pins s σ H _ I h) fun us s1 zq => ?_) hs rfl))
 obtain ⟨vs, H1, I1, r1, q1⟩ := zq
 obtain ⟨j, e, q1, q2, q⟩ := q1
 subst e
 cases r1 with
 | cons r rr =>
  cases rr
  obtain ⟨t, rfl⟩ := r
  exact call_range_1 (range_it I1 (by (first | lia | omega)) (by (first | lia | omega)) q1 q2 (by simpa using q))
theorem pi_range2 {a b : Expr} {ta : TA} {p pos : Pos} (hg : Gl X "range") (hm : X.mg "range" = none) (ha : PA X [a, b] ta) (hs : starEach [a, b] X.env = [(false, eval a X.env), (false, eval b X.env)] := by rfl) (hs2 : starEach [b] X.env = [(false, eval b X.env)] := by rfl) :
  PI X tg (.Call (.Name "range" p) [a, b] [] pos) (iRng2 ta) := by
 intro pins s σ H R I h
 refine Call_ (ld_blt I hg hm boot_range (PyProof.Rows.callWith_type1 (thn (ha pos pins s σ H _ I h) fun us s1 zq => ?_) (by rw [hs, hs2]) (by rw [hs2]; rfl)))
 obtain ⟨vs, H1, I1, r1, q1⟩ := zq
 obtain ⟨i, j, e, ⟨q1, q2, q3, q4⟩, q⟩ := q1
 subst e
 cases r1 with
 | cons r rr =>
  cases rr with
  | cons r' rr =>
   cases rr
   obtain ⟨t, rfl⟩ := r
   obtain ⟨t', rfl⟩ := r'
   exact call_range_2 (range_it I1 q1 q2 q3 q4 q)
noncomputable def tFor (wi : TI) (g : TG) (tb : TS) : TS := fun D σ H => wi σ H fun J H1 => ∃ W : Nat -> Nat -> St -> Hp -> Prop, (∃ m, W 0 m σ H1) /\ ∀ i m σ H, W i m σ H ->
 (J.stop i H /\ D.nx σ H) ∨ (J.go i H /\ ∃ N : St -> Hp -> Prop, (∀ σ' H', N σ' H' -> ∃ m', m' < m /\ W (i + 1) m' σ' H') /\ ∀ x H', J.yld i H x H' -> g x σ H' fun σ2 H2 => tb { D with nx := N, ct := N, bk := D.nx } σ2 H2)
noncomputable def pinsAt (fp : List Addr) (h : Heap) : List (Addr × Obj) := fp.filterMap fun b => (h.get? b).map fun o => (b, o)
theorem mem_pinsAt {fp : List Addr} {h : Heap} {b : Addr} {o : Obj} (hb : b ∈ fp) (e : h.get? b = some o) : (b, o) ∈ pinsAt fp h := List.mem_filterMap.mpr ⟨b, hb, by rw [e]; rfl⟩
theorem of_pinsAt {fp : List Addr} {h : Heap} {p : Addr × Obj} (hp : p ∈ pinsAt fp h) : p.1 ∈ fp /\ h.get? p.1 = some p.2 := by
 obtain ⟨b, hb, e⟩ := List.mem_filterMap.mp hp
 cases q : h.get? b with
 | none => rw [q] at e; cases e
 | some o =>
  rw [q] at e
  have e' : (b, o) = p := Option.some.inj e
  subst e'
  exact ⟨hb, q⟩
theorem Inv.pinned {pins : List (Addr × Obj)} {σ : St} {H : Hp} {s : Shared} {fp : List Addr} (I : Inv X pins σ H s) (hf : ∀ b ∈ fp, FpOk X pins H b) (ho : ∀ b ∈ fp, ∃ o, s.heap.get? b = some o /\ ∀ v, o.data ≠ .cell v) : Inv X (pins ++ pinsAt fp s.heap) σ H s :=
 I.pins_of fun p hp => (List.mem_append.mp hp).elim (fun z => I.pin p (List.mem_append_right _ z)) fun z => by
  obtain ⟨hb, e⟩ := of_pinsAt z
  obtain ⟨f0, f1, f2, _⟩ := hf p.1 hb
  obtain ⟨o, e', d⟩ := ho p.1 hb
  rw [e] at e'; cases e'
  exact ⟨e, f0, f1, f2, d⟩
theorem Inv.unpinned {pins pl : List (Addr × Obj)} {σ : St} {H : Hp} {s : Shared} (I : Inv X (pins ++ pl) σ H s) : Inv X pins σ H s := I.pins_of fun p hp => I.pin p (List.mem_append_right _ (List.mem_append_left _ hp))
theorem ps_for {iter : Expr} {body : List Stmt} {wi : TI} {g : TG} {tb : TS} {pos : Pos} (hp : PassesOwn (model X.prog X.w) X.A X.env X.xe) (hc : X.calm = true) (hi : PI X tg iter wi) (hg : PG X tg g) (hb : PSs X body tb)
  (hs : ∀ x, foldedSetIterable iter X.env x = pure x := by intro _; rfl) : PS X (.For tg iter body [] pos) (tFor wi g tb) := by
 intro pins s σ H D I h
 refine wpAny_For (thn (hi pins s σ H _ I h) fun v s1 h1 => thn h1 fun itv s2 h2 => ?_) hs
 obtain ⟨it, fp, tn, J, H2, e, I2, T, st2, f2, W, ⟨m0, w0⟩, turn⟩ := h2
 subst e
 have stat : ∀ {H' : Hp}, (∀ b ∈ fp, H' b = none) -> ∀ b ∈ fp, FpOk X pins H' b := fun hn b hb => ⟨hn b hb, (f2 b hb).2⟩
 refine codeAny_forLoop_any (fun n s' => ∃ i σ' H', Inv X pins σ' H' s' /\ tn i s'.heap /\ (∀ b ∈ fp, H' b = none) /\ W i n σ' H') ?_ m0 ⟨0, σ, H2, I2, st2, fun b hb => (f2 b hb).1, w0⟩
 rintro n s3 ⟨i, σ3, H3, I3, st3, fr3, w3⟩
 rcases turn i n σ3 H3 w3 with ⟨stop, qn⟩ | ⟨go, N, hN, step⟩
 ·refine wpAny_passesOwn hp (thn (T.done X rfl rfl rfl hc i pins s3 σ3 H3 X.xe I3 (stat fr3) st3 stop) fun r s4 zq => ?_)
  obtain ⟨hr, I4⟩ := zq
  subst hr
  exact wpAny_execs_nil ⟨σ3, H3, I4, qn⟩
 ·refine wpAny_passesOwn hp (thn (T.item X rfl rfl rfl hc i pins s3 σ3 H3 X.xe I3 (stat fr3) st3 go) fun r s4 zq => ?_)
  obtain ⟨u, hr, h4⟩ := zq
  subst hr
  refine wpAny_passesOwn hp (thn h4 fun _ s5 zq => ?_)
  obtain ⟨x, H5, I5, r5, y5, st5, fr5⟩ := zq
  have I5' := I5.pinned (stat fr5) (T.obj _ _ st5)
  refine wpAny_passesOwn hp (thn (hg _ s5 σ3 H5 x u _ I5' r5 (step x H5 y5)) fun _ s6 zq => ?_)
  obtain ⟨σ6, H6, I6, q6⟩ := zq
  refine wpAny_passesOwn hp (thn (hb _ s6 σ6 H6 _ I6 q6) fun f s7 q7 => ?_)
  have again : ∀ {σ7 : St} {H7 : Hp}, Inv X (pins ++ pinsAt fp s5.heap) σ7 H7 s7 -> N σ7 H7 -> ∃ m, m < n /\ ∃ i σ' H', Inv X pins σ' H' s7 /\ tn i s7.heap /\ (∀ b ∈ fp, H' b = none) /\ W i m σ' H' := fun {σ7 H7} I7 n7 => by
   obtain ⟨m', hm, w7⟩ := hN σ7 H7 n7
   refine ⟨m', hm, i + 1, σ7, H7, I7.unpinned, T.keep _ _ _ st5 fun b hb o e => (I7.pin (b, o) (List.mem_append_right _ (List.mem_append_right _ (mem_pinsAt hb e)))).1, fun b hb => ?_, w7⟩
   obtain ⟨o, e, d⟩ := T.obj _ _ st5 b hb
   exact (I7.pin (b, o) (List.mem_append_right _ (List.mem_append_right _ (mem_pinsAt hb e)))).2.1
  cases f with
  | next => obtain ⟨σ7, H7, I7, n7⟩ := q7; exact again I7 n7
  | cont => obtain ⟨σ7, H7, I7, n7⟩ := q7; exact again I7 n7
  | brk => obtain ⟨σ7, H7, I7, q7⟩ := q7; exact ⟨σ7, H7, I7.unpinned, q7⟩
  | ret v => obtain ⟨x7, σ7, H7, I7, r7, q7⟩ := q7; exact ⟨x7, σ7, H7, I7.unpinned, r7, q7⟩
end
theorem for_list {K : PySem.W.Frag} {a : Addr} {xs : List V} {g : TG} {tb : TS} {D : Ends} {σ : St} {H : Hp} (Pv : Nat -> St -> Hp -> Prop) (h0 : Pv 0 σ H) (hl : ∀ i σ H, i <= xs.length -> Pv i σ H -> SqL K H a xs)
  (hs : ∀ i x σ H, xs[i]? = some x -> Pv i σ H -> g x σ H fun σ2 H2 => tb { D with nx := Pv (i + 1), ct := Pv (i + 1), bk := D.nx } σ2 H2) (hd : ∀ σ H, Pv xs.length σ H -> D.nx σ H) :
  ∃ W : Nat -> Nat -> St -> Hp -> Prop, (∃ m, W 0 m σ H) /\ ∀ i m σ H, W i m σ H ->
   ((Itl K a).stop i H /\ D.nx σ H) ∨ ((Itl K a).go i H /\ ∃ N : St -> Hp -> Prop, (∀ σ' H', N σ' H' -> ∃ m', m' < m /\ W (i + 1) m' σ' H') /\ ∀ x H', (Itl K a).yld i H x H' -> g x σ H' fun σ2 H2 => tb { D with nx := N, ct := N, bk := D.nx } σ2 H2) := by
 refine ⟨fun i m σ H => m = xs.length - i /\ i <= xs.length /\ Pv i σ H, ⟨xs.length, by simp, Nat.zero_le _, h0⟩, ?_⟩
 rintro i m σ H ⟨rfl, hi, p⟩
 have q := hl i σ H hi p
 by_cases hlt : i < xs.length
 ·refine .inr ⟨⟨xs, xs[i], q, by simp [hlt]⟩, Pv (i + 1), fun σ' H' p' => ⟨xs.length - (i + 1), by (first | lia | omega), rfl, hlt, p'⟩, fun x H' y => ?_⟩
  obtain ⟨e, y⟩ := y
  subst e
  exact hs i x σ _ (y xs q) p
 ·have e : i = xs.length := by (first | lia | omega)
  subst e
  exact .inl ⟨⟨xs, q, Nat.le_refl _⟩, hd σ H p⟩
theorem for_tup {K : PySem.W.Frag} {a : Addr} {xs : List V} {g : TG} {tb : TS} {D : Ends} {σ : St} {H : Hp} (Pv : Nat -> St -> Hp -> Prop) (h0 : Pv 0 σ H) (hl : ∀ i σ H, i <= xs.length -> Pv i σ H -> SqT K H a xs)
  (hs : ∀ i x σ H, xs[i]? = some x -> Pv i σ H -> g x σ H fun σ2 H2 => tb { D with nx := Pv (i + 1), ct := Pv (i + 1), bk := D.nx } σ2 H2) (hd : ∀ σ H, Pv xs.length σ H -> D.nx σ H) :
  ∃ W : Nat -> Nat -> St -> Hp -> Prop, (∃ m, W 0 m σ H) /\ ∀ i m σ H, W i m σ H ->
   ((Itt K a).stop i H /\ D.nx σ H) ∨ ((Itt K a).go i H /\ ∃ N : St -> Hp -> Prop, (∀ σ' H', N σ' H' -> ∃ m', m' < m /\ W (i + 1) m' σ' H') /\ ∀ x H', (Itt K a).yld i H x H' -> g x σ H' fun σ2 H2 => tb { D with nx := N, ct := N, bk := D.nx } σ2 H2) := by
 refine ⟨fun i m σ H => m = xs.length - i /\ i <= xs.length /\ Pv i σ H, ⟨xs.length, by simp, Nat.zero_le _, h0⟩, ?_⟩
 rintro i m σ H ⟨rfl, hi, p⟩
 have q := hl i σ H hi p
 by_cases hlt : i < xs.length
 ·refine .inr ⟨⟨xs, xs[i], q, by simp [hlt]⟩, Pv (i + 1), fun σ' H' p' => ⟨xs.length - (i + 1), by (first | lia | omega), rfl, hlt, p'⟩, fun x H' y => ?_⟩
  obtain ⟨e, y⟩ := y
  subst e
  exact hs i x σ _ (y xs q) p
 ·have e : i = xs.length := by (first | lia | omega)
  subst e
  exact .inl ⟨⟨xs, q, Nat.le_refl _⟩, hd σ H p⟩
theorem for_range {lo : Int} {n : Nat} {g : TG} {tb : TS} {D : Ends} {σ : St} {H : Hp} (Pv : Nat -> St -> Hp -> Prop) (h0 : Pv 0 σ H)
  (hs : ∀ i σ H, i < n -> Pv i σ H -> g (.int (lo + i)) σ H fun σ2 H2 => tb { D with nx := Pv (i + 1), ct := Pv (i + 1), bk := D.nx } σ2 H2) (hd : ∀ σ H, Pv n σ H -> D.nx σ H) :
  ∃ W : Nat -> Nat -> St -> Hp -> Prop, (∃ m, W 0 m σ H) /\ ∀ i m σ H, W i m σ H ->
   ((Itr lo n).stop i H /\ D.nx σ H) ∨ ((Itr lo n).go i H /\ ∃ N : St -> Hp -> Prop, (∀ σ' H', N σ' H' -> ∃ m', m' < m /\ W (i + 1) m' σ' H') /\ ∀ x H', (Itr lo n).yld i H x H' -> g x σ H' fun σ2 H2 => tb { D with nx := N, ct := N, bk := D.nx } σ2 H2) := by
 refine ⟨fun i m σ H => m = n - i /\ i <= n /\ Pv i σ H, ⟨n, by simp, Nat.zero_le _, h0⟩, ?_⟩
 rintro i m σ H ⟨rfl, hi, p⟩
 by_cases hlt : i < n
 ·refine .inr ⟨hlt, Pv (i + 1), fun σ' H' p' => ⟨n - (i + 1), by (first | lia | omega), rfl, hlt, p'⟩, fun x H' y => ?_⟩
  obtain ⟨e, y⟩ := y
  subst e y
  exact hs i σ _ hlt p
 ·have e : i = n := by (first | lia | omega)
  subst e
  exact .inl ⟨Nat.le_refl _, hd σ H p⟩
end L2
namespace L2
open PySem PySem.Spec PyProof.Rows
noncomputable abbrev R2 := V -> V -> Hp -> VK -> Prop
noncomputable def OpR (X : Cx) (f : Value -> Value -> Sem Value) (r : R2) : Prop :=
 ∀ (pins : List (Addr × Obj)) (s : Shared) (σ : St) (H : Hp) (x y : V) (v u : Value) (Q : VK), Inv X pins σ H s -> RelV x v -> RelV y u -> r x y H Q ->
  wpAny (model X.prog X.w) X.A (f v u) (EP X pins σ Q) X.xe s
noncomputable def UnR (X : Cx) (f : Value -> Sem Value) (r : V -> Hp -> VK -> Prop) : Prop :=
 ∀ (pins : List (Addr × Obj)) (s : Shared) (σ : St) (H : Hp) (x : V) (v : Value) (Q : VK), Inv X pins σ H s -> RelV x v -> r x H Q ->
  wpAny (model X.prog X.w) X.A (f v) (EP X pins σ Q) X.xe s
noncomputable def CallR (X : Cx) (f : Value) (r : List V -> Hp -> VK -> Prop) : Prop :=
 ∀ (pins : List (Addr × Obj)) (s : Shared) (σ : St) (H : Hp) (xs : List V) (us : List Value) (Q : VK), Inv X pins σ H s -> Vals xs us -> r xs H Q ->
  wpAny (model X.prog X.w) X.A (call f us) (EP X pins σ Q) X.xe s
noncomputable def TruR (X : Cx) (r : V -> Hp -> (Bool -> Hp -> Prop) -> Prop) : Prop :=
 ∀ (pins : List (Addr × Obj)) (s : Shared) (σ : St) (H : Hp) (x : V) (v : Value) (Q : Bool -> Hp -> Prop), Inv X pins σ H s -> RelV x v -> r x H Q ->
  wpAny (model X.prog X.w) X.A (truthy v) (TP X pins σ Q) X.xe s
noncomputable def tOp (r : R2) (ta tb : TE) : TE := fun σ H Q => ta σ H fun x H1 => tb σ H1 fun y H2 => r x y H2 Q
noncomputable def tUn (r : V -> Hp -> VK -> Prop) (ta : TE) : TE := fun σ H Q => ta σ H fun x H1 => r x H1 Q
noncomputable def rI (C : Int -> Int -> Prop) (g : Int -> Int -> V) : R2 := fun x y H Q => ∃ i j, x = .int i /\ y = .int j /\ C i j /\ Q (g i j) H
noncomputable def rI0 (g : Int -> Int -> V) : R2 := fun x y H Q => ∃ i j, x = .int i /\ y = .int j /\ Q (g i j) H
noncomputable def rU (g : Int -> V) : V -> Hp -> VK -> Prop := fun x H Q => ∃ i, x = .int i /\ Q (g i) H
section
variable {X : Cx} {a b c : Expr} {ta tb tc : TE} {pos : Pos}
theorem binT (ha : PE X a ta) (hb : PE X b tb) {pins : List (Addr × Obj)} {s : Shared} {σ : St} {H : Hp} {R : V -> V -> Hp -> Prop} (I : Inv X pins σ H s)
  (h : ta σ H fun x H1 => tb σ H1 fun y H2 => R x y H2) {Q : Value -> Shared -> Prop} {f : Value -> Value -> Sem Value}
  (hf : ∀ v u s2 x y H2, Inv X pins σ H2 s2 -> RelV x v -> RelV y u -> R x y H2 -> wpAny (model X.prog X.w) X.A (f v u) Q X.xe s2) :
  wpAny (model X.prog X.w) X.A (eval a X.env) (fun v s₁ => wpAny (model X.prog X.w) X.A (eval b X.env) (fun u s₂ => wpAny (model X.prog X.w) X.A (f v u) Q X.xe s₂) X.xe s₁) X.xe s := by
 refine thn (ha pins s σ H _ I h) fun v s1 zq => ?_
 obtain ⟨x, H1, I1, r1, q1⟩ := zq
 refine thn (hb pins s1 σ H1 _ I1 q1) fun u s2 zq => ?_
 obtain ⟨y, H2, I2, r2, q2⟩ := zq
 exact hf v u s2 x y H2 I2 r1 r2 q2
theorem pe_op {op : Operator} {r : R2} (ho : OpR X (binaryOp op) r) (ha : PE X a ta) (hb : PE X b tb) : PE X (.BinOp a op b pos) (tOp r ta tb) := by
 intro pins s σ H Q I h
 exact wpAny_BinOp (binT ha hb I h fun v u s2 x y H2 I2 rx ry q => ho pins s2 σ H2 x y v u Q I2 rx ry q)
theorem pe_un {op : UnaryOp} {r : V -> Hp -> VK -> Prop} (ho : UnR X (unaryOp op) r) (ha : PE X a ta) : PE X (.UnaryOp op a pos) (tUn r ta) := by
 intro pins s σ H Q I h
 exact UnaryOp_ (thn (ha pins s σ H _ I h) fun v s1 ⟨x, H1, I1, r1, q1⟩ => ho pins s1 σ H1 x v Q I1 r1 q1)
theorem opI {f : Value -> Value -> Sem Value} {C : Int -> Int -> Prop} {g : Int -> Int -> Int}
  (rule : ∀ (i j : Int) (t u : Tok) (s : Shared) (Q : Value -> Shared -> Prop) (E : Value -> Shared -> Prop), C i j -> Q (.int (g i j) s.toks) { s with toks := s.toks + 1 } -> wpAny (model X.prog X.w) X.A (f (.int i t) (.int j u)) Q E s) :
  OpR X f (rI C fun i j => .int (g i j)) := by
 intro pins s σ H x y v u Q I rx ry h
 obtain ⟨i, j, rfl, rfl, hc, q⟩ := h
 obtain ⟨t, rfl⟩ := rx
 obtain ⟨t', rfl⟩ := ry
 exact rule i j t t' s _ _ hc ⟨.int (g i j), H, I.tok _, ⟨_, rfl⟩, q⟩
theorem opI0 {f : Value -> Value -> Sem Value} {g : Int -> Int -> Int}
  (rule : ∀ (i j : Int) (t u : Tok) (s : Shared) (Q : Value -> Shared -> Prop) (E : Value -> Shared -> Prop), Q (.int (g i j) s.toks) { s with toks := s.toks + 1 } -> wpAny (model X.prog X.w) X.A (f (.int i t) (.int j u)) Q E s) :
  OpR X f (rI0 fun i j => .int (g i j)) := by
 intro pins s σ H x y v u Q I rx ry h
 obtain ⟨i, j, rfl, rfl, q⟩ := h
 obtain ⟨t, rfl⟩ := rx
 obtain ⟨t', rfl⟩ := ry
 exact rule i j t t' s _ _ ⟨.int (g i j), H, I.tok _, ⟨_, rfl⟩, q⟩
theorem opB0 {f : Value -> Value -> Sem Value} {g : Int -> Int -> Bool}
  (rule : ∀ (i j : Int) (t u : Tok) (s : Shared) (Q : Value -> Shared -> Prop) (E : Value -> Shared -> Prop), Q (.bool (g i j)) s -> wpAny (model X.prog X.w) X.A (f (.int i t) (.int j u)) Q E s) :
  OpR X f (rI0 fun i j => .bl (g i j)) := by
 intro pins s σ H x y v u Q I rx ry h
 obtain ⟨i, j, rfl, rfl, q⟩ := h
 obtain ⟨t, rfl⟩ := rx
 obtain ⟨t', rfl⟩ := ry
 exact rule i j t t' s _ _ ⟨.bl (g i j), H, I, rfl, q⟩
noncomputable def CDiv (i j : Int) : Prop := 0 < j /\ j < 1073741824
noncomputable def CPow (i j : Int) : Prop := 0 <= j /\ j <= 1000000 /\ i.natAbs < 2 ^ 64
noncomputable def CMul (i j : Int) : Prop := (-(2 ^ 64) < i /\ i < 2 ^ 64) ∨ (-(2 ^ 64) < j /\ j < 2 ^ 64)
theorem CMul.ok {i j : Int} (h : CMul i j) : IntMulOk i j := by
 rcases h with ⟨h1, h2⟩ | ⟨h1, h2⟩
 ·exact .of_left (intBits_le_64 h1 h2)
 ·exact .of_right (intBits_le_64 h1 h2)
theorem op_add : OpR X (binaryOp .Add) (rI0 fun i j => .int (i + j)) := opI0 fun _ _ _ _ _ _ _ q => add_int q
theorem op_sub : OpR X (binaryOp .Sub) (rI0 fun i j => .int (i - j)) := opI0 fun _ _ _ _ _ _ _ q => sub_int q
theorem op_mul : OpR X (binaryOp .Mult) (rI CMul fun i j => .int (i * j)) := opI fun _ _ _ _ _ _ _ hc q => mul_int q hc.ok
theorem op_fdiv : OpR X (binaryOp .FloorDiv) (rI CDiv fun i j => .int (i / j)) := opI fun i j _ _ _ _ _ hc q => by
 have h1 : (0 : Int) < j := hc.1
 have h2 : j < 1073741824 := hc.2
 exact floordiv_int (by (first | lia | omega)) (by rw [Int.fdiv_eq_ediv_of_nonneg i (by (first | lia | omega))]; exact q) (.inl (PyProof.noPylong_small (by (first | lia | omega))))
theorem op_mod : OpR X (binaryOp .Mod) (rI (fun _ j => 0 < j) fun i j => .int (i % j)) := opI fun i j _ _ _ _ _ hc q => by
 have h1 : (0 : Int) < j := hc
 exact mod_int' (by (first | lia | omega)) (by rw [Int.fmod_eq_emod_of_nonneg i (by (first | lia | omega))]; exact q)
theorem op_pow : OpR X (binaryOp .Pow) (rI CPow fun i j => .int (i ^ j.toNat)) := opI fun _ _ _ _ _ _ _ hc q => pow_int_small hc.1 hc.2.1 hc.2.2 q
theorem unI {f : Value -> Sem Value} {g : Int -> Int}
  (rule : ∀ (i : Int) (t : Tok) (s : Shared) (Q : Value -> Shared -> Prop) (E : Value -> Shared -> Prop), Q (.int (g i) s.toks) { s with toks := s.toks + 1 } -> wpAny (model X.prog X.w) X.A (f (.int i t)) Q E s) :
  UnR X f (rU fun i => .int (g i)) := by
 intro pins s σ H x v Q I rx h
 obtain ⟨i, rfl, q⟩ := h
 obtain ⟨t, rfl⟩ := rx
 exact rule i t s _ _ ⟨.int (g i), H, I.tok _, ⟨_, rfl⟩, q⟩
theorem un_neg : UnR X (unaryOp .USub) (rU fun i => .int (-i)) := unI fun _ _ _ _ _ q => neg_int q
end
noncomputable def scal : V -> V -> Bool
 | .non, .non => true | .non, .int _ => true | .int _, .non => true | .non, .bl _ => true | .bl _, .non => true | .non, .str _ => true | .str _, .non => true
 | .int _, .int _ => true | .bl _, .bl _ => true | .str _, .str _ => true | .byt _, .byt _ => true
 | .int _, .str _ => true | .str _, .int _ => true | .bl _, .str _ => true | .str _, .bl _ => true
 | _, _ => false
noncomputable def rEq : R2 := fun x y H Q => scal x y = true /\ Q (.bl (decide (x = y))) H
noncomputable def rNe : R2 := fun x y H Q => scal x y = true /\ Q (.bl (!decide (x = y))) H
theorem dec_int {i j : Int} : decide (V.int i = V.int j) = (i == j) := by
 rw [Bool.eq_iff_iff]
 simp
theorem dec_bl {i j : Bool} : decide (V.bl i = V.bl j) = (i == j) := by
 rw [Bool.eq_iff_iff]
 simp
theorem dec_str {i j : Str} : decide (V.str i = V.str j) = (i == j) := by
 rw [Bool.eq_iff_iff]
 simp
theorem dec_byt {i j : Array UInt8} : decide (V.byt i = V.byt j) = (i.toList == j.toList) := by
 rw [Bool.eq_iff_iff]
 cases i
 cases j
 simp
section
variable {X : Cx} {a b c : Expr} {ta tb tc : TE} {pos : Pos}
theorem fin_bl {pins : List (Addr × Obj)} {σ : St} {H : Hp} {s : Shared} {Q : VK} {k k' : Bool} (I : Inv X pins σ H s) (q : Q (.bl k) H) (e : k = k') : EP X pins σ Q (.bool k') s := by
 subst e
 exact ⟨.bl k, H, I, rfl, q⟩
theorem op_eq : OpR X (compareOp .Eq) rEq := by
 intro pins s σ H x y v u Q I rx ry h
 obtain ⟨hs, q⟩ := h
 cases x with
 | non =>
  cases rx
  cases y with
  | non => cases ry; exact PySem.EqNone.eq_none_none (fin_bl I q (by simp))
  | bl j => cases ry; exact PySem.EqNone.eq_none_bool (fin_bl I q (by simp))
  | int j => obtain ⟨t', rfl⟩ := ry; exact PySem.EqNone.eq_none_int (fin_bl I q (by simp))
  | str j => obtain ⟨t', rfl⟩ := ry; exact PySem.EqNone.eq_none_str (fin_bl I q (by simp))
  | _ => exact absurd (show false = true from hs) Bool.false_ne_true
 | bl i =>
  cases rx
  cases y with
  | non => cases ry; exact PySem.EqNone.eq_bool_none (fin_bl I q (by simp))
  | bl j => cases ry; exact eq_bool (fin_bl I q dec_bl)
  | str j => obtain ⟨t', rfl⟩ := ry; exact PySem.EqMixed.eq_bool_str (fin_bl I q (by simp))
  | _ => exact absurd (show false = true from hs) Bool.false_ne_true
 | int i =>
  obtain ⟨t, rfl⟩ := rx
  cases y with
  | non => cases ry; exact PySem.EqNone.eq_int_none (fin_bl I q (by simp))
  | int j => obtain ⟨t', rfl⟩ := ry; exact eq_int (fin_bl I q dec_int)
  | str j => obtain ⟨t', rfl⟩ := ry; exact PySem.EqMixed.eq_int_str (fin_bl I q (by simp))
  | _ => exact absurd (show false = true from hs) Bool.false_ne_true
 | str i =>
  obtain ⟨t, rfl⟩ := rx
  cases y with
  | non => cases ry; exact PySem.EqNone.eq_str_none (fin_bl I q (by simp))
  | bl j => cases ry; exact PySem.EqMixed.eq_str_bool (fin_bl I q (by simp))
  | int j => obtain ⟨t', rfl⟩ := ry; exact PySem.EqMixed.eq_str_int (fin_bl I q (by simp))
  | str j => obtain ⟨t', rfl⟩ := ry; exact eq_str (fin_bl I q dec_str)
  | _ => exact absurd (show false = true from hs) Bool.false_ne_true
 | byt i =>
  obtain ⟨t, rfl⟩ := rx
  cases y with
  | byt j => obtain ⟨t', rfl⟩ := ry; exact PySem.W.eq_bytes (fin_bl I q dec_byt)
  | _ => exact absurd (show false = true from hs) Bool.false_ne_true
 | _ => cases y <;> exact absurd (show false = true from hs) Bool.false_ne_true
theorem op_ne : OpR X (compareOp .NotEq) rNe := by
 intro pins s σ H x y v u Q I rx ry h
 obtain ⟨hs, q⟩ := h
 cases x with
 | non =>
  cases rx
  cases y with
  | non => cases ry; exact PySem.EqNone.ne_none_none (fin_bl I q (by simp))
  | bl j => cases ry; exact PySem.EqNone.ne_none_bool (fin_bl I q (by simp))
  | int j => obtain ⟨t', rfl⟩ := ry; exact PySem.EqNone.ne_none_int (fin_bl I q (by simp))
  | str j => obtain ⟨t', rfl⟩ := ry; exact PySem.EqNone.ne_none_str (fin_bl I q (by simp))
  | _ => exact absurd (show false = true from hs) Bool.false_ne_true
 | bl i =>
  cases rx
  cases y with
  | non => cases ry; exact PySem.EqNone.ne_bool_none (fin_bl I q (by simp))
  | bl j => cases ry; exact ne_bool (fin_bl I q (congrArg not dec_bl))
  | str j => obtain ⟨t', rfl⟩ := ry; exact PySem.EqMixed.ne_bool_str (fin_bl I q (by simp))
  | _ => exact absurd (show false = true from hs) Bool.false_ne_true
 | int i =>
  obtain ⟨t, rfl⟩ := rx
  cases y with
  | non => cases ry; exact PySem.EqNone.ne_int_none (fin_bl I q (by simp))
  | int j => obtain ⟨t', rfl⟩ := ry; exact ne_int (fin_bl I q (congrArg not dec_int))
  | str j => obtain ⟨t', rfl⟩ := ry; exact PySem.EqMixed.ne_int_str (fin_bl I q (by simp))
  | _ => exact absurd (show false = true from hs) Bool.false_ne_true
 | str i =>
  obtain ⟨t, rfl⟩ := rx
  cases y with
  | non => cases ry; exact PySem.EqNone.ne_str_none (fin_bl I q (by simp))
  | bl j => cases ry; exact PySem.EqMixed.ne_str_bool (fin_bl I q (by simp))
  | int j => obtain ⟨t', rfl⟩ := ry; exact PySem.EqMixed.ne_str_int (fin_bl I q (by simp))
  | str j => obtain ⟨t', rfl⟩ := ry; exact ne_str (fin_bl I q (congrArg not dec_str))
  | _ => exact absurd (show false = true from hs) Bool.false_ne_true
 | byt i =>
  obtain ⟨t, rfl⟩ := rx
  cases y with
  | byt j => obtain ⟨t', rfl⟩ := ry; exact PySem.W.ne_bytes (fin_bl I q (congrArg not dec_byt))
  | _ => exact absurd (show false = true from hs) Bool.false_ne_true
 | _ => cases y <;> exact absurd (show false = true from hs) Bool.false_ne_true
theorem op_lt : OpR X (compareOp .Lt) (rI0 fun i j => .bl (decide (i < j))) := opB0 fun _ _ _ _ _ _ _ q => lt_int q
theorem op_le : OpR X (compareOp .LtE) (rI0 fun i j => .bl (decide (i <= j))) := opB0 fun _ _ _ _ _ _ _ q => le_int q
theorem op_gt : OpR X (compareOp .Gt) (rI0 fun i j => .bl (decide (j < i))) := opB0 fun _ _ _ _ _ _ _ q => gt_int q
theorem op_ge : OpR X (compareOp .GtE) (rI0 fun i j => .bl (decide (j <= i))) := opB0 fun _ _ _ _ _ _ _ q => ge_int q
theorem op_notN : OpR X (compareOp .IsNot) (fun x y H Q => y = .non /\ Q (.bl (!decide (x = .non))) H) := by
 intro pins s σ H x y v u Q I rx ry h
 obtain ⟨rfl, q⟩ := h
 cases ry
 refine isnot_none_gen (fin_bl I q ?_)
 cases x <;> first
  | (cases rx; rfl)
  | (obtain ⟨t, rfl⟩ := rx; rfl)
theorem nomark (b : Expr) {op : CmpOp} (h : op ≠ .In := by decide) (h2 : op ≠ .NotIn := by decide) : behindInMarks op b = false := by
 have e1 : (op == CmpOp.In) = false := by cases op <;> first | rfl | exact absurd rfl h
 have e2 : (op == CmpOp.NotIn) = false := by cases op <;> first | rfl | exact absurd rfl h2
 cases b <;> simp [behindInMarks, e1, e2]
theorem pe_cmpR {op : CmpOp} {r : R2} (ho : OpR X (compareOp op) r) (ha : PE X a ta) (hb : PE X b tb) (hm : behindInMarks op b = false) : PE X (.Compare a [op] [b] pos) (tOp r ta tb) := by
 intro pins s σ H Q I h
 exact wpAny_Compare1 (binT ha hb I h fun v u s2 x y H2 I2 rx ry q => ho pins s2 σ H2 x y v u Q I2 rx ry q) hm
noncomputable def tTest (t : TE) : TT := fun σ H Q => t σ H fun x H' => ∃ k, x = .bl k /\ Q k H'
theorem pt_cmpR {op : CmpOp} {r : R2} (ho : OpR X (compareOp op) r) (ha : PE X a ta) (hb : PE X b tb) (hm : behindInMarks op b = false) : PT X (.Compare a [op] [b] pos) (tTest (tOp r ta tb)) := by
 intro pins s σ H Q I h
 refine wpAny_isTrue_Compare1 (thn (ha pins s σ H _ I h) fun v s1 ⟨x, H1, I1, r1, q1⟩ => thn (hb pins s1 σ H1 _ I1 q1) fun u s2 ⟨y, H2, I2, r2, q2⟩ =>
  thn (ho pins s2 σ H2 x y v u _ I2 r1 r2 q2) fun c s3 ⟨z, H3, I3, r3, k, e, q3⟩ => ?_) hm
 subst e
 cases r3
 exact wpAny_truthy_bool ⟨H3, I3, q3⟩
noncomputable def tChain (r r' : R2) (ta tb tc : TE) : TE := fun σ H Q => ta σ H fun x H1 => tb σ H1 fun y H2 => r x y H2 fun z H3 => ∃ k, z = .bl k /\
 (if k = true then tc σ H3 fun w' H4 => r' y w' H4 Q else Q (.bl false) H3)
theorem pt_chain {op op' : CmpOp} {r r' : R2} (ho : OpR X (compareOp op) r) (ho' : OpR X (compareOp op') r') (ha : PE X a ta) (hb : PE X b tb) (hc : PE X c tc)
  (hm : lastMarks [op, op'] [b, c] = false := by with_unfolding_all rfl) : PT X (.Compare a [op, op'] [b, c] pos) (tTest (tChain r r' ta tb tc)) := by
 intro pins s σ H Q I h
 refine isTrue_chain (thn (ha pins s σ H _ I h) fun v s1 ⟨x, H1, I1, r1, q1⟩ => test_link (thn (hb pins s1 σ H1 _ I1 q1) fun u s2 ⟨y, H2, I2, r2, q2⟩ =>
  thn (ho pins s2 σ H2 x y v u _ I2 r1 r2 q2) fun d s3 ⟨z, H3, I3, r3, k, e, q3⟩ => ?_)) hm
 subst e
 cases r3
 refine wpAny_truthy_bool ?_
 cases k with
 | false =>
  obtain ⟨k', e', q'⟩ := q3
  cases e'
  exact ite_ff ⟨H3, I3, q'⟩
 | true =>
  refine ite_tt (test_last (thn (hc pins s3 σ H3 _ I3 q3) fun w' s4 ⟨z', H4, I4, r4, q4⟩ => thn (ho' pins s4 σ H4 y z' u w' _ I4 r2 r4 q4) fun d' s5 ⟨z2, H5, I5, r5, k2, e2, q5⟩ => ?_))
  subst e2
  cases r5
  exact wpAny_truthy_bool ⟨H5, I5, q5⟩
noncomputable def TruV (K : PySem.W.Frag) (x : V) (H : Hp) (k : Bool) : Prop :=
 match x with
 | .non => k = false
 | .bl b => k = b
 | .int i => k = (i != 0)
 | .str y => y.length <= sizeLine /\ k = ((y.length : Int) != 0)
 | .byt y => y.size <= sizeLine /\ k = ((y.size : Int) != 0)
 | .ref p => (∃ xs, SqL K H p xs /\ k = !xs.isEmpty) ∨ (∃ xs, SqT K H p xs /\ k = !xs.isEmpty) ∨ ∃ kvs, H p = some (.dK kvs) /\ k = !kvs.isEmpty
 | _ => False
theorem isEmpty_kv {κ : Type} {kvs : List (κ × V)} {vs : List (κ × Value)} (r : KV kvs vs) : (!vs.isEmpty) = !kvs.isEmpty := by
 cases r <;> rfl
theorem isEmpty_of {xs : List V} {its : List Value} (r : Vals xs its) : (!its.toArray.isEmpty) = !xs.isEmpty := by
 cases r <;> simp
theorem line63 : (sizeLine : Nat) < 2 ^ 63 := by rw [sizeLine_eq]; decide
theorem tru_ok : TruR X (fun x H Q => ∃ k, TruV X.K x H k /\ Q k H) := by
 intro pins s σ H x v Q I rx h
 obtain ⟨k, e, q⟩ := h
 have hl := line63
 have hs : sizeLine = 16777216 := sizeLine_eq
 cases x with
 | non =>
  cases rx
  have e' : k = false := e
  subst e'
  exact truthy_none ⟨H, I, q⟩
 | bl b =>
  cases rx
  have e' : k = b := e
  subst e'
  exact wpAny_truthy_bool ⟨H, I, q⟩
 | int i =>
  obtain ⟨t, rfl⟩ := rx
  have e' : k = (i != 0) := e
  subst e'
  exact PySem.P.truthy_int ⟨H, I, q⟩
 | str y =>
  obtain ⟨t, rfl⟩ := rx
  obtain ⟨hy, e'⟩ : y.length <= sizeLine /\ k = ((y.length : Int) != 0) := e
  subst e'
  exact PySem.P.truthy_str (by (first | lia | omega)) ⟨H, I.tok _, q⟩
 | byt y =>
  obtain ⟨t, rfl⟩ := rx
  obtain ⟨hy, e'⟩ : y.size <= sizeLine /\ k = ((y.size : Int) != 0) := e
  subst e'
  exact PySem.W.truthy_bytes (by (first | lia | omega)) ⟨H, I.tok _, q⟩
 | ref p =>
  cases rx
  have e' : (∃ xs, SqL X.K H p xs /\ k = !xs.isEmpty) ∨ (∃ xs, SqT X.K H p xs /\ k = !xs.isEmpty) ∨ ∃ kvs, H p = some (.dK kvs) /\ k = !kvs.isEmpty := e
  rcases e' with ⟨xs, hx, e'⟩ | ⟨xs, hx, e'⟩ | ⟨kvs, hx, e'⟩
  ·subst e'
   obtain ⟨its, r, pl, hz⟩ := I.list hx
   have hlen := r.length
   exact wpAny_truthy_list pl.isList (by simp only [List.size_toArray]; (first | lia | omega)) ⟨H, I.tok _, by rw [isEmpty_of r]; exact q⟩
  ·subst e'
   obtain ⟨its, r, pl, hz⟩ := I.tuple hx
   have hlen := r.length
   exact truthy_tuple pl (by simp only [List.size_toArray]; (first | lia | omega)) ⟨H, I.tok _, by rw [isEmpty_of r]; exact q⟩
  ·subst e'
   obtain ⟨hz, hS, vs, r, m⟩ : kvs.length <= sizeLine /\ (p == sysModules) = false /\ ∃ vs, KV kvs vs /\ s.heap.DictOf (mixKind X.prog X.w) p vs := I.hok p _ hx
   have hlen : kvs.length = vs.length := Paired.length r
   exact wpAny_truthy_dict hS m (by (first | lia | omega)) ⟨H, I.tok _, by rw [isEmpty_kv r]; exact q⟩
 | _ => exact (show False from e).elim
theorem pt_truth (ha : PE X a ta) (he : ∀ whole, isTrue a X.env whole = (do let v <- whole; standAt a.pos; holding [v] (truthy v))) :
  PT X a (fun σ H Q => ta σ H fun x H' => ∃ k, TruV X.K x H' k /\ Q k H') := by
 intro pins s σ H Q I h
 exact isTrue_plain (thn (ha pins s σ H _ I h) fun v s1 ⟨x, H1, I1, r1, q1⟩ => tru_ok pins s1 σ H1 x v Q I1 r1 q1) (he _)
theorem vals1 {x : V} {us : List Value} (r : Vals [x] us) : ∃ u, us = [u] /\ RelV x u := by
 cases r with
 | cons r1 r2 => cases r2; exact ⟨_, rfl, r1⟩
theorem vals2 {x y : V} {us : List Value} (r : Vals [x, y] us) : ∃ u w', us = [u, w'] /\ RelV x u /\ RelV y w' := by
 cases r with
 | cons r1 r2 =>
  cases r2 with
  | cons r3 r4 => cases r4; exact ⟨_, _, rfl, r1, r3⟩
theorem call_abs : CallR X (.builtin "abs") (fun xs H Q => ∃ i, xs = [.int i] /\ Q (.int (if i < 0 then -i else i)) H) := by
 intro pins s σ H xs us Q I r h
 obtain ⟨i, rfl, q⟩ := h
 obtain ⟨u, rfl, t, rfl⟩ := vals1 r
 exact call_abs_int fun u tk => ⟨.int (if i < 0 then -i else i), H, I.tok _, ⟨_, rfl⟩, q⟩
theorem call_max2 (hc : X.calm = true) : CallR X (.builtin "max") (fun xs H Q => ∃ i j, xs = [.int i, .int j] /\ Q (.int (if j > i then j else i)) H) := by
 intro pins s σ H xs us Q I r h
 obtain ⟨i, j, rfl, q⟩ := h
 obtain ⟨u, w', rfl, ⟨t, rfl⟩, ⟨t', rfl⟩⟩ := vals2 r
 refine max_two_ints (I.ok.hd hc) fun h' tk k => ⟨_, H, I.kept k, ?_, q⟩
 by_cases hj : j > i
 ·rw [if_pos hj, if_pos hj]; exact ⟨_, rfl⟩
 ·rw [if_neg hj, if_neg hj]; exact ⟨_, rfl⟩
end
end L2
namespace L2
open PySem PySem.Spec PyProof.Rows
structure ObjM (h : Heap) (x dx C : Addr) (mA : Str -> Option Value) : Prop where
 obj : h.get? x = some (PySem.W.instObj C dx)
 ns : h.Ns1 dx mA
 ne : dx ≠ x
section
variable {prog : Program} {w : World} {A : Around} {E : Value -> Shared -> Prop} {s : Shared} {K : PySem.W.Frag} {x dx C f : Addr} {mA : Str -> Option Value} {name : Str} {v : Value}
end
theorem RelO.some_of {v : V} {o : Option Value} (r : RelO (some v) o) : ∃ u, o = some u /\ RelV v u := by
 cases o with
 | none => exact (show False from r).elim
 | some u => exact ⟨u, rfl, r⟩
section
variable {P : Program} {w : World} {H H' : Hp} {h h' : Heap} {a C dx : Addr} {fs fs' : List (Str × V)}
end
structure Cls (K : PySem.W.Frag) (C : Addr) : Prop where
 pg : PySem.W.plainGet K C Str.empty = true
 hd : PySem.W.hasDictIn K C = true
 po : PySem.W.plainOver K C = true
 sa : PySem.W.findIn K (.ref C) "__setattr__" = some (some (.builtin "object.__setattr__"))
structure Con (K : PySem.W.Frag) (C : Addr) (f : Str) (v : V) (u : Value) : Prop where
 at_ : PySem.W.findIn K (.ref C) f = some (some u)
 rel : RelV v u
 get : PySem.W.specialIn K u "__get__" = some none
 cp : PySem.W.copiedNames.contains f = false
structure Meth (K : PySem.W.Frag) (C : Addr) (m : Str) (f : Addr) : Prop where
 at_ : PySem.W.findIn K (.ref C) m = some (some (.ref f))
 fn : PySem.W.isFn K (.ref f) = true
 kp : PySem.W.keepIn K (.ref f) = true
section
variable {X : Cx} {pins : List (Addr × Obj)} {σ : St} {H : Hp} {s : Shared} {a C dx : Addr} {fs : List (Str × V)} {f : Str} {v : V} {A : Around} {E : Value -> Shared -> Prop}
end
section
variable {X : Cx} {o e value : Expr} {f : Str} {pos pos' tpos : Pos} {ta tv : TE}
end
section
variable {X : Cx} {pins : List (Addr × Obj)} {σ : St} {H : Hp} {s : Shared} {A : Around} {E : Value -> Shared -> Prop} {Q : Value -> Shared -> Prop} {c : Value} {b : Bool}
inductive TyOf (K : PySem.W.Frag) (H : Hp) : V -> Value -> Prop where
 | non : TyOf K H .non (.type "NoneType")
 | bl (x : Bool) : TyOf K H (.bl x) (.type "bool")
 | int (i : Int) : TyOf K H (.int i) (.type "int")
 | str (x : Str) : TyOf K H (.str x) (.type "str")
 | flt (x : UInt64) : TyOf K H (.flt x) (.type "float")
 | lst {a : Addr} {xs : List V} (e : H a = some (.lst xs)) : TyOf K H (.ref a) (.type "list")
 | frz {a : Addr} {o : Obj} {xs : List V} (e : H a = some (.frz o (.lst xs))) : TyOf K H (.ref a) (.type "list")
 | tup {a : Addr} {xs : List V} (e : H a = some (.tup xs)) : TyOf K H (.ref a) (.type "tuple")
 | dK {a : Addr} {kvs : List (Key × V)} (e : H a = some (.dK kvs)) : TyOf K H (.ref a) (.type "dict")
 | dT {a : Addr} {kvs : List (List Key × V)} (e : H a = some (.dT kvs)) : TyOf K H (.ref a) (.type "dict")
 | ins {a C dx : Addr} {fs : List (Str × V)} (e : H a = some (.ins C dx fs)) (cl : Cls K C) (ha : PySem.W.findIn K (.ref C) "__class__" = some (some (.builtin "object.__class__")))
   (hn : PySem.W.specialIn K (.builtin "object.__class__") "__get__" = some (some (.builtin "getset_descriptor.__get__"))) (htk : PySem.W.takesIn K (.builtin "object.__class__") = some true)
   (hm : PySem.W.mroIn K C (.type "object") = some true) : TyOf K H (.ref a) (.ref C)
end
end L2
namespace L2
open PySem PySem.Spec PyProof.Rows
structure Room (k : Nat) (A : Around) : Prop where
 hd : A.handled = none
 dp : A.depth + 3 * k + 5 < recursionLimit
 un : A.units + 16 * k + 200 < cLine
 gd : A.guards = some []
theorem Room.mono {j k : Nat} {A : Around} (r : Room k A) (h : j <= k) : Room j A := ⟨r.hd, by have := r.dp; (first | lia | omega), by have := r.un; (first | lia | omega), r.gd⟩
theorem Room.deeper {k : Nat} {A : Around} (r : Room (k + 1) A) (env : Env) : Room k (A.deeper env) :=
 ⟨r.hd, by have := r.dp; show A.depth + 1 + 3 * k + 5 < _; (first | lia | omega), by have := r.un; show A.units + 3 + 16 * k + 200 < _; (first | lia | omega), r.gd⟩
theorem Room.depth {k : Nat} {A : Around} (r : Room k A) : A.depth < recursionLimit := by have := r.dp; (first | lia | omega)
theorem Room.units {k : Nat} {A : Around} (r : Room k A) : A.units + 64 < cLine := by have := r.un; (first | lia | omega)
noncomputable def tNil : TA := fun _ H Q => Q [] H
noncomputable def tCons (ta : TE) (tr : TA) : TA := fun σ H Q => ta σ H fun x H1 => tr σ H1 fun xs H2 => Q (x :: xs) H2
section
variable {X : Cx} {e : Expr} {es : List Expr} {te : TE} {t : TA} {pos : Pos}
theorem pa_nil : PA X [] tNil := fun _ _ _ _ H Q I h => Calls.spliced_nil ⟨[], H, I, .nil, h⟩
theorem pa_cons (ha : PE X e te) (hr : PA X es t) (hs : starEach (e :: es) X.env = (false, eval e X.env) :: starEach es X.env := by rfl) : PA X (e :: es) (tCons te t) := by
 intro pos pins s σ H Q I h
 rw [hs]
 show wpAny _ _ (spliced ((false, eval e X.env) :: backTo pos (starEach es X.env))) _ _ s
 refine Calls.spliced_cons (thn (ha pins s σ H _ I h) fun u s1 zq => ?_)
 obtain ⟨x, H1, I1, r1, q1⟩ := zq
 exact thn (hr pos pins s1 σ H1 _ I1 q1) fun us s2 ⟨xs, H2, I2, r2, q2⟩ => ⟨x :: xs, H2, I2, .cons r1 r2, q2⟩
noncomputable def tTup (t : TA) : TE := fun σ H Q => t σ H fun xs H1 => xs.length <= sizeLine /\ ∀ p, H1 p = none -> Q (.ref p) (upd H1 p (.tup xs))
noncomputable def tLst (t : TA) : TE := fun σ H Q => t σ H fun xs H1 => xs.length <= sizeLine /\ ∀ p, H1 p = none -> Q (.ref p) (upd H1 p (.lst xs))
theorem pe_tup {x1} (h : PA X es t) : PE X (.Tuple es x1 pos) (tTup t) := by
 intro pins s σ H Q I hq
 refine wpAny_Tuple_spliced (thn (h pos pins s σ H _ I hq) fun us s1 ⟨xs, H1, I1, r, z, q⟩ => ⟨by rw [<- r.length]; exact z, ?_⟩)
 have hf : H1 s1.heap.objs.size = none := I1.hok.fresh (Nat.le_refl _)
 refine ⟨.ref s1.heap.objs.size, upd H1 s1.heap.objs.size (.tup xs), I1.laid (t' := s1.toks) (fun b u e => Heap.get?_push_of_some _ e) (Nat.le_refl _) ?_, rfl, q _ hf⟩
 exact ⟨z, us, r, PTup.new⟩
theorem pe_lst (h : PA X es t) : PE X (.List es pos) (tLst t) := by
 intro pins s σ H Q I hq
 refine wpAny_List_spliced (thn (h pos pins s σ H _ I hq) fun us s1 ⟨xs, H1, I1, r, z, q⟩ => ⟨by rw [<- r.length]; exact z, ?_⟩)
 have hf : H1 s1.heap.objs.size = none := I1.hok.fresh (Nat.le_refl _)
 refine ⟨.ref s1.heap.objs.size, upd H1 s1.heap.objs.size (.lst xs), I1.laid (t' := s1.toks) (fun b u e => Heap.get?_push_of_some _ e) (Nat.le_refl _) ?_, rfl, q _ hf⟩
 exact ⟨z, us, 0, r, Heap.get?_push_size _ rfl⟩
end
noncomputable abbrev Sp := List V -> Hp -> VK -> XK -> Prop
noncomputable abbrev CXT := List Env -> Hp -> Shared -> XK -> Value -> Shared -> Prop
structure Env0 (P : Program) (w : World) (K : PySem.W.Frag) (mg : Str -> Option Value) (base : Heap) (A : Around) (outer : List Env) (s : Shared) (H : Hp) : Prop where
 frames : A.frames = some outer
 mod : Mod K mg base
 bs : ∀ b o, base.get? b = some o -> s.heap.get? b = some o /\ H b = none
 bsz : base.objs.size <= s.heap.objs.size
 funs : s.heap.FunFrames base outer
 frf : ∀ b ∈ frs outer, H b = none
 hok : HOk P w H s.heap
 bare : AllBare s.gens
noncomputable def CE (outer : List Env) (P : Program) (w : World) (H : Hp) (s : Shared) (Q : VK) (u : Value) (s' : Shared) : Prop :=
 ∃ v H', s'.os = s.os /\ AllBare s'.gens /\ Un (frs outer) [] H H' s.heap s'.heap /\ HOk P w H' s'.heap /\ RelV v u /\ Q v H'
noncomputable def CR (CX : CXT) (outer : List Env) (P : Program) (w : World) (H : Hp) (s : Shared) (Q : VK) (E : XK) (r : Result) (s' : Shared) : Prop :=
 match r with
 | .ok (.ret u) => CE outer P w H s Q u s'
 | .ok _ => False
 | .error e => CX outer H s E e s'
structure FnOk (P : Program) (w : World) (K : PySem.W.Frag) (mg : Str -> Option Value) (base : Heap) (CX : CXT) (k : Nat) (f : Addr) (fd : FuncData) (ps : List Str) (sp : Sp) : Prop where
 len : ∀ vs H Q E, sp vs H Q E -> vs.length = ps.length
 run : ∀ (A : Around) (outer : List Env) (s : Shared) (H : Hp) (args : Args) (us : List Value) (vs : List V) (Q : VK) (E : XK), Room k A -> Env0 P w K mg base A outer s H -> BindsTo s fd args (ps.zip us) -> Vals vs us -> sp vs H Q E ->
  codeAny (model P w) A (.call (.ref f) args) (CR CX outer P w H s Q E) s
theorem FnOk.mono {P : Program} {w : World} {K : PySem.W.Frag} {mg : Str -> Option Value} {base : Heap} {CX : CXT} {j k : Nat} {f : Addr} {fd : FuncData} {ps : List Str} {sp : Sp} (F : FnOk P w K mg base CX j f fd ps sp) (h : j <= k) :
  FnOk P w K mg base CX k f fd ps sp := ⟨F.len, fun A outer s H args us vs Q E hr => F.run A outer s H args us vs Q E (hr.mono h)⟩
section
variable {X : Cx} {pins : List (Addr × Obj)} {σ : St} {H : Hp} {s s' : Shared}
theorem Inv.env0 (I : Inv X pins σ H s) : Env0 X.prog X.w X.K X.mg X.base X.A X.stack s H :=
 ⟨I.ok.frames, I.ok.mod, I.bs, Nat.le_trans I.ok.bsz I.sz, I.stack, I.stkFree, I.hok, I.bare⟩
theorem Inv.after {Q : VK} {u : Value} (I : Inv X pins σ H s) (h : CE X.stack X.prog X.w H s Q u s') : EP X pins σ Q u s' := by
 obtain ⟨v, H', os, bare, un, hok, r, q⟩ := h
 obtain ⟨hh, g, d, t, os'⟩ := s'
 obtain rfl : os' = s.os := os
 exact ⟨v, H', I.call (h' := hh) (g' := g) (d' := d) (t' := t) (ch := []) un hok bare (fun b z => absurd z (by simp)), r, q⟩
end
noncomputable def tCall (sp : Sp) (dvs : List V) (E : XK) (t : TA) : TE := fun σ H Q => t σ H fun vs H1 => sp (vs ++ dvs) H1 Q E
noncomputable def Binds (K : PySem.W.Frag) (fd : FuncData) (ps : List Str) (ds : List Value) : Prop :=
 ∀ (s : Shared) (us : List Value), K.In s.heap -> (us ++ ds).length = ps.length -> BindsTo s fd ⟨us, []⟩ (ps.zip (us ++ ds))
theorem Binds.all {K : PySem.W.Frag} {fd : FuncData} {ps : List Str} (h : ∀ us : List Value, us.length = ps.length -> bindArgs fd ⟨us, []⟩ = pure (ps.zip us)) : Binds K fd ps [] := fun s us _ hl => by
 rw [List.append_nil] at hl ⊢
 exact .of_eq (h us hl)
noncomputable def Passes (CX : CXT) (X : Cx) (E : XK) : Prop := ∀ (pins : List (Addr × Obj)) (σ : St) (H : Hp) (s : Shared) (e : Value) (s' : Shared), Inv X pins σ H s -> CX X.stack H s E e s' -> X.xe e s'
section
variable {X : Cx} {CX : CXT} {k : Nat} {f C : Addr} {fd : FuncData} {ps : List Str} {sp : Sp} {dvs : List V} {ds : List Value} {E : XK} {x m : Str} {p pos apos : Pos} {e o : Expr} {es : List Expr} {ta : TE} {t : TA}
theorem run_fn {pins : List (Addr × Obj)} {σ : St} {H : Hp} {s : Shared} {Q : VK} {us : List Value} {vs : List V} (F : FnOk X.prog X.w X.K X.mg X.base CX k f fd ps sp) (hr : Room k X.A) (hb : Binds X.K fd ps ds) (hd : Vals dvs ds) (hx : Passes CX X E)
  (I : Inv X pins σ H s) (r : Vals vs us) (h : sp (vs ++ dvs) H Q E) : wpAny (model X.prog X.w) X.A (call (.ref f) us) (EP X pins σ Q) X.xe s := by
 have r2 : Vals (vs ++ dvs) (us ++ ds) := r.append hd
 have hl : (us ++ ds).length = ps.length := by rw [<- r2.length]; exact F.len _ _ _ _ h
 refine wpAny_call (codeAny_mono (F.run X.A X.stack s H ⟨us, []⟩ (us ++ ds) (vs ++ dvs) Q E hr I.env0 (hb s us I.kIn hl) r2 h) fun r s' hq => ?_)
 cases r with
 | error e => exact hx pins σ H s e s' I hq
 | ok fl =>
  cases fl with
  | ret u => exact I.after hq
  | next => exact False.elim hq
  | brk => exact False.elim hq
  | cont => exact False.elim hq
theorem pe_call (F : FnOk X.prog X.w X.K X.mg X.base CX k f fd ps sp) (hr : Room k X.A) (hg : Gl X x) (hm : X.mg x = some (.ref f)) (hk : PySem.W.keepIn X.K (.ref f) = true) (hb : Binds X.K fd ps ds) (hd : Vals dvs ds) (hx : Passes CX X E)
  (ha : PA X (e :: es) t) (hdb : (x == ("__debug__" : Str)) = false := by decide) (he : starEach (e :: es) X.env = (false, eval e X.env) :: starEach es X.env := by rfl) (hpl : (backTo pos (starEach es X.env)).any (·.1) = false := by rfl) :
  PE X (.Call (.Name x p) (e :: es) [] pos) (tCall sp dvs E t) := by
 intro pins s σ H Q I h
 refine wpAny_Call_Name_kw (ld_glob I hg hm ?_ hdb)
 refine PySem.W.callWith_K (h₀ := X.base) I.ok.mod.kin hk (thn (ha pos pins s σ H _ I h) fun us s1 ⟨vs, H1, I1, r, q⟩ => ⟨I1.kIn, ?_⟩) he hpl
 exact run_fn F hr hb hd hx I1 r q
theorem pe_call0 (F : FnOk X.prog X.w X.K X.mg X.base CX k f fd ps sp) (hr : Room k X.A) (hg : Gl X x) (hm : X.mg x = some (.ref f)) (hk : PySem.W.keepIn X.K (.ref f) = true) (hb : Binds X.K fd ps ds) (hd : Vals dvs ds) (hx : Passes CX X E)
  (hdb : (x == ("__debug__" : Str)) = false := by decide) : PE X (.Call (.Name x p) [] [] pos) (tCall sp dvs E tNil) := by
 intro pins s σ H Q I h
 refine wpAny_Call_Name_kw (ld_glob I hg hm ?_ hdb)
 exact PySem.W.callWith_K0 I.kIn hk (run_fn (us := []) F hr hb hd hx I .nil h)
structure Mk (K : PySem.W.Frag) (C f : Addr) : Prop where
 makes : PySem.W.makesIn K C = true
 init : PySem.W.findIn K (.ref C) "__init__" = some (some (.ref f))
 fn : PySem.W.isFn K (.ref f) = true
 kp : PySem.W.keepIn K (.ref C) = true
end
section
variable {X : Cx} {CX : CXT} {k : Nat} {f C : Addr} {fd : FuncData} {ps ks : List Str} {sp : Sp} {E : XK} {x m : Str} {p pos apos kpos : Pos} {e o : Expr} {es : List Expr} {kws : List Keyword} {te ta : TE} {t tk : TA} {nm : Option Str}
structure KBinds (K : PySem.W.Frag) (fd : FuncData) (ps ks : List Str) (g : List Value -> List Value -> List Value) (gV : List V -> List V -> List V) : Prop where
 to : ∀ (s : Shared) (us ws : List Value), K.In s.heap -> (g us ws).length = ps.length -> BindsTo s fd ⟨us, ks.zip ws⟩ (ps.zip (g us ws))
 rel : ∀ {vs : List V} {us : List Value} {zs : List V} {ws : List Value}, Vals vs us -> Vals zs ws -> Vals (gV vs zs) (g us ws)
variable {g : List Value -> List Value -> List Value} {gV : List V -> List V -> List V}
end
structure FnScope (N P : List Str) (sc : Scope) : Prop where
 kind : sc.kind = .function
 co : sc.isCoroutine = false
 gen : sc.isGenerator = false
 nd : N.Nodup
 pre : N.take P.length = P
 par : ∀ x ∈ P, sc.names.lookup x = some .local ∨ sc.names.lookup x = some .cell
 nofree : ∀ y ∈ sc.names, y.2 ≠ .free
theorem bindL_out {kindOf : Str -> Option NameKind} {x : Str} : ∀ {binds : List (Str × Value)} {m : Str -> Option Value}, (∀ v, (x, v) ∉ binds) -> bindL kindOf binds m x = m x
 | [], _, _ => rfl
 | (n, v) :: r, m, h => by
  unfold bindL
  rw [bindL_out fun w hw => h w (List.mem_cons_of_mem _ hw)]
  split
  ·have : x ≠ n := by rintro rfl; exact h v List.mem_cons_self
   simp [this]
  ·rfl
theorem bindC_out {kindOf : Str -> Option NameKind} {x : Str} : ∀ {binds : List (Str × Value)} {m : Str -> Option Value}, (∀ v, (x, v) ∉ binds) -> bindC kindOf binds m x = m x
 | [], _, _ => rfl
 | (n, v) :: r, m, h => by
  unfold bindC
  rw [bindC_out fun w hw => h w (List.mem_cons_of_mem _ hw)]
  split
  ·rfl
  ·have : x ≠ n := by rintro rfl; exact h v List.mem_cons_self
   simp [this]
theorem bindL_get {kindOf : Str -> Option NameKind} {x : Str} {v : Value} : ∀ {P : List Str} {vs : List Value} {i : Nat} {m : Str -> Option Value}, P.Nodup -> P[i]? = some x -> vs[i]? = some v -> kindOf x = some .local ->
  bindL kindOf (P.zip vs) m x = some v
 | [], _, _, _, _, h, _, _ => by simp at h
 | _ :: _, [], _, _, _, _, h, _ => by simp at h
 | p :: P, w :: vs, 0, m, nd, h1, h2, hk => by
  simp at h1 h2; subst h1; subst h2
  show bindL kindOf ((p, w) :: P.zip vs) m p = _
  unfold bindL
  rw [bindL_out fun v hv => (List.nodup_cons.mp nd).1 (List.of_mem_zip hv).1, if_pos hk]
  simp
 | p :: P, w :: vs, i + 1, m, nd, h1, h2, hk => by
  show bindL kindOf ((p, w) :: P.zip vs) m x = _
  unfold bindL
  exact bindL_get (i := i) (List.nodup_cons.mp nd).2 (by simpa using h1) (by simpa using h2) hk
theorem bindC_get {kindOf : Str -> Option NameKind} {x : Str} {v : Value} : ∀ {P : List Str} {vs : List Value} {i : Nat} {m : Str -> Option Value}, P.Nodup -> P[i]? = some x -> vs[i]? = some v -> kindOf x ≠ some .local ->
  bindC kindOf (P.zip vs) m x = some v
 | [], _, _, _, _, h, _, _ => by simp at h
 | _ :: _, [], _, _, _, _, h, _ => by simp at h
 | p :: P, w :: vs, 0, m, nd, h1, h2, hk => by
  simp at h1 h2; subst h1; subst h2
  show bindC kindOf ((p, w) :: P.zip vs) m p = _
  unfold bindC
  rw [bindC_out fun v hv => (List.nodup_cons.mp nd).1 (List.of_mem_zip hv).1, if_neg hk]
  simp
 | p :: P, w :: vs, i + 1, m, nd, h1, h2, hk => by
  show bindC kindOf ((p, w) :: P.zip vs) m x = _
  unfold bindC
  exact bindC_get (i := i) (List.nodup_cons.mp nd).2 (by simpa using h1) (by simpa using h2) hk
noncomputable def start (N : List Str) (vs : List V) : St := vs.map some ++ List.replicate (N.length - vs.length) none
noncomputable def cxOf (CX : CXT) (P : Program) (w : World) (K : PySem.W.Frag) (mg : Str -> Option Value) (base : Heap) (N : List Str) (qual : Str) (scope : Scope) (f : Addr) (cd : Value) (A : Around) (outer : List Env) (s : Shared) (H : Hp) (E : XK) : Cx where
 prog := P
 w := w
 K := K
 mg := mg
 base := base
 A := A.deeper (envOfC qual scope s.heap.objs.size f cd)
 N := N
 s₀ := s
 H₀ := H
 env := envOfC qual scope s.heap.objs.size f cd
 outer := outer
 stack := envOfC qual scope s.heap.objs.size f cd :: outer
 ex := []
 calm := true
 fn := fun _ => true
 pn := []
 xe := fun e s' => wpAny (model P w) (A.deeper (envOfC qual scope s.heap.objs.size f cd)) (leaving (envOfC qual scope s.heap.objs.size f cd) e) (fun _ s'' => CX outer H s E e s'') (fun e' s'' => CX outer H s E e' s'') s'
theorem cell_has {sc : Scope} {n : Nat} {x : Str} (h : sc.names.lookup x = some .cell) : ∃ c, (cellsFrom n sc.names []).lookup x = some c := by
 have q := PySem.W.cellsFrom_some sc.names n [] (.inl h)
 exact Option.isSome_iff_exists.mp q
theorem inv_start {CX : CXT} {P : Program} {w : World} {K : PySem.W.Frag} {mg : Str -> Option Value} {base : Heap} {N ps : List Str} {qual : Str} {scope : Scope} {f : Addr} {cd : Value} {A : Around} {outer : List Env} {s s1 : Shared} {H : Hp} {E : XK} {us : List Value} {vs : List V}
  (S : FnScope N ps scope) (hd : A.handled = none) (e0 : Env0 P w K mg base A outer s H) (hl : vs.length = ps.length) (r : Vals vs us)
  (x : InCallC s s.heap.objs.size (bindL (envOfC qual scope s.heap.objs.size f cd).kindOf (ps.zip us) fun _ => none) (cellsFrom (s.heap.objs.size + 1) scope.names []) (bindC (envOfC qual scope s.heap.objs.size f cd).kindOf (ps.zip us) fun _ => none) s1) :
  Inv (cxOf CX P w K mg base N qual scope f cd A outer s H E) [] (start N vs) H s1 := by
 have hpl : ps.length <= N.length := by have := congrArg List.length S.pre; rw [List.length_take] at this; (first | lia | omega)
 obtain ⟨h1, tk, rfl, hk⟩ := x.done
 have noA : ∀ b : Addr, b ∉ (cxOf CX P w K mg base N qual scope f cd A outer s H E).ex := fun b z => absurd (show b ∈ ([] : List Addr) from z) (by simp)
 refine ⟨⟨e0.mod, S.kind, rfl, rfl, Nat.le_refl _, fun y z c h1 h2 => ?_, fun y hy => ?_, fun y c _ h => ?_, fun _ => hd, Around.frames_deeper e0.frames, .inr ⟨rfl, rfl⟩, fun b z => absurd z (noA b), e0.bs, e0.bsz, fun b _ _ => noA b, fun b z => absurd z (noA b), e0.funs, e0.frf⟩,
  rfl, e0.bare, Un.kept hk, ⟨_, x.toInCall.ns, fun i y v h1 h2 h3 => ?_⟩, fun y c h => ⟨_, x.cell y c h⟩, e0.hok.fresh (Nat.le_refl _), fun y c h => ?_, fun p hp => absurd (show p ∈ ([] : List (Addr × Obj)) from hp) (by simp), e0.hok.kept hk, ?_⟩
 ·exact name_of_addr x.apart (PySem.mem_of_lookup h1) (PySem.mem_of_lookup h2)
 ·have hy : scope.names.lookup y = some .cell ∨ scope.names.lookup y = some .free := hy
  rcases hy with hy | hy
  ·exact cell_has hy
  ·exact absurd rfl (S.nofree _ (PySem.mem_of_lookup hy))
 ·exact Nat.le_of_lt (x.above y c (PySem.mem_of_lookup h))
 ·have hi : i < vs.length := by
   unfold start at h2
   by_cases hi : i < vs.length
   ·exact hi
   ·rw [List.getElem?_append_right (by simpa using hi)] at h2
    rw [List.getElem?_replicate] at h2
    split at h2 <;> cases h2
  have ha : vs[i]? = some v := by
   unfold start at h2
   rw [List.getElem?_append_left (by simpa using hi), List.getElem?_map] at h2
   cases e : vs[i]? with
   | none => rw [e] at h2; cases h2
   | some a => rw [e] at h2; cases h2; rfl
  obtain ⟨u, hu, rv⟩ := r.get ha
  have hp : ps[i]? = some y := by
   rw [<- S.pre, List.getElem?_take_of_lt (by (first | lia | omega))]; exact h1
  have ndP : ps.Nodup := by rw [<- S.pre]; exact S.nd.sublist (List.take_sublist _ _)
  refine ⟨u, rv, ?_⟩
  rcases S.par y (List.mem_of_getElem? hp) with k | k
  ·exact .inl ⟨k, bindL_get ndP hp hu k⟩
  ·obtain ⟨c, e⟩ := cell_has (n := s.heap.objs.size + 1) k
   refine .inr ⟨.inl k, c, e, ?_⟩
   have q := x.cell y c e
   rw [bindC_get ndP hp hu (by show scope.names.lookup y ≠ _; rw [k]; decide)] at q
   exact q
 ·exact e0.hok.fresh (Nat.le_of_lt (x.above y c (PySem.mem_of_lookup h)))
 ·unfold start
  show _ = N.length
  rw [List.length_append, List.length_map, List.length_replicate]
  (first | lia | omega)
theorem fn_of {CX : CXT} {P : Program} {w : World} {K : PySem.W.Frag} {mg : Str -> Option Value} {base : Heap} {k : Nat} {f : Addr} {name qual : Str} {params : Arguments} {body : List Stmt} {scope : Scope} {dV kV doc pm cdv ct oc : Value} {an od : Option Addr}
  {osl : Array (Option Value)} {N ps : List Str} {sp : Sp} (lk : K.lookup f = some ⟨oc, od, .func (PySem.W.fnOf name qual params body scope dV kV doc pm an cdv ct), osl⟩) (hcd : PySem.W.codeIn K cdv qual = true) (S : FnScope N ps scope)
  (len : ∀ vs H Q E, sp vs H Q E -> vs.length = ps.length)
  (hbody : ∀ (A : Around) (outer : List Env) (s : Shared) (H : Hp) (vs : List V) (Q : VK) (E : XK), Room k (A.deeper (envOfC qual scope s.heap.objs.size f cdv)) -> sp vs H Q E ->
   ∃ t, PSs (cxOf CX P w K mg base N qual scope f cdv A outer s H E) body t /\ t { nx := fun _ H' => Q .non H', rt := Q } (start N vs) H) :
  FnOk P w K mg base CX (k + 1) f (PySem.W.fnOf name qual params body scope dV kV doc pm an cdv ct) ps sp := by
 refine ⟨len, fun A outer s H args us vs Q E hr e0 hb r hsp => ?_⟩
 have hl := len _ _ _ _ hsp
 have KX : K.In s.heap := e0.mod.kin.keeps fun b o e => (e0.bs b o e).1
 have lim : s.heap.NoLimit := e0.mod.nolimit.keeps fun b o e => (e0.bs b o e).1
 have hkind : ∀ y ∈ ps.zip us, scope.names.lookup y.1 = some .local ∨ (scope.names.lookup y.1 = some .cell /\ ((cellsFrom (s.heap.objs.size + 1) scope.names []).lookup y.1).isSome = true) := fun ⟨n, v⟩ hy => by
  rcases S.par n (List.of_mem_zip hy).1 with q | q
  ·exact .inl q
  ·exact .inr ⟨q, PySem.W.cellsFrom_some _ _ _ (.inl q)⟩
 refine codeAny_call_function hr.depth (KX _ _ lk) rfl S.co S.gen rfl (PySem.W.codeRec_of KX hcd) (hb _ _ _ _ ?_)
 refine wpAny_newFunctionEnv_cells S.kind hkind fun env he s1 x => ?_
 subst he
 refine ⟨lim.keeps x.toInCall.keep, codeAny_func ?_⟩
 obtain ⟨t, ht, hq⟩ := hbody A outer s H vs Q E (hr.deeper _) hsp
 have I : Inv (cxOf CX P w K mg base N qual scope f cdv A outer s H E) [] (start N vs) H s1 := inv_start S hr.hd e0 hl r x
 refine wpAny_mono (ht [] s1 (start N vs) H _ I hq) (fun fl s' hs => ?_) fun e s' hs => hs
 have fin : ∀ {σ' : St} {H' : Hp} {v : V} {u : Value}, Inv (cxOf CX P w K mg base N qual scope f cdv A outer s H E) [] σ' H' s' -> RelV v u -> Q v H' -> CE outer P w H s Q u s' :=
  fun {σ' H' v u} J rv q => ⟨v, H', J.os, J.bare, J.base, J.hok, rv, q⟩
 cases fl with
 | ret u =>
  obtain ⟨v, σ', H', J, rv, q⟩ := hs
  exact fin J rv q
 | next =>
  obtain ⟨σ', H', J, q⟩ := hs
  exact fin (v := V.non) (u := Value.none) J rfl q
 | brk =>
  obtain ⟨_, _, _, q⟩ := hs
  exact False.elim q
 | cont =>
  obtain ⟨_, _, _, q⟩ := hs
  exact False.elim q
end L2
namespace L2
open PySem PySem.Spec PyProof.Rows
section
variable {X : Cx} {x : Str} {p pos : Pos} {e : Expr} {es : List Expr} {t : TA} {id T : String} {r : List V -> Hp -> VK -> Prop}
noncomputable def tCB (r : List V -> Hp -> VK -> Prop) (t : TA) : TE := fun σ H Q => t σ H fun vs H1 => r vs H1 Q
theorem pe_callB (hc : CallR X (.builtin id) r) (hg : Gl X x) (hm : X.mg x = none) (hv : bootBuiltins x = some (.builtin id)) (ha : PA X (e :: es) t) (hn : x ≠ "__name__" := by decide) (hdb : (x == ("__debug__" : Str)) = false := by decide)
  (he : starEach (e :: es) X.env = (false, eval e X.env) :: starEach es X.env := by rfl) (hpl : (backTo pos (starEach es X.env)).any (·.1) = false := by rfl) : PE X (.Call (.Name x p) (e :: es) [] pos) (tCB r t) := by
 intro pins s σ H Q I h
 refine wpAny_Call_Name_kw (ld_blt I hg hm hv ?_ hn hdb)
 exact PyProof.Rows.callWith_builtin1 (thn (ha pos pins s σ H _ I h) fun us s1 ⟨vs, H1, I1, r1, q1⟩ => hc pins s1 σ H1 vs us Q I1 r1 q1) he hpl
theorem pe_callTy (hc : CallR X (.type T) r) (hg : Gl X x) (hm : X.mg x = none) (hv : bootBuiltins x = some (.type T)) (ha : PA X (e :: es) t) (hn : x ≠ "__name__" := by decide) (hdb : (x == ("__debug__" : Str)) = false := by decide)
  (he : starEach (e :: es) X.env = (false, eval e X.env) :: starEach es X.env := by rfl) (hpl : (backTo pos (starEach es X.env)).any (·.1) = false := by rfl) : PE X (.Call (.Name x p) (e :: es) [] pos) (tCB r t) := by
 intro pins s σ H Q I h
 refine wpAny_Call_Name_kw (ld_blt I hg hm hv ?_ hn hdb)
 exact PyProof.Rows.callWith_type1 (thn (ha pos pins s σ H _ I h) fun us s1 ⟨vs, H1, I1, r1, q1⟩ => hc pins s1 σ H1 vs us Q I1 r1 q1) he hpl
end
end L2
namespace HT
open PySem PyProof.Rows
noncomputable def lexLt : List Int -> List Int -> Bool
 | [], [] => false
 | [], _ :: _ => true
 | _ :: _, [] => false
 | x :: xs, y :: ys => if x = y then lexLt xs ys else decide (x < y)
theorem lexLt_cons (x y : Int) (xs ys : List Int) : lexLt (x :: xs) (y :: ys) = if x = y then lexLt xs ys else decide (x < y) := rfl
theorem lexLt_nil_nil : lexLt [] [] = false := rfl
theorem lexLt_nil_cons (y : Int) (ys : List Int) : lexLt [] (y :: ys) = true := rfl
theorem lexLt_cons_nil (x : Int) (xs : List Int) : lexLt (x :: xs) [] = false := rfl
theorem eqAt_int (A : Around) (s : Shared) (a : Int) (t : Tok) (c : Int) (u : Tok) : ∃ e, SeqAt.EqAt A s (.int a t) (.int c u) e /\ (e = true ↔ a = c) :=
 ⟨(a == c), SeqAt.EqAt.int_int a t c u, by simp⟩
theorem rcLt_int (A : Around) (s : Shared) (a : Int) (t : Tok) (c : Int) (u : Tok) (prog : Program) (w : World) (E : Value -> Shared -> Prop) (Q : Value -> Shared -> Prop) (h : Q (.bool (decide (a < c))) s) :
  wpAny (model prog w) A (richCompare .Lt (.int a t) (.int c u)) Q E s :=
 (PyProof.Rows.lt_int h : wpAny (model prog w) A (compareOp .Lt (.int a t) (.int c u)) Q E s)
section
open PySem.SeqAt
open PySem.AutoSeq1 (wpAny_loadPart')
open PySem.MeetsSeq PySem.MeetsSeq2 PySem.MeetsSeq3
theorem tuple_lt_ints (l b : Addr) (items items2 : Array Value) (n n2 : Nat) (dd dd2 : Option Addr) (sl sl2 : Array (Option Value)) (ns ms : List Int) (hi : IntsAre items.toList ns) (hj : IntsAre items2.toList ms) :
  Meets (Builtin.«tuple.__lt__» ⟨[.ref l, .ref b], []⟩)
   (fun _ R s => s.heap.get? l = some { cls := .type "tuple", dict := dd, data := .seq items n, slots := sl } /\ s.heap.get? b = some { cls := .type "tuple", dict := dd2, data := .seq items2 n2, slots := sl2 } /\
    R (.ok (.ret (.bool (lexLt ns ms)))) s) :=
 .of_wp fun prog w A R s h => by
  obtain ⟨hp, g, d, tk, os⟩ := s; obtain ⟨hl, hb, h⟩ := h
  have f2 := AutoSeq1.sub_tuple_tuple
  have z1 : items.size = ns.length := by rw [<- hi.length]; simp
  have z2 : items2.size = ms.length := by rw [<- hj.length]; simp
  wp_walk using wpAny_loadPart' hl, wpAny_loadPart' hb, wpAny_forIn_list _ (fun rest b s' => b.1 = none /\ s' = ⟨hp, g, d, tk, os⟩ /\ ∃ (vs ws : List Value) (ns' ms' : List Int), rest = vs.zip ws /\
   IntsAre vs ns' /\ IntsAre ws ms' /\ ns'.length + items2.size = ms'.length + items.size /\ R (.ok (.ret (.bool (lexLt ns' ms')))) ⟨hp, g, d, tk, os⟩) _
  case turn =>
   rintro ⟨y, x⟩ rest b s' ⟨hb', rfl, vs, ws, ns', ms', hz, hvi, hwi, hlen, hR⟩
   cases hvi with
   | nil => rw [List.zip_nil_left] at hz; cases hz
   | cons a t hvi' =>
    cases hwi with
    | nil => rw [List.zip_nil_right] at hz; cases hz
    | cons c u hwi' =>
     rw [List.zip_cons_cons] at hz
     injection hz with hyx hrest
     injection hyx with hy hx
     subst hy hx
     rw [lexLt_cons] at hR
     simp only [List.length_cons] at hlen
     obtain ⟨e, he, hiff⟩ := eqAt_int A.in1 ⟨hp, g, d, tk, os⟩ a t c u
     refine wpAny_bind (he prog w _ _ ?_)
     cases e with
     | true =>
      rw [if_pos (hiff.mp rfl)] at hR
      wp_walk
      exact ⟨rfl, rfl, _, _, _, _, hrest, hvi', hwi', by (first | lia | omega), hR⟩
     | false =>
      rw [if_neg (fun q => absurd (hiff.mpr q) Bool.false_ne_true)] at hR
      have hri := rcLt_int A.in1 ⟨hp, g, d, tk, os⟩ a t c u prog w
      wp_walk using hri
      exact ⟨_, rfl, by simpa using hR⟩
  case fin =>
   rintro ⟨b1, b2⟩ s' ⟨hb', rfl, vs, ws, ns', ms', hz, hvi, hwi, hlen, hR⟩
   simp only at hb'
   subst hb'
   have hv : lexLt ns' ms' = decide (items.size < items2.size) := by
    cases hvi with
    | nil =>
     cases hwi with
     | nil =>
      simp only [List.length_nil] at hlen
      rw [lexLt_nil_nil]
      exact (decide_eq_false (by (first | lia | omega))).symm
     | cons c u hw =>
      simp only [List.length_nil, List.length_cons] at hlen
      rw [lexLt_nil_cons]
      exact (decide_eq_true (by (first | lia | omega))).symm
    | cons a t hv =>
     cases hwi with
     | nil =>
      simp only [List.length_nil, List.length_cons] at hlen
      rw [lexLt_cons_nil]
      exact (decide_eq_false (by (first | lia | omega))).symm
     | cons c u hw =>
      rw [List.zip_cons_cons] at hz
      cases hz
   rw [hv] at hR
   wp_walk
   exact ⟨_, rfl, by simpa [Builtin.Tuple.tupleCompareSizes] using hR⟩
  case h =>
   exact ⟨rfl, rfl, items.toList, items2.toList, ns, ms, rfl, hi, hj, by (first | lia | omega), h⟩
end
section
variable {prog : Program} {w : World} {A : Around} {E : Value -> Shared -> Prop} {s : Shared}
theorem lt_tupInts {l b : Addr} {items items2 : Array Value} {ns ms : List Int} {Q : Value -> Shared -> Prop} (hl : IsTup s.heap l items) (hb : IsTup s.heap b items2) (hi : IntsAre items.toList ns) (hj : IntsAre items2.toList ms)
  (hu : A.units < cLine) (h : Q (.bool (lexLt ns ms)) s) : wpAny (model prog w) A (compareOp .Lt (.ref l) (.ref b)) Q E s := by
 obtain ⟨⟨cls, dd, data, sl⟩, ho, hc, n, hd⟩ := id hl
 obtain ⟨⟨cls2, dd2, data2, sl2⟩, ho2, hc2, n2, hd2⟩ := id hb
 simp only at hc hd hc2 hd2
 subst hc hd hc2 hd2
 exact richCompare_meets_room (op := .Lt) ⟨_, ho, rfl⟩ ⟨_, ho2, rfl⟩ PySem.F.slot_tuple_lt PySem.F.entry_tuple_lt (PySem.F.args_tuple_lt_2 _ _) (tuple_lt_ints l b items items2 n n2 dd dd2 sl sl2 ns ms hi hj)
  ⟨ho, ho2, show Value.bool (lexLt ns ms) ≠ Value.notImplemented /\ Q (.bool (lexLt ns ms)) s from ⟨(fun x => nomatch x), h⟩⟩ hu
theorem cat_tup {t b : Addr} {vs ws : List Value} {Q : Value -> Shared -> Prop} (ht : IsTup s.heap t vs.toArray) (hb : IsTup s.heap b ws.toArray) (hv : vs ≠ [])
  (h1 : ws = [] -> Q (.ref t) s) (h2 : ws ≠ [] -> Q (.ref s.heap.objs.size) { s with heap := s.heap.push { cls := .type "tuple", data := .seq (vs ++ ws).toArray } })
  (hsz : vs.length + ws.length <= sizeLine) : wpAny (model prog w) A (binaryOp .Add (.ref t) (.ref b)) Q E s := by
 obtain ⟨⟨cls, dd, data, sl⟩, ho, hc, n, hd⟩ := id ht
 obtain ⟨⟨cls2, dd2, data2, sl2⟩, ho2, hc2, n2, hd2⟩ := id hb
 simp only at hc hd hc2 hd2
 subst hc hd hc2 hd2
 have e : vs.toArray ++ ws.toArray = (vs ++ ws).toArray := by simp
 by_cases hw : ws = []
 ·exact concat_meets ⟨_, ho, rfl⟩ ⟨_, ho2, rfl⟩ noFill_tuple_add seq_tuple_add PySem.F.slot_tuple_add PySem.F.entry_tuple_add (PySem.F.args_tuple_add_2 _ _)
   (tuple_addW1 t b vs.toArray ws.toArray n n2 dd dd2 sl sl2 (by simpa using hv) (by simp [hw])) ⟨ho, ho2, h1 hw⟩
 ·refine concat_meets ⟨_, ho, rfl⟩ ⟨_, ho2, rfl⟩ noFill_tuple_add seq_tuple_add PySem.F.slot_tuple_add PySem.F.entry_tuple_add (PySem.F.args_tuple_add_2 _ _)
   (tuple_addW2 t b vs.toArray ws.toArray n n2 dd dd2 sl sl2 (by simpa using hv) (by simpa using hw) (by rw [List.size_toArray, List.size_toArray]; exact hsz)) ⟨ho, ho2, ?_⟩
  rw [e]
  exact h2 hw
noncomputable def sIx (n d : Nat) : Option Int -> Nat
 | none => d
 | some v => if v < 0 then (v + (n : Int)).toNat else min v.toNat n
theorem sIx_none (n d : Nat) : sIx n d none = d := rfl
theorem sIx_nat (n d k : Nat) : sIx n d (some (k : Int)) = min k n := by
 show (if (k : Int) < 0 then ((k : Int) + (n : Int)).toNat else min (k : Int).toNat n) = min k n
 rw [if_neg (by (first | lia | omega)), Int.toNat_natCast]
theorem sIx_le (n d : Nat) (hd : d <= n) (o : Option Int) : sIx n d o <= n := by
 cases o with
 | none => exact hd
 | some v =>
  show (if v < 0 then (v + (n : Int)).toNat else min v.toNat n) <= n
  by_cases hv : v < 0
  ·rw [if_pos hv]; (first | lia | omega)
  ·rw [if_neg hv]; exact Nat.min_le_right _ _
theorem clip_eq (v : Int) (n d : Nat) : (if v < 0 then max (v + (n : Int)) 0 else min v (n : Int)) = ((sIx n d (some v) : Nat) : Int) := by
 show (if v < 0 then max (v + (n : Int)) 0 else min v (n : Int)) = (((if v < 0 then (v + (n : Int)).toNat else min v.toNat n) : Nat) : Int)
 by_cases hv : v < 0
 ·simp only [if_pos hv]; (first | lia | omega)
 ·simp only [if_neg hv]; (first | lia | omega)
theorem adjust_gen (lo hi : Option Int) (n : Nat) : Builtin.Slice.sliceAdjust lo hi 1 (n : Int) = (((sIx n 0 lo : Nat) : Int), ((sIx n n hi : Nat) : Int)) := by
 have h1 : ¬ ((1 : Int) < 0) := by (first | lia | omega)
 unfold Builtin.Slice.sliceAdjust
 simp only [h1, if_false]
 refine Prod.ext ?_ ?_
 ·cases lo with
  | none => rfl
  | some v => exact clip_eq v n 0
 ·cases hi with
  | none => rfl
  | some v => exact clip_eq v n n
theorem places_gen (i j : Nat) : Builtin.Slice.slicePlaces (i : Int) (j : Int) 1 = j - i := by
 unfold Builtin.Slice.slicePlaces
 have h1 : (1 : Int) > 0 := by (first | lia | omega)
 simp only [h1, if_true, Int.ediv_one]
 split <;> (first | lia | omega)
theorem slicePart_ {v : Value} {o : Option Int} {Q : Option Int -> Shared -> Prop} (p : IsPart v o) (h : Q o s) : wpAny (model prog w) A (Builtin.Slice.slicePartIndex v) Q E s := by
 cases p with
 | none => exact slicePart_none h
 | int i t => exact slicePart_int h
theorem sliceApplied_gen {sl : Addr} {vl vu : Value} {lo hi : Option Int} {n : Nat} {Q : Int × Int × Nat -> Shared -> Prop} (hs : s.heap.IsSliceOf sl vl vu .none) (pl : IsPart vl lo) (pu : IsPart vu hi)
  (h : Q (((sIx n 0 lo : Nat) : Int), 1, sIx n n hi - sIx n 0 lo) s) : wpAny (model prog w) A (Builtin.Slice.sliceApplied (.ref sl) (pure (n : Int))) Q E s := by
 obtain ⟨os, hos, hcs, hds⟩ := id hs
 unfold Builtin.Slice.sliceApplied Builtin.Slice.sliceFields
 refine wpAny_bind (wpAny_bind (wpAny_field hos hds (x := vl) rfl (wpAny_bind (wpAny_field hos hds (x := vu) rfl (wpAny_bind (wpAny_field hos hds (x := .none) rfl (wpAny_pure ?_)))))))
 refine wpAny_bind (slicePart_none ?_)
 show wpAny _ _ (if ((1 : Int) == 0) = true then _ else _) _ _ s
 rw [if_neg (by decide)]
 refine wpAny_bind (slicePart_ pl (wpAny_bind (slicePart_ pu (wpAny_bind (wpAny_pure ?_)))))
 show wpAny _ _ (match Builtin.Slice.sliceAdjust lo hi 1 (n : Int) with | (lo, hi) => pure (lo, (1 : Int), Builtin.Slice.slicePlaces lo hi 1)) _ _ s
 rw [adjust_gen lo hi n]
 show wpAny _ _ (pure (((sIx n 0 lo : Nat) : Int), (1 : Int), Builtin.Slice.slicePlaces ((sIx n 0 lo : Nat) : Int) ((sIx n n hi : Nat) : Int) 1)) _ _ s
 rw [places_gen]
 exact wpAny_pure h
theorem pick_gen (xs : Array Value) (i k : Nat) : ((List.range k).filterMap fun (m : Nat) => xs[((i : Int) + (m : Int) * 1).toNat]?).toArray = ((xs.toList.drop i).take k).toArray := by
 have e : (fun (m : Nat) => xs[((i : Int) + (m : Int) * 1).toNat]?) = fun m => xs[i + m]? := by
  funext m
  have : ((i : Int) + (m : Int) * 1).toNat = i + m := by (first | lia | omega)
  rw [this]
 rw [e]
 have := pick_run xs i k
 rw [List.filterMap_map] at this
 have e2 : ((fun x => xs[x]?) ∘ fun x => i + x) = fun m => xs[i + m]? := rfl
 rw [e2] at this
 rw [this]
theorem getItem_tuple_cut {t sl : Addr} {items : Array Value} {vl vu : Value} {lo hi : Option Int} {Q : Value -> Shared -> Prop} (ht : IsTup s.heap t items) (hs : s.heap.IsSliceOf sl vl vu .none) (pl : IsPart vl lo) (pu : IsPart vu hi)
  (hw : ¬ (sIx items.size 0 lo = 0 /\ sIx items.size items.size hi = items.size))
  (h : Q (.ref s.heap.objs.size) { s with heap := s.heap.push { cls := .type "tuple", data := .seq ((items.toList.drop (sIx items.size 0 lo)).take (sIx items.size items.size hi - sIx items.size 0 lo)).toArray } })
  (hsz : items.size <= sizeLine) : wpAny (model prog w) A (getItem (.ref t) (.ref sl)) Q E s := by
 have htake : sizeOk (.seq ((items.toList.drop (sIx items.size 0 lo)).take (sIx items.size items.size hi - sIx items.size 0 lo)).toArray) := by
  show ((items.toList.drop (sIx items.size 0 lo)).take (sIx items.size items.size hi - sIx items.size 0 lo)).toArray.size <= sizeLine
  rw [List.size_toArray, List.length_take, List.length_drop, Array.length_toList]
  (first | lia | omega)
 have hj : sIx items.size items.size hi <= items.size := sIx_le _ _ (Nat.le_refl _) hi
 obtain ⟨os, hos, hcs, hds⟩ := id hs
 have hTs : s.TypeIs (.ref sl) "slice" := ⟨os, hos, hcs⟩
 unfold getItem
 try with_reducible refine wpAny_holding ?_
 first | refine wpAny_bind (wpAny_pure ?_) | skip
 refine wpAny_bind (wpAny_sequenceKey ht.typeIs (by decide) ?_)
 refine wpAny_bind (wpAny_callSpecial?_slot (name := Str.ofString "__getitem__") ht.typeIs PyProof.Rows.slot_tuple_getitem
  (wpAny_call_entry PyProof.Rows.slot_tuple_getitem ht.typeIs entry_tuple_getitem ?_ (args_tuple_getitem _ _)))
 show wpAny _ _ (Builtin.Tuple.tupleItemsOf (.ref t) >>= _) _ _ s
 refine wpAny_bind (tupleItemsOf_ ht ?_)
 refine wpAny_bind (wpAny_typeOf hTs ?_)
 rw [if_pos (by decide)]
 refine wpAny_bind (sliceApplied_gen hs pl pu ?_)
 have hno : ¬ ((((sIx items.size 0 lo : Nat) : Int) == 0 && (1 : Int) == 1 && (sIx items.size items.size hi - sIx items.size 0 lo) == items.size) = true) := by
  intro q
  rw [Bool.and_eq_true, Bool.and_eq_true] at q
  have q1 : ((sIx items.size 0 lo : Nat) : Int) = 0 := eq_of_beq q.1.1
  have q2 : sIx items.size items.size hi - sIx items.size 0 lo = items.size := eq_of_beq q.2
  exact hw ⟨by (first | lia | omega), by (first | lia | omega)⟩
 show wpAny _ _ (if (((sIx items.size 0 lo : Nat) : Int) == 0 && (1 : Int) == 1 && (sIx items.size items.size hi - sIx items.size 0 lo) == items.size) = true then _ else _) _ _ s
 rw [if_neg hno, pick_gen]
 first
  | exact wpAny_bind (m := Builtin.Tuple.tupleExact _) (wpAny_newObj_type (wpAny_pure ⟨_, rfl, wpAny_pure h⟩) htake)
  | exact wpAny_bind (m := Builtin.Tuple.tupleExact _) (wpAny_newObj_type (wpAny_bind (wpAny_pure (wpAny_pure ⟨_, rfl, wpAny_pure h⟩))) htake)
  | exact wpAny_bind (wpAny_bind (m := Builtin.Tuple.tupleExact _) (wpAny_newObj_type (wpAny_pure (wpAny_pure ⟨_, rfl, wpAny_pure h⟩)) htake))
  | exact wpAny_bind (wpAny_bind (m := Builtin.Tuple.tupleExact _) (wpAny_newObj_type (wpAny_pure ⟨_, rfl, wpAny_pure h⟩) htake))
end
end HT
namespace L2
open PySem PySem.Spec PyProof.Rows
noncomputable abbrev TO := St -> Hp -> (Option Int -> Hp -> Prop) -> Prop
noncomputable def PO (X : Cx) (e : Option Expr) (t : TO) : Prop :=
 ∀ (pins : List (Addr × Obj)) (s : Shared) (σ : St) (H : Hp) (Q : Option Int -> Hp -> Prop), Inv X pins σ H s -> t σ H Q ->
  wpAny (model X.prog X.w) X.A (evalPart e X.env) (fun u s' => ∃ o H', Inv X pins σ H' s' /\ IsPart u o /\ Q o H') X.xe s
noncomputable def tNoPart : TO := fun _ H Q => Q none H
noncomputable def tPart (t : TE) : TO := fun σ H Q => t σ H fun x H1 => ∃ i, x = .int i /\ Q (some i) H1
theorem intsAre_of {ns : List Int} : ∀ {us : List Value}, Vals (ns.map V.int) us -> IntsAre us ns := by
 induction ns with
 | nil => intro us r; rw [List.map_nil] at r; cases r; exact .nil
 | cons n ns ih =>
  intro us r
  rw [List.map_cons] at r
  cases r with
  | cons r1 r2 =>
   obtain ⟨t, e⟩ := r1
   subst e
   exact .cons n t (ih r2)
section
variable {X : Cx} {e : Expr} {te : TE} {lo hi : Option Expr} {tl th : TO} {pos p2 : Pos}
theorem po_none : PO X none tNoPart := by
 intro pins s σ H Q I h
 rw [evalPart_none]
 exact wpAny_pure ⟨none, H, I, .none, h⟩
theorem po_some (h : PE X e te) : PO X (some e) (tPart te) := by
 intro pins s σ H Q I hw
 rw [evalPart_some]
 refine thn (h pins s σ H _ I hw) fun u s1 zq => ?_
 obtain ⟨x, H1, I1, r1, q1⟩ := zq
 obtain ⟨i, rfl, q⟩ := q1
 obtain ⟨t, rfl⟩ := r1
 exact ⟨some i, H1, I1, .int i t, q⟩
noncomputable def SlR (X : Cx) (r : V -> Option Int -> Option Int -> Hp -> VK -> Prop) : Prop :=
 ∀ (pins : List (Addr × Obj)) (s : Shared) (σ : St) (H : Hp) (x : V) (v vl vu : Value) (lo hi : Option Int) (sl : Addr) (Q : VK), Inv X pins σ H s -> RelV x v -> s.heap.IsSliceOf sl vl vu .none -> IsPart vl lo -> IsPart vu hi -> r x lo hi H Q ->
  ∃ T id, typeLookup (.type T) "__getitem__" = pure (some (.builtin id)) /\ s.TypeIs v T /\ wpAny (model X.prog X.w) X.A (getItem v (.ref sl)) (EP X pins σ Q) X.xe s
noncomputable def tSl (r : V -> Option Int -> Option Int -> Hp -> VK -> Prop) (te : TE) (tl th : TO) : TE := fun σ H Q => te σ H fun x H1 => tl σ H1 fun l H2 => th σ H2 fun u H3 => r x l u H3 Q
theorem pe_slice {r : V -> Option Int -> Option Int -> Hp -> VK -> Prop} (hr : SlR X r) (he : PE X e te) (hl : PO X lo tl) (hu : PO X hi th) : PE X (.Subscript e (.Slice lo hi none p2) pos) (tSl r te tl th) := by
 intro pins s σ H Q I h
 refine Subscript_ (thn (he pins s σ H _ I h) fun v s1 zq => ?_)
 obtain ⟨x, H1, I1, r1, q1⟩ := zq
 refine wpAny_Slice (thn (hl pins s1 σ H1 _ I1 q1) fun vl s2 ⟨l, H2, I2, pl, q2⟩ => thn (hu pins s2 σ H2 _ I2 q2) fun vu s3 ⟨u, H3, I3, pu, q3⟩ => ?_)
 rw [evalPart_none]
 refine wpAny_pure ?_
 have I4 : Inv X pins σ H3 { s3 with heap := s3.heap.push { cls := .type "slice", data := .fields #[vl, vu, .none] } } := I3.kept (t' := s3.toks) fun b ob q => Heap.get?_push_of_some _ q
 obtain ⟨T, id, hT, ht, hg⟩ := hr pins { s3 with heap := s3.heap.push { cls := .type "slice", data := .fields #[vl, vu, .none] } } σ H3 x v vl vu l u s3.heap.objs.size Q I4 r1 (Heap.IsSliceOf.new ..) pl pu q3
 show wpAny (model X.prog X.w) X.A (subscriptTail e (.Slice lo hi none p2) v (.ref s3.heap.objs.size)) (EP X pins σ Q) X.xe { s3 with heap := s3.heap.push { cls := .type "slice", data := .fields #[vl, vu, .none] } }
 exact tail_any (ops := [.ref s3.heap.objs.size, v]) ht hT hg (by with_unfolding_all rfl)
noncomputable def cutV (xs : List V) (lo hi : Option Int) : List V := (xs.drop (HT.sIx xs.length 0 lo)).take (HT.sIx xs.length xs.length hi - HT.sIx xs.length 0 lo)
theorem cutV_length (xs : List V) (lo hi : Option Int) : (cutV xs lo hi).length <= xs.length := by
 unfold cutV
 rw [List.length_take, List.length_drop]
 (first | lia | omega)
noncomputable def rSlT (K : PySem.W.Frag) : V -> Option Int -> Option Int -> Hp -> VK -> Prop := fun x lo hi H Q => ∃ a xs, x = .ref a /\ SqT K H a xs /\
 ¬ (HT.sIx xs.length 0 lo = 0 /\ HT.sIx xs.length xs.length hi = xs.length) /\ ∀ p, H p = none -> Q (.ref p) (upd H p (.tup (cutV xs lo hi)))
theorem sl_tup : SlR X (rSlT X.K) := by
 intro pins s σ H x v vl vu lo hi sl Q I rx hs pl pu h
 obtain ⟨a, xs, rfl, hx, hw, q⟩ := h
 cases rx
 obtain ⟨its, r, ht, hz⟩ := I.tuple hx
 have hlen : its.toArray.size = xs.length := by rw [List.size_toArray]; exact r.length.symm
 refine ⟨"tuple", _, PyProof.Rows.slot_tuple_getitem.lookup, ht.typeIs, ?_⟩
 refine HT.getItem_tuple_cut ht hs pl pu (by rw [hlen]; exact hw) ?_ (by rw [hlen]; exact hz)
 rw [hlen]
 refine ⟨.ref s.heap.objs.size, _, I.laid (t' := s.toks) (o := .tup (cutV xs lo hi)) (fun b ob q => Heap.get?_push_of_some _ q) (Nat.le_refl _) ?_, rfl, q _ (I.hok.fresh (Nat.le_refl _))⟩
 exact ⟨Nat.le_trans (cutV_length xs lo hi) hz, _, (r.drop (HT.sIx xs.length 0 lo)).take (HT.sIx xs.length xs.length hi - HT.sIx xs.length 0 lo), PTup.new⟩
noncomputable def rLtT (K : PySem.W.Frag) : R2 := fun x y H Q => ∃ a b ns ms, x = .ref a /\ y = .ref b /\ SqT K H a (ns.map V.int) /\ SqT K H b (ms.map V.int) /\ Q (.bl (HT.lexLt ns ms)) H
theorem op_ltT (hu : X.A.units < cLine) : OpR X (compareOp .Lt) (rLtT X.K) := by
 intro pins s σ H x y v u Q I rx ry h
 obtain ⟨a, b, ns, ms, rfl, rfl, ha, hb, q⟩ := h
 cases rx
 cases ry
 obtain ⟨its, r1, p1, _⟩ := I.tuple ha
 obtain ⟨its2, r2, p2, _⟩ := I.tuple hb
 have i1 : IntsAre its.toArray.toList ns := intsAre_of r1
 have i2 : IntsAre its2.toArray.toList ms := intsAre_of r2
 exact HT.lt_tupInts p1 p2 i1 i2 hu ⟨.bl (HT.lexLt ns ms), H, I, rfl, q⟩
noncomputable def rCatT (K : PySem.W.Frag) : R2 := fun x y H Q => ∃ a b xs ys, x = .ref a /\ y = .ref b /\ SqT K H a xs /\ SqT K H b ys /\ xs ≠ [] /\ xs.length + ys.length <= sizeLine /\
 (ys = [] -> Q (.ref a) H) /\ (ys ≠ [] -> ∀ p, H p = none -> Q (.ref p) (upd H p (.tup (xs ++ ys))))
theorem Vals.nil_iff {xs : List V} {us : List Value} (r : Vals xs us) : us = [] ↔ xs = [] := by
 cases r with
 | nil => simp
 | cons _ _ => simp
theorem op_catT : OpR X (binaryOp .Add) (rCatT X.K) := by
 intro pins s σ H x y v u Q I rx ry h
 obtain ⟨a, b, xs, ys, rfl, rfl, ha, hb, hx, hz, q1, q2⟩ := h
 cases rx
 cases ry
 obtain ⟨its, r1, p1, _⟩ := I.tuple ha
 obtain ⟨its2, r2, p2, _⟩ := I.tuple hb
 refine HT.cat_tup p1 p2 (fun z => hx (r1.nil_iff.mp z)) (fun z => ⟨.ref a, H, I, rfl, q1 (r2.nil_iff.mp z)⟩) (fun z => ?_) (by rw [<- r1.length, <- r2.length]; exact hz)
 refine ⟨.ref s.heap.objs.size, _, I.laid (t' := s.toks) (o := .tup (xs ++ ys)) (fun b ob q => Heap.get?_push_of_some _ q) (Nat.le_refl _) ?_, rfl, q2 (fun w => z (r2.nil_iff.mpr w)) _ (I.hok.fresh (Nat.le_refl _))⟩
 exact ⟨by rw [List.length_append]; exact hz, _, r1.append r2, PTup.new⟩
end
end L2
namespace L2
open PySem PySem.Spec PyProof.Rows
noncomputable def ixN (n : Nat) (i : Int) : Option Nat := if 0 <= i then (if i < n then some i.toNat else none) else if -(n : Int) <= i then some (i + n).toNat else none
noncomputable def atI {α : Type} (xs : List α) (i : Int) : Option α := (ixN xs.length i).bind fun j => xs[j]?
theorem ixN_seq {n : Nat} {i : Int} {j : Nat} (h : ixN n i = some j) : seqIndex? i n = some j /\ j < n /\ -(n : Int) <= i /\ i < n := by
 unfold ixN at h
 by_cases h0 : 0 <= i
 ·rw [if_pos h0] at h
  by_cases h1 : i < n
  ·rw [if_pos h1] at h
   have e : i.toNat = j := Option.some.inj h
   exact ⟨by rw [seqIndex_of h0 h1, e], by (first | lia | omega), by (first | lia | omega), h1⟩
  ·rw [if_neg h1] at h; cases h
 ·rw [if_neg h0] at h
  by_cases h1 : -(n : Int) <= i
  ·rw [if_pos h1] at h
   have e : (i + n).toNat = j := Option.some.inj h
   exact ⟨by rw [seqIndex_neg (by (first | lia | omega)) h1, e], by (first | lia | omega), h1, by (first | lia | omega)⟩
  ·rw [if_neg h1] at h; cases h
theorem atI_get {α : Type} {xs : List α} {i : Int} {v : α} (h : atI xs i = some v) : ∃ j, seqIndex? i xs.length = some j /\ xs[j]? = some v /\ j < xs.length /\ -(xs.length : Int) <= i /\ i < xs.length := by
 unfold atI at h
 cases e : ixN xs.length i with
 | none => rw [e] at h; cases h
 | some j =>
  rw [e] at h
  obtain ⟨h1, h2, h3, h4⟩ := ixN_seq e
  exact ⟨j, h1, h, h2, h3, h4⟩
theorem atI_nat {α : Type} {xs : List α} {j : Nat} {v : α} (h : xs[j]? = some v) : atI xs (j : Int) = some v := by
 have hj : j < xs.length := (List.getElem?_eq_some_iff.mp h).1
 have e : ixN xs.length (j : Int) = some j := by
  unfold ixN
  rw [if_pos (by (first | lia | omega)), if_pos (by (first | lia | omega))]; simp
 unfold atI; rw [e]; exact h
noncomputable def PlainIx (b : Expr) : Prop := ∀ o i, subscripted b false o i = operate [o, i] (getItem o i)
noncomputable def IxR (X : Cx) (r : R2) : Prop :=
 ∀ (value slice : Expr) (pins : List (Addr × Obj)) (s : Shared) (σ : St) (H : Hp) (x y : V) (v u : Value) (Q : VK), Inv X pins σ H s -> RelV x v -> RelV y u -> r x y H Q ->
  subscripted slice false v u = operate [v, u] (getItem v u) -> wpAny (model X.prog X.w) X.A (subscriptTail value slice v u) (EP X pins σ Q) X.xe s
noncomputable def MtR (X : Cx) (id : String) (r : V -> List V -> Hp -> VK -> Prop) : Prop :=
 ∀ (pins : List (Addr × Obj)) (s : Shared) (σ : St) (H : Hp) (x : V) (xs : List V) (v : Value) (us : List Value) (Q : VK), Inv X pins σ H s -> RelV x v -> Vals xs us -> r x xs H Q ->
  wpAny (model X.prog X.w) X.A (call (.builtin id) (v :: us)) (EP X pins σ Q) X.xe s
section
variable {X : Cx} {a b : Expr} {ta tb : TE} {pos : Pos}
theorem pe_ix {r : R2} (hr : IxR X r) (ha : PE X a ta) (hb : PE X b tb) (hs : PlainIx b) : PE X (.Subscript a b pos) (tOp r ta tb) := by
 intro pins s σ H Q I h
 exact Subscript_ (binT ha hb I h fun v u s2 x y H2 I2 rx ry q => hr a b pins s2 σ H2 x y v u Q I2 rx ry q (hs _ _))
noncomputable def rIxL (K : PySem.W.Frag) : R2 := fun x y H Q => ∃ p xs i v, x = .ref p /\ y = .int i /\ SqL K H p xs /\ atI xs i = some v /\ Q v H
noncomputable def rIxT (K : PySem.W.Frag) : R2 := fun x y H Q => ∃ p xs i v, x = .ref p /\ y = .int i /\ SqT K H p xs /\ atI xs i = some v /\ Q v H
theorem ix_list : IxR X (rIxL X.K) := by
 intro value slice pins s σ H x y v u Q I rx ry h hs
 obtain ⟨p, xs, i, z, rfl, rfl, hq, he, q⟩ := h
 cases rx
 obtain ⟨t, rfl⟩ := ry
 obtain ⟨its, r, pl, hz⟩ := I.list hq
 obtain ⟨j, h1, h2, h3, h4, h5⟩ := atI_get he
 obtain ⟨w, ew, rw'⟩ := r.get h2
 have hl := r.length
 have hn := line63
 have fin : EP X pins σ Q w s := ⟨z, H, I, rw', q⟩
 by_cases h0 : 0 <= i
 ·have hj : i.toNat = j := by
   rw [seqIndex_of h0 h5] at h1
   exact Option.some.inj h1
  exact item_listR pl.isList h0 (by (first | lia | omega)) (by rw [hj]; simpa using ew) fin hs
 ·have hj : (i + (its.toArray.size : Int)).toNat = j := by
   rw [seqIndex_neg (by (first | lia | omega)) h4] at h1
   rw [List.size_toArray, <- hl]
   exact Option.some.inj h1
  exact subscriptTail_builtinR (x := w) pl.isList.typeIs slot_list_getitem.lookup
   (wpAny_getItem_list_neg (Q := fun r s' => r = w /\ EP X pins σ Q r s') pl.isList (by (first | lia | omega)) (by rw [List.size_toArray] <;> (first | lia | omega)) (by (first | lia | omega)) (by rw [hj]; simpa using ew) ⟨rfl, fin⟩) hs
theorem ix_tup : IxR X (rIxT X.K) := by
 intro value slice pins s σ H x y v u Q I rx ry h hs
 obtain ⟨p, xs, i, z, rfl, rfl, hq, he, q⟩ := h
 cases rx
 obtain ⟨t, rfl⟩ := ry
 obtain ⟨its, r, pl, hz⟩ := I.tuple hq
 obtain ⟨j, h1, h2, h3, h4, h5⟩ := atI_get he
 obtain ⟨w, ew, rw'⟩ := r.get h2
 have hl := r.length
 have hn := line63
 have fin : EP X pins σ Q w s := ⟨z, H, I, rw', q⟩
 exact subscriptTail_builtinR (x := w) pl.typeIs slot_tuple_getitem.lookup
  (getItem_tuple (j := j) (Q := fun r s' => r = w /\ EP X pins σ Q r s') pl (by (first | lia | omega)) (by (first | lia | omega)) (by rw [List.size_toArray, <- hl]; exact h1) (by simpa using ew) ⟨rfl, fin⟩) hs
theorem mapSeq_set (its : List Value) (n j : Nat) (u : Value) : Obj.mapSeq (·.setIfInBounds j u) { cls := .type "list", data := .seq its.toArray n } = { cls := .type "list", data := .seq (its.set j u).toArray n } := by
 simp [Obj.mapSeq]
theorem Inv.lst {pins : List (Addr × Obj)} {σ : St} {H : Hp} {s : Shared} {p : Addr} {xs : List V} (I : Inv X pins σ H s) (h : H p = some (.lst xs)) :
  ∃ (its : List Value) (n : Nat), Vals xs its /\ s.heap.get? p = some { cls := .type "list", data := .seq its.toArray n } /\ xs.length <= sizeLine := by
 obtain ⟨z, its, n, r, e⟩ := I.hok p _ h
 exact ⟨its, n, r, e, z⟩
theorem Inv.lstUpd {pins : List (Addr × Obj)} {σ : St} {H : Hp} {s : Shared} {p : Addr} {xs ys : List V} {its its' : List Value} {n n' : Nat} {f : Obj -> Obj} (I : Inv X pins σ H s) (h : H p = some (.lst xs))
  (ho : s.heap.get? p = some { cls := .type "list", data := .seq its.toArray n }) (hf : f { cls := .type "list", data := .seq its.toArray n } = { cls := .type "list", data := .seq its'.toArray n' }) (r : Vals ys its') (hz : ys.length <= sizeLine) (t : Nat) :
  Inv X pins σ (upd H p (.lst ys)) { s with heap := s.heap.update p f, toks := t } := by
 have e : (s.heap.update p f).get? p = some { cls := .type "list", data := .seq its'.toArray n' } := by
  rw [Heap.get?_update_self f ho (by rw [hf] <;> rfl), hf]
 refine I.write (x := p) (e := p) (by rw [h]; trivial) (.inl rfl) (fun b u hb q => (Heap.get?_update_other _ _ (Ne.symm hb)).trans q) ⟨_, e⟩ ?_
 exact ⟨hz, its', n', r, e⟩
noncomputable def rSetL : V -> V -> V -> Hp -> (Hp -> Prop) -> Prop := fun o i v H Q => ∃ p xs k j, o = .ref p /\ i = .int k /\ H p = some (.lst xs) /\ ixN xs.length k = some j /\ Q (upd H p (.lst (xs.set j v)))
theorem set_list : PSet X rSetL := by
 intro pins s σ H o i v ov iv u Q I ro ri rv h
 obtain ⟨p, xs, k, j, rfl, rfl, hp, hj, q⟩ := h
 cases ro
 obtain ⟨t, rfl⟩ := ri
 obtain ⟨its, n, r, ho, hz⟩ := I.lst hp
 obtain ⟨h1, h2, h3, h4⟩ := ixN_seq hj
 have hl := r.length
 have hn := line63
 have I' : Inv X pins σ (upd H p (.lst (xs.set j v))) { s with heap := s.heap.update p (Obj.mapSeq (·.setIfInBounds j u)) } :=
  I.lstUpd hp ho (mapSeq_set its n j u) (r.set rv j) (by rw [List.length_set]; exact hz) s.toks
 by_cases h0 : 0 <= k
 ·have hk : k.toNat = j := by
   rw [seqIndex_of h0 h4] at h1
   exact Option.some.inj h1
  exact PySem.W.ki_setAt ho h0 (by (first | lia | omega)) (by rw [List.size_toArray, <- hl]; exact h4) (by rw [hk]; exact ⟨_, I', q⟩)
 ·have hk : (k + (its.toArray.size : Int)).toNat = j := by
   rw [seqIndex_neg (by (first | lia | omega)) h3] at h1
   rw [List.size_toArray, <- hl]
   exact Option.some.inj h1
  exact PySem.W.ki_setBack ho (by (first | lia | omega)) (by rw [List.size_toArray, <- hl]; exact h3) (by (first | lia | omega)) (by rw [hk]; exact ⟨_, I', q⟩)
theorem slice_bounds (lo hi : Option Int) (n : Nat) : (sliceBounds lo hi none n).1 = ((HT.sIx n 0 lo : Nat) : Int) /\ (sliceBounds lo hi none n).2.1 = ((HT.sIx n n hi : Nat) : Int) /\ (sliceBounds lo hi none n).2.2 = 1 := by
 refine ⟨?_, ?_, rfl⟩
 ·cases lo with
  | none => simp [sliceBounds, HT.sIx]
  | some i =>
   simp only [sliceBounds, HT.sIx, Option.getD_none, show (1 : Int) > 0 by decide, if_true]
   by_cases h : i < 0
   ·simp only [h, if_true] <;> (first | lia | omega)
   ·simp only [h, if_false] <;> (first | lia | omega)
 ·cases hi with
  | none => simp [sliceBounds, HT.sIx]
  | some i =>
   simp only [sliceBounds, HT.sIx, Option.getD_none, show (1 : Int) > 0 by decide, if_true]
   by_cases h : i < 0
   ·simp only [h, if_true] <;> (first | lia | omega)
   ·simp only [h, if_false] <;> (first | lia | omega)
theorem slicePick_cut (its : List Value) (lo hi : Option Int) : slicePick its.toArray lo hi none = ((its.drop (HT.sIx its.length 0 lo)).take (HT.sIx its.length its.length hi - HT.sIx its.length 0 lo)).toArray := by
 obtain ⟨h1, h2, h3⟩ := slice_bounds lo hi its.toArray.size
 unfold slicePick
 rw [h1, h2, h3]
 simp only [sliceRange_one, pick_run, List.size_toArray] <;> rfl
noncomputable def rSlL (K : PySem.W.Frag) : V -> Option Int -> Option Int -> Hp -> VK -> Prop := fun x lo hi H Q => ∃ a xs, x = .ref a /\ SqL K H a xs /\ ∀ p, H p = none -> Q (.ref p) (upd H p (.lst (cutV xs lo hi)))
theorem sl_list : SlR X (rSlL X.K) := by
 intro pins s σ H x v vl vu lo hi sl Q I rx hs pl pu h
 obtain ⟨a, xs, rfl, hx, q⟩ := h
 cases rx
 obtain ⟨its, r, ht, hz⟩ := I.list hx
 have hlen := r.length
 refine ⟨"list", _, slot_list_getitem.lookup, ht.isList.typeIs, ?_⟩
 refine wpAny_getItem_list_slice ht.isList hs pl pu .none (by simp) ?_ (by rw [List.size_toArray] <;> (first | lia | omega))
 rw [slicePick_cut, <- hlen]
 refine ⟨.ref s.heap.objs.size, _, I.laid (t' := s.toks) (o := .lst (cutV xs lo hi)) (fun b ob q => Heap.get?_push_of_some _ q) (Nat.le_refl _) ?_, rfl, q _ (I.hok.fresh (Nat.le_refl _))⟩
 exact ⟨Nat.le_trans (cutV_length xs lo hi) hz, _, 0, (r.drop (HT.sIx xs.length 0 lo)).take (HT.sIx xs.length xs.length hi - HT.sIx xs.length 0 lo), Heap.get?_push_size _ rfl⟩
noncomputable def flatV : V -> Bool
 | .non => true
 | .bl _ => true
 | .int _ => true
 | .str _ => true
 | _ => false
noncomputable def eqV : V -> V -> Bool
 | .non, .non => true
 | .bl a, .bl b => a == b
 | .bl a, .int b => (if a then 1 else 0) == b
 | .int a, .bl b => a == (if b then 1 else 0)
 | .int a, .int b => a == b
 | .str a, .str b => a == b
 | _, _ => false
theorem eqAt_V {A : Around} {s : Shared} {y x : V} {u v : Value} (ry : RelV y u) (rx : RelV x v) (fy : flatV y = true) (fx : flatV x = true) : SeqAt.EqAt A s u v (eqV y x) := by
 cases y with
 | non =>
  cases ry
  cases x with
  | non => cases rx; exact SeqAt.EqAt.same _
  | bl b => cases rx; exact SeqAt.EqAt.none_bool b
  | int b => obtain ⟨t, rfl⟩ := rx; exact SeqAt.EqAt.none_int b t
  | str b => obtain ⟨t, rfl⟩ := rx; exact SeqAt.EqAt.none_str b t
  | _ => exact absurd (show false = true from fx) Bool.false_ne_true
 | bl a =>
  cases ry
  cases x with
  | non => cases rx; exact SeqAt.EqAt.bool_none a
  | bl b => cases rx; exact SeqAt.EqAt.bool_bool a b
  | int b => obtain ⟨t, rfl⟩ := rx; exact SeqAt.EqAt.bool_int a b t
  | str b => obtain ⟨t, rfl⟩ := rx; exact SeqAt.EqAt.bool_str a b t
  | _ => exact absurd (show false = true from fx) Bool.false_ne_true
 | int a =>
  obtain ⟨t', rfl⟩ := ry
  cases x with
  | non => cases rx; exact SeqAt.EqAt.int_none a t'
  | bl b => cases rx; exact SeqAt.EqAt.int_bool a t' b
  | int b => obtain ⟨t, rfl⟩ := rx; exact SeqAt.EqAt.int_int a t' b t
  | str b => obtain ⟨t, rfl⟩ := rx; exact SeqAt.EqAt.int_str a t' b t
  | _ => exact absurd (show false = true from fx) Bool.false_ne_true
 | str a =>
  obtain ⟨t', rfl⟩ := ry
  cases x with
  | non => cases rx; exact SeqAt.EqAt.str_none a t'
  | bl b => cases rx; exact SeqAt.EqAt.str_bool a t' b
  | int b => obtain ⟨t, rfl⟩ := rx; exact SeqAt.EqAt.str_int a t' b t
  | str b => obtain ⟨t, rfl⟩ := rx; exact SeqAt.EqAt.str_str a t' b t
  | _ => exact absurd (show false = true from fx) Bool.false_ne_true
 | _ => exact absurd (show false = true from fy) Bool.false_ne_true
noncomputable def eqU (x : V) (u : Value) : Bool := match u with
 | .none => eqV .non x
 | .bool b => eqV (.bl b) x
 | .int i _ => eqV (.int i) x
 | .str z _ => eqV (.str z) x
 | _ => false
theorem eqU_of {x y : V} {u : Value} (r : RelV y u) (f : flatV y = true) : eqU x u = eqV y x := by
 cases y with
 | non => cases r; rfl
 | bl b => cases r; rfl
 | int i => obtain ⟨t, rfl⟩ := r; rfl
 | str z => obtain ⟨t, rfl⟩ := r; rfl
 | _ => exact absurd (show false = true from f) Bool.false_ne_true
theorem any_eqU {x : V} : ∀ {xs : List V} {us : List Value}, Vals xs us -> xs.all flatV = true -> us.any (eqU x) = xs.any fun y => eqV y x
 | _, _, .nil, _ => rfl
 | y :: xs, u :: us, .cons r t, f => by
  rw [List.all_cons, Bool.and_eq_true] at f
  rw [List.any_cons, List.any_cons, eqU_of r f.1, any_eqU t f.2]
theorem mem_eqAt {A : Around} {s : Shared} {x : V} {v : Value} (rx : RelV x v) (fx : flatV x = true) : ∀ {xs : List V} {us : List Value}, Vals xs us -> xs.all flatV = true -> ∀ u ∈ us, SeqAt.EqAt A s u v (eqU x u)
 | _, _, .nil, _ => fun u hu => by cases hu
 | y :: xs, u :: us, .cons r t, f => fun u' hu => by
  rw [List.all_cons, Bool.and_eq_true] at f
  rcases List.mem_cons.mp hu with rfl | hu
  ·rw [eqU_of r f.1]; exact eqAt_V r rx f.1 fx
  ·exact mem_eqAt rx fx t f.2 u' hu
noncomputable def inV (x : V) (xs : List V) : Bool := xs.any fun y => eqV y x
noncomputable def rIn (K : PySem.W.Frag) (neg : Bool) : R2 := fun x y H Q => ∃ p xs, y = .ref p /\ (SqL K H p xs ∨ SqT K H p xs) /\ flatV x = true /\ xs.all flatV = true /\ Q (.bl (if neg then !inV x xs else inV x xs)) H
theorem op_notIn_seq : OpR X (compareOp .NotIn) (rIn X.K true) := by
 intro pins s σ H x y v u Q I rx ry h
 obtain ⟨p, xs, rfl, hq, fx, fs, q⟩ := h
 cases ry
 rcases hq with hq | hq
 ·obtain ⟨its, r, pl, hz⟩ := I.list hq
  refine SeqAt.notIn_listAt (eqU x) pl.isList (fun w hw => mem_eqAt rx fx r fs w (by simpa using hw)) ⟨.bl _, H, I, rfl, ?_⟩
  rw [show its.toArray.any (eqU x) = its.any (eqU x) by simp, any_eqU r fs]
  exact q
 ·obtain ⟨its, r, pl, hz⟩ := I.tuple hq
  refine SeqAt.notIn_tupleAt (eqU x) pl (fun w hw => mem_eqAt rx fx r fs w (by simpa using hw)) ⟨.bl _, H, I, rfl, ?_⟩
  rw [show its.toArray.any (eqU x) = its.any (eqU x) by simp, any_eqU r fs]
  exact q
theorem call_len_seq : CallR X (.builtin "len") (fun xs H Q => ∃ p ys, xs = [.ref p] /\ (SqL X.K H p ys ∨ SqT X.K H p ys) /\ Q (.int ys.length) H) := by
 intro pins s σ H xs us Q I r h
 obtain ⟨p, ys, rfl, hq, q⟩ := h
 obtain ⟨u, rfl, rx⟩ := vals1 r
 cases rx
 have hn := line63
 rcases hq with hq | hq
 ·obtain ⟨its, r', pl, hz⟩ := I.list hq
  have hlen := r'.length
  exact Calls.call_len_list pl.isList (by simp only [List.size_toArray] <;> (first | lia | omega)) ⟨.int ys.length, H, I.tok _, ⟨s.toks + 1, by rw [List.size_toArray, hlen]⟩, q⟩
 ·obtain ⟨its, r', pl, hz⟩ := I.tuple hq
  have hlen := r'.length
  exact len_tuple pl (by simp only [List.size_toArray] <;> (first | lia | omega)) ⟨.int ys.length, H, I.tok _, ⟨s.toks + 1, by rw [List.size_toArray, hlen]⟩, q⟩
theorem call_list_of : CallR X (.type "list") (fun xs H Q => ∃ p ys, xs = [.ref p] /\ (SqL X.K H p ys ∨ SqT X.K H p ys) /\ ∀ l, H l = none -> Q (.ref l) (upd H l (.lst ys))) := by
 intro pins s σ H xs us Q I r h
 obtain ⟨p, ys, rfl, hq, q⟩ := h
 obtain ⟨u, rfl, rx⟩ := vals1 r
 cases rx
 have fin : ∀ (its : List Value), Vals ys its -> ys.length <= sizeLine -> ∀ (h' : Heap) (c' : Nat), (∀ b o', s.heap.get? b = some o' -> h'.get? b = some o') ->
   h'.get? s.heap.objs.size = some { cls := .type "list", dict := none, data := .seq its.toArray c', slots := #[] } -> EP X pins σ Q (.ref s.heap.objs.size) { s with heap := h' } := fun its r' hz h' c' kp e =>
  ⟨.ref s.heap.objs.size, _, I.laid (t' := s.toks) kp (Nat.le_refl _) (show ObjOk X.prog X.w _ h' _ (.lst ys) from ⟨hz, its, c', r', e⟩), rfl, q _ (I.hok.fresh (Nat.le_refl _))⟩
 rcases hq with hq | hq
 ·obtain ⟨its, r', pl, hz⟩ := I.list hq
  have hlen := r'.length
  obtain ⟨o, ho, hc, n, hd⟩ := pl.isList
  exact call_list_seq p (.inl rfl) ho hc hd (fun h' c' kp e => fin its r' hz h' c' kp e) (by simp only [List.size_toArray] <;> (first | lia | omega))
 ·obtain ⟨its, r', pl, hz⟩ := I.tuple hq
  have hlen := r'.length
  obtain ⟨o, ho, hc, n, hd⟩ := pl
  exact call_list_seq p (.inr rfl) ho hc hd (fun h' c' kp e => fin its r' hz h' c' kp e) (by simp only [List.size_toArray] <;> (first | lia | omega))
theorem call_tuple_of : CallR X (.type "tuple") (fun xs H Q => ∃ p ys, xs = [.ref p] /\ ((SqL X.K H p ys /\ ∀ l, H l = none -> Q (.ref l) (upd H l (.tup ys))) ∨ (SqT X.K H p ys /\ Q (.ref p) H))) := by
 intro pins s σ H xs us Q I r h
 obtain ⟨p, ys, rfl, h⟩ := h
 obtain ⟨u, rfl, rx⟩ := vals1 r
 cases rx
 rcases h with ⟨hq, q⟩ | ⟨hq, q⟩
 ·obtain ⟨its, r', pl, hz⟩ := I.list hq
  have hlen := r'.length
  refine call_tuple_list pl.isList (fun h' kp => ?_) (by simp only [List.size_toArray] <;> (first | lia | omega))
  have I1 : Inv X pins σ H { s with heap := h' } := I.kept (t' := s.toks) kp
  have I2 : Inv X pins σ (upd H h'.objs.size (.tup ys)) { s with heap := h'.push { cls := .type "tuple", data := .seq its.toArray } } :=
   I1.laid (t' := s.toks) (fun b o e => Heap.get?_push_of_some _ e) (Nat.le_refl _) (show ObjOk X.prog X.w _ _ _ (.tup ys) from ⟨hz, its, r', PTup.new⟩)
  exact ⟨.ref h'.objs.size, _, I2, rfl, q _ (I1.hok.fresh (Nat.le_refl _))⟩
 ·obtain ⟨its, r', pl, hz⟩ := I.tuple hq
  exact call_tuple_same pl ⟨.ref p, H, I, rfl, q⟩
noncomputable def tyV (K : PySem.W.Frag) (T : String) (x : V) (H : Hp) : Prop := match x with
 | .str _ => T = "str"
 | .int _ => T = "int"
 | .ref p => (T = "list" /\ ∃ xs, SqL K H p xs) ∨ (T = "tuple" /\ ∃ o, K.lookup p = some o /\ o.cls = .type "tuple" /\ o.dict = none) ∨
   (T = "dict" /\ ((∃ kvs, H p = some (.dK kvs)) ∨ ∃ kvs, H p = some (.dT kvs))) ∨ (T = "set" /\ ∃ S n, H p = some (.set S n))
 | _ => False
theorem tyV_is {pins : List (Addr × Obj)} {σ : St} {H : Hp} {s : Shared} {T : String} {x : V} {v : Value} (I : Inv X pins σ H s) (r : RelV x v) (ty : tyV X.K T x H) :
  s.TypeIs v T /\ ∀ a, v = .ref a -> ∃ ob, s.heap.get? a = some ob /\ ob.dict = none := by
 cases x with
 | str z =>
  obtain ⟨t, rfl⟩ := r
  cases (show T = "str" from ty)
  exact ⟨typeIs_str s z t, fun _ e => nomatch e⟩
 | int i =>
  obtain ⟨t, rfl⟩ := r
  cases (show T = "int" from ty)
  exact ⟨typeIs_int s i t, fun _ e => nomatch e⟩
 | ref p =>
  cases r
  rcases ty with ⟨rfl, xs, hq⟩ | ⟨rfl, o, hk, hc, hd⟩ | ⟨rfl, hk⟩ | ⟨rfl, S, n, hk⟩
  ·obtain ⟨its, _, pl, _⟩ := I.list hq
   refine ⟨pl.isList.typeIs, fun a e => ?_⟩
   cases e
   obtain ⟨o, n, e, c, hd, _⟩ := pl
   exact ⟨o, e, hd⟩
  ·refine ⟨⟨o, I.kIn p o hk, hc⟩, fun a e => ?_⟩
   cases e
   exact ⟨o, I.kIn _ o hk, hd⟩
  ·have z : ∃ o, s.heap.get? p = some o /\ o.ExactDict := by
    rcases hk with ⟨kvs, hk⟩ | ⟨kvs, hk⟩
    ·obtain ⟨_, _, _, _, o, _, _, e, ex, _⟩ := I.hok p _ hk
     exact ⟨o, e, ex⟩
    ·obtain ⟨_, _, _, _, o, _, _, e, ex, _⟩ := I.hok p _ hk
     exact ⟨o, e, ex⟩
   obtain ⟨o, e, ex⟩ := z
   refine ⟨⟨o, e, ex.1⟩, fun a e2 => ?_⟩
   cases e2
   exact ⟨o, e, ex.2.1⟩
  ·obtain ⟨o, _, _, _, e, ex, _⟩ := I.hok p _ hk
   refine ⟨⟨o, e, ex.1⟩, fun a e2 => ?_⟩
   cases e2
   exact ⟨o, e, ex.2.1⟩
 | _ => exact False.elim ty
noncomputable def tBM (K : PySem.W.Frag) (T : String) (r : V -> List V -> Hp -> VK -> Prop) (to : TE) (t : TA) : TE := fun σ H Q => to σ H fun x H1 => tyV K T x H1 /\ t σ H1 fun xs H2 => r x xs H2 Q
variable {o e : Expr} {es : List Expr} {to : TE} {t : TA} {name : Str} {apos cpos : Pos} {T id : String} {r : V -> List V -> Hp -> VK -> Prop}
theorem pe_bm (pa : PlainAttrs T) (slot : Slot T name id) (hty : typeOf (.builtin id) = pure (.type "method_descriptor")) (hm : MtR X id r) (ho : PE X o to) (ha : PA X (e :: es) t)
  (hbase : attributeBase o name X.env (eval o X.env) = eval o X.env := by rfl)
  (hfew : ((backTo cpos (starEach (e :: es) X.env)).all (fun x => !x.1) && (backToKw cpos (keywordEach [] X.env)).all (fun x => x.1.isSome)
   && decide ((e :: es).length + ([] : List Keyword).length + (if ([] : List Keyword).isEmpty then 0 else 1) < 30)) = true := by rfl)
  (hline : (apos.endLine == cpos.line) = true := by rfl) (hs : starEach (e :: es) X.env = (false, eval e X.env) :: starEach es X.env := by rfl) (hplain : (backTo cpos (starEach es X.env)).any (·.1) = false := by rfl) :
  PE X (.Call (.Attribute o name apos) (e :: es) [] cpos) (tBM X.K T r to t) := by
 intro pins s σ H Q I h
 refine wpAny_Call_method_late hbase hfew hline rfl (thn (ho pins s σ H _ I h) fun v s1 zq => ?_)
 obtain ⟨x, H1, I1, r1, ty, q1⟩ := zq
 obtain ⟨h1, h2⟩ := tyV_is I1 r1 ty
 refine ⟨T, id, pa, slot, hty, h1, h2, ?_⟩
 have hA := ha cpos pins s1 σ H1 _ I1 q1
 rw [hs] at hA ⊢
 refine Calls.callWith_builtin (by show (false || (backTo cpos (starEach es X.env)).any (·.1)) = false; rw [hplain] <;> rfl) (Calls.evalArgs_plain ?_)
 exact thn hA fun us s2 ⟨vs, H2, I2, r2, q2⟩ => hm pins s2 σ H2 x vs v us Q I2 r1 r2 q2
end
end L2
namespace L2
open PySem PySem.Spec PyProof.Rows
noncomputable def MtM (X : Cx) (id : String) (r : V -> List V -> Hp -> VK -> Prop) : Prop :=
 ∀ (pins : List (Addr × Obj)) (s : Shared) (σ : St) (H : Hp) (x : V) (xs : List V) (v : Value) (us : List Value) (Q : VK), Inv X pins σ H s -> RelV x v -> Vals xs us -> r x xs H Q ->
  wpAny (model X.prog X.w) X.A (call (.builtin id) (v :: us)) (EP X pins σ Q) X.xe s
theorem Vals.one : ∀ {x : V} {us : List Value}, Vals [x] us -> ∃ u, us = [u] /\ RelV x u
 | _, _, .cons r .nil => ⟨_, rfl, r⟩
theorem Vals.two : ∀ {x y : V} {us : List Value}, Vals [x, y] us -> ∃ u v, us = [u, v] /\ RelV x u /\ RelV y v
 | _, _, _, .cons r (.cons q .nil) => ⟨_, _, rfl, r, q⟩
theorem Vals.eraseIdx : ∀ {xs : List V} {us : List Value} (i : Nat), Vals xs us -> Vals (xs.eraseIdx i) (us.eraseIdx i)
 | _, _, _, .nil => .nil
 | _, _, 0, .cons _ t => t
 | _, _, i + 1, .cons r t => .cons r (Vals.eraseIdx i t)
theorem Vals.rep {xs : List V} {us : List Value} (h : Vals xs us) : ∀ k : Nat, Vals (List.replicate k xs).flatten (List.replicate k us).flatten
 | 0 => .nil
 | k + 1 => by
  rw [List.replicate_succ, List.replicate_succ, List.flatten_cons, List.flatten_cons]
  exact Vals.append h (Vals.rep h k)
theorem len_erase {α : Type} : ∀ (l : List α) (i : Nat), (l.eraseIdx i).length <= l.length
 | [], _ => Nat.le_refl _
 | _ :: _, 0 => Nat.le_succ _
 | _ :: r, i + 1 => Nat.succ_le_succ (len_erase r i)
theorem foldl_rep (its : List Value) : ∀ (k : Nat) (acc : List Value),
  List.foldl (fun x1 x2 => x1 ++ x2) acc.toArray (List.replicate k its.toArray) = (acc ++ (List.replicate k its).flatten).toArray
 | 0, acc => by simp
 | k + 1, acc => by
  have e : acc.toArray ++ its.toArray = (acc ++ its).toArray := by simp
  have e2 : (acc ++ its) ++ (List.replicate k its).flatten = acc ++ (List.replicate (k + 1) its).flatten := by
   rw [List.replicate_succ, List.flatten_cons, List.append_assoc]
  rw [<- e2, <- foldl_rep its k (acc ++ its), <- e, List.replicate_succ, List.foldl_cons]
section
variable {X : Cx} {pins : List (Addr × Obj)} {σ : St} {H : Hp} {s : Shared} {l b : Addr} {xs ys zs : List V}
theorem Inv.lset {its its' : List Value} {n : Nat} {f : Array Value -> Array Value} {t' : Nat} (I : Inv X pins σ H s) (hH : H l = some (.lst xs))
  (e : s.heap.get? l = some { cls := .type "list", data := .seq its.toArray n }) (hf : f its.toArray = its'.toArray) (hv : Vals ys its') (hz : ys.length <= sizeLine) :
  Inv X pins σ (upd H l (.lst ys)) { s with heap := s.heap.update l (Obj.mapSeq f), toks := t' } := by
 have q := PySem.IsL.update e f
 rw [hf] at q
 refine I.write (x := l) (e := l) (by rw [hH]; exact trivial) (.inl rfl) (fun b' u hb hu => (Heap.get?_update_other s.heap (Obj.mapSeq f) (Ne.symm hb)).trans hu) ⟨_, q⟩ ?_
 exact ⟨hz, its', _, hv, q⟩
theorem Inv.lnew {its : List Value} {t' : Nat} (I : Inv X pins σ H s) (hv : Vals ys its) (hz : ys.length <= sizeLine) :
  Inv X pins σ (upd H s.heap.objs.size (.lst ys)) { s with heap := s.heap.push { cls := .type "list", data := .seq its.toArray }, toks := t' } :=
 I.laid (fun _ _ q => Heap.get?_push_of_some _ q) (Nat.le_refl _) ⟨hz, its, 0, hv, Heap.get?_push_size _ rfl⟩
theorem Inv.fresh (I : Inv X pins σ H s) : H s.heap.objs.size = none := I.hok.fresh (Nat.le_refl _)
theorem Inv.lstM (I : Inv X pins σ H s) (hH : H l = some (.lst xs)) : xs.length <= sizeLine /\ ∃ (its : List Value) (n : Nat), Vals xs its /\ xs.length = its.length /\ s.heap.get? l = some { cls := .type "list", data := .seq its.toArray n } := by
 obtain ⟨z, its, n, r, e⟩ := I.hok l _ hH
 exact ⟨z, its, n, r, r.length, e⟩
theorem notLongL {n : Nat} (h : n <= sizeLine) : Builtin.List.listTooLong n = false := by
 unfold Builtin.List.listTooLong
 exact decide_eq_false (by (first | lia | omega))
end
section
variable {X : Cx}
noncomputable def rAppend : V -> List V -> Hp -> VK -> Prop := fun x vs H Q => ∃ l xs y, x = .ref l /\ vs = [y] /\ H l = some (.lst xs) /\ xs.length < sizeLine /\ Q .non (upd H l (.lst (xs ++ [y])))
theorem mt_append : MtM X "list.append" rAppend := by
 intro pins s σ H x vs v us Q I rx rv h
 obtain ⟨l, xs, y, rfl, rfl, hH, hz, q⟩ := h
 cases rx
 obtain ⟨u, rfl, ru⟩ := rv.one
 obtain ⟨z, its, n, r, hl, e⟩ := I.lstM hH
 refine call_meets F.slot_list_append ⟨_, e, rfl⟩ F.entry_list_append (F.args_list_append_2 _ _) (PySem.list_append l its.toArray n u (by rw [List.size_toArray]; (first | lia | omega))) ⟨e, ?_⟩
 refine ⟨.non, _, I.lset (its' := its ++ [u]) hH e (by simp) (r.append (.cons ru .nil)) ?_, rfl, q⟩
 rw [List.length_append, List.length_singleton]
 (first | lia | omega)
noncomputable def rPopAt : V -> List V -> Hp -> VK -> Prop := fun x vs H Q => ∃ l xs i k y, x = .ref l /\ vs = [.int i] /\ H l = some (.lst xs) /\ -(2 ^ 63) <= i /\ i < 2 ^ 63 /\ seqIndex? i xs.length = some k /\ xs[k]? = some y /\ Q y (upd H l (.lst (xs.eraseIdx k)))
theorem mt_popAt : MtM X "list.pop" rPopAt := by
 intro pins s σ H x vs v us Q I rx rv h
 obtain ⟨l, xs, i, k, y, rfl, rfl, hH, h1, h2, hk, hy, q⟩ := h
 cases rx
 obtain ⟨u, rfl, ru⟩ := rv.one
 obtain ⟨t, rfl⟩ := ru
 obtain ⟨z, its, n, r, hl, e⟩ := I.lstM hH
 obtain ⟨w, hw, rw'⟩ := r.get hy
 refine call_meets F.slot_list_pop ⟨_, e, rfl⟩ F.entry_list_pop (F.args_list_pop_2 _ _)
  (MeetsSeq.list_pop_at l its.toArray n i t k w (fitsIndex_both h1 h2) (by rw [List.size_toArray, <- hl]; exact hk) (by rw [<- Array.getElem?_toList]; exact hw) (by rw [List.size_toArray]; (first | lia | omega))) ⟨e, ?_⟩
 refine ⟨y, _, I.lset (its' := its.eraseIdx k) hH e ?_ (r.eraseIdx k) ?_, rw', q⟩
 ·show its.toArray.eraseIdxIfInBounds k = (its.eraseIdx k).toArray
  rw [List.eraseIdxIfInBounds_toArray]
 ·have := len_erase xs k
  (first | lia | omega)
noncomputable def rRep : R2 := fun x y H Q => ∃ l k xs, x = .ref l /\ y = .int k /\ H l = some (.lst xs) /\ -(2 ^ 63) <= k /\ k < 2 ^ 63 /\ xs.length * k.toNat <= sizeLine /\
 ∀ p, H p = none -> Q (.ref p) (upd H p (.lst (List.replicate k.toNat xs).flatten))
theorem len_rep {α : Type} (xs : List α) (k : Nat) : (List.replicate k xs).flatten.length = k * xs.length := by
 induction k with
 | zero => simp
 | succ k ih => rw [List.replicate_succ, List.flatten_cons, List.length_append, ih, Nat.succ_mul, Nat.add_comm]
theorem op_rep : OpR X (binaryOp .Mult) rRep := by
 intro pins s σ H x y v u Q I rx ry h
 obtain ⟨l, k, xs, rfl, rfl, hH, h1, h2, hz, q⟩ := h
 cases rx
 obtain ⟨t, rfl⟩ := ry
 obtain ⟨z, its, n, r, hl, e⟩ := I.lstM hH
 have hlen : its.toArray.size * k.toNat <= sizeLine := by rw [List.size_toArray, <- hl]; exact hz
 have hcap : ¬ its.toArray.size * k.toNat > (2 ^ 63 - 1) / 8 := by
  have : (sizeLine : Nat) <= (2 ^ 63 - 1) / 8 := by decide
  (first | lia | omega)
 have hfit : ¬ (!Builtin.List.listFitsIndex k) = true := by
  rw [fitsIndex_both h1 h2]
  exact Bool.false_ne_true
 have hlong : ¬ Builtin.List.listTooLong (its.toArray.size * k.toNat) = true := by
  rw [notLongL hlen]
  exact Bool.false_ne_true
 have hnew : List.foldl (fun x1 x2 => x1 ++ x2) #[] (List.replicate (if its.toArray.isEmpty = true then 0 else k.toNat) its.toArray) = (List.replicate k.toNat its).flatten.toArray := by
  have f0 : ∀ m : Nat, List.foldl (fun x1 x2 => x1 ++ x2) #[] (List.replicate m its.toArray) = (List.replicate m its).flatten.toArray := fun m => by
   have := foldl_rep its m []
   rw [List.nil_append] at this
   exact this
  rw [f0]
  cases its with
  | nil => simp
  | cons a r' => rw [if_neg (by simp)]
 refine wpAny_binaryOp_repeat_ref (T := "list") (U := "int") (by decide) ⟨_, e, rfl⟩ (fun s' => typeIs_int s' k t) noFill_list_mul F.fills_int_mul F.slot_int_rmul repeat_list F.slot_int_index.lookup
  (call_meets F.slot_int_rmul (typeIs_int s k t) F.entry_int_rmul (F.args_int_rmul_2 _ _) (int___rmul___int_list k t l its.toArray n)
   ⟨e, rfl, ⟨_, e, rfl⟩, call_meets F.slot_list_mul ⟨_, e, rfl⟩ F.entry_list_mul (F.args_list_mul_2 _ _) (AutoListH.list___mul___list_int_3 l its.toArray n k t hfit hcap hlong) ⟨e, ?_⟩⟩)
 rw [hnew]
 exact ⟨.ref _, _, I.lnew (t' := s.toks) (r.rep k.toNat) (by rw [len_rep, Nat.mul_comm]; exact hz), rfl, q _ I.fresh⟩
end
section
variable {prog : Program} {w : World} {A : Around} {E : Value -> Shared -> Prop} {s : Shared}
end
section
variable {X : Cx}
end
end L2
namespace Att
open PySem PySem.W PySem.Calls PyProof.Rows
theorem ints_of_wellAll {P : Params} {h : Heap} : ∀ (ns : List Int) (vs : List Value), WellAll P h vs (ns.map WData.int) -> IntsAre vs ns := by
 intro ns
 induction ns with
 | nil =>
  intro vs w
  rw [List.map_nil] at w
  cases w
  exact .nil
 | cons n ns ih =>
  intro vs w
  rw [List.map_cons] at w
  cases w with
  | cons a b =>
   cases a
   exact .cons _ _ (ih _ b)
theorem script_of {l : OpenLaw} {n : Nat} (hn : l.most = some n) {P : Params} {h : Heap} {args : List WData} {vals : List Value}
  (hpre : l.row.toRowW.claim.pre args = true) (hwl : WellAll P h vals args) :
  ∃ a vs ns, vals = [Value.ref a] /\ args = [WData.list (ns.map WData.int)] /\ h.get? a = some { cls := .type "list", data := .seq vs.toArray } /\ IntsAre vs ns /\ ns.length <= n := by
 have hsh : WShape.hasAll [] args [.list .int] = true := (pre_splitW hpre).1
 have hc : l.pre.holds [] { args := args } = true := (pre_splitW hpre).2
 obtain ⟨d, r, rfl, h1, h2⟩ := hasAllW_cons hsh
 obtain rfl := hasAllW_nil h2
 obtain ⟨xs, rfl, h3⟩ := hasW_list h1
 obtain ⟨ns, rfl⟩ := items_int h3
 have hlen : ns.length <= n := by
  unfold OpenLaw.pre at hc
  have h4 : (WTm.not (.lt (.lit (.int (n : Int))) (.len (.arg 0)))).holds [] { args := [.list (ns.map .int)] } = true := by
   have h4 := (holds_andW hc).1
   rw [hn] at h4
   exact h4
  have h5 := condW_of h4 (w_not (w_lt w_lit (w_len_list (w_arg rfl))))
  rw [List.length_map] at h5
  refine Nat.le_of_not_lt fun q => ?_
  have q' : (n : Int) < ((ns.length : Nat) : Int) := by (first | lia | omega)
  first
   | (rw [decide_eq_true q'] at h5; exact absurd h5 (by decide))
   | (simp at h5; (first | lia | omega))
 cases hwl with
 | cons w1 w2 =>
  cases w2
  cases w1 with
  | list ho hall => exact ⟨_, _, ns, rfl, rfl, ho, ints_of_wellAll ns _ hall, hlen⟩
theorem post_true (l : OpenLaw) (args : List WData) : l.row.toRowW.claim.post args (.bool true) args = true :=
 postW_of (r := l.row.toRowW) (X := (true == true))
  (show WShape.has [] (.bool true) .bool = true by first | rfl | decide | simp [WShape.has, WShape.arms, WShape.armsAll])
  (show (WTm.eq .res (.lit (.bool true))).value [] { args := args, res := some (.bool true), after := args } = some (.bool (true == true)) from w_eq_bool (w_res rfl) w_lit) rfl
theorem attach_call {l : OpenLaw} {n : Nat} {q : Program} {loose : List Str} {XP : (Str -> Option Value) -> Heap -> Prop} {YP : World -> Heap -> Prop} {d : DefRec}
  (hn : l.most = some n) (hdf : d.params.defaults = [])
  (call : ∀ (w : World) (s₀ s₁ : Shared) (mg mb : Str -> Option Value) (fa : Addr) (o : Obj) (pm cd doc : Value) (a : Addr) (vs : List Value) (ns : List Int),
   Ground q loose [] XP w s₀ mg mb s₁.heap -> YP w s₁.heap ->
   s₁.heap.get? fa = some o -> o.data = .func (docDef d.name d.params d.body d.scope pm cd doc) -> s₁.heap.CodeRec cd d.name -> mg d.name = some (.ref fa) ->
   s₁.heap.get? a = some { cls := .type "list", data := .seq vs.toArray } -> IntsAre vs ns -> ns.length <= n -> s₁.gens = #[] ->
   codeAny (model l.prog w) callerA (.call (.ref fa) ⟨[.ref a], []⟩) (fun r s' => r = .ok (.ret (.bool true)) /\ OldK s₁.heap s'.heap /\ s'.os = s₁.os /\ AllBare s'.gens) s₁) :
  WalkO q loose XP YP l.row.toRowW d [] (fun f vs => PySem.call f vs) := by
 intro w s₀ s₁ mg mb G Y fa o pm cd doc dV kV ho hd hcd hD hmg hg args vals as hpre hlay hrd hwl hlo
 obtain rfl : dV = .none := Dflts.none hD hdf
 obtain rfl : kV = .none := Dflts.noKw hD
 obtain ⟨a, vs, ns, rfl, rfl, hobj, hints, hlen⟩ := script_of hn hpre hwl
 refine enter_call (codeAny_mono (call w s₀ s₁ mg mb fa o pm cd doc a vs ns G Y ho (fd_plain hd) hcd hmg hobj hints hlen hg) fun r s' hq => ?_)
 obtain ⟨rfl, h2, h3, h4⟩ := hq
 exact ⟨.inl ⟨.bool true, .bool true, [], rfl, fun _ => rfl, .bool true, post_true l _, fun _ => ⟨List.Pairwise.nil, fun _ hm => (nomatch hm)⟩⟩, h2, h3, h4⟩
section
variable {prog : Program} {w : World} {A : Around} {E : Value -> Shared -> Prop} {s : Shared} {K : Frag}
end
end Att
namespace L2
open PySem PySem.Spec PyProof.Rows
theorem vals_ints : ∀ {vs : List Value} {ns : List Int}, IntsAre vs ns -> Vals (ns.map V.int) vs
 | _, _, .nil => .nil
 | _, _, .cons n t h => .cons ⟨t, rfl⟩ (vals_ints h)
end L2
namespace L2
open PySem PySem.Spec PyProof.Rows
end L2
namespace L2
open PySem PySem.Spec PyProof.Rows
noncomputable def defArgs (s : Stmt) : Arguments := match s with
 | .FunctionDef _ a _ _ _ _ _ _ _ _ => a
 | _ => { posonlyargs := [], args := [], vararg := none, kwonlyargs := [], kw_defaults := [], kwarg := none, defaults := [] }
noncomputable def defBody (s : Stmt) : List Stmt := match s with
 | .FunctionDef _ _ b _ _ _ _ _ _ _ => b
 | _ => []
noncomputable def defScope (s : Stmt) : Scope := match s with
 | .FunctionDef _ _ _ _ _ _ sc _ _ _ => sc
 | _ => { kind := .function, names := [], isGenerator := false, isCoroutine := false }
noncomputable abbrev CX0 : CXT := fun _ _ _ _ _ _ => False
noncomputable abbrev E0 : XK := fun _ _ _ => False
theorem pass0 {X : Cx} : Passes CX0 X E0 := fun _ _ _ _ _ _ _ h => h.elim
structure Fun (K : PySem.W.Frag) (x qual : Str) (st : Stmt) (f : Addr) (fd : FuncData) : Prop where
 ex : ∃ (oc : Value) (od : Option Addr) (kV doc pm : Value) (an : Option Addr) (cdv ct : Value) (osl : Array (Option Value)),
  fd = PySem.W.fnOf x qual (defArgs st) (defBody st) (defScope st) .none kV doc pm an cdv ct /\ K.lookup f = some ⟨oc, od, .func fd, osl⟩ /\ PySem.W.codeIn K cdv qual = true
 kp : PySem.W.keepIn K (.ref f) = true
section
variable {P : Program} {w : World} {K : PySem.W.Frag} {mg : Str -> Option Value} {base : Heap}
theorem Fun.ok {x qual : Str} {st : Stmt} {f : Addr} {fd : FuncData} {N ps : List Str} {k : Nat} {sp : Sp} (F : Fun K x qual st f fd) (S : FnScope N ps (defScope st)) (len : ∀ vs H Q E, sp vs H Q E -> vs.length = ps.length)
  (hbody : ∀ (cdv : Value) (A : Around) (outer : List Env) (s : Shared) (H : Hp) (vs : List V) (Q : VK) (E : XK), Room k (A.deeper (envOfC qual (defScope st) s.heap.objs.size f cdv)) -> sp vs H Q E ->
   ∃ t, PSs (cxOf CX0 P w K mg base N qual (defScope st) f cdv A outer s H E).nox (defBody st) t /\ t { nx := fun _ H' => Q .non H', rt := Q } (start N vs) H) : FnOk P w K mg base CX0 (k + 1) f fd ps sp := by
 obtain ⟨oc, od, kV, doc, pm, an, cdv, ct, osl, rfl, lk, hcd⟩ := F.ex
 refine fn_of lk hcd S len fun A outer s H vs Q E hr hsp => ?_
 obtain ⟨t, h, q⟩ := hbody cdv A outer s H vs Q E hr hsp
 exact ⟨t, h.nox, q⟩
theorem Fun.binds {x qual : Str} {st : Stmt} {f : Addr} {fd : FuncData} {ps : List Str} (F : Fun K x qual st f fd)
  (h : ∀ (kV doc pm : Value) (an : Option Addr) (cdv ct : Value) (us : List Value), us.length = ps.length -> bindArgs (PySem.W.fnOf x qual (defArgs st) (defBody st) (defScope st) .none kV doc pm an cdv ct) ⟨us, []⟩ = pure (ps.zip us)) : Binds K fd ps [] := by
 obtain ⟨oc, od, kV, doc, pm, an, cdv, ct, osl, rfl, lk, hcd⟩ := F.ex
 exact .all (h kV doc pm an cdv ct)
theorem fun_mk {x qual : Str} {st : Stmt} {f : Addr} {oc : Value} {od an : Option Addr} {osl : Array (Option Value)} {kV doc pm cdv ct : Value} (l : K.lookup f = some ⟨oc, od, .func (PySem.W.fnOf x qual (defArgs st) (defBody st) (defScope st) .none kV doc pm an cdv ct), osl⟩)
  (c : PySem.W.codeIn K cdv qual = true) (k : PySem.W.keepIn K (.ref f) = true) : Fun K x qual st f (PySem.W.fnOf x qual (defArgs st) (defBody st) (defScope st) .none kV doc pm an cdv ct) := ⟨⟨oc, od, kV, doc, pm, an, cdv, ct, osl, rfl, l, c⟩, k⟩
end
theorem hu_of {A : Around} {k : Nat} (hr : Room k A) : A.units + 1 < cLine := Nat.lt_of_le_of_lt (Nat.add_le_add_left (by decide : 1 <= 64) _) hr.units
section
variable {X : Cx}
theorem pv (i : Nat) {x : Str} {pos : Pos} (hN : X.N[i]? = some x := by rfl) (hv : Vis X.env.scope x := by first | exact Or.inl rfl | exact Or.inr (Or.inl rfl) | exact Or.inr (Or.inr rfl)) (hd : (x == ("__debug__" : Str)) = false := by decide)
  (hcd : (x == ("__classdict__" : Str)) = false := by decide) : PE X (.Name x pos) (tVar i) := pe_var hN hv hd hcd
end
theorem iteF {A B : Prop} (h : B) : if false = true then A else B := by
 rw [if_neg Bool.false_ne_true]
 exact h
theorem iteT {A B : Prop} (h : A) : if true = true then A else B := by
 rw [if_pos rfl]
 exact h
theorem ite2 {c A B : Prop} [Decidable c] (h1 : c -> A) (h2 : ¬ c -> B) : if c then A else B := by
 by_cases h : c
 ·rw [if_pos h]
  exact h1 h
 ·rw [if_neg h]
  exact h2 h
noncomputable def Same (H H' : Hp) : Prop := ∀ b o, H b = some o -> H' b = some o
theorem Same.refl (H : Hp) : Same H H := fun _ _ h => h
theorem Same.trans {H H1 H2 : Hp} (a : Same H H1) (b : Same H1 H2) : Same H H2 := fun c o h => b c o (a c o h)
theorem Same.free {H H' : Hp} (e : Same H H') {l : Addr} (h : H' l = Option.none) : H l = Option.none := by
 cases q : H l with
 | none => rfl
 | some o =>
  rw [e l o q] at h
  cases h
theorem Same.seq {K : PySem.W.Frag} {H H' : Hp} {a : Addr} {xs : List V} (e : Same H H') (h : SqL K H a xs) : SqL K H' a xs := by
 rcases h with (h | ⟨o, h⟩) | h
 ·exact .inl (.inl (e _ _ h))
 ·exact .inl (.inr ⟨o, e _ _ h⟩)
 ·exact .inr h
end L2
namespace L2
open PySem PySem.Spec PyProof.Rows
theorem closure_ok {env : Env} {scope : Scope} (h : ∀ y ∈ scope.names, y.2 = .free -> ∃ c, env.cells.lookup y.1 = some c) :
  ∃ cl, closureFor scope env = pure cl /\ (∀ x c, cl.lookup x = some c -> env.cells.lookup x = some c) /\ ∀ y ∈ scope.names, y.2 = .free -> cl.lookup y.1 = env.cells.lookup y.1 := by
 have go : ∀ (names : List (Str × NameKind)) (acc : List (Str × Addr)), (∀ y ∈ names, y.2 = .free -> ∃ c, env.cells.lookup y.1 = some c) ->
   (∀ x c, acc.lookup x = some c -> env.cells.lookup x = some c) ->
   ∃ cl, (forIn names acc (fun (y : Str × NameKind) (cs : List (Str × Addr)) => if (y.2 == .free) = true then (do let c <- cellOf env y.1; pure (ForInStep.yield ((y.1, c) :: cs))) else pure (ForInStep.yield cs)) : Sem (List (Str × Addr))) = pure cl /\
    (∀ x c, cl.lookup x = some c -> env.cells.lookup x = some c) /\ (∀ x c, acc.lookup x = some c -> cl.lookup x = some c) /\ ∀ y ∈ names, y.2 = .free -> cl.lookup y.1 = env.cells.lookup y.1 := by
  intro names
  induction names with
  | nil => intro acc _ ha; exact ⟨acc, rfl, ha, fun _ _ h => h, fun y hy => nomatch hy⟩
  | cons y r ih =>
   intro acc hn ha
   obtain ⟨n, k⟩ := y
   by_cases hk : k = .free
   ·subst hk
    obtain ⟨c, hc⟩ := hn (n, .free) List.mem_cons_self rfl
    have ha' : ∀ x d, (((n, c) :: acc : List (Str × Addr))).lookup x = some d -> env.cells.lookup x = some d := fun x d e => by
     rw [List.lookup_cons] at e
     cases hx : x == n with
     | true =>
      rw [hx] at e
      have e1 : x = n := eq_of_beq hx
      subst e1
      cases e
      exact hc
     | false => rw [hx] at e; exact ha x d e
    obtain ⟨cl, e, h1, h2, h3⟩ := ih ((n, c) :: acc) (fun y hy => hn y (List.mem_cons_of_mem _ hy)) ha'
    refine ⟨cl, ?_, h1, fun x d e => ?_, fun y hy hf => ?_⟩
    ·rw [List.forIn_cons]
     have ec : cellOf env n = pure c := by unfold cellOf; rw [hc]
     simp only [beq_self_eq_true, if_true]
     rw [ec]
     exact e
    ·have e' := ha x d e
     by_cases hx : x = n
     ·subst hx
      rw [hc] at e'; cases e'
      exact h2 x c (by rw [List.lookup_cons]; simp)
     ·exact h2 x d (by rw [List.lookup_cons, beq_eq_false_iff_ne.mpr hx]; exact e)
    ·rcases List.mem_cons.mp hy with rfl | hy
     ·show cl.lookup n = env.cells.lookup n
      rw [hc]
      exact h2 n c (by rw [List.lookup_cons]; simp)
     ·exact h3 y hy hf
   ·obtain ⟨cl, e, h1, h2, h3⟩ := ih acc (fun y hy => hn y (List.mem_cons_of_mem _ hy)) ha
    refine ⟨cl, ?_, h1, h2, fun y hy hf => ?_⟩
    ·rw [List.forIn_cons]
     have : (k == NameKind.free) = false := by simpa using hk
     simp only [this, Bool.false_eq_true, if_false]
     exact e
    ·rcases List.mem_cons.mp hy with rfl | hy
     ·exact absurd hf hk
     ·exact h3 y hy hf
 obtain ⟨cl, e, h1, _, h3⟩ := go scope.names [] h (fun x c e => by simp at e)
 refine ⟨cl, ?_, h1, h3⟩
 unfold closureFor
 exact (congrArg (fun m => m >>= fun r => pure r) e).trans rfl
noncomputable def compSt (n : Nat) (ix : List Nat) (σ : St) : St := List.replicate n none ++ ix.map fun i => σ.getD i none
noncomputable def Cx.comp (X : Cx) (s₂ : Shared) (H₂ : Hp) (N' : List Str) (scope : Scope) (cl : List (Str × Addr)) (C : Addr) (fp : List Addr) : Cx :=
 { X with N := N', s₀ := s₂, H₀ := H₂, env := compEnvC scope cl C X.env, outer := X.stack, stack := X.stack, ex := fp, fn := fun _ => false, pn := [], xe := fun _ _ => False }
structure CompScope (X : Cx) (scope : Scope) (N' : List Str) (n : Nat) (ix : List Nat) : Prop where
 kind : scope.kind = .function
 nocell : ∀ y ∈ scope.names, y.2 ≠ .cell
 names : ∀ y ∈ scope.names, y.2 = .local -> scope.names.lookup y.1 = some .local
 free : ∀ y ∈ scope.names, y.2 = .free -> X.env.scope.names.lookup y.1 = some .cell ∨ X.env.scope.names.lookup y.1 = some .free
 nodup : ∀ y : Str, (y, NameKind.free) ∈ scope.names -> scope.names.lookup y = some .local -> False
 len : N'.length = n + ix.length
 at_ : ∀ (j i : Nat), ix[j]? = some i -> ∃ x, N'[n + j]? = some x /\ X.N[i]? = some x /\ (x, NameKind.free) ∈ scope.names
end L2
namespace L2
open PySem PySem.Spec PyProof.Rows
theorem relabel_lookup {env : Env} {scope : Scope} (x : Str) : (relabel scope env).names.lookup x = (scope.names.lookup x).map fun k => if (k == .free && env.scope.kind == .function && env.kindOf x == some .cell) then .cell else k := by
 show (scope.names.map fun (n, k) => if (k == NameKind.free && env.scope.kind == .function && env.kindOf n == some .cell) then (n, NameKind.cell) else (n, k)).lookup x = _
 generalize scope.names = l
 induction l with
 | nil => rfl
 | cons y r ih =>
  obtain ⟨n, k⟩ := y
  rw [List.map_cons, List.lookup_cons]
  cases hx : x == n with
  | true =>
   have e : x = n := eq_of_beq hx
   subst e
   by_cases hc : (k == NameKind.free && env.scope.kind == .function && env.kindOf x == some .cell) = true
   ·rw [if_pos hc, List.lookup_cons]
    simp only [beq_self_eq_true]
    show some NameKind.cell = some (ite _ _ _)
    rw [if_pos hc]
   ·rw [if_neg hc, List.lookup_cons]
    simp only [beq_self_eq_true]
    show some k = some (ite _ _ _)
    rw [if_neg hc]
  | false =>
   by_cases hc : (k == NameKind.free && env.scope.kind == .function && env.kindOf n == some .cell) = true
   ·rw [if_pos hc, List.lookup_cons, hx]; exact ih
   ·rw [if_neg hc, List.lookup_cons, hx]; exact ih
section
variable {X : Cx} {pins : List (Addr × Obj)} {σ : St} {H : Hp} {s : Shared}
theorem relabel_free {env : Env} {scope : Scope} {x : Str} (h : scope.names.lookup x = some .free) : (relabel scope env).names.lookup x = some .cell ∨ (relabel scope env).names.lookup x = some .free := by
 rw [relabel_lookup, h]
 by_cases hc : (NameKind.free == NameKind.free && env.scope.kind == .function && env.kindOf x == some .cell) = true
 ·exact .inl (by show some (ite _ _ _) = _; rw [if_pos hc])
 ·exact .inr (by show some (ite _ _ _) = _; rw [if_neg hc])
theorem of_relabel {env : Env} {scope : Scope} {x : Str} (hn : ∀ y ∈ scope.names, y.2 ≠ .cell) (h : (relabel scope env).names.lookup x = some .cell ∨ (relabel scope env).names.lookup x = some .free) : scope.names.lookup x = some .free := by
 rw [relabel_lookup] at h
 cases e : scope.names.lookup x with
 | none => rw [e] at h; rcases h with h | h <;> cases h
 | some k =>
  rw [e] at h
  have hk := hn _ (PySem.mem_of_lookup e)
  by_cases hf : k = .free
  ·rw [hf]
  ·have hb : (k == NameKind.free) = false := by simpa using hf
   have hr : Option.map (fun k => if (k == NameKind.free && env.scope.kind == .function && env.kindOf x == some .cell) = true then NameKind.cell else k) (some k) = some k := by
    show some (ite _ _ _) = _
    rw [if_neg (by rw [hb]; simp)]
   rw [hr] at h
   rcases h with h | h
   ·cases h; exact absurd rfl hk
   ·exact h
theorem inv_comp {scope : Scope} {N' : List Str} {n : Nat} {ix : List Nat} {cl : List (Str × Addr)} {fp : List Addr} {h₁ : Heap} {acc C : Addr} {na : Nat} {m : Str -> Option Value} {tk : Nat}
  (I : Inv X pins σ H s) (S : CompScope X scope N' n ix) (hcl1 : ∀ x c, cl.lookup x = some c -> X.env.cells.lookup x = some c) (hcl2 : ∀ y ∈ scope.names, y.2 = .free -> cl.lookup y.1 = X.env.cells.lookup y.1)
  (hf : ∀ b ∈ fp, FpOk X pins H b) (hlt : ∀ b ∈ fp, b < s.heap.objs.size) (ha : s.heap.objs.size <= acc) (hC : s.heap.objs.size <= C) (hne : C ≠ acc)
  (k : ∀ b u, s.heap.get? b = some u -> h₁.get? b = some u) (hacc : h₁.get? acc = some { cls := .type "list", data := .seq ([] : List Value).toArray na }) (hns : h₁.Ns C m) :
  Inv (X.comp s H N' scope cl C fp) [] (compSt n ix σ) (upd H acc (.lst [])) { s with heap := h₁, toks := tk } := by
 have fr : ∀ b : Addr, s.heap.objs.size <= b -> H b = none := fun b hb => I.hok.fresh hb
 have cellLt : ∀ x c, cl.lookup x = some c -> c < s.heap.objs.size := fun x c e => by
  obtain ⟨v, q⟩ := I.cell x c (hcl1 x c e)
  exact q.lt
 refine ⟨⟨I.ok.mod, S.kind, I.ok.glob, I.ok.blt, hC, fun x y c e1 e2 => I.ok.inj x y c (hcl1 x c e1) (hcl1 y c e2), fun x hx => ?_, fun x c e _ => absurd e Bool.false_ne_true, I.ok.hd, I.ok.frames, .inl rfl, fun b hb => ⟨Nat.ne_of_lt (Nat.lt_of_lt_of_le (hlt b hb) hC), fun x c e => (hf b hb).2.2.2.2.1 x c (hcl1 x c e)⟩,
   I.bs, Nat.le_trans I.ok.bsz I.sz, fun b o e hb => ?_, fun b hb hs => ?_, I.stack, I.stkFree⟩,
  rfl, I.bare, Un.laid k ha (fr acc ha), ⟨m, hns, fun i x v e1 e2 e3 => ?_⟩, fun x c e => ?_, ?_, fun x c e => ?_, fun p hp => absurd (show p ∈ ([] : List (Addr × Obj)) from hp) (by simp), I.hok.laid k ha ⟨Nat.zero_le _, [], na, .nil, hacc⟩, ?_⟩
 ·have hx' : scope.names.lookup x = some .free := of_relabel (env := X.env) S.nocell hx
  have hm := PySem.mem_of_lookup hx'
  obtain ⟨c, e⟩ := I.ok.has x (S.free _ hm rfl)
  exact ⟨c, (hcl2 _ hm rfl).trans e⟩
 ·rcases (hf b hb).2.2.2.1 with z | z
  ·exact I.ok.noex b o e z
  ·exact absurd (Nat.lt_of_lt_of_le (Heap.lt_size e) (Nat.le_trans I.ok.bsz z)) (Nat.lt_irrefl _)
 ·rcases List.mem_cons.mp (I.stkSub b hs) with z | z
  ·exact (hf b hb).2.1 z
  ·exact (hf b hb).2.2.1 z
 ·-- a name of the frame, seen through its cell
  have hi : n <= i := by
   by_cases hi : n <= i
   ·exact hi
   ·unfold compSt at e2
    rw [List.getElem?_append_left (by simp; (first | lia | omega)), List.getElem?_replicate] at e2
    split at e2 <;> cases e2
  obtain ⟨j, rfl⟩ : ∃ j, i = n + j := ⟨i - n, by (first | lia | omega)⟩
  unfold compSt at e2
  rw [List.getElem?_append_right (by simp), List.length_replicate, Nat.add_sub_cancel_left, List.getElem?_map] at e2
  cases ej : ix[j]? with
  | none => rw [ej] at e2; cases e2
  | some q =>
   rw [ej] at e2
   have e2' : σ.getD q none = some v := Option.some.inj e2
   have e2'' : σ[q]? = some (some v) := by
    rw [List.getD_eq_getElem?_getD] at e2'
    cases eq : σ[q]? with
    | none => rw [eq] at e2'; cases e2'
    | some z => rw [eq] at e2'; exact congrArg some e2'
   obtain ⟨y, h1, h2, h3⟩ := S.at_ j q ej
   have ey : y = x := Option.some.inj (h1.symm.trans e1)
   subst ey
   have hk := S.free _ h3 rfl
   obtain ⟨mX, _, hl⟩ := I.loc
   obtain ⟨u, r, l⟩ := hl q y v h2 e2'' (.inr hk)
   refine ⟨u, r, .inr ?_⟩
   have hkc : X.env.kindOf y = some .cell ∨ X.env.kindOf y = some .free := hk
   have l' : ∃ c, X.env.cells.lookup y = some c /\ s.heap.IsCell c (some u) := by
    rcases l with ⟨z, _⟩ | ⟨_, c, ec, hc⟩
    ·rcases hkc with q | q <;> (rw [q] at z; cases z)
    ·exact ⟨c, ec, hc⟩
   obtain ⟨c, ec, o, ho, hd⟩ := l'
   have e3' : Vis (relabel scope X.env) y := e3
   refine ⟨?_, c, (hcl2 _ h3 rfl).trans ec, o, k _ _ ho, hd⟩
   have nl : scope.names.lookup y ≠ some .local := fun z => ?_
   ·cases el : scope.names.lookup y with
    | none =>
     have : (relabel scope X.env).names.lookup y = none := by rw [relabel_lookup, el]; rfl
     rcases e3' with z | z | z <;> (rw [this] at z; cases z)
    | some kk =>
     have hmem := PySem.mem_of_lookup el
     have ncell := S.nocell _ hmem
     have hr : (relabel scope X.env).names.lookup y = some (if (kk == NameKind.free && X.env.scope.kind == .function && X.env.kindOf y == some .cell) = true then .cell else kk) := by rw [relabel_lookup, el]; rfl
     by_cases hkf : kk = .free
     ·subst hkf
      exact relabel_free (env := X.env) el
     ·have hb : (kk == NameKind.free) = false := by simpa using hkf
      have hr' : (relabel scope X.env).names.lookup y = some kk := by rw [hr, hb]; rfl
      rcases e3' with z | z | z
      ·rw [hr'] at z; cases z; exact absurd el nl
      ·rw [hr'] at z; cases z; exact absurd rfl ncell
      ·rw [hr'] at z; cases z; exact absurd rfl hkf
   ·exact S.nodup _ h3 z
 ·obtain ⟨v, o, ho, hd⟩ := I.cell x c (hcl1 x c e)
  exact ⟨v, o, k _ _ ho, hd⟩
 ·show upd H acc (.lst []) C = none
  rw [upd_ne hne]; exact fr C hC
 ·show upd H acc (.lst []) c = none
  have := cellLt x c e
  rw [upd_ne (Nat.ne_of_lt (Nat.lt_of_lt_of_le this ha))]
  exact I.freeC x c (hcl1 x c e)
 ·show (compSt n ix σ).length = N'.length
  unfold compSt
  rw [List.length_append, List.length_replicate, List.length_map, S.len]
end
end L2
namespace L2
open PySem PySem.Spec PyProof.Rows
noncomputable def Wk (σ σ' : St) : Prop := σ.length = σ'.length /\ ∀ (i : Nat) v, σ[i]? = some (some v) -> σ'[i]? = some (some v)
noncomputable def PTs (Y : Cx) (ifs : List Expr) (t : TT) : Prop :=
 ∀ (pins : List (Addr × Obj)) (s : Shared) (σ : St) (H : Hp) (Q : Bool -> Hp -> Prop), Inv Y pins σ H s -> t σ H Q ->
  wpAny (model Y.prog Y.w) Y.A (forIn ifs true fun c r => if r = true then do let ok <- isTrue c Y.env (eval c Y.env); pure (ForInStep.yield ok) else pure (ForInStep.yield r)) (TP Y pins σ Q) Y.xe s
noncomputable def tNoTest : TT := fun _ H Q => Q true H
theorem pts_nil {Y : Cx} : PTs Y [] tNoTest := fun _ _ _ H _ I h => wpAny_tests_nil ⟨H, I, h⟩
theorem pts_one {Y : Cx} {c : Expr} {t : TT} (h : PT Y c t) : PTs Y [c] t := fun pins s σ H Q I q => wpAny_tests_one (h pins s σ H Q I q)
theorem compLoop_gen {prog : Program} {w : World} {A : Around} {R : Result -> Shared -> Prop} {s : Shared} {elt target iter : Expr} {ifs : List Expr} {scope : Scope} {pos : Pos} {it acc : Value} {env : Env} (I : Nat -> Shared -> Prop)
  (turn : ∀ n s, I n s -> wpAny (model prog w) A (pyNext it) (fun r s₁ => match r with
   | none => R (.ok .next) s₁
   | some v => wpAny (model prog w) A (letOwnedTupleGo target it v) (fun _ s₂ => wpAny (model prog w) A (assign target env v) (fun _ s₃ =>
     wpAny (model prog w) A (forIn ifs true fun c r => if r = true then do let ok <- isTrue c env (eval c env); pure (ForInStep.yield ok) else pure (ForInStep.yield r)) (fun ok s₄ =>
      if ok = true then wpAny (model prog w) A (eval elt env) (fun x s₅ =>
       wpAny (model prog w) A (call (.builtin "list.append") [acc, x]) (fun _ s₆ => ∃ m, m < n /\ I m s₆) (fun _ _ => False) s₅) (fun _ _ => False) s₄
      else ∃ m, m < n /\ I m s₄) (fun _ _ => False) s₃) (fun _ _ => False) s₂) (fun _ _ => False) s₁) (fun _ _ => False) s)
  (n : Nat) (h : I n s) :
  codeAny (model prog w) A (.compLoop (.ListComp elt [⟨target, iter, ifs, 0⟩] scope pos) 0 it acc env) R s := by
 refine codeAny_loop rfl I (fun n s hI => ?_) n h
 show wpAny _ A ((compTurn (.ListComp elt [⟨target, iter, ifs, 0⟩] scope pos) 0 it acc env).onRaise (fun x => do noteFrame x env; theTreesLotGoes x)) _ _ s
 refine wpAny_noted (wpAny_noRaise ?_)
 rw [compTurn_list]
 refine wpAny_bind (wpAny_standAt (wpAny_bind (thn (turn n s hI) fun r s₁ h₁ => ?_)))
 cases r with
 | none => exact wpAny_pure h₁
 | some v =>
  refine wpAny_bind (thn h₁ fun _ s₂ h₂ => wpAny_bind (thn h₂ fun _ s₃ h₃ => wpAny_bind (thn h₃ fun ok s₄ h₄ => ?_)))
  cases ok with
  | false => exact wpAny_pure ⟨rfl, h₄⟩
  | true => exact wpAny_bind (wpAny_bind (thn h₄ fun x s₅ h₅ => wpAny_bind (thn h₅ fun _ s₆ h₆ => wpAny_pure (wpAny_pure ⟨rfl, h₆⟩))))
noncomputable def LcW (J : It) (H1 : Hp) (g : TG) (tt : TT) (te : TE) (n : Nat) (ix : List Nat) (σ : St) (Q : VK) : Prop := ∀ acc, H1 acc = none ->
 ∃ W : Nat -> Nat -> Hp -> Prop, (∃ m, W 0 m (upd H1 acc (.lst []))) /\ ∀ i m H, W i m H ->
  (J.stop i H /\ Q (.ref acc) H) ∨ (J.go i H /\ ∀ x H', J.yld i H x H' -> g x (compSt n ix σ) H' fun σ2 H2 => Wk (compSt n ix σ) σ2 /\ tt σ2 H2 fun b H3 =>
   if b = true then te σ2 H3 fun v H4 => ∃ ys, H4 acc = some (.lst ys) /\ ys.length < sizeLine /\ ∃ m', m' < m /\ W (i + 1) m' (upd H4 acc (.lst (ys ++ [v])))
   else ∃ m', m' < m /\ W (i + 1) m' H3)
noncomputable def tLc (wi : TI) (g : TG) (tt : TT) (te : TE) (n : Nat) (ix : List Nat) : TE := fun σ H Q => wi σ H fun J H1 => LcW J H1 g tt te n ix σ Q
section
variable {X : Cx} {elt tg iter : Expr} {ifs : List Expr} {scope : Scope} {pos : Pos} {wi : TI} {g : TG} {tt : TT} {te : TE} {N' : List Str} {n : Nat} {ix : List Nat}
theorem lc_core {pins : List (Addr × Obj)} {σ : St} {H2 : Hp} {s2 : Shared} {cl : List (Str × Addr)} {it : Addr} {fp : List Addr} {tn : Nat -> Heap -> Prop} {J : It} {Q : VK} {R : Value -> Addr -> Result -> Shared -> Prop}
  (hc : X.calm = true) (S : CompScope X scope N' n ix)
  (hY : ∀ s₂ H₂ cl C fp, PG (X.comp s₂ H₂ N' scope cl C fp) tg g /\ PTs (X.comp s₂ H₂ N' scope cl C fp) ifs tt /\ PE (X.comp s₂ H₂ N' scope cl C fp) elt te)
  (I2 : Inv X pins σ H2 s2) (hcl1 : ∀ x c, cl.lookup x = some c -> X.env.cells.lookup x = some c) (hcl2 : ∀ y ∈ scope.names, y.2 = .free -> cl.lookup y.1 = X.env.cells.lookup y.1)
  (T : Turn X.prog X.w X.K tg J fp it tn) (st2 : tn 0 s2.heap) (f2 : ∀ b ∈ fp, FpOk X pins H2 b)
  (hW : LcW J H2 g tt te n ix σ Q)
  (hR : ∀ acc C s' H' m, s'.heap.Ns C m -> Inv X pins σ H' s' -> H' C = none -> C ≠ X.env.locals -> (C ∈ X.ex ∨ X.s₀.heap.objs.size <= C) -> (∀ x c, X.env.cells.lookup x = some c -> c ≠ C) -> (∀ p ∈ X.pn ++ pins, p.1 ≠ C) -> C ∉ X.fs -> Q (.ref acc) H' -> R (.ref acc) C (.ok .next) s') :
  wpAny (model X.prog X.w) X.A (newList []) (fun acc s₃ => wpAny (model X.prog X.w) X.A (newFunctionEnv scope X.env.globals cl [] X.env.qual none .none (some X.env)) (fun cenv s₄ =>
   codeAny (model X.prog X.w) X.A (.compStart (.ListComp elt [⟨tg, iter, ifs, 0⟩] scope pos) 0 (.ref it) acc { cenv with scope := relabel scope X.env }) (R acc cenv.locals) s₄) X.xe s₃) X.xe s2 := by
 refine wpAny_newObj_type (wpAny_newFunctionEnv S.nocell (by intro y hy; simp at hy) (fun h₁ hns₁ hsb₁ => ?_) S.kind)
 dsimp only at hns₁ hsb₁ ⊢
 generalize hH2 : s2.heap.push { cls := .type "list", dict := none, data := .seq ([] : List Value).toArray } = G at hns₁ hsb₁ ⊢
 have hC : G.objs.size = s2.heap.objs.size + 1 := by rw [<- hH2, Heap.size_push]
 have hlt : ∀ b ∈ fp, b < s2.heap.objs.size := fun b hb => by
  obtain ⟨o, e, _⟩ := T.obj _ _ st2 b hb
  exact Heap.lt_size e
 have old : ∀ b o, s2.heap.get? b = some o -> h₁.get? b = some o := fun b o e => hsb₁.extBut b o (by rw [hC]; exact Nat.ne_of_lt (Nat.lt_succ_of_lt (Heap.lt_size e))) (Heap.get?_push_of_some _ (hH2 ▸ Heap.get?_push_of_some _ e))
 have hacc : h₁.get? s2.heap.objs.size = some { cls := .type "list", dict := none, data := .seq ([] : List Value).toArray } := hsb₁.extBut _ _ (by rw [hC]; exact Nat.ne_of_lt (Nat.lt_succ_self _)) (Heap.get?_push_of_some _ (hH2 ▸ Heap.get?_push_size _ rfl))
 obtain ⟨W, ⟨m0, w0⟩, turn⟩ := hW s2.heap.objs.size (I2.hok.fresh (Nat.le_refl _))
 obtain ⟨hYg, hYt, hYe⟩ := hY s2 H2 cl G.objs.size fp
 have fpY : ∀ {H' : Hp}, (∀ b ∈ fp, H' b = none) -> ∀ b ∈ fp, FpOk (X.comp s2 H2 N' scope cl G.objs.size fp) [] H' b := fun {H'} hn b hb => by
  obtain ⟨_, q1, q2, q3, q4, q5⟩ := f2 b hb
  refine ⟨hn b hb, ?_, fun z => ?_, .inl hb, fun x c e => q4 x c (hcl1 x c e), fun p hp => absurd (show p ∈ ([] : List (Addr × Obj)) from hp) (by simp)⟩
  ·show b ≠ G.objs.size
   rw [hC]
   exact Nat.ne_of_lt (Nat.lt_succ_of_lt (hlt b hb))
  ·rcases List.mem_cons.mp (I2.stkSub b z) with y | y
   ·exact q1 y
   ·exact q2 y
 have loop : ∀ s₃ : Shared, s₃ = { s2 with heap := h₁, toks := s2.toks + ([] : List (Str × Value)).length } ->
   codeAny (model X.prog X.w) X.A (.compLoop (.ListComp elt [⟨tg, iter, ifs, 0⟩] scope pos) 0 (.ref it) (.ref s2.heap.objs.size) (compEnvC scope cl G.objs.size X.env)) (R (.ref s2.heap.objs.size) G.objs.size) s₃ := by
  rintro s₃ rfl
  have I4 := inv_comp (tk := s2.toks + ([] : List (Str × Value)).length) I2 S hcl1 hcl2 f2 hlt (Nat.le_refl _) (by rw [hC]; exact Nat.le_succ _) (by rw [hC]; exact Nat.ne_of_gt (Nat.lt_succ_self _)) old hacc hns₁
  refine compLoop_gen (fun n' s' => ∃ i H', Inv (X.comp s2 H2 N' scope cl G.objs.size fp) [] (compSt n ix σ) H' s' /\ tn i s'.heap /\ (∀ b ∈ fp, H' b = none) /\ W i n' H') ?_ m0
   ⟨0, _, I4, T.keep _ _ _ st2 fun b hb o e => old b o e, fun b hb => ?_, w0⟩
  ·rintro n' s3 ⟨i, H3, I3, st3, fr3, w3⟩
   rcases turn i n' H3 w3 with ⟨stop, q⟩ | ⟨go, step⟩
   ·refine thn (T.done (X.comp s2 H2 N' scope cl G.objs.size fp) rfl rfl rfl hc i [] s3 _ H3 _ I3 (fpY fr3) st3 stop) fun r s4 zq => ?_
    obtain ⟨hr, I5⟩ := zq
    subst hr
    obtain ⟨mC, hnC, _⟩ := I5.loc
    have IX : Inv X pins σ H3 s4 := I2.call' I5.os I5.base I5.hok I5.bare fun b hb => by
     obtain ⟨_, q1, q2, q3, q4, q5⟩ := f2 b hb
     exact ⟨q3, q1, q4, q5⟩
    refine hR _ _ s4 H3 mC hnC IX I5.free ?_ (.inr ?_) (fun x c e z => ?_) (fun p hp z => ?_) (I2.nofs (by rw [hC]; exact Nat.le_succ _)) q
    ·rw [hC]
     exact Nat.ne_of_gt (Nat.lt_succ_of_lt I2.lt)
    ·rw [hC]
     exact Nat.le_succ_of_le I2.sz
    ·obtain ⟨v, q⟩ := I2.cell x c e
     rw [hC] at z
     exact absurd z (Nat.ne_of_lt (Nat.lt_succ_of_lt q.lt))
    ·rw [hC] at z
     exact absurd z (Nat.ne_of_lt (Nat.lt_succ_of_lt (Heap.lt_size (I2.pin p hp).1)))
   ·refine thn (T.item (X.comp s2 H2 N' scope cl G.objs.size fp) rfl rfl rfl hc i [] s3 _ H3 _ I3 (fpY fr3) st3 go) fun r s4 zq => ?_
    obtain ⟨u, hr, h4⟩ := zq
    subst hr
    refine thn h4 fun _ s5 zq => ?_
    obtain ⟨x, H5, I5, r5, y5, st5, fr5⟩ := zq
    have I5' := I5.pinned (fpY fr5) (T.obj _ _ st5)
    refine thn (hYg _ s5 _ H5 x u _ I5' r5 (step x H5 y5)) fun _ s6 zq => ?_
    obtain ⟨σ6, H6, I6, wk, q6⟩ := zq
    have back : ∀ {H' : Hp} {s' : Shared}, Inv (X.comp s2 H2 N' scope cl G.objs.size fp) ([] ++ pinsAt fp s5.heap) σ6 H' s' ->
      Inv (X.comp s2 H2 N' scope cl G.objs.size fp) [] (compSt n ix σ) H' s' /\ tn (i + 1) s'.heap /\ ∀ b ∈ fp, H' b = none := fun {H' s'} I7 => by
     refine ⟨I7.unpinned.weak wk.1 wk.2, T.keep _ _ _ st5 fun b hb o e => (I7.pin (b, o) (List.mem_append_right _ (List.mem_append_right _ (mem_pinsAt hb e)))).1, fun b hb => ?_⟩
     obtain ⟨o, e, d⟩ := T.obj _ _ st5 b hb
     exact (I7.pin (b, o) (List.mem_append_right _ (List.mem_append_right _ (mem_pinsAt hb e)))).2.1
    refine thn (hYt _ s6 σ6 H6 _ I6 q6) fun ok s7 zq => ?_
    obtain ⟨H7, I7, q7⟩ := zq
    cases ok with
    | false =>
     rw [if_neg Bool.false_ne_true] at q7 ⊢
     obtain ⟨m', hm, w7⟩ := q7
     obtain ⟨b1, b2, b3⟩ := back I7
     exact ⟨m', hm, i + 1, H7, b1, b2, b3, w7⟩
    | true =>
     rw [if_pos rfl] at q7 ⊢
     refine thn (hYe _ s7 σ6 H7 _ I7 q7) fun xv s8 zq => ?_
     obtain ⟨v8, H8, I8, r8, ys, ha, hz, m', hm, w8⟩ := zq
     refine thn (mt_append _ s8 σ6 H8 (.ref s2.heap.objs.size) [v8] (.ref s2.heap.objs.size) [xv] (fun _ H' => H' = upd H8 s2.heap.objs.size (.lst (ys ++ [v8]))) I8 rfl (.cons r8 .nil) ⟨_, ys, v8, rfl, rfl, ha, hz, rfl⟩) fun _ s9 zq => ?_
     obtain ⟨_, H9, I9, _, e9⟩ := zq
     subst e9
     obtain ⟨b1, b2, b3⟩ := back I9
     exact ⟨m', hm, i + 1, _, b1, b2, b3, w8⟩
  ·rw [upd_ne (Nat.ne_of_lt (hlt b hb))]
   exact (f2 b hb).1
 exact codeAny_compStart_list (loop _ rfl) (T.self _ 0 _ _ _ (T.keep _ _ _ st2 fun b hb o e => old b o e) (loop _ rfl))
theorem pe_lc (hc : X.calm = true) (S : CompScope X scope N' n ix) (hi : PI X tg iter wi)
  (hY : ∀ s₂ H₂ cl C fp, PG (X.comp s₂ H₂ N' scope cl C fp) tg g /\ PTs (X.comp s₂ H₂ N' scope cl C fp) ifs tt /\ PE (X.comp s₂ H₂ N' scope cl C fp) elt te)
  (hs : ∀ x, foldedSetIterable iter X.env x = pure x := by intro _; rfl) : PE X (.ListComp elt [⟨tg, iter, ifs, 0⟩] scope pos) (tLc wi g tt te n ix) := by
 intro pins s σ H Q I h
 obtain ⟨cl, hcl, hcl1, hcl2⟩ := closure_ok (env := X.env) (scope := scope) fun y hy hf => I.ok.has _ (S.free y hy hf)
 rw [eval_ListComp]
 refine wpAny_comprehension_free (use := none) rfl hs hcl S.kind S.names (thn (hi pins s σ H _ I h) fun v s1 h1 => thn h1 fun itv s2 h2 => ?_)
 obtain ⟨it, fp, tn, J, H2, rfl, I2, T, st2, f2, hW⟩ := h2
 refine lc_core (R := fun acc C => compPost (model X.prog X.w) X.A X.xe none (EP X pins σ Q) acc C) hc S hY I2 hcl1 hcl2 T st2 f2 hW ?_
 intro acc C s' H' m hn IX hf hL h1 h2 h3 h4 q
 exact ⟨m, hn, fun h' sb => ⟨.ref acc, H', IX.turned (t' := s'.toks) (fun b o hb e => sb.extBut b o hb e) hf hL h1 h2 h3, rfl, q⟩⟩
theorem ps_lcset {x : Str} {i : Nat} {pos' spos : Pos} (hsw : swapsWith (.ListComp elt [⟨tg, iter, ifs, 0⟩] scope pos) (some (.Name x pos')) spos.line X.env = pure true) (hN : X.N.Nodup) (hi' : X.N[i]? = some x) (hx : X.env.scope.names.lookup x = some .local)
  (hc : X.calm = true) (S : CompScope X scope N' n ix) (hi : PI X tg iter wi)
  (hY : ∀ s₂ H₂ cl C fp, PG (X.comp s₂ H₂ N' scope cl C fp) tg g /\ PTs (X.comp s₂ H₂ N' scope cl C fp) ifs tt /\ PE (X.comp s₂ H₂ N' scope cl C fp) elt te)
  (hs : ∀ x, foldedSetIterable iter X.env x = pure x := by intro _; rfl) : PS X (.Assign [.Name x pos'] (.ListComp elt [⟨tg, iter, ifs, 0⟩] scope pos) spos) (tAsg (tLc wi g tt te n ix) (gName i)) := by
 intro pins s σ H D I h
 obtain ⟨cl, hcl, hcl1, hcl2⟩ := closure_ok (env := X.env) (scope := scope) fun y hy hf => I.ok.has _ (S.free y hy hf)
 rw [exec_Assign_Name_used _ _ _ _ hsw]
 refine wpAny_bind (wpAny_standAt (wpAny_bind ?_))
 show wpAny _ _ (do let _ <- comprehension (.ListComp elt [⟨tg, iter, ifs, 0⟩] scope pos) scope X.env _ (newList []) false (eval iter X.env) (some (assign (.Name x pos') X.env))) _ _ s
 refine wpAny_bind (thn (wpAny_comprehension_free (use := some (assign (.Name x pos') X.env)) (Q := fun _ s' => SP X pins D .next s') rfl hs hcl S.kind S.names (thn (hi pins s σ H _ I h) fun v s1 h1 => thn h1 fun itv s2 h2 => ?_)) fun _ s' hq => wpAny_pure (wpAny_pure hq))
 obtain ⟨it, fp, tn, J, H2, rfl, I2, T, st2, f2, hW⟩ := h2
 refine lc_core (Q := fun x H1 => gName i x σ H1 D.nx) (R := fun acc C => compPost (model X.prog X.w) X.A X.xe (some (assign (.Name x pos') X.env)) (fun _ s' => SP X pins D .next s') acc C) hc S hY I2 hcl1 hcl2 T st2 f2 hW ?_
 intro acc C s' H' m hn IX hf hL h1 h2 h3 h4 q
 show wpAny _ _ (assign (.Name x pos') X.env (.ref acc)) _ _ _
 obtain ⟨oC, esC, epC, hoC, hdC, rC⟩ := id hn
 have IP : Inv X (pins ++ [(C, oC)]) σ H' s' := IX.pins_of fun p hp => by
  rcases List.mem_append.mp hp with z | z
  ·exact IX.pin p (List.mem_append_right _ z)
  ·have e : p = (C, oC) := by simpa using z
   subst e
   exact ⟨hoC, hf, hL, h4, fun v z => by rw [hdC] at z; cases z⟩
 refine thn (pg_name hN hi' (.inl hx) (.inr hx) _ s' σ H' (.ref acc) (.ref acc) D.nx IP rfl q) fun _ s'' zq => ?_
 obtain ⟨σ', H'', I'', q''⟩ := zq
 obtain ⟨e1, e2, _⟩ := I''.pin (C, oC) (List.mem_append_right _ (List.mem_append_right _ (by simp)))
 refine ⟨m, ⟨oC, esC, epC, e1, hdC, rC⟩, fun h' sb => ⟨σ', H'', ?_, q''⟩⟩
 exact I''.unpinned.turned (t' := s''.toks) (fun b o hb e => sb.extBut b o hb e) e2 hL h1 h2 h3
end
end L2
namespace L2
open PySem PySem.Spec PyProof.Rows
theorem PE.mono {X : Cx} {e : Expr} {t t' : TE} (h : PE X e t) (m : ∀ σ H Q, t' σ H Q -> t σ H Q) : PE X e t' := fun pins s σ H Q I q => h pins s σ H Q I (m σ H Q q)
theorem same_upd {H : Hp} {a : Addr} {o : HO} (h : H a = none) : Same H (upd H a o) := fun b u e => by
 rw [upd_ne (ne_of_none e h)]; exact e
theorem same_updR {H H' : Hp} {a : Addr} {o : HO} (s : Same H H') (h : H a = none) : Same H (upd H' a o) := fun b u e => by
 rw [upd_ne (ne_of_none e h)]; exact s b u e
noncomputable def SameT (H H' : Hp) : Prop := ∀ b xs, H b = some (.tup xs) -> H' b = some (.tup xs)
theorem Same.t {H H' : Hp} (h : Same H H') : SameT H H' := fun b xs e => h b _ e
theorem SameT.trans {H H1 H2 : Hp} (a : SameT H H1) (b : SameT H1 H2) : SameT H H2 := fun c o h => b c o (a c o h)
theorem sameT_lst {H : Hp} {a : Addr} {xs ys : List V} (h : H a = some (.lst xs)) : SameT H (upd H a (.lst ys)) := fun b zs e => by
 rw [upd_ne (ne_of e h (by intro z; cases z))]; exact e
structure Yields (J : It) (Ok : Hp -> Prop) (xs : List V) : Prop where
 go : ∀ i H, Ok H -> i < xs.length -> J.go i H
 yld : ∀ i H x H', Ok H -> i < xs.length -> J.yld i H x H' -> H' = H /\ xs[i]? = some x
 stop : ∀ H, Ok H -> J.stop xs.length H
theorem yields_list {K : PySem.W.Frag} {a : Addr} {xs : List V} : Yields (Itl K a) (fun H => SqL K H a xs) xs :=
 ⟨fun i H q h => ⟨xs, xs[i], q, by simp [h]⟩, fun i H x H' q _ y => ⟨y.1, y.2 xs q⟩, fun H q => ⟨xs, q, Nat.le_refl _⟩⟩
theorem yields_tup {K : PySem.W.Frag} {a : Addr} {xs : List V} : Yields (Itt K a) (fun H => SqT K H a xs) xs :=
 ⟨fun i H q h => ⟨xs, xs[i], q, by simp [h]⟩, fun i H x H' q _ y => ⟨y.1, y.2 xs q⟩, fun H q => ⟨xs, q, Nat.le_refl _⟩⟩
noncomputable def rangeV (lo : Int) (n : Nat) : List V := (List.range n).map fun (i : Nat) => V.int (lo + (i : Int))
theorem rangeV_len (lo : Int) (n : Nat) : (rangeV lo n).length = n := by simp [rangeV]
theorem rangeV_get {lo : Int} {n i : Nat} (h : i < n) : (rangeV lo n)[i]? = some (V.int (lo + (i : Int))) := by
 simp [rangeV, h]
theorem yields_range {lo : Int} {n : Nat} : Yields (Itr lo n) (fun _ => True) (rangeV lo n) := by
 refine ⟨fun i H _ h => ?_, fun i H x H' _ h y => ?_, fun H _ => ?_⟩
 ·rw [rangeV_len] at h; exact h
 ·obtain ⟨y1, y2⟩ := y
  rw [rangeV_len] at h
  exact ⟨y1, by rw [rangeV_get h, y2]⟩
 ·rw [rangeV_len]; exact Nat.le_refl _
section
variable {J : It} {Ok : Hp -> Prop} {xs : List V} {tt : TT} {te : TE} {ix : List Nat} {σ : St} {H1 : Hp} {Q : VK}
theorem lc_pure (Y : Yields J Ok xs) (small : xs.length < sizeLine) (p : V -> Bool) (f : V -> V) (hok : ∀ H, Same H1 H -> Ok H)
  (ht : ∀ x ∈ xs, ∀ H, Same H1 H -> ∀ Q' : Bool -> Hp -> Prop, Q' (p x) H -> tt (some x :: ix.map fun i => σ.getD i none) H Q')
  (he : ∀ x ∈ xs, p x = true -> ∀ H, Same H1 H -> ∀ Q' : VK, Q' (f x) H -> te (some x :: ix.map fun i => σ.getD i none) H Q')
  (fin : ∀ acc, H1 acc = none -> Q (.ref acc) (upd H1 acc (.lst ((xs.filter p).map f)))) :
  LcW J H1 (gName 0) tt te 1 ix σ Q := by
 intro acc ha
 refine ⟨fun i m H => m = xs.length - i /\ i <= xs.length /\ H = upd H1 acc (.lst (((xs.take i).filter p).map f)), ⟨xs.length, by simp, Nat.zero_le _, rfl⟩, ?_⟩
 rintro i m H ⟨rfl, hi, rfl⟩
 have sm : Same H1 (upd H1 acc (.lst (((xs.take i).filter p).map f))) := same_upd ha
 have o := hok _ sm
 by_cases hlt : i < xs.length
 ·refine .inr ⟨Y.go i _ o hlt, fun x H' y => ?_⟩
  obtain ⟨rfl, hx⟩ := Y.yld i _ x H' o hlt y
  have hmem : x ∈ xs := List.mem_of_getElem? hx
  have htk : xs.take (i + 1) = xs.take i ++ [x] := by
   rw [List.take_succ, hx]; rfl
  refine ⟨⟨rfl, fun j v e => ?_⟩, ?_⟩
  ·cases j with
   | zero => cases e
   | succ j => exact e
  ·refine ht x hmem _ sm _ ?_
   cases hp : p x with
   | false =>
    rw [if_neg Bool.false_ne_true]
    refine ⟨xs.length - (i + 1), by (first | lia | omega), rfl, hlt, ?_⟩
    rw [htk, List.filter_append]
    simp [hp]
   | true =>
    rw [if_pos rfl]
    refine he x hmem hp _ sm _ ?_
    refine ⟨_, upd_same, ?_, xs.length - (i + 1), by (first | lia | omega), rfl, hlt, ?_⟩
    ·rw [List.length_map]
     refine Nat.lt_of_le_of_lt (List.length_filter_le _ _) ?_
     rw [List.length_take]; (first | lia | omega)
    ·rw [upd_upd, htk, List.filter_append, List.map_append]
     simp [hp]
 ·have e : i = xs.length := by (first | lia | omega)
  subst e
  refine .inl ⟨Y.stop _ o, ?_⟩
  rw [List.take_length]
  exact fin acc ha
theorem lc_grow (Y : Yields J Ok xs) (small : xs.length < sizeLine) (R : V -> V -> Hp -> Prop) (hR : ∀ x v H H', SameT H H' -> R x v H -> R x v H') (hok : ∀ H, Same H1 H -> Ok H)
  (he : ∀ x ∈ xs, ∀ H, Same H1 H -> ∀ Q' : VK, (∀ v H', Same H H' -> R x v H' -> Q' v H') -> te (some x :: ix.map fun i => σ.getD i none) H Q')
  (fin : ∀ acc ys H', H1 acc = none -> Same H1 H' -> H' acc = some (.lst ys) -> Paired (fun x v => R x v H') xs ys -> Q (.ref acc) H') :
  LcW J H1 (gName 0) tNoTest te 1 ix σ Q := by
 intro acc ha
 refine ⟨fun i m H => m = xs.length - i /\ i <= xs.length /\ Same H1 H /\ ∃ ys, H acc = some (.lst ys) /\ Paired (fun x v => R x v H) (xs.take i) ys, ⟨xs.length, by simp, Nat.zero_le _, same_upd ha, [], upd_same, .nil⟩, ?_⟩
 rintro i m H ⟨rfl, hi, sm, ys, hacc, pr⟩
 have o := hok _ sm
 have hlen : ys.length = i := by rw [<- Paired.length pr, List.length_take]; (first | lia | omega)
 by_cases hlt : i < xs.length
 ·refine .inr ⟨Y.go i _ o hlt, fun x H' y => ?_⟩
  obtain ⟨rfl, hx⟩ := Y.yld i _ x H' o hlt y
  have hmem : x ∈ xs := List.mem_of_getElem? hx
  have htk : xs.take (i + 1) = xs.take i ++ [x] := by
   rw [List.take_succ, hx]; rfl
  refine ⟨⟨rfl, fun j v e => ?_⟩, ?_⟩
  ·cases j with
   | zero => cases e
   | succ j => exact e
  ·unfold tNoTest
   dsimp only
   rw [if_pos rfl]
   refine he x hmem _ sm _ fun v H4 s4 r4 => ?_
   have h4 : H4 acc = some (.lst ys) := s4 _ _ hacc
   refine ⟨ys, h4, by (first | lia | omega), xs.length - (i + 1), by (first | lia | omega), rfl, hlt, same_updR (sm.trans s4) ha, ys ++ [v], upd_same, ?_⟩
   rw [htk]
   have st : SameT H4 (upd H4 acc (.lst (ys ++ [v]))) := sameT_lst h4
   exact Paired.snoc (Paired.mapP pr fun x' v' r' => hR _ _ _ _ (s4.t.trans st) r') (hR _ _ _ _ st r4)
 ·have e : i = xs.length := by (first | lia | omega)
  subst e
  refine .inl ⟨Y.stop _ o, ?_⟩
  rw [List.take_length] at pr
  exact fin acc ys H ha sm hacc pr
end
end L2
namespace L2
open PySem PySem.Spec PyProof.Rows
section
variable {prog : Program} {w : World} {A : Around} {E : Value -> Shared -> Prop} {s : Shared}
theorem nextT_item {it t : Addr} {i : Nat} {its : Array Value} {x : Value} {Q : Value -> Shared -> Prop} (hi : s.heap.IsTupleIter it t i) (ht : s.heap.IsTuple t its) (hx : its[i]? = some x)
  (q : ∀ h', h'.IsTupleIter it t (i + 1) -> Heap.SameBut it s.heap h' -> Q x { s with heap := h' }) : wpAny (model prog w) A (Builtin.SmallTypes.nextOf (.ref it)) Q E s := by
 obtain ⟨o, e1, e2, e3⟩ := id hi
 obtain ⟨u, f1, f2, nu, f3⟩ := ht
 unfold Builtin.SmallTypes.nextOf
 refine wpAny_bind (wpAny_callSpecial?_slot (name := Str.ofString "__next__") hi.typeIs F.slot_tuple_iterator_next (wpAny_call_entry F.slot_tuple_iterator_next hi.typeIs F.entry_tuple_iterator_next ?_ (F.args_tuple_iterator_next_1 _)))
 show wpAny _ _ (field (.ref it) 0 >>= _) _ _ s
 refine wpAny_bind (wpAny_field e1 e3 (x := .ref t) rfl ?_)
 show wpAny _ _ (if (Value.ref t == Value.none) = true then _ else _) _ _ s
 rw [if_neg (show ¬ ((Value.ref t == Value.none) = true) from Bool.false_ne_true)]
 show wpAny _ _ (field (.ref it) 1 >>= _) _ _ s
 refine wpAny_bind (wpAny_field e1 e3 (x := .int i 0) rfl ?_)
 show wpAny _ _ (seqItems? (.ref t) >>= _) _ _ s
 refine wpAny_bind (wpAny_seqItems f1 f3 ?_)
 simp only [Int.toNat_natCast, hx]
 refine wpAny_bind (wpAny_setField e1 e3 (by simp) (wpAny_pure ⟨x, rfl, wpAny_pure (q _ ⟨_, Heap.get?_update_self _ e1 (Obj.isFreed_of_fields (Obj.data_mapFields e3 _)), (Obj.cls_mapFields ..).trans e2, ?_⟩ (Heap.SameBut.update ..))⟩))
 rw [Obj.data_mapFields e3]
 simp [rawInt]
theorem nextT_end {it t : Addr} {i : Nat} {its : Array Value} {Q : Value -> Shared -> Prop} (hh : A.handled = none) (hi : s.heap.IsTupleIter it t i) (ht : s.heap.IsTuple t its) (hx : its[i]? = none)
  (q : ∀ h' e, Heap.ExtBut it s.heap h' -> (∃ o, h'.get? e = some o /\ o.cls = .type "StopIteration") -> E (.ref e) { s with heap := h' }) : wpAny (model prog w) A (Builtin.SmallTypes.nextOf (.ref it)) Q E s := by
 obtain ⟨o, e1, e2, e3⟩ := id hi
 obtain ⟨u, f1, f2, nu, f3⟩ := ht
 unfold Builtin.SmallTypes.nextOf
 refine wpAny_bind (wpAny_callSpecial?_slot (name := Str.ofString "__next__") hi.typeIs F.slot_tuple_iterator_next (wpAny_call_entry F.slot_tuple_iterator_next hi.typeIs F.entry_tuple_iterator_next ?_ (F.args_tuple_iterator_next_1 _)))
 show wpAny _ _ (field (.ref it) 0 >>= _) _ _ s
 refine wpAny_bind (wpAny_field e1 e3 (x := .ref t) rfl ?_)
 show wpAny _ _ (if (Value.ref t == Value.none) = true then _ else _) _ _ s
 rw [if_neg (show ¬ ((Value.ref t == Value.none) = true) from Bool.false_ne_true)]
 show wpAny _ _ (field (.ref it) 1 >>= _) _ _ s
 refine wpAny_bind (wpAny_field e1 e3 (x := .int i 0) rfl ?_)
 show wpAny _ _ (seqItems? (.ref t) >>= _) _ _ s
 refine wpAny_bind (wpAny_seqItems f1 f3 ?_)
 simp only [Int.toNat_natCast, hx]
 refine wpAny_bind (wpAny_rule (wpAny_bind (wpAny_setField e1 e3 (by simp) ?_)))
 show wpAny _ _ (newExc (.type "StopIteration") [] >>= _) _ _ _
 refine wpAny_bind ?_
 simp only [newExc, newTuple]
 refine wpAny_bind (wpAny_newObj_type ?_ (by size_fits))
 refine wpAny_bind (m := firstArgMember _ _) (wpAny_of_eq (a := Value.none) (by first | rfl | (simp only [firstArgMember]; rfl)) ?_)
 refine wpAny_newObj_type ?_ (by size_fits)
 simp only [raiseNew]
 refine wpAny_bind (wpAny_handled ?_)
 first | rw [show A.in1.handled = none from hh] | rw [hh]
 refine wpAny_bind (wpAny_pure (wpAny_throw ?_))
 exact q _ _ (((Heap.SameBut.update ..).extBut.push _).push _) ⟨_, Heap.get?_push_size _ rfl, rfl⟩
end
theorem drawsT {prog : Program} {w : World} {A : Around} (hh : A.handled = none) (it t : Addr) (hne : t ≠ it) (its : Array Value) :
  Draws prog w A it [it, t] its.size (fun i v => its[i]? = some v) (fun i h => h.IsTupleIter it t i /\ h.IsTuple t its) where
 live := fun _ _ st => let ⟨o, ho, _⟩ := st.1; ⟨o, ho⟩
 frame := fun _ _ _ st hk => ⟨let ⟨o, ho, r⟩ := st.1; ⟨o, hk it (by simp) o ho, r⟩, let ⟨o, ho, r⟩ := st.2; ⟨o, hk t (by simp) o ho, r⟩⟩
 item := fun i s Q E hi st hQ => nextT_item st.1 st.2 (x := its[i]) (by simp [hi]) fun h' a b => hQ _ h' s.toks (by simp [hi]) ⟨a, st.2.extBut b.extBut hne⟩ b
 done := fun s Q E st hE => nextT_end hh st.1 st.2 (by simp) hE
theorem enum_newT (l : Addr) (items : Array Value) (n : Nat) (dct : Option Addr) (sl : Array (Option Value)) :
  Meets (Builtin.«enumerate.__new__» ⟨[.type "enumerate", .ref l], []⟩) (fun _ R s => s.heap.get? l = some { cls := .type "tuple", dict := dct, data := .seq items n, slots := sl } /\
   R (.ok (.ret (.ref (s.heap.push { cls := .type "tuple_iterator", data := .fields #[.ref l, .int 0 0] }).objs.size)))
    { s with heap := (s.heap.push { cls := .type "tuple_iterator", data := .fields #[.ref l, .int 0 0] }).push { cls := .type "enumerate", data := .fields #[.none, .bool false, .ref s.heap.objs.size, rawInt 0, .none, .none] } }) :=
 .of_wp fun prog w A R s h => by
  obtain ⟨hp, g, d, tk, os⟩ := s; obtain ⟨hl, h⟩ := h
  have hsub := sub_enumerate
  have hL : Heap.IsTuple (Shared.heap ⟨hp, g, d, tk, os⟩) l items := ⟨_, hl, rfl, n, rfl⟩
  wp_walk using AutoSeq1.wpAny_loadPart' hl
  refine wpAny_stack_any fun st => wpAny_pure ?_
  split
  ·rename_i c _ _ _ _ _
   cases (c == Value.type "enumerate") <;> (wp_walk using AutoSeq1.wpAny_loadPart' hl, wpAny_pyIter_tuple hL; exact ⟨_, rfl, h⟩)
  ·wp_walk using AutoSeq1.wpAny_loadPart' hl, wpAny_pyIter_tuple hL
   exact ⟨_, rfl, h⟩
theorem call_enumT {prog : Program} {w : World} {A : Around} {E : Value -> Shared -> Prop} {s : Shared} {l : Addr} {items : Array Value} {Q : Value -> Shared -> Prop} (hL : s.heap.IsTuple l items)
  (h : ∀ h', IsEnum h' (s.heap.objs.size + 1) s.heap.objs.size 0 .none -> h'.IsTupleIter s.heap.objs.size l 0 -> h'.objs.size = s.heap.objs.size + 2 ->
   (∀ b o, s.heap.get? b = some o -> h'.get? b = some o) -> Q (.ref (s.heap.objs.size + 1)) { s with heap := h' }) :
  wpAny (model prog w) A (call (.type "enumerate") [.ref l]) Q E s := by
 obtain ⟨⟨c, dct, dt, sl⟩, hl, hc, n, hd⟩ := hL
 replace hc : c = .type "tuple" := hc
 replace hd : dt = .seq items n := hd
 subst hc hd
 refine callType_new F.called_enumerate (by decide) (F.typeCall_enumerate_1 _) (F.newCall_enumerate_1 _) (fun obj => F.args_object_init_2 obj _) F.entry_enumerate_new (enum_newT l items n dct sl) ⟨hl, ?_⟩
 have hz : (s.heap.push { cls := .type "tuple_iterator", data := .fields #[.ref l, .int 0 0] }).objs.size = s.heap.objs.size + 1 := Heap.size_push ..
 show _ /\ _
 rw [hz]
 have he := Heap.get?_push_size (s.heap.push { cls := .type "tuple_iterator", data := .fields #[.ref l, .int 0 0] }) (o := { cls := .type "enumerate", data := .fields #[.none, .bool false, .ref s.heap.objs.size, rawInt 0, .none, .none] }) rfl
 rw [hz] at he
 exact ⟨⟨_, he, rfl⟩, h _ he ⟨_, Heap.get?_push_of_some _ (Heap.get?_push_size _ rfl), rfl, rfl⟩ (by rw [Heap.size_push, hz]) fun b o x => Heap.get?_push_of_some _ (Heap.get?_push_of_some _ x)⟩
end L2
namespace L2
open PySem PySem.Spec PyProof.Rows
section
variable {X : Cx} {pins : List (Addr × Obj)} {σ : St} {H : Hp} {s : Shared} {h' : Heap}
theorem Inv.turnedN {t' : Nat} {fp : List Addr} (I : Inv X pins σ H s) (hf : ∀ b ∈ fp, FpOk X pins H b) (k : ∀ b o, b ∉ fp -> s.heap.get? b = some o -> h'.get? b = some o) : Inv X pins σ H { s with heap := h', toks := t' } := by
 have nit : ∀ b u, H b = some u -> b ∉ fp := fun b u e z => by rw [(hf b z).1] at e; cases e
 refine I.step (g' := s.gens) (d' := s.drawn) (ch := fp) (fun b hb => ?_) (fun b o _ _ hc e _ => k b o hc e) (fun b o _ _ hc e _ => ⟨o.slots, k b o hc e⟩) (fun _ _ _ _ n => n)
  (fun b o hc e => ⟨o, k b o hc e⟩) (fun _ _ e => e) (fun _ _ _ e => e) (fun b ps e => ⟨#[], by rw [e]; simp⟩) (fun m hm => ?_) (fun b u e => ?_) I.bare
 ·obtain ⟨_, q1, q2, q3, q4, q5⟩ := hf b hb
  exact ⟨q3, q1, q4, q5⟩
 ·obtain ⟨o, es, ep, ho, r⟩ := hm
  exact ⟨o, es, ep, k _ o (fun z => (hf _ z).2.1 rfl) ho, r⟩
 ·refine (I.hok b u e).stay (fun c v hc q => k c v ?_ q) (fun _ q => q) fun _ _ q => q
  rcases hc with z | z
  ·rw [z]; exact nit b u e
  ·exact nit c _ z
theorem Inv.trackT {a : Addr} {xs : List V} {its : List Value} (I : Inv X pins σ H s) (hn : H a = none) (hs : X.s₀.heap.objs.size <= a) (hL : a ≠ X.env.locals) (hc : ∀ x c, X.env.cells.lookup x = some c -> c ≠ a) (hp : ∀ p ∈ X.pn ++ pins, p.1 ≠ a)
  (rv : Vals xs its) (ht : PTup s.heap a its.toArray) (hz : xs.length <= sizeLine) : Inv X pins σ (upd H a (.tup xs)) s := by
 have ne : ∀ {b u}, H b = some u -> b ≠ a := fun e => ne_of_none e hn
 refine ⟨I.ok, I.os, I.bare, ⟨I.base.keep, I.base.slot, fun b o e n hx => ?_, I.base.there, fun b ys e => ?_, fun b o u e => ?_, fun b ps e => ?_⟩, I.loc, I.cell, ?_, fun x c e => ?_, fun p hp' => ?_, fun b u e => ?_, I.len⟩
 ·rw [upd_ne (Nat.ne_of_lt (Nat.lt_of_lt_of_le (Heap.lt_size e) hs))]
  exact I.base.free b o e n hx
 ·have q := I.base.tups b ys e
  rw [upd_ne (ne q)]; exact q
 ·have q := I.base.frzs b o u e
  rw [upd_ne (ne q)]; exact q
 ·obtain ⟨m, q⟩ := I.base.tbls b ps e
  exact ⟨m, by rw [upd_ne (ne q)]; exact q⟩
 ·rw [upd_ne (Ne.symm hL)]; exact I.free
 ·rw [upd_ne (hc x c e)]; exact I.freeC x c e
 ·obtain ⟨q1, q2, q3⟩ := I.pin p hp'
  exact ⟨q1, by rw [upd_ne (hp p hp')]; exact q2, q3⟩
 ·by_cases hb : b = a
  ·subst hb
   rw [upd_same] at e; cases e
   exact ⟨hz, its, rv, ht⟩
  ·rw [upd_ne hb] at e
   exact (I.hok b u e).stay (fun _ _ _ q => q) (fun c q => by rw [upd_ne (ne q)]; exact q) fun c ys q => by rw [upd_ne (ne q)]; exact q
theorem Inv.turnedT {t' : Nat} {fp : List Addr} {xs : List V} {its : List Value} (I : Inv X pins σ H s) (hf : ∀ b ∈ fp, FpOk X pins H b) (k : ∀ b o, b ∉ fp -> s.heap.get? b = some o -> h'.get? b = some o)
  (rv : Vals xs its) (ht : PTup h' s.heap.objs.size its.toArray) (hz : xs.length <= sizeLine) : Inv X pins σ (upd H s.heap.objs.size (.tup xs)) { s with heap := h', toks := t' } := by
 refine (I.turnedN (t' := t') hf k).trackT (I.hok.fresh (Nat.le_refl _)) I.sz (Nat.ne_of_gt I.lt) (fun x c e => ?_) (fun p hp => ?_) rv ht hz
 ·obtain ⟨v, q⟩ := I.cell x c e
  exact Nat.ne_of_lt q.lt
 ·exact Nat.ne_of_lt (Heap.lt_size (I.pin p hp).1)
end
noncomputable def Ite (K : PySem.W.Frag) (a : Addr) : It :=
 ⟨fun i H => ∃ xs x, SqT K H a xs /\ xs[i]? = some x, fun i H v H' => ∃ t x, H t = none /\ v = .ref t /\ H' = upd H t (.tup [.int i, x]) /\ ∀ xs, SqT K H a xs -> xs[i]? = some x, fun i H => ∃ xs, SqT K H a xs /\ xs.length = i⟩
theorem turn_enumT {P : Program} {w : World} {K : PySem.W.Frag} {els : List Expr} {kx} {tp : Pos} (a e it : Addr) (hne : e ≠ it) : Turn P w K (.Tuple els kx tp) (Ite K a) [e, it] e (fun i h => (∃ old, IsEnum h e it i old) /\ h.IsTupleIter it a i) where
 mem := by simp
 obj := fun i h st b hb => by
  obtain ⟨⟨old, he⟩, o, ho, hc, hd⟩ := st
  rcases List.mem_cons.mp hb with rfl | hb
  ·exact ⟨_, he, fun v z => by cases z⟩
  ·rw [List.mem_singleton.mp hb]
   exact ⟨o, ho, fun v z => by rw [hd] at z; cases z⟩
 keep := fun i h h' st k => by
  obtain ⟨⟨old, he⟩, o, ho, r⟩ := st
  exact ⟨⟨old, k e (by simp) _ he⟩, o, k it (by simp) _ ho, r⟩
 item := by
  intro X hP hw hK hc i pins s σ H E I hf st hg
  subst hP hw hK
  obtain ⟨xs, x, hq, hx⟩ := hg
  obtain ⟨its, rv, p, hz⟩ := I.tuple hq
  obtain ⟨u, hu, ru⟩ := rv.get hx
  obtain ⟨⟨old, he⟩, hi⟩ := st
  obtain ⟨o, ho, hcl, hd⟩ := id hi
  have hT : s.heap.IsTuple a its.toArray := p
  have hai : a ≠ it := fun z => by
   obtain ⟨o', e1, e2, _⟩ := p
   rw [z, ho] at e1; cases e1; rw [hcl] at e2; injection e2 with z2; revert z2; decide
  have hae : e ≠ a := fun z => by
   obtain ⟨o', e1, e2, _⟩ := p
   rw [<- z, he] at e1; cases e1; injection e2 with z2; revert z2; decide
  have hlt : i < its.toArray.size := by
   have := (List.getElem?_eq_some_iff.mp hu).1
   simpa using this
  have hh : X.A.in1.handled = none := I.ok.hd hc
  refine wpAny_pyNext_enum_itemD (drawsT hh it a hai its.toArray) he ⟨hi, hT⟩ hlt hne (by simp [hne, hae]) fun x' h1 tk hP1 ho1 hs1 hT1 hz1 hk1 => ?_
  have ex : x' = u := by
   have q : its[i]? = some x' := by simpa using hP1
   rw [hu] at q; exact (Option.some.inj q).symm
  subst ex
  refine ⟨_, rfl, wpAny_letOwnedTupleGo_enum ho1 fun h2 he2 hs2 => ?_⟩
  have hne0 : s.heap.objs.size ≠ e := Nat.ne_of_gt (Heap.lt_size he)
  have keep : ∀ b o, b ∉ [e, it] -> s.heap.get? b = some o -> h2.get? b = some o := fun b o hb e0 => (hs2.2 b fun z => hb (by simp [z])).trans (hk1 b o (fun z => hb (by simp [z])) (fun z => hb (by simp [z])) e0)
  refine ⟨.ref s.heap.objs.size, _, I.turnedT (h' := h2) (t' := tk + 1) (xs := [.int i, x]) hf keep (.cons ⟨tk, rfl⟩ (.cons ru .nil)) ⟨_, (hs2.2 _ hne0).trans hT1, rfl, ⟨_, rfl⟩, rfl, rfl⟩ (by show 2 <= sizeLine; decide), rfl, ⟨_, x, I.hok.fresh (Nat.le_refl _), rfl, rfl, fun ys hy => by rw [I.tuple_inj hy hq]; exact hx⟩, ⟨⟨_, by simpa using he2⟩, ?_⟩, fun b hb => ?_⟩
  ·obtain ⟨⟨o1, e1, r1⟩, _⟩ := hs1
   exact ⟨o1, (hs2.2 it (Ne.symm hne)).trans e1, r1⟩
  ·rcases List.mem_cons.mp hb with rfl | hb'
   ·rw [upd_ne (Nat.ne_of_lt (Heap.lt_size he))]; exact (hf _ hb).1
   ·have e9 := List.mem_singleton.mp hb'
    subst e9
    rw [upd_ne (Nat.ne_of_lt (Heap.lt_size ho))]; exact (hf _ hb).1
 done := by
  intro X hP hw hK hc i pins s σ H E I hf st hg
  subst hP hw hK
  obtain ⟨xs, hq, hx⟩ := hg
  obtain ⟨its, rv, p, hz⟩ := I.tuple hq
  obtain ⟨⟨old, he⟩, hi⟩ := st
  obtain ⟨o, ho, hcl, hd⟩ := id hi
  have hT : s.heap.IsTuple a its.toArray := p
  have hai : a ≠ it := fun z => by
   obtain ⟨o', e1, e2, _⟩ := p
   rw [z, ho] at e1; cases e1; rw [hcl] at e2; injection e2 with z2; revert z2; decide
  have hh : X.A.in1.handled = none := I.ok.hd hc
  have hl : its.toArray.size = i := by rw [List.size_toArray, <- rv.length, hx]
  refine wpAny_pyNext_enum_endD (drawsT hh it a hai its.toArray) he (by rw [hl]; exact ⟨hi, hT⟩) fun h1 hk => ⟨rfl, ?_⟩
  exact I.turnedN (t' := s.toks) hf fun b o hb e0 => hk b o (fun z => hb (by simp [z])) e0
 self := fun _ _ _ _ _ st h => by
  obtain ⟨⟨old, he⟩, _⟩ := st
  exact wpAny_pyIter_enum he h
section
variable {X : Cx}
noncomputable def iEnum (K : PySem.W.Frag) (ta : TA) : TI := fun σ H R => ta σ H fun vs H1 => ∃ a, vs = [.ref a] /\ (∃ xs, SqT K H1 a xs) /\ R (Ite K a) H1
theorem pi_enumT {els : List Expr} {kx} {tp : Pos} {l : Expr} {ta : TA} {p pos : Pos} (hg : Gl X "enumerate") (hm : X.mg "enumerate" = none) (ha : PA X [l] ta) (hs : starEach [l] X.env = [(false, eval l X.env)] := by rfl) :
  PI X (.Tuple els kx tp) (.Call (.Name "enumerate" p) [l] [] pos) (iEnum X.K ta) := by
 intro pins s σ H R I h
 refine Call_ (ld_blt I hg hm boot_enumerate (PyProof.Rows.callWith_type1 (thn (ha pos pins s σ H _ I h) fun us s1 zq => ?_) hs rfl))
 obtain ⟨vs, H1, I1, r1, q1⟩ := zq
 obtain ⟨a, rfl, ⟨xs, hq⟩, q⟩ := q1
 obtain ⟨u, rfl, ru⟩ := vals1 r1
 cases (show u = Value.ref a from ru)
 obtain ⟨its, rv, p', hz⟩ := I1.tuple hq
 refine call_enumT (show s1.heap.IsTuple a its.toArray from p') fun h' he hi hsz hk => wpAny_pyIter_enum he ?_
 have I2 : Inv X pins σ H1 { s1 with heap := h' } := I1.kept (t' := s1.toks) hk
 refine ⟨s1.heap.objs.size + 1, [s1.heap.objs.size + 1, s1.heap.objs.size], _, _, H1, rfl, I2, turn_enumT a _ _ (Nat.ne_of_gt (Nat.lt_succ_self _)), ⟨⟨_, he⟩, hi⟩, fun b hb => ?_, q⟩
 rcases List.mem_cons.mp hb with rfl | hb
 ·exact I1.fpOk (Nat.le_succ _) (I1.hok.fresh (Nat.le_succ _))
 ·rw [List.mem_singleton.mp hb]
  exact I1.fpOk (Nat.le_refl _) (I1.hok.fresh (Nat.le_refl _))
end
end L2
namespace L2
open PySem PySem.Spec PyProof.Rows
structure ZipT (h : Heap) (z TI TO i1 i2 a b : Addr) (i : Nat) : Prop where
 z : IsZip h z TI TO .none
 ti : IsPair h TI (.ref i1) (.ref i2)
 to : ∃ x y, IsPair h TO x y
 one : h.IsTupleIter i1 a i
 two : h.IsTupleIter i2 b i
structure ZipNe (z TI TO i1 i2 : Addr) : Prop where
 az : TI ≠ z
 bz : TO ≠ z
 cz : i1 ≠ z
 dz : i2 ≠ z
 ab : TI ≠ TO
 ac : TI ≠ i1
 ad : TI ≠ i2
 bc : TO ≠ i1
 bd : TO ≠ i2
 cd : i1 ≠ i2
section
variable {prog : Program} {w : World} {A : Around} {E : Value -> Shared -> Prop} {s : Shared} {z TI TO i1 i2 a b : Addr} {i : Nat} {xs ys : Array Value}
theorem pairSet {T : Addr} {p q x : Value} {k : Nat} {Q : Unit -> Shared -> Prop} (hT : IsPair s.heap T p q) (h : ∀ h', h'.get? T = some { cls := .type "tuple", data := .seq ((#[p, q] : Array Value).setIfInBounds k x) } -> Heap.SameBut T s.heap h' -> Q () { s with heap := h' }) :
  wpAny (model prog w) A (updateSeq T (·.setIfInBounds k x)) Q E s := wpAny_updateSeq_pair hT h
theorem tupNe {h : Heap} {t j : Addr} {k : Nat} {its : Array Value} {u : Addr} (ht : h.IsTuple t its) (hj : h.IsTupleIter j u k) : t ≠ j := fun e => by
 obtain ⟨o, e1, e2, _⟩ := ht
 obtain ⟨o', f1, f2, _⟩ := hj
 rw [e, f1] at e1; cases e1; rw [f2] at e2; injection e2 with z2; revert z2; decide
theorem zipT_item {x y : Value} {Q : Option Value -> Shared -> Prop} (D : ZipNe z TI TO i1 i2) (S : ZipT s.heap z TI TO i1 i2 a b i) (ha : s.heap.IsTuple a xs) (hb : s.heap.IsTuple b ys) (haz : a ≠ z /\ a ≠ TO) (hbz : b ≠ z /\ b ≠ TO) (hx : xs[i]? = some x) (hy : ys[i]? = some y)
  (q : ∀ h', IsZip h' z TI TO (rawInt s.heap.objs.size) -> IsPair h' TI (.ref i1) (.ref i2) -> IsPair h' TO x y -> h'.IsTupleIter i1 a (i + 1) -> h'.IsTupleIter i2 b (i + 1) -> IsPair h' s.heap.objs.size x y ->
   (∀ c o, c ≠ z -> c ≠ TO -> c ≠ i1 -> c ≠ i2 -> s.heap.get? c = some o -> h'.get? c = some o) -> Q (some (.ref s.heap.objs.size)) { s with heap := h' }) :
  wpAny (model prog w) A (pyNext (.ref z)) Q E s := by
 obtain ⟨hz, hti, ⟨p0, p1, hto⟩, h1, h2⟩ := S
 have ai1 := tupNe ha h1
 have ai2 := tupNe ha h2
 have bi1 := tupNe hb h1
 have bi2 := tupNe hb h2
 have hT : s.TypeIs (.ref z) "zip" := ⟨_, hz, rfl⟩
 unfold pyNext
 refine wpAny_bind (wpAny_attempt (wpAny_callSpecial?_slot (name := Str.ofString "__next__") hT F.slot_zip_next (wpAny_call_entry F.slot_zip_next hT F.entry_zip_next ?_ (F.args_zip_next_1 _))))
 show wpAny _ _ (field (.ref z) 2 >>= _) _ _ _
 refine wpAny_bind (wpAny_field hz rfl (x := .bool false) rfl ?_); show wpAny _ _ (field (.ref z) 3 >>= _) _ _ _
 refine wpAny_bind (wpAny_field hz rfl (x := .ref TI) rfl (wpAny_bind (wpAny_seqItems hti rfl ?_)))
 show wpAny _ _ (Builtin.SmallTypes.ownedTupleIsFree (.ref z) >>= _) _ _ _
 refine wpAny_bind ?_
 unfold Builtin.SmallTypes.ownedTupleIsFree
 refine wpAny_bind (wpAny_field hz rfl (x := .none) rfl (wpAny_pure ?_)); simp only [if_true]
 refine wpAny_bind (wpAny_rule (wpAny_bind (wpAny_field hz rfl (x := .ref TO) rfl (wpAny_bind (wpAny_setField_rec hz (by simp) fun g1 k1 s1 => ?_)))))
 replace k1 : IsZip g1 z TI TO .ellipsis := k1
 refine wpAny_bind ?_
 simp only [List.zipIdx_cons, List.zipIdx_nil, List.forIn_cons, List.forIn_nil]
 refine wpAny_bind (wpAny_bind (wpAny_onRaise ?_)); show wpAny _ _ (Builtin.SmallTypes.nextOf (.ref i1) >>= _) _ _ _
 refine wpAny_bind (nextT_item (h1.extBut s1.extBut D.cz) (ha.extBut s1.extBut haz.1) hx fun g2 j2 s2 => wpAny_pure ?_)
 have t2 : IsPair g2 TO p0 p1 := s2.extBut _ _ D.bc (s1.extBut _ _ D.bz hto)
 refine wpAny_bind (wpAny_seqItems t2 rfl (wpAny_bind (pairSet t2 fun g3 t3 s3 => ?_)))
 replace t3 : IsPair g3 TO x p1 := t3
 refine wpAny_bind (wpAny_letGo (wpAny_pure ?_))
 refine wpAny_bind (wpAny_bind (wpAny_onRaise ?_)); show wpAny _ _ (Builtin.SmallTypes.nextOf (.ref i2) >>= _) _ _ _
 have e3 : ∀ c o, c ≠ z -> c ≠ i1 -> c ≠ TO -> s.heap.get? c = some o -> g3.get? c = some o := fun c o c1 c2 c3 e => s3.extBut _ _ c3 (s2.extBut _ _ c2 (s1.extBut _ _ c1 e))
 have h23 : g3.IsTupleIter i2 b i := let ⟨o, ho, r⟩ := h2; ⟨o, e3 _ _ D.dz D.cd.symm D.bd.symm ho, r⟩
 have hb3 : g3.IsTuple b ys := let ⟨o, ho, r⟩ := hb; ⟨o, e3 _ _ hbz.1 bi1 hbz.2 ho, r⟩
 refine wpAny_bind (nextT_item h23 hb3 hy fun g4 j4 s4 => wpAny_pure ?_)
 have t4 : IsPair g4 TO x p1 := s4.extBut _ _ D.bd t3
 refine wpAny_bind (wpAny_seqItems t4 rfl (wpAny_bind (pairSet t4 fun g5 t5 s5 => ?_)))
 replace t5 : IsPair g5 TO x y := t5
 refine wpAny_bind (wpAny_letGo (wpAny_pure (wpAny_pure ?_)))
 refine wpAny_bind (wpAny_seqItems t5 rfl (wpAny_bind (wpAny_newTuple ?_)))
 have z5 : g5.objs.size = s.heap.objs.size := by rw [s5.1, s4.1, s3.1, s2.1, s1.1]
 have e5 : ∀ c o, c ≠ z -> c ≠ TO -> c ≠ i1 -> c ≠ i2 -> s.heap.get? c = some o -> g5.get? c = some o := fun c o c1 c2 c3 c4 e => s5.extBut _ _ c2 (s4.extBut _ _ c4 (e3 c o c1 c3 c2 e))
 have k5 : IsZip g5 z TI TO .ellipsis := s5.extBut _ _ D.bz.symm (s4.extBut _ _ D.dz.symm (s3.extBut _ _ D.bz.symm (s2.extBut _ _ D.cz.symm k1)))
 have m1 : g5.IsTupleIter i1 a (i + 1) := ((j2.extBut s3.extBut D.bc.symm).extBut s4.extBut D.cd).extBut s5.extBut D.bc.symm
 have m2 : g5.IsTupleIter i2 b (i + 1) := j4.extBut s5.extBut D.bd.symm
 have zlt : z < g5.objs.size := Heap.lt_size k5
 show wpAny _ _ (Builtin.SmallTypes.ownedTupleHandOut (.ref z) (.ref g5.objs.size) >>= _) _ _ _
 refine wpAny_bind ?_
 unfold Builtin.SmallTypes.ownedTupleHandOut
 have k6 : IsZip (g5.push { cls := .type "tuple", data := .seq #[x, y] }) z TI TO .ellipsis := Heap.get?_push_of_some _ k5
 refine wpAny_bind (wpAny_setField_rec k6 (by simp) fun g7 k7 s7 => ?_)
 replace k7 : IsZip g7 z TI TO (rawInt g5.objs.size) := k7
 refine wpAny_setField_rec k7 (by simp) fun g8 k8 s8 => ?_
 replace k8 : IsZip g8 z TI TO (rawInt g5.objs.size) := k8
 have up : ∀ c o, c ≠ z -> g5.get? c = some o -> g8.get? c = some o := fun c o c1 e => s8.extBut _ _ c1 (s7.extBut _ _ c1 (Heap.get?_push_of_some _ e))
 have t8 : IsPair g8 g5.objs.size x y := s8.extBut _ _ (Nat.ne_of_gt zlt) (s7.extBut _ _ (Nat.ne_of_gt zlt) (Heap.get?_push_size _ rfl))
 rw [z5] at k8 t8
 refine wpAny_pure ⟨_, rfl, wpAny_pure ?_⟩
 show Q (some (.ref g5.objs.size)) _
 rw [z5]
 exact q g8 k8 (up _ _ D.az (e5 _ _ D.az D.ab D.ac D.ad hti)) (up _ _ D.bz t5) (let ⟨o, ho, r⟩ := m1; ⟨o, up _ _ D.cz ho, r⟩) (let ⟨o, ho, r⟩ := m2; ⟨o, up _ _ D.dz ho, r⟩) t8 fun c o c1 c2 c3 c4 e => up c o c1 (e5 c o c1 c2 c3 c4 e)
end
end L2
namespace L2
open PySem PySem.Spec PyProof.Rows
section
variable {prog : Program} {w : World} {A : Around} {E : Value -> Shared -> Prop} {s : Shared} {z TI TO i1 i2 a b : Addr} {i : Nat} {xs ys : Array Value}
theorem zipT_end {Q : Option Value -> Shared -> Prop} (hh : A.in1.handled = none) (D : ZipNe z TI TO i1 i2) (S : ZipT s.heap z TI TO i1 i2 a b i) (ha : s.heap.IsTuple a xs) (hb : s.heap.IsTuple b ys) (haz : a ≠ z /\ a ≠ TO) (hbz : b ≠ z /\ b ≠ TO) (hend : xs[i]? = none ∨ ys[i]? = none)
  (q : ∀ h', (∀ c o, c ≠ z -> c ≠ TO -> c ≠ i1 -> c ≠ i2 -> s.heap.get? c = some o -> h'.get? c = some o) -> Q none { s with heap := h' }) :
  wpAny (model prog w) A (pyNext (.ref z)) Q E s := by
 obtain ⟨hz, hti, ⟨p0, p1, hto⟩, h1, h2⟩ := S
 have bi1 := tupNe hb h1
 have hT : s.TypeIs (.ref z) "zip" := ⟨_, hz, rfl⟩
 unfold pyNext
 refine wpAny_bind (wpAny_attempt (wpAny_callSpecial?_slot (name := Str.ofString "__next__") hT F.slot_zip_next (wpAny_call_entry F.slot_zip_next hT F.entry_zip_next ?_ (F.args_zip_next_1 _))))
 show wpAny _ _ (field (.ref z) 2 >>= _) _ _ _
 refine wpAny_bind (wpAny_field hz rfl (x := .bool false) rfl ?_); show wpAny _ _ (field (.ref z) 3 >>= _) _ _ _
 refine wpAny_bind (wpAny_field hz rfl (x := .ref TI) rfl (wpAny_bind (wpAny_seqItems hti rfl ?_)))
 show wpAny _ _ (Builtin.SmallTypes.ownedTupleIsFree (.ref z) >>= _) _ _ _
 refine wpAny_bind ?_
 unfold Builtin.SmallTypes.ownedTupleIsFree
 refine wpAny_bind (wpAny_field hz rfl (x := .none) rfl (wpAny_pure ?_)); simp only [if_true]
 refine wpAny_bind (wpAny_rule (wpAny_bind (wpAny_field hz rfl (x := .ref TO) rfl (wpAny_bind (wpAny_setField_rec hz (by simp) fun g1 k1 s1 => ?_)))))
 replace k1 : IsZip g1 z TI TO .ellipsis := k1
 refine wpAny_bind ?_
 simp only [List.zipIdx_cons, List.zipIdx_nil, List.forIn_cons, List.forIn_nil]
 have fin : ∀ (g : Heap) (e : Addr), IsZip g z TI TO .ellipsis -> (∀ c o, c ≠ z -> c ≠ TO -> c ≠ i1 -> c ≠ i2 -> s.heap.get? c = some o -> g.get? c = some o) -> (∃ o, g.get? e = some o /\ o.cls = .type "StopIteration") ->
   wpAny (model prog w) A.in1 (setField (.ref z) 0 .none) (fun _ s' => wpAny (model prog w) A (do if <- isInstance (.ref e) (.type "StopIteration") then pure none else throw (Value.ref e)) Q E s') (fun e' s' => wpAny (model prog w) A (do if <- isInstance e' (.type "StopIteration") then pure none else throw e') Q E s') { s with heap := g } := by
  rintro g e kz kk ⟨oe, f1, f2⟩
  have ez : e ≠ z := fun y => by subst y; rw [kz] at f1; cases f1; injection f2 with z2; revert z2; decide
  refine wpAny_setField_rec kz (by simp) fun g' _ s' => ?_
  refine wpAny_bind (wpAny_isInstance (T := "StopIteration") (b := true) ⟨oe, s'.extBut _ _ ez f1, f2⟩ isSubtype_stop ?_)
  exact wpAny_pure (q g' fun c o c1 c2 c3 c4 y => s'.extBut _ _ c1 (kk c o c1 c2 c3 c4 y))
 refine wpAny_bind (wpAny_bind (wpAny_onRaise ?_)); show wpAny _ _ (Builtin.SmallTypes.nextOf (.ref i1) >>= _) _ _ _
 cases hx : xs[i]? with
 | none =>
  refine wpAny_bind (nextT_end hh (h1.extBut s1.extBut D.cz) (ha.extBut s1.extBut haz.1) hx fun g2 e s2 he => ?_)
  exact fin g2 e (s2 _ _ D.cz.symm k1) (fun c o c1 _ c3 _ y => s2 _ _ c3 (s1.extBut _ _ c1 y)) he
 | some x =>
  have hy : ys[i]? = none := by rcases hend with h | h; rw [hx] at h; cases h; exact h
  refine wpAny_bind (nextT_item (h1.extBut s1.extBut D.cz) (ha.extBut s1.extBut haz.1) hx fun g2 j2 s2 => wpAny_pure ?_)
  have t2 : IsPair g2 TO p0 p1 := s2.extBut _ _ D.bc (s1.extBut _ _ D.bz hto)
  refine wpAny_bind (wpAny_seqItems t2 rfl (wpAny_bind (pairSet t2 fun g3 t3 s3 => ?_)))
  refine wpAny_bind (wpAny_letGo (wpAny_pure ?_))
  refine wpAny_bind (wpAny_bind (wpAny_onRaise ?_)); show wpAny _ _ (Builtin.SmallTypes.nextOf (.ref i2) >>= _) _ _ _
  have e3 : ∀ c o, c ≠ z -> c ≠ i1 -> c ≠ TO -> s.heap.get? c = some o -> g3.get? c = some o := fun c o c1 c2 c3 e => s3.extBut _ _ c3 (s2.extBut _ _ c2 (s1.extBut _ _ c1 e))
  have h23 : g3.IsTupleIter i2 b i := let ⟨o, ho, r⟩ := h2; ⟨o, e3 _ _ D.dz D.cd.symm D.bd.symm ho, r⟩
  have hb3 : g3.IsTuple b ys := let ⟨o, ho, r⟩ := hb; ⟨o, e3 _ _ hbz.1 bi1 hbz.2 ho, r⟩
  refine wpAny_bind (nextT_end hh h23 hb3 hy fun g4 e s4 he => ?_)
  exact fin g4 e (s4 _ _ D.dz.symm (s3.extBut _ _ D.bz.symm (s2.extBut _ _ D.cz.symm k1))) (fun c o c1 c2 c3 c4 y => s4 _ _ c4 (e3 c o c1 c3 c2 y)) he
noncomputable abbrev zT1 (h : Heap) (l1 : Addr) : Heap := h.push { cls := .type "tuple_iterator", data := .fields #[.ref l1, .int 0 0] }
noncomputable abbrev zT2 (h : Heap) (l1 l2 : Addr) : Heap := (zT1 h l1).push { cls := .type "tuple_iterator", data := .fields #[.ref l2, .int 0 0] }
noncomputable abbrev zT3 (h : Heap) (l1 l2 : Addr) : Heap := (zT2 h l1 l2).push { cls := .type "tuple", data := .seq #[.ref h.objs.size, .ref (zT1 h l1).objs.size] }
noncomputable abbrev zT4 (h : Heap) (l1 l2 : Addr) : Heap := (zT3 h l1 l2).push { cls := .type "tuple", data := .seq #[.none, .none] }
noncomputable abbrev zT5 (h : Heap) (l1 l2 : Addr) : Heap := (zT4 h l1 l2).push { cls := .type "zip", data := .fields #[.none, .bool false, .bool false, .ref (zT2 h l1 l2).objs.size, .ref (zT3 h l1 l2).objs.size] }
theorem zip_newT (l1 l2 : Addr) (xs ys : Array Value) :
  Meets (Builtin.«zip.__new__» ⟨[.type "zip", .ref l1, .ref l2], []⟩) (fun _ R s => s.heap.IsTuple l1 xs /\ s.heap.IsTuple l2 ys /\ R (.ok (.ret (.ref (zT4 s.heap l1 l2).objs.size))) { s with heap := zT5 s.heap l1 l2 }) :=
 .of_wp fun prog w A R s h => by
  obtain ⟨hp, g, d, tk, os⟩ := s; obtain ⟨hl1, hl2, h⟩ := h
  have hsub := sub_zip
  have hL1 : Heap.IsTuple (Shared.heap ⟨hp, g, d, tk, os⟩) l1 xs := hl1
  have hL2 : Heap.IsTuple (Shared.heap ⟨hp.push { cls := .type "tuple_iterator", data := .fields #[.ref l1, .int 0 0] }, g, d, tk, os⟩) l2 ys := Heap.IsTuple.push hl2 _
  wp_walk using wpAny_pyIter_tuple hL1, wpAny_pyIter_tuple hL2
  exact ⟨_, rfl, h⟩
theorem call_zipT {l1 l2 : Addr} {Q : Value -> Shared -> Prop} (hl1 : s.heap.IsTuple l1 xs) (hl2 : s.heap.IsTuple l2 ys)
  (h : ∀ h', ZipT h' (s.heap.objs.size + 4) (s.heap.objs.size + 2) (s.heap.objs.size + 3) s.heap.objs.size (s.heap.objs.size + 1) l1 l2 0 -> (∀ c o, s.heap.get? c = some o -> h'.get? c = some o) -> Q (.ref (s.heap.objs.size + 4)) { s with heap := h' }) :
  wpAny (model prog w) A (call (.type "zip") [.ref l1, .ref l2]) Q E s := by
 refine callType_new F.called_zip (by decide) (F.typeCall_zip_2 _ _) (F.newCall_zip_2 _ _) (fun obj => F.args_object_init_3 obj _ _) F.entry_zip_new (zip_newT l1 l2 xs ys) ⟨hl1, hl2, ?_⟩
 have z1 : (zT1 s.heap l1).objs.size = s.heap.objs.size + 1 := Heap.size_push ..
 have z2 : (zT2 s.heap l1 l2).objs.size = s.heap.objs.size + 2 := by rw [Heap.size_push, z1]
 have z3 : (zT3 s.heap l1 l2).objs.size = s.heap.objs.size + 3 := by rw [Heap.size_push, z2]
 have z4 : (zT4 s.heap l1 l2).objs.size = s.heap.objs.size + 4 := by rw [Heap.size_push, z3]
 have p1 : ∀ {g : Heap} {c o u}, g.get? c = some o -> (g.push u).get? c = some o := fun e => Heap.get?_push_of_some _ e
 have g5 : (zT5 s.heap l1 l2).get? (zT4 s.heap l1 l2).objs.size = some _ := Heap.get?_push_size _ rfl
 have g4 : (zT5 s.heap l1 l2).get? (zT3 s.heap l1 l2).objs.size = some _ := p1 (Heap.get?_push_size _ rfl)
 have g3 : (zT5 s.heap l1 l2).get? (zT2 s.heap l1 l2).objs.size = some _ := p1 (p1 (Heap.get?_push_size _ rfl))
 have g2 : (zT5 s.heap l1 l2).get? (zT1 s.heap l1).objs.size = some _ := p1 (p1 (p1 (Heap.get?_push_size _ rfl)))
 have g1 : (zT5 s.heap l1 l2).get? s.heap.objs.size = some _ := p1 (p1 (p1 (p1 (Heap.get?_push_size _ rfl))))
 show _ /\ _
 rw [z2, z3, z4] at g5
 rw [z1, z2] at g3
 rw [z3] at g4
 rw [z1] at g2
 rw [z4]
 exact ⟨⟨_, g5, rfl⟩, h _ ⟨g5, g3, ⟨_, _, g4⟩, ⟨_, g1, rfl, rfl⟩, ⟨_, g2, rfl, rfl⟩⟩ fun c o x => p1 (p1 (p1 (p1 (p1 x))))⟩
end
noncomputable def Itz (K : PySem.W.Frag) (a b : Addr) : It :=
 ⟨fun i H => ∃ xs ys x y, SqT K H a xs /\ SqT K H b ys /\ xs[i]? = some x /\ ys[i]? = some y, fun i H v H' => ∃ t x y, H t = none /\ v = .ref t /\ H' = upd H t (.tup [x, y]) /\ ∀ xs ys, SqT K H a xs -> SqT K H b ys -> xs[i]? = some x /\ ys[i]? = some y,
  fun i H => ∃ xs ys, SqT K H a xs /\ SqT K H b ys /\ (xs[i]? = none ∨ ys[i]? = none)⟩
theorem zipNe_of {z TI TO i1 i2 : Addr} {h : Heap} {a b : Addr} {i : Nat} (S : ZipT h z TI TO i1 i2 a b i) (h1 : TI ≠ TO) (h2 : i1 ≠ i2) : ZipNe z TI TO i1 i2 := by
 obtain ⟨hz, hti, ⟨p0, p1, hto⟩, ⟨o1, e1, c1, d1⟩, ⟨o2, e2, c2, d2⟩⟩ := S
 refine ⟨fun e => ?_, fun e => ?_, fun e => ?_, fun e => ?_, h1, fun e => ?_, fun e => ?_, fun e => ?_, fun e => ?_, h2⟩
 ·have q := (show h.get? TI = _ from hti); rw [e, show h.get? z = _ from hz] at q; injection q with q; injection q with q1; injection q1 with q2; revert q2; decide
 ·have q := (show h.get? TO = _ from hto); rw [e, show h.get? z = _ from hz] at q; injection q with q; injection q with q1; injection q1 with q2; revert q2; decide
 ·rw [e, hz] at e1; cases e1; injection c1 with q2; revert q2; decide
 ·rw [e, hz] at e2; cases e2; injection c2 with q2; revert q2; decide
 ·rw [<- e, hti] at e1; cases e1; injection c1 with q2; revert q2; decide
 ·rw [<- e, hti] at e2; cases e2; injection c2 with q2; revert q2; decide
 ·rw [<- e, hto] at e1; cases e1; injection c1 with q2; revert q2; decide
 ·rw [<- e, hto] at e2; cases e2; injection c2 with q2; revert q2; decide
theorem SqT.fpNe {X : Cx} {pins : List (Addr × Obj)} {σ : St} {H : Hp} {s : Shared} {t c : Addr} {zs : List V} (I : Inv X pins σ H s) (hq : SqT X.K H t zs) (f : FpOk X pins H c) : t ≠ c := by
 rintro rfl
 rcases hq with (h | ⟨o, h⟩) | h
 ·rw [f.1] at h; cases h
 ·rw [f.1] at h; cases h
 ·obtain ⟨o, _, _, hl, _⟩ := h
  have e := I.ok.mod.kin _ _ hl
  rcases f.2.2.2.1 with z | z
  ·exact I.ok.noex _ _ e z
  ·exact absurd (Nat.lt_of_lt_of_le (Heap.lt_size e) (Nat.le_trans I.ok.bsz z)) (Nat.lt_irrefl _)
theorem turn_zipT {P : Program} {w : World} {K : PySem.W.Frag} {els : List Expr} {kx} {tp : Pos} (a b z TI TO i1 i2 : Addr) (h1 : TI ≠ TO) (h2 : i1 ≠ i2) : Turn P w K (.Tuple els kx tp) (Itz K a b) [z, TI, TO, i1, i2] z (fun i h => ZipT h z TI TO i1 i2 a b i) where
 mem := by simp
 obj := fun i h st c hc => by
  obtain ⟨hz, hti, ⟨p0, p1, hto⟩, ⟨o1, e1, c1, d1⟩, ⟨o2, e2, c2, d2⟩⟩ := st
  simp only [List.mem_cons, List.not_mem_nil, or_false] at hc
  rcases hc with rfl | rfl | rfl | rfl | rfl
  ·exact ⟨_, hz, fun v q => by cases q⟩
  ·exact ⟨_, hti, fun v q => by cases q⟩
  ·exact ⟨_, hto, fun v q => by cases q⟩
  ·exact ⟨_, e1, fun v q => by rw [d1] at q; cases q⟩
  ·exact ⟨_, e2, fun v q => by rw [d2] at q; cases q⟩
 keep := fun i h h' st k => by
  obtain ⟨hz, hti, ⟨p0, p1, hto⟩, ⟨o1, e1, r1⟩, ⟨o2, e2, r2⟩⟩ := st
  exact ⟨k _ (by simp) _ hz, k _ (by simp) _ hti, ⟨p0, p1, k _ (by simp) _ hto⟩, ⟨o1, k _ (by simp) _ e1, r1⟩, ⟨o2, k _ (by simp) _ e2, r2⟩⟩
 item := by
  intro X hP hw hK hc i pins s σ H E I hf st hg
  subst hP hw hK
  obtain ⟨xs, ys, x, y, hqa, hqb, hx, hy⟩ := hg
  obtain ⟨its, rv, p, _⟩ := I.tuple hqa
  obtain ⟨jts, rw', p', _⟩ := I.tuple hqb
  obtain ⟨u, hu, ru⟩ := rv.get hx
  obtain ⟨v, hv, rvv⟩ := rw'.get hy
  have D := zipNe_of st h1 h2
  obtain ⟨hz, hti, ⟨p0, p1, hto⟩, hi1, hi2⟩ := id st
  have apart : ∀ {t : Addr} {zs : List V}, SqT X.K H t zs -> t ≠ z /\ t ≠ TO := fun hq => ⟨SqT.fpNe I hq (hf z (by simp)), SqT.fpNe I hq (hf TO (by simp))⟩
  refine zipT_item D st p p' (apart hqa) (apart hqb) (by simpa using hu) (by simpa using hv) fun g k1 k2 k3 k4 k5 k6 k7 => ?_
  refine ⟨_, rfl, wpAny_letOwnedTupleGo_zip k1 fun g2 l1 s2 => ?_⟩
  have hne0 : s.heap.objs.size ≠ z := Nat.ne_of_gt (Heap.lt_size hz)
  have keep : ∀ c o, c ∉ [z, TI, TO, i1, i2] -> s.heap.get? c = some o -> g2.get? c = some o := fun c o hc e => s2.extBut _ _ (fun q => hc (by simp [q])) (k7 c o (fun q => hc (by simp [q])) (fun q => hc (by simp [q])) (fun q => hc (by simp [q])) (fun q => hc (by simp [q])) e)
  refine ⟨.ref s.heap.objs.size, _, I.turnedT (h' := g2) (t' := s.toks) (xs := [x, y]) hf keep (.cons ru (.cons rvv .nil)) ⟨_, s2.extBut _ _ hne0 k6, rfl, ⟨_, rfl⟩, rfl, rfl⟩ (by show 2 <= sizeLine; decide), rfl,
   ⟨_, x, y, I.hok.fresh (Nat.le_refl _), rfl, rfl, fun as bs ha hb => ⟨by rw [I.tuple_inj ha hqa]; exact hx, by rw [I.tuple_inj hb hqb]; exact hy⟩⟩, ⟨l1, s2.extBut _ _ D.az k2, ⟨_, _, s2.extBut _ _ D.bz k3⟩, k4.extBut s2.extBut D.cz, k5.extBut s2.extBut D.dz⟩, fun c hc => ?_⟩
  have : c < s.heap.objs.size := by
   obtain ⟨o1, e1, _⟩ := hi1
   obtain ⟨o2, e2, _⟩ := hi2
   simp only [List.mem_cons, List.not_mem_nil, or_false] at hc
   rcases hc with rfl | rfl | rfl | rfl | rfl
   ·exact Heap.lt_size hz
   ·exact Heap.lt_size hti
   ·exact Heap.lt_size hto
   ·exact Heap.lt_size e1
   ·exact Heap.lt_size e2
  rw [upd_ne (Nat.ne_of_lt this)]
  exact (hf c hc).1
 done := by
  intro X hP hw hK hc i pins s σ H E I hf st hg
  subst hP hw hK
  obtain ⟨xs, ys, hqa, hqb, hx⟩ := hg
  obtain ⟨its, rv, p, _⟩ := I.tuple hqa
  obtain ⟨jts, rw', p', _⟩ := I.tuple hqb
  have D := zipNe_of st h1 h2
  have apart : ∀ {t : Addr} {zs : List V}, SqT X.K H t zs -> t ≠ z /\ t ≠ TO := fun hq => ⟨SqT.fpNe I hq (hf z (by simp)), SqT.fpNe I hq (hf TO (by simp))⟩
  refine zipT_end (I.ok.hd hc) D st p p' (apart hqa) (apart hqb) (hx.elim (fun q => .inl (by simpa using rv.none_of q)) fun q => .inr (by simpa using rw'.none_of q)) fun g k => ⟨rfl, ?_⟩
  exact I.turnedN (t' := s.toks) hf fun c o hc e => k c o (fun q => hc (by simp [q])) (fun q => hc (by simp [q])) (fun q => hc (by simp [q])) (fun q => hc (by simp [q])) e
 self := fun _ _ _ _ _ st h => wpAny_pyIter_zip st.z h
section
variable {X : Cx}
noncomputable def iZip (K : PySem.W.Frag) (ta : TA) : TI := fun σ H R => ta σ H fun vs H1 => ∃ a b, vs = [.ref a, .ref b] /\ (∃ xs, SqT K H1 a xs) /\ (∃ ys, SqT K H1 b ys) /\ R (Itz K a b) H1
theorem pi_zipT {els : List Expr} {kx} {tp : Pos} {l l' : Expr} {ta : TA} {p pos : Pos} (hg : Gl X "zip") (hm : X.mg "zip" = none) (ha : PA X [l, l'] ta) (hs : starEach [l, l'] X.env = [(false, eval l X.env), (false, eval l' X.env)] := by rfl) (hs2 : starEach [l'] X.env = [(false, eval l' X.env)] := by rfl) :
  PI X (.Tuple els kx tp) (.Call (.Name "zip" p) [l, l'] [] pos) (iZip X.K ta) := by
 intro pins s σ H R I h
 refine Call_ (ld_blt I hg hm boot_zip (PyProof.Rows.callWith_type1 (thn (ha pos pins s σ H _ I h) fun us s1 zq => ?_) (by rw [hs, hs2]) (by rw [hs2]; rfl)))
 obtain ⟨vs, H1, I1, r1, q1⟩ := zq
 obtain ⟨a, b, rfl, ⟨xs, hqa⟩, ⟨ys, hqb⟩, q⟩ := q1
 obtain ⟨u, v, rfl, ru, rv⟩ := vals2 r1
 cases (show u = Value.ref a from ru)
 cases (show v = Value.ref b from rv)
 obtain ⟨its, _, p1, _⟩ := I1.tuple hqa
 obtain ⟨jts, _, p2, _⟩ := I1.tuple hqb
 refine call_zipT (show s1.heap.IsTuple a its.toArray from p1) (show s1.heap.IsTuple b jts.toArray from p2) fun h' S hk => wpAny_pyIter_zip S.z ?_
 have I2 : Inv X pins σ H1 { s1 with heap := h' } := I1.kept (t' := s1.toks) hk
 refine ⟨_, _, _, _, H1, rfl, I2, turn_zipT a b _ _ _ _ _ (Nat.ne_of_lt (Nat.lt_succ_self _)) (Nat.ne_of_lt (Nat.lt_succ_self _)), S, fun c hc => ?_, q⟩
 have : s1.heap.objs.size <= c := by
  simp only [List.mem_cons, List.not_mem_nil, or_false] at hc
  rcases hc with rfl | rfl | rfl | rfl | rfl <;> first | exact Nat.le_refl _ | exact Nat.le_add_right _ _ | exact Nat.le_succ _ | exact Nat.le_succ_of_le (Nat.le_add_right _ _)
 exact I1.fpOk this (I1.hok.fresh this)
end
end L2
namespace L2
open PySem PySem.Spec PyProof.Rows
section
variable {X : Cx} {e : Expr} {te : TE} {p2 pos : Pos}
end
end L2
namespace L2
open PySem PySem.Spec PyProof.Rows
section
variable {X : Cx}
noncomputable def rRange1 : List V -> Hp -> VK -> Prop := fun xs H Q => ∃ j : Int, xs = [.int j] /\ ∀ p, H p = none -> Q (.ref p) (upd H p (.rng 0 j))
theorem call_range1 : CallR X (.type "range") rRange1 := by
 intro pins s σ H xs us Q I rs h
 obtain ⟨j, rfl, q⟩ := h
 obtain ⟨u, rfl, t, rfl⟩ := vals1 rs
 refine call_range_1 ⟨.ref s.heap.objs.size, _, I.laid (o := .rng 0 j) (fun b ob q => Heap.get?_push_of_some _ q) (Nat.le_refl _) ?_, rfl, q _ (I.hok.fresh (Nat.le_refl _))⟩
 exact ⟨_, _, _, Heap.get?_push_size _ rfl⟩
noncomputable def rListRng : List V -> Hp -> VK -> Prop := fun xs H Q => ∃ (a : Addr) (j : Int), xs = [.ref a] /\ H a = some (.rng 0 j) /\ 0 <= j /\ j <= 1000 /\ ∀ p, H p = none -> Q (.ref p) (upd H p (.lst (rangeV 0 j.toNat)))
theorem call_list_rng (hc : X.calm = true) : CallR X (.type "list") rListRng := by
 intro pins s σ H xs us Q I rs h
 obtain ⟨a, j, rfl, ha, h0, h1, q⟩ := h
 obtain ⟨u, rfl, ru⟩ := vals1 rs
 cases (show u = Value.ref a from ru)
 obtain ⟨t, u, v, ho⟩ := (show ObjOk X.prog X.w H s.heap a (.rng 0 j) from I.hok a _ ha)
 have hh : X.A.handled = none := I.ok.hd hc
 have hsz : Builtin.Range.rangeSize 0 j 1 = ((j.toNat : Nat) : Int) := by rw [rangeSize_one]; split <;> (first | lia | omega)
 refine call_list_range hh ho (small_one (by (first | lia | omega)) (by (first | lia | omega)) (by (first | lia | omega)) (by (first | lia | omega))) hsz (by (first | lia | omega)) fun h' tk acc c hk hS hi => ?_
 obtain ⟨i1, i2⟩ := hi
 refine ⟨.ref s.heap.objs.size, _, I.laid (t' := tk) (o := .lst (rangeV 0 j.toNat)) hk (Nat.le_refl _) ?_, rfl, q _ (I.hok.fresh (Nat.le_refl _))⟩
 refine ⟨by rw [rangeV_len]; exact Nat.le_trans (by (first | lia | omega) : j.toNat <= 1000) (by decide), acc.toList, c, ?_, by simpa using hS⟩
 have key : ∀ (n : Nat) (l : List Value) (k : Int), l.length = n -> (∀ (i : Nat) v, l[i]? = some v -> ∃ t, v = Value.int (k + (i : Int)) t) -> Vals ((List.range n).map fun (i : Nat) => V.int (k + (i : Int))) l := by
  intro n
  induction n with
  | zero => intro l k hl _; cases l with
   | nil => exact .nil
   | cons _ _ => cases hl
  | succ n ih =>
   intro l k hl hv
   cases l with
   | nil => cases hl
   | cons x r =>
    rw [List.range_succ_eq_map, List.map_cons, List.map_map]
    refine .cons ?_ ?_
    ·obtain ⟨t, e⟩ := hv 0 x rfl
     exact ⟨t, e⟩
    ·have := ih r (k + 1) (by simpa using hl) (fun i v e => by
      obtain ⟨t, e'⟩ := hv (i + 1) v (by simpa using e)
      exact ⟨t, by rw [e']; congr 1; push_cast; (first | lia | omega)⟩)
     have e : ((fun (i : Nat) => V.int (k + (i : Int))) ∘ Nat.succ) = fun (i : Nat) => V.int (k + 1 + (i : Int)) := by
      funext i
      show V.int (k + ((i + 1 : Nat) : Int)) = _
      congr 1; push_cast; (first | lia | omega)
     rw [e]
     exact this
 refine key _ _ 0 (by simpa using i1) fun i v e => ?_
 obtain ⟨t, e'⟩ := i2 i v (by simpa using e)
 exact ⟨t, by rw [e']; congr 1; (first | lia | omega)⟩
end
end L2
namespace L2
open PySem PySem.Spec PyProof.Rows
section
variable {X : Cx}
noncomputable def rInsert : V -> List V -> Hp -> VK -> Prop := fun x vs H Q => ∃ l xs i y, x = .ref l /\ vs = [.int i, y] /\ H l = some (.lst xs) /\ 0 <= i /\ i <= xs.length /\ xs.length < sizeLine /\ Q .non (upd H l (.lst (xs.take i.toNat ++ y :: xs.drop i.toNat)))
theorem mt_insert : MtM X "list.insert" rInsert := by
 intro pins s σ H x vs v us Q I rx rv h
 obtain ⟨l, xs, i, y, rfl, rfl, hH, h0, h1, hz, q⟩ := h
 cases rx
 obtain ⟨ui, uy, rfl, ri, ry⟩ := rv.two
 obtain ⟨ti, rfl⟩ := ri
 obtain ⟨z, its, n, r, hl, e⟩ := I.lstM hH
 have hfit : ¬ (!Builtin.List.listFitsIndex i) = true := by
  have hb : (i : Int) < 2 ^ 63 := Int.lt_of_le_of_lt h1 (by have := line63; (first | lia | omega))
  simp [Builtin.List.listFitsIndex]
  (first | lia | omega)
 refine call_meets F.slot_list_insert ⟨_, e, rfl⟩ F.entry_list_insert (F.args_list_insert_3 _ _ _) (AutoSeq1.list_insert_list_int_val_1 l its.toArray n i ti uy hfit (by rw [List.size_toArray]; (first | lia | omega))) ⟨e, ?_⟩
 refine ⟨.non, _, I.lset (its' := its.take i.toNat ++ uy :: its.drop i.toNat) hH e ?_ ((r.take _).append (.cons ry (r.drop _))) ?_, rfl, q⟩
 ·have hle : i.toNat <= its.length := by (first | lia | omega)
  simp only [List.size_toArray]
  rw [if_neg (by (first | lia | omega)), Nat.min_eq_left hle]
  apply Array.ext'
  simp
  rw [List.take_of_length_le (by simp)]
 ·rw [List.length_append, List.length_cons, List.length_take, List.length_drop]
  (first | lia | omega)
end
end L2
namespace L2
open PySem PySem.Spec PyProof.Rows
mutual
inductive Is (H : Hp) : V -> PyData -> Prop
 | non : Is H .non .none
 | bl (b : Bool) : Is H (.bl b) (.bool b)
 | int (i : Int) : Is H (.int i) (.int i)
 | str (x : Str) : Is H (.str x) (.str x)
 | tup {a : Addr} {vs : List V} {ds : List PyData} : H a = some (.tup vs) -> IsAll H vs ds -> Is H (.ref a) (.tuple ds)
 | lst {a : Addr} {vs : List V} {ds : List PyData} : H a = some (.lst vs) -> IsAll H vs ds -> Is H (.ref a) (.list ds)
inductive IsAll (H : Hp) : List V -> List PyData -> Prop
 | nil : IsAll H [] []
 | cons {v : V} {vs : List V} {d : PyData} {ds : List PyData} : Is H v d -> IsAll H vs ds -> IsAll H (v :: vs) (d :: ds)
end
theorem IsAll.ints {H : Hp} : ∀ ns : List Int, IsAll H (ns.map V.int) (ns.map PyData.int)
 | [] => .nil
 | n :: r => .cons (.int n) (IsAll.ints r)
section
variable {X : Cx} {pins : List (Addr × Obj)} {σ : St} {H : Hp} {s : Shared}
mutual
theorem Inv.reads (I : Inv X pins σ H s) : ∀ {v : V} {d : PyData} {u : Value}, Is H v d -> RelV v u -> ∃ as, Reads s.heap u d as
 | _, _, _, .non, r => by cases (show _ = Value.none from r); exact ⟨_, .none⟩
 | _, _, _, .bl b, r => by cases (show _ = Value.bool b from r); exact ⟨_, .bool b⟩
 | _, _, _, .int i, r => by obtain ⟨t, rfl⟩ := r; exact ⟨_, .int i t⟩
 | _, _, _, .str x, r => by obtain ⟨t, rfl⟩ := r; exact ⟨_, .str x t⟩
 | _, _, _, .tup (a := a) (vs := vs) h al, r => by
  cases (show _ = Value.ref a from r)
  obtain ⟨_, its, rv, o, ho, hc, ⟨n, hd⟩, _⟩ := (show ObjOk X.prog X.w H s.heap a (.tup vs) from I.hok a _ h)
  obtain ⟨as, q⟩ := Inv.readsAll I al rv
  exact ⟨as, .tuple ho hc hd (by simpa using q)⟩
 | _, _, _, .lst (a := a) (vs := vs) h al, r => by
  cases (show _ = Value.ref a from r)
  obtain ⟨_, its, n, rv, ho⟩ := (show ObjOk X.prog X.w H s.heap a (.lst vs) from I.hok a _ h)
  obtain ⟨as, q⟩ := Inv.readsAll I al rv
  exact ⟨_, .list ho rfl rfl (by simpa using q)⟩
theorem Inv.readsAll (I : Inv X pins σ H s) : ∀ {vs : List V} {ds : List PyData} {us : List Value}, IsAll H vs ds -> Vals vs us -> ∃ as, ReadsAll s.heap us ds as
 | _, _, _, .nil, .nil => ⟨_, .nil⟩
 | _, _, _, .cons h al, .cons r rs => by
  obtain ⟨as, q⟩ := Inv.reads I h r
  obtain ⟨bs, q'⟩ := Inv.readsAll I al rs
  exact ⟨_, .cons q q'⟩
end
noncomputable def rNeD : R2 := fun x y H Q => ∃ d e, Is H x d /\ Is H y e /\ SeqAt.shaped d = true /\ SeqAt.shaped e = true /\ Q (.bl (!PyData.eqv d e)) H
theorem op_neD (hu : X.A.units + 64 < cLine) : OpR X (compareOp .NotEq) rNeD := by
 intro pins s σ H x y v u Q I rx ry h
 obtain ⟨d, e, hd, he, sd, se, q⟩ := h
 obtain ⟨as, ra⟩ := I.reads hd rx
 obtain ⟨bs, rb⟩ := I.reads he ry
 exact ne_dataH ra rb sd se hu ⟨.bl _, H, I, rfl, q⟩
end
theorem lay_ints : ∀ ns : List Int, PyData.canLayAll0 (ns.map PyData.int) = true
 | [] => rfl
 | _ :: r => by simp [PyData.canLayAll0, PyData.canLay0, lay_ints r]
theorem deep_ints : ∀ ns : List Int, PyData.depthAll (ns.map PyData.int) = 0
 | [] => rfl
 | _ :: r => by simp [PyData.depthAll, PyData.depth, deep_ints r]
theorem shaped_lints (ns : List Int) : SeqAt.shaped (.list (ns.map PyData.int)) = true := by
 simp [SeqAt.shaped, PyData.canLay0, PyData.depth, lay_ints, deep_ints]
theorem eqv_ints : ∀ ns ms : List Int, PyData.eqvAll (ns.map PyData.int) (ms.map PyData.int) = decide (ns = ms)
 | [], [] => by simp [PyData.eqvAll]
 | [], _ :: _ => by simp [PyData.eqvAll]
 | _ :: _, [] => by simp [PyData.eqvAll]
 | a :: r, b :: t => by
  simp only [List.map_cons, PyData.eqvAll, PyData.eqv, eqv_ints r t]
  by_cases h : a = b <;> by_cases h' : r = t <;> simp [h, h']
end L2
namespace L2
open PySem PySem.Spec PyProof.Rows
noncomputable def cscopeB (sc : Scope) (N : List Str) (scope : Scope) (N' : List Str) (n : Nat) (ix : List Nat) : Bool :=
 scope.kind == .function && scope.names.all (fun y => y.2 != .cell) && scope.names.all (fun y => y.2 != .local || scope.names.lookup y.1 == some .local) &&
 scope.names.all (fun y => y.2 != .free || (sc.names.lookup y.1 == some .cell || sc.names.lookup y.1 == some .free)) && scope.names.all (fun y => y.2 != .free || scope.names.lookup y.1 != some .local) &&
 N'.length == n + ix.length && (List.range ix.length).all fun j => match ix[j]?, N'[n + j]? with
  | some i, some x => N[i]? == some x && scope.names.contains (x, .free)
  | _, _ => false
theorem CompScope.of {X : Cx} {sc : Scope} {N : List Str} {scope : Scope} {N' : List Str} {n : Nat} {ix : List Nat} (h : cscopeB sc N scope N' n ix = true) (hs : X.env.scope = sc) (hN : X.N = N) : CompScope X scope N' n ix := by
 unfold cscopeB at h
 simp only [Bool.and_eq_true, List.all_eq_true] at h
 obtain ⟨⟨⟨⟨⟨⟨h1, h2⟩, h3⟩, h4⟩, h5⟩, h6⟩, h7⟩ := h
 subst hs hN
 refine ⟨eq_of_beq h1, fun y hy => by simpa using h2 y hy, fun y hy hl => ?_, fun y hy hf => ?_, fun y hy hl => ?_, eq_of_beq h6, fun j i e => ?_⟩
 ·have := h3 y hy
  rw [hl] at this
  simpa using this
 ·have := h4 y hy
  rw [hf] at this
  simpa using this
 ·have := h5 _ hy
  rw [hl] at this
  simp at this
 ·have hj : j < ix.length := (List.getElem?_eq_some_iff.mp e).1
  have := h7 j (List.mem_range.mpr hj)
  rw [e] at this
  cases hx : N'[n + j]? with
  | none => rw [hx] at this; simp at this
  | some x =>
   rw [hx] at this
   simp only [Bool.and_eq_true] at this
   exact ⟨x, rfl, eq_of_beq this.1, by simpa using this.2⟩
structure Cal (P : Program) (w : World) (K : PySem.W.Frag) (mg : Str -> Option Value) (base : Heap) (k : Nat) (x : Str) (ps : List Str) (sp : Sp) : Prop where
 ex : ∃ f fd, FnOk P w K mg base CX0 k f fd ps sp /\ mg x = some (.ref f) /\ PySem.W.keepIn K (.ref f) = true /\ Binds K fd ps []
section
variable {X : Cx} {k : Nat} {ps : List Str} {sp : Sp} {x : Str} {p pos : Pos} {e : Expr} {es : List Expr} {t : TA}
theorem pe_cal (C : Cal X.prog X.w X.K X.mg X.base k x ps sp) (hr : Room k X.A) (hg : Gl X x) (ha : PA X (e :: es) t) (hdb : (x == ("__debug__" : Str)) = false := by decide) (he : starEach (e :: es) X.env = (false, eval e X.env) :: starEach es X.env := by rfl)
  (hpl : (backTo pos (starEach es X.env)).any (·.1) = false := by rfl) : PE X (.Call (.Name x p) (e :: es) [] pos) (fun σ H Q => t σ H fun vs H1 => sp vs H1 Q E0) := by
 obtain ⟨f, fd, F, hm, hk, hb⟩ := C.ex
 exact (pe_call F hr hg hm hk hb .nil pass0 ha hdb he hpl).mono fun σ H Q q => by
  have e : (fun (vs : List V) (H1 : Hp) => sp (vs ++ []) H1 Q E0) = fun vs H1 => sp vs H1 Q E0 := by funext vs H1; rw [List.append_nil]
  show t σ H fun vs H1 => sp (vs ++ []) H1 Q E0
  rw [e]
  exact q
end
structure Top (mg : Str -> Option Value) : Prop where
 n_len : mg "len" = none
 n_tuple : mg "tuple" = none
 n_list : mg "list" = none
 n_range : mg "range" = none
 n_int : mg "int" = none
 n_bool : mg "bool" = none
 n_isinstance : mg "isinstance" = none
 n_all : mg "all" = none
 n_zip : mg "zip" = none
 n_enumerate : mg "enumerate" = none
 n_min : mg "min" = none
 n_sum : mg "sum" = none
 n_max : mg "max" = none
 n_abs : mg "abs" = none
 n_sorted : mg "sorted" = none
end L2
namespace L2
open PySem PySem.Spec PyProof.Rows
section
variable {X : Cx}
noncomputable def rCat2 : R2 := fun x y H Q => ∃ a b xs ys, x = .ref a /\ y = .ref b /\ H a = some (.tup xs) /\ H b = some (.tup ys) /\ xs.length + ys.length <= sizeLine /\ ∀ p H', Same H H' -> H' p = some (.tup (xs ++ ys)) -> Q (.ref p) H'
theorem op_cat2 : OpR X (binaryOp .Add) rCat2 := by
 intro pins s σ H x y v u Q I rx ry h
 obtain ⟨a, b, xs, ys, rfl, rfl, ha, hb, hz, q⟩ := h
 have ha' : SqT X.K H a xs := SqT.of ha
 have hb' : SqT X.K H b ys := SqT.of hb
 by_cases hx : xs = []
 ·subst hx
  cases rx
  cases ry
  obtain ⟨its, r1, p1, _⟩ := I.tuple ha'
  obtain ⟨its2, r2, p2, _⟩ := I.tuple hb'
  cases r1
  obtain ⟨⟨cls, dd, data, sl⟩, ho, hc, n, hd⟩ := id p1
  obtain ⟨⟨cls2, dd2, data2, sl2⟩, ho2, hc2, n2, hd2⟩ := id p2
  simp only at hc hd hc2 hd2
  subst hc hd hc2 hd2
  exact concat_meets ⟨_, ho, rfl⟩ ⟨_, ho2, rfl⟩ noFill_tuple_add seq_tuple_add PySem.F.slot_tuple_add PySem.F.entry_tuple_add (PySem.F.args_tuple_add_2 _ _)
   (tuple_addW0 a b #[] its2.toArray n n2 dd dd2 sl sl2 rfl) ⟨ho, ho2, ⟨.ref b, H, I, rfl, q b H (Same.refl H) hb⟩⟩
 ·refine op_catT pins s σ H _ _ v u Q I rx ry ⟨a, b, xs, ys, rfl, rfl, ha', hb', hx, hz, fun hy => ?_, fun _ p hp => ?_⟩
  ·subst hy
   exact q a H (Same.refl H) (by rw [List.append_nil]; exact ha)
  ·exact q p _ (same_upd hp) upd_same
end
theorem small1 {n : Nat} (h : n <= 1000) : n < sizeLine := Nat.lt_of_le_of_lt h (by decide)
theorem mapI_len (ns : List Int) : (ns.map V.int).length = ns.length := List.length_map ..
theorem map_of_ints {f : V -> V} {g : Int -> Int} (h : ∀ n, f (.int n) = .int (g n)) (ns : List Int) : (ns.map V.int).map f = (ns.map g).map V.int := by
 rw [List.map_map, List.map_map]
 apply List.map_congr_left
 intro n _
 exact h n
theorem filter_true {α : Type} (l : List α) : l.filter (fun _ => true) = l := by simp
end L2
namespace L2
open PySem PySem.Spec PyProof.Rows
noncomputable def Keep (p q : Addr) (H H' : Hp) : Prop := ∀ b o, H b = some o -> b ≠ p -> b ≠ q -> H' b = some o
theorem Keep.refl (p q : Addr) (H : Hp) : Keep p q H H := fun _ _ h _ _ => h
theorem Keep.trans {p q : Addr} {H H1 H2 : Hp} (a : Keep p q H H1) (b : Keep p q H1 H2) : Keep p q H H2 := fun c o h h1 h2 => b c o (a c o h h1 h2) h1 h2
theorem Same.keep {p q : Addr} {H H' : Hp} (s : Same H H') : Keep p q H H' := fun b o h _ _ => s b o h
noncomputable def num0 (n : Nat) : List Int := (List.range n).map fun (i : Nat) => (i : Int)
end L2
namespace L2
open PySem PySem.Spec PyProof.Rows
theorem rangeV_num0 (n : Nat) : rangeV 0 n = (num0 n).map V.int := by
 unfold rangeV num0
 rw [List.map_map]
 apply List.map_congr_left
 intro i _
 show V.int (0 + (i : Int)) = V.int (i : Int)
 rw [Int.zero_add]
theorem num0_mem {n : Nat} {x : Int} (h : x ∈ num0 n) : 0 <= x /\ x < n := by
 unfold num0 at h
 obtain ⟨i, hi, rfl⟩ := List.mem_map.mp h
 have := List.mem_range.mp hi
 (first | lia | omega)
end L2
namespace L2
open PySem PySem.Spec PyProof.Rows
theorem pg_pair {X : Cx} {i j : Nat} {x y : Str} {px py pt : Pos} {kt : Nat} (hc : X.calm = true) (hN : X.N.Nodup) (hi : X.N[i]? = some x) (hj : X.N[j]? = some y) (hx : Loc X.env.scope x) (hy : Loc X.env.scope y) (fx : X.fn x = true ∨ X.env.scope.names.lookup x = some .local) (fy : X.fn y = true ∨ X.env.scope.names.lookup y = some .local) :
  PG X (.Tuple [.Name x px, .Name y py] kt pt) (gTup X.K 2 (gCons (gName i) (gCons (gName j) gNil))) := pg_tup hc (pgs_cons (pg_name hN hi hx fx) (pgs_cons (pg_name hN hj hy fy) pgs_nil))
theorem pg_pairK {X : Cx} (K : PySem.W.Frag) {i j : Nat} {x y : Str} {px py pt : Pos} {kt : Nat} (hK : X.K = K) (hc : X.calm = true) (hN : X.N.Nodup) (hi : X.N[i]? = some x) (hj : X.N[j]? = some y) (hx : Loc X.env.scope x) (hy : Loc X.env.scope y) (fx : X.fn x = true ∨ X.env.scope.names.lookup x = some .local) (fy : X.fn y = true ∨ X.env.scope.names.lookup y = some .local) :
  PG X (.Tuple [.Name x px, .Name y py] kt pt) (gTup K 2 (gCons (gName i) (gCons (gName j) gNil))) := hK ▸ pg_tup hc (pgs_cons (pg_name hN hi hx fx) (pgs_cons (pg_name hN hj hy fy) pgs_nil))
theorem ix_tupK {X : Cx} (K : PySem.W.Frag) (hK : X.K = K) : IxR X (rIxT K) := hK ▸ ix_tup
end L2
namespace L2
open PySem PySem.Spec PyProof.Rows
theorem at_getD {ys : List Int} {i : Int} (h0 : 0 <= i) (h1 : i < ys.length) : atI (ys.map V.int) i = some (.int (ys.getD i.toNat 0)) := by
 have hlt : i.toNat < ys.length := by (first | lia | omega)
 have e : ((i.toNat : Nat) : Int) = i := by (first | lia | omega)
 have := atI_nat (xs := ys.map V.int) (j := i.toNat) (v := .int (ys.getD i.toNat 0)) (by rw [List.getElem?_map, List.getD_eq_getElem?_getD, List.getElem?_eq_getElem hlt]; rfl)
 rwa [e] at this
theorem mem_rangeV {n : Nat} {x : V} (h : x ∈ rangeV 0 n) : ∃ k : Int, x = .int k /\ 0 <= k /\ k < n := by
 rw [rangeV_num0] at h
 obtain ⟨k, hk, rfl⟩ := List.mem_map.mp h
 exact ⟨k, rfl, num0_mem hk⟩
theorem lc_tab {n : Nat} {te : TE} {ix : List Nat} {σ : L2.St} {H1 : Hp} {Q : VK} (g : Int -> Int) (small : n <= 1000) (he : ∀ k : Int, 0 <= k -> k < n -> ∀ H, Same H1 H -> ∀ Q' : VK, Q' (.int (g k)) H -> te (some (.int k) :: ix.map fun i => σ.getD i none) H Q')
  (fin : ∀ acc, H1 acc = none -> Q (.ref acc) (upd H1 acc (.lst (((num0 n).map g).map V.int)))) : LcW (Itr 0 n) H1 (gName 0) tNoTest te 1 ix σ Q := by
 refine lc_pure (yields_range (lo := 0) (n := n)) (small1 (by rw [rangeV_len]; exact small)) (fun _ => true) (fun v => match v with | .int k => .int (g k) | v => v) (fun _ _ => trivial) (fun _ _ _ _ _ q => q) (fun x hx _ H' s' Q' q => ?_) fun acc hacc => ?_
 ·obtain ⟨k, rfl, h0, h1⟩ := mem_rangeV hx
  exact he k h0 h1 H' s' Q' q
 ·rw [filter_true, rangeV_num0, map_of_ints (g := g) fun n => rfl]
  exact fin acc hacc
end L2
namespace L2
open PySem PySem.Spec PyProof.Rows
structure Def (K : PySem.W.Frag) (x : Str) (st : Stmt) : Prop where
 ex : ∃ (f : Addr) (oc : Value) (od an : Option Addr) (kV doc pm cdv ct : Value) (osl : Array (Option Value)), PySem.W.nsIn K mainGlobals x = some (some (.ref f)) /\
  K.lookup f = some ⟨oc, od, .func (PySem.W.fnOf x x (defArgs st) (defBody st) (defScope st) .none kV doc pm an cdv ct), osl⟩ /\ PySem.W.codeIn K cdv x = true /\ PySem.W.keepIn K (.ref f) = true
section
variable {K : PySem.W.Frag} {h : Heap} {mg : Str -> Option Value} {x : Str} {st : Stmt}
theorem Def.of {f : Addr} {oc : Value} {od an : Option Addr} {kV doc pm cdv ct : Value} {osl : Array (Option Value)} (a : PySem.W.nsIn K mainGlobals x = some (some (.ref f)))
  (l : K.lookup f = some ⟨oc, od, .func (PySem.W.fnOf x x (defArgs st) (defBody st) (defScope st) .none kV doc pm an cdv ct), osl⟩) (c : PySem.W.codeIn K cdv x = true) (k : PySem.W.keepIn K (.ref f) = true) : Def K x st :=
 ⟨f, oc, od, an, kV, doc, pm, cdv, ct, osl, a, l, c, k⟩
theorem Def.fn (D : Def K x st) (X : K.In h) (G : h.Ns mainGlobals mg) : ∃ f fd, Fun K x x st f fd /\ mg x = some (.ref f) := by
 obtain ⟨f, oc, od, an, kV, doc, pm, cdv, ct, osl, a, l, c, k⟩ := D.ex
 exact ⟨f, _, fun_mk (st := st) l c k, PySem.W.mg_of X G a⟩
end
structure TopK (K : PySem.W.Frag) : Prop where
 k_len : PySem.W.nsIn K mainGlobals "len" = some none
 k_tuple : PySem.W.nsIn K mainGlobals "tuple" = some none
 k_list : PySem.W.nsIn K mainGlobals "list" = some none
 k_range : PySem.W.nsIn K mainGlobals "range" = some none
 k_int : PySem.W.nsIn K mainGlobals "int" = some none
 k_bool : PySem.W.nsIn K mainGlobals "bool" = some none
 k_isinstance : PySem.W.nsIn K mainGlobals "isinstance" = some none
 k_all : PySem.W.nsIn K mainGlobals "all" = some none
 k_zip : PySem.W.nsIn K mainGlobals "zip" = some none
 k_enumerate : PySem.W.nsIn K mainGlobals "enumerate" = some none
 k_min : PySem.W.nsIn K mainGlobals "min" = some none
 k_sum : PySem.W.nsIn K mainGlobals "sum" = some none
 k_max : PySem.W.nsIn K mainGlobals "max" = some none
 k_abs : PySem.W.nsIn K mainGlobals "abs" = some none
 k_sorted : PySem.W.nsIn K mainGlobals "sorted" = some none
theorem TopK.top {K : PySem.W.Frag} {h : Heap} {mg : Str -> Option Value} (T : TopK K) (X : K.In h) (G : h.Ns mainGlobals mg) : Top mg :=
  ⟨PySem.W.mg_none_of X G T.k_len, PySem.W.mg_none_of X G T.k_tuple, PySem.W.mg_none_of X G T.k_list, PySem.W.mg_none_of X G T.k_range, PySem.W.mg_none_of X G T.k_int, PySem.W.mg_none_of X G T.k_bool, PySem.W.mg_none_of X G T.k_isinstance,
   PySem.W.mg_none_of X G T.k_all, PySem.W.mg_none_of X G T.k_zip, PySem.W.mg_none_of X G T.k_enumerate, PySem.W.mg_none_of X G T.k_min, PySem.W.mg_none_of X G T.k_sum, PySem.W.mg_none_of X G T.k_max, PySem.W.mg_none_of X G T.k_abs, PySem.W.mg_none_of X G T.k_sorted⟩
end L2
namespace L2
open PySem PySem.Spec PyProof.Rows
open Sem (wp)
open AutoSeq1 (wpAny_loadPart')
section
variable {prog : Program} {w : World} {A : Around} {E : Value -> Shared -> Prop} {s : Shared}
end
section
variable {X : Cx}
end
end L2
namespace L2
open PySem PySem.Spec PyProof.Rows
open Sem (wp)
open AutoSeq1 (wpAny_loadPart')
section
variable {prog : Program} {w : World} {A : Around} {E : Value -> Shared -> Prop} {s : Shared}
end
section
variable {X : Cx} {pos : Pos}
end
section
variable {prog : Program} {w : World} {A : Around} {E : Value -> Shared -> Prop} {s : Shared}
end
section
variable {X : Cx}
end
end L2
namespace L2
open PySem PySem.Spec PyProof.Rows
noncomputable def atO (ns : List Int) (x : Int) : Int := ns.getD x.toNat 0
noncomputable def invO (ns : List Int) : List Int := (num0 ns.length).map fun x => ((ns.idxOf x : Nat) : Int)
noncomputable def compO (ns ms : List Int) : List Int := ms.map (atO ns)
noncomputable def Ord (m : Nat) (ns : List Int) : Prop := ns.Perm (num0 m)
theorem num0_len' (n : Nat) : (num0 n).length = n := by simp [num0]
theorem num0_nodup' (n : Nat) : (num0 n).Nodup := by
 unfold num0
 refine List.Pairwise.map _ (fun a b (h : a ≠ b) => ?_) (List.nodup_range (n := n))
 show (a : Int) ≠ (b : Int)
 (first | lia | omega)
theorem mem_num0 {n : Nat} {x : Int} : x ∈ num0 n ↔ 0 <= x /\ x < n := by
 refine ⟨num0_mem, fun zq => ?_⟩
 obtain ⟨h0, h1⟩ := zq
 unfold num0
 exact List.mem_map.mpr ⟨x.toNat, List.mem_range.mpr (by (first | lia | omega)), by (first | lia | omega)⟩
theorem num0_get {n i : Nat} (h : i < n) : (num0 n)[i]? = some (i : Int) := by simp [num0, h]
section
variable {m : Nat} {ns ms ks : List Int} {x : Int}
theorem Ord.len (h : Ord m ns) : ns.length = m := by rw [List.Perm.length_eq h, num0_len']
theorem Ord.nodup (h : Ord m ns) : ns.Nodup := h.symm.nodup (num0_nodup' m)
theorem Ord.mem (h : Ord m ns) : x ∈ ns ↔ 0 <= x /\ x < m := by rw [List.Perm.mem_iff h, mem_num0]
theorem Ord.rng (h : Ord m ns) : ∀ y ∈ ns, 0 <= y /\ y < m := fun _ hy => h.mem.mp hy
theorem atO_get {i : Nat} (h : i < ns.length) : atO ns (i : Int) = ns[i] := by
 unfold atO
 rw [Int.toNat_natCast, List.getD_eq_getElem?_getD, List.getElem?_eq_getElem h]
 rfl
theorem atO_mem (h0 : 0 <= x) (h1 : x < ns.length) : atO ns x ∈ ns := by
 unfold atO
 rw [List.getD_eq_getElem?_getD, List.getElem?_eq_getElem (by (first | lia | omega))]
 exact List.getElem_mem _
theorem atO_num0 (h0 : 0 <= x) (h1 : x < m) : atO (num0 m) x = x := by
 unfold atO
 rw [List.getD_eq_getElem?_getD, num0_get (by (first | lia | omega))]
 show ((x.toNat : Nat) : Int) = x
 (first | lia | omega)
theorem atO_comp (h0 : 0 <= x) (h1 : x < ms.length) : atO (compO ns ms) x = atO ns (atO ms x) := by
 show (compO ns ms).getD x.toNat 0 = atO ns (ms.getD x.toNat 0)
 unfold compO
 have hlt : x.toNat < ms.length := by (first | lia | omega)
 rw [List.getD_eq_getElem?_getD, List.getElem?_map, List.getD_eq_getElem?_getD, List.getElem?_eq_getElem hlt]
 rfl
theorem atO_inv (h : Ord m ns) (h0 : 0 <= x) (h1 : x < m) : atO (invO ns) x = (ns.idxOf x : Nat) := by
 unfold atO invO
 rw [h.len, List.getD_eq_getElem?_getD, List.getElem?_map, num0_get (by (first | lia | omega) : x.toNat < m)]
 show ((ns.idxOf ((x.toNat : Nat) : Int) : Nat) : Int) = _
 rw [show ((x.toNat : Nat) : Int) = x by (first | lia | omega)]
theorem inv_comp' (h : Ord m ns) : compO (invO ns) ns = num0 m := by
 apply List.ext_getElem?
 intro i
 unfold compO
 rw [List.getElem?_map]
 by_cases hi : i < m
 ·have hi' : i < ns.length := by rw [h.len]; exact hi
  rw [num0_get hi, List.getElem?_eq_getElem hi']
  show some (atO (invO ns) ns[i]) = _
  have := h.rng _ (List.getElem_mem hi')
  rw [atO_inv h this.1 this.2, List.Nodup.idxOf_getElem h.nodup i hi']
 ·rw [List.getElem?_eq_none (by rw [h.len]; (first | lia | omega)), List.getElem?_eq_none (by rw [num0_len']; (first | lia | omega))]
  rfl
end
theorem rep_one {α : Type} (x : α) (n : Nat) : (List.replicate n [x]).flatten = List.replicate n x := by
 induction n with
 | zero => rfl
 | succ n ih => rw [List.replicate_succ, List.flatten_cons, ih]; rfl
end L2
namespace L2
open PySem PySem.Spec PyProof.Rows
noncomputable def itO (ns : List Int) (x : Int) : Nat -> Int
 | 0 => x
 | k + 1 => atO ns (itO ns x k)
noncomputable def orbO (ns : List Int) (x : Int) (k : Nat) : List Int := (List.range k).map (itO ns x)
structure IsRound (ns : List Int) (x : Int) (row : List Int) : Prop where
 ex : ∃ k, row = orbO ns x (k + 1) /\ itO ns x (k + 1) = x
 nd : row.Nodup
theorem orb_len (ns : List Int) (x : Int) (k : Nat) : (orbO ns x k).length = k := by simp [orbO]
theorem orb_succ (ns : List Int) (x : Int) (k : Nat) : orbO ns x (k + 1) = orbO ns x k ++ [itO ns x k] := by simp [orbO, List.range_succ]
theorem mem_orb {ns : List Int} {x y : Int} {k : Nat} : y ∈ orbO ns x k ↔ ∃ j, j < k /\ itO ns x j = y := by
 unfold orbO
 rw [List.mem_map]
 constructor
 ·rintro ⟨j, hj, e⟩; exact ⟨j, List.mem_range.mp hj, e⟩
 ·rintro ⟨j, hj, e⟩; exact ⟨j, List.mem_range.mpr hj, e⟩
theorem orb_get {ns : List Int} {x : Int} {k j : Nat} (h : j < k) : (orbO ns x k)[j]? = some (itO ns x j) := by simp [orbO, h]
theorem it_add (ns : List Int) (x : Int) (j : Nat) : ∀ k, itO ns x (j + k) = itO ns (itO ns x j) k
 | 0 => rfl
 | k + 1 => by show atO ns (itO ns x (j + k)) = atO ns _; rw [it_add ns x j k]
theorem len_le {α : Type} [DecidableEq α] : ∀ {l L : List α}, l.Nodup -> (∀ y ∈ l, y ∈ L) -> l.length <= L.length
 | [], _, _, _ => Nat.zero_le _
 | a :: t, L, h, s => by
  have ha := s a (by simp)
  have hn := List.nodup_cons.mp h
  have h1 : t.length <= (L.erase a).length := len_le hn.2 fun y hy => by
   have hne : y ≠ a := fun e => hn.1 (e ▸ hy)
   exact (List.mem_erase_of_ne hne).mpr (s y (by simp [hy]))
  have h2 := List.length_erase_of_mem ha
  have h3 : 0 < L.length := List.length_pos_of_mem ha
  simp only [List.length_cons]
  (first | lia | omega)
section
variable {m : Nat} {ns : List Int} {x y : Int}
theorem it_rng (h : Ord m ns) (h0 : 0 <= x /\ x < m) : ∀ k, 0 <= itO ns x k /\ itO ns x k < m
 | 0 => h0
 | k + 1 => h.rng _ (atO_mem (it_rng h h0 k).1 (by rw [h.len]; exact (it_rng h h0 k).2))
theorem atO_inj (h : Ord m ns) (hx : 0 <= x /\ x < m) (hy : 0 <= y /\ y < m) (e : atO ns x = atO ns y) : x = y := by
 have ln := h.len
 have q : ∀ {z : Int}, 0 <= z /\ z < m -> atO (invO ns) (atO ns z) = z := fun {z} hz => by
  have this : atO (compO (invO ns) ns) z = atO (num0 m) z := congrArg (fun l => atO l z) (inv_comp' h)
  rw [atO_comp hz.1 (by rw [ln]; exact hz.2), atO_num0 hz.1 hz.2] at this
  exact this
 rw [<- q hx, <- q hy, e]
theorem orb_more (h : Ord m ns) (hx : 0 <= x /\ x < m) {k : Nat} (nd : (orbO ns x (k + 1)).Nodup) (hne : itO ns x (k + 1) ≠ x) : (orbO ns x (k + 2)).Nodup := by
 rw [orb_succ]
 refine List.nodup_append.mpr ⟨nd, by simp, ?_⟩
 intro a ha b hb e
 rw [List.mem_singleton] at hb
 subst hb
 obtain ⟨j, hj, e1⟩ := mem_orb.mp ha
 cases j with
 | zero => exact hne (e.symm.trans e1.symm)
 | succ j =>
  have e2 : itO ns x j = itO ns x k := atO_inj h (it_rng h hx j) (it_rng h hx k) (e1.trans e)
  have g1 : (orbO ns x (k + 1))[j]? = some (itO ns x j) := orb_get (by (first | lia | omega))
  have g2 : (orbO ns x (k + 1))[k]? = some (itO ns x k) := orb_get (by (first | lia | omega))
  rw [e2] at g1
  obtain ⟨l1, g1⟩ := List.getElem?_eq_some_iff.mp g1
  obtain ⟨l2, g2⟩ := List.getElem?_eq_some_iff.mp g2
  have q1 := List.Nodup.idxOf_getElem nd j l1
  have q2 := List.Nodup.idxOf_getElem nd k l2
  rw [g1] at q1
  rw [g2] at q2
  (first | lia | omega)
theorem orb_bound (h : Ord m ns) (hx : 0 <= x /\ x < m) {k : Nat} (nd : (orbO ns x k).Nodup) : k <= m := by
 have := len_le (L := num0 m) nd fun y hy => by
  obtain ⟨j, _, rfl⟩ := mem_orb.mp hy
  exact mem_num0.mpr (it_rng h hx j)
 rwa [orb_len, num0_len'] at this
theorem round_at (h : Ord m ns) (hx : 0 <= x /\ x < m) : ∀ (n k : Nat), m - k = n -> (orbO ns x (k + 1)).Nodup -> ∃ row, IsRound ns x row
 | n, k, e, nd => by
  by_cases hk : itO ns x (k + 1) = x
  ·exact ⟨_, ⟨k, rfl, hk⟩, nd⟩
  ·have nd2 := orb_more h hx nd hk
   have b := orb_bound h hx nd2
   cases n with
   | zero => (first | lia | omega)
   | succ n => exact round_at h hx n (k + 1) (by (first | lia | omega)) nd2
theorem round_ex (h : Ord m ns) (hx : 0 <= x /\ x < m) : ∃ row, IsRound ns x row := round_at h hx m 0 rfl (by simp [orbO])
theorem round_one {r r' : List Int} (a : IsRound ns x r) (b : IsRound ns x r') : r = r' := by
 obtain ⟨⟨k, rfl, hk⟩, nd⟩ := a
 obtain ⟨⟨k', rfl, hk'⟩, nd'⟩ := b
 have key : ∀ {k k' : Nat}, itO ns x (k + 1) = x -> (orbO ns x (k' + 1)).Nodup -> ¬ k < k' := fun {k k'} hk nd hlt => by
  have g1 : (orbO ns x (k' + 1))[0]? = some (itO ns x 0) := orb_get (by (first | lia | omega))
  have g2 : (orbO ns x (k' + 1))[k + 1]? = some (itO ns x (k + 1)) := orb_get (by (first | lia | omega))
  rw [hk] at g2
  obtain ⟨l1, g1⟩ := List.getElem?_eq_some_iff.mp g1
  obtain ⟨l2, g2⟩ := List.getElem?_eq_some_iff.mp g2
  have q1 := List.Nodup.idxOf_getElem nd 0 l1
  have q2 := List.Nodup.idxOf_getElem nd (k + 1) l2
  rw [g1] at q1
  rw [g2] at q2
  have e : itO ns x 0 = x := rfl
  rw [e] at q1
  (first | lia | omega)
 have := key hk nd'
 have := key hk' nd
 have e : k = k' := by (first | lia | omega)
 rw [e]
open Classical in
noncomputable def rowO (ns : List Int) (x : Int) : List Int := if h : ∃ row, IsRound ns x row then choose h else []
theorem row_is (h : Ord m ns) (hx : 0 <= x /\ x < m) : IsRound ns x (rowO ns x) := by
 unfold rowO
 rw [dif_pos (round_ex h hx)]
 exact Classical.choose_spec _
theorem row_eq (h : Ord m ns) (hx : 0 <= x /\ x < m) {r : List Int} (a : IsRound ns x r) : r = rowO ns x := round_one a (row_is h hx)
noncomputable def stepO (ns : List Int) (acc : List (List Int)) (f : Int) : List (List Int) := if f ∈ acc.flatten then acc else acc ++ [rowO ns f]
noncomputable def walkO (ns fs : List Int) : List (List Int) := fs.foldl (stepO ns) []
noncomputable def roundsO (ns : List Int) : List (List Int) := walkO ns (num0 ns.length)
theorem walk_snoc (ns fs : List Int) (f : Int) : walkO ns (fs ++ [f]) = stepO ns (walkO ns fs) f := by simp [walkO, List.foldl_append]
theorem row_len (h : Ord m ns) (hx : 0 <= x /\ x < m) : 1 <= (rowO ns x).length /\ (rowO ns x).length <= m := by
 obtain ⟨⟨k, e, _⟩, nd⟩ := row_is h hx
 rw [e] at nd
 rw [e, orb_len]
 exact ⟨by (first | lia | omega), orb_bound h hx nd⟩
theorem row_mem (h : Ord m ns) (hx : 0 <= x /\ x < m) : ∀ y ∈ rowO ns x, 0 <= y /\ y < m := fun y hy => by
 obtain ⟨⟨k, e, _⟩, nd⟩ := row_is h hx
 rw [e] at hy
 obtain ⟨j, _, rfl⟩ := mem_orb.mp hy
 exact it_rng h hx j
structure MetO (ns : List Int) (m : Nat) (rows : List (List Int)) : Prop where
 nd : rows.flatten.Nodup
 rng : ∀ y ∈ rows.flatten, 0 <= y /\ y < m
 clo : ∀ y ∈ rows.flatten, atO ns y ∈ rows.flatten
 row : ∀ r ∈ rows, ∃ f : Int, 0 <= f /\ f < m /\ r = rowO ns f
theorem MetO.it {rows : List (List Int)} (M : MetO ns m rows) (hy : y ∈ rows.flatten) : ∀ k, itO ns y k ∈ rows.flatten
 | 0 => hy
 | k + 1 => M.clo _ (M.it hy k)
theorem MetO.step (h : Ord m ns) {rows : List (List Int)} (M : MetO ns m rows) {f : Int} (hf : 0 <= f /\ f < m) : MetO ns m (stepO ns rows f) := by
 unfold stepO
 split
 ·exact M
 ·rename_i hn
  obtain ⟨⟨k, e, hk⟩, nd⟩ := row_is h hf
  have e1 : (rows ++ [rowO ns f]).flatten = rows.flatten ++ rowO ns f := by simp
  refine ⟨?_, ?_, ?_, ?_⟩
  ·rw [e1]
   refine List.nodup_append.mpr ⟨M.nd, nd, fun a ha b hb eab => hn ?_⟩
   subst eab
   rw [e] at hb
   obtain ⟨j, hj, rfl⟩ := mem_orb.mp hb
   have := M.it ha (k + 1 - j)
   rw [<- it_add, show j + (k + 1 - j) = k + 1 by (first | lia | omega), hk] at this
   exact this
  ·rw [e1]
   intro y hy
   rcases List.mem_append.mp hy with hy | hy
   ·exact M.rng y hy
   ·exact row_mem h hf y hy
  ·rw [e1]
   intro y hy
   rcases List.mem_append.mp hy with hy | hy
   ·exact List.mem_append_left _ (M.clo y hy)
   ·refine List.mem_append_right _ ?_
    rw [e] at hy ⊢
    obtain ⟨j, hj, rfl⟩ := mem_orb.mp hy
    by_cases hlast : j = k
    ·subst hlast
     exact mem_orb.mpr ⟨0, by (first | lia | omega), hk.symm⟩
    ·exact mem_orb.mpr ⟨j + 1, by (first | lia | omega), rfl⟩
  ·intro r hr
   rcases List.mem_append.mp hr with hr | hr
   ·exact M.row r hr
   ·exact ⟨f, hf.1, hf.2, List.mem_singleton.mp hr⟩
theorem met_nil : MetO ns m [] := ⟨by simp, by simp, by simp, by simp⟩
theorem met_walk (h : Ord m ns) : ∀ (fs : List Int), (∀ f ∈ fs, 0 <= f /\ f < m) -> ∀ {acc : List (List Int)}, MetO ns m acc -> MetO ns m (fs.foldl (stepO ns) acc)
 | [], _, _, M => M
 | f :: fs, hf, _, M => met_walk h fs (fun g hg => hf g (by simp [hg])) (M.step h (hf f (by simp)))
theorem MetO.lens (h : Ord m ns) {rows : List (List Int)} (M : MetO ns m rows) : rows.flatten.length <= m /\ rows.length <= m /\ ∀ r ∈ rows, 1 <= r.length /\ r.length <= m := by
 have h1 : rows.flatten.length <= m := by
  have := len_le (L := num0 m) M.nd fun y hy => mem_num0.mpr (M.rng y hy)
  rwa [num0_len'] at this
 have h3 : ∀ r ∈ rows, 1 <= r.length /\ r.length <= m := fun r hr => by
  obtain ⟨f, f0, f1, rfl⟩ := M.row r hr
  exact row_len h ⟨f0, f1⟩
 have h2 : ∀ {rows : List (List Int)}, (∀ r ∈ rows, 1 <= r.length /\ r.length <= m) -> rows.length <= rows.flatten.length := fun {rows} => by
  induction rows with
  | nil => intro _; simp
  | cons r t ih =>
   intro h
   have := h r (by simp)
   have := ih fun r hr => h r (by simp [hr])
   simp only [List.length_cons, List.flatten_cons, List.length_append]
   (first | lia | omega)
 exact ⟨h1, Nat.le_trans (h2 h3) h1, h3⟩
theorem walk_has (h : Ord m ns) : ∀ (fs : List Int), (∀ f ∈ fs, 0 <= f /\ f < m) -> ∀ (acc : List (List Int)) y, (y ∈ acc.flatten ∨ y ∈ fs) -> y ∈ (fs.foldl (stepO ns) acc).flatten
 | [], _, acc, y, hy => by
  rcases hy with hy | hy
  ·exact hy
  ·cases hy
 | f :: fs, hf, acc, y, hy => by
  refine walk_has h fs (fun g hg => hf g (by simp [hg])) (stepO ns acc f) y ?_
  have grow : ∀ z, z ∈ acc.flatten -> z ∈ (stepO ns acc f).flatten := fun z hz => by
   unfold stepO
   split
   ·exact hz
   ·simp only [List.flatten_append]; exact List.mem_append_left _ hz
  rcases hy with hy | hy
  ·exact .inl (grow y hy)
  ·rcases List.mem_cons.mp hy with rfl | hy
   ·left
    unfold stepO
    split
    ·assumption
    ·obtain ⟨⟨k, e, _⟩, _⟩ := row_is h (hf y (by simp))
     simp only [List.flatten_append]
     refine List.mem_append_right _ ?_
     simp only [List.flatten_cons, List.flatten_nil, List.append_nil]
     rw [e]
     exact mem_orb.mpr ⟨0, by (first | lia | omega), rfl⟩
   ·exact .inr hy
theorem perm_of_nd {l L : List Int} (hl : l.Nodup) (hL : L.Nodup) (e : ∀ y, y ∈ l ↔ y ∈ L) : l.Perm L := (List.perm_ext_iff_of_nodup hl hL).mpr e
theorem rounds_perm (h : Ord m ns) : (roundsO ns).flatten.Perm (num0 m) := by
 unfold roundsO walkO
 rw [h.len]
 have M := met_walk h (num0 m) (fun f hf => num0_mem hf) met_nil
 exact perm_of_nd M.nd (num0_nodup' m) fun y => ⟨fun hy => mem_num0.mpr (M.rng y hy), fun hy => walk_has h (num0 m) (fun f hf => num0_mem hf) [] y (.inr hy)⟩
end
end L2
namespace L2
open PySem PySem.Spec PyProof.Rows
section
variable {X : Cx}
end
section
variable {prog : Program} {w : World} {A : Around} {E : Value -> Shared -> Prop} {s : Shared}
theorem getItem_tuple_whole {t sl : Addr} {items : Array Value} {vl vu : Value} {lo hi : Option Int} {Q : Value -> Shared -> Prop} (ht : IsTup s.heap t items) (hs : s.heap.IsSliceOf sl vl vu .none) (pl : IsPart vl lo) (pu : IsPart vu hi)
  (hw : HT.sIx items.size 0 lo = 0 /\ HT.sIx items.size items.size hi = items.size) (h : Q (.ref t) s) : wpAny (model prog w) A (getItem (.ref t) (.ref sl)) Q E s := by
 obtain ⟨os, hos, hcs, hds⟩ := id hs
 have hTs : s.TypeIs (.ref sl) "slice" := ⟨os, hos, hcs⟩
 unfold getItem
 try with_reducible refine wpAny_holding ?_
 first | refine wpAny_bind (wpAny_pure ?_) | skip
 refine wpAny_bind (wpAny_sequenceKey ht.typeIs (by decide) ?_)
 refine wpAny_bind (wpAny_callSpecial?_slot (name := Str.ofString "__getitem__") ht.typeIs PyProof.Rows.slot_tuple_getitem
  (wpAny_call_entry PyProof.Rows.slot_tuple_getitem ht.typeIs entry_tuple_getitem ?_ (args_tuple_getitem _ _)))
 show wpAny _ _ (Builtin.Tuple.tupleItemsOf (.ref t) >>= _) _ _ s
 refine wpAny_bind (tupleItemsOf_ ht ?_)
 refine wpAny_bind (wpAny_typeOf hTs ?_)
 rw [if_pos (by decide)]
 refine wpAny_bind (HT.sliceApplied_gen hs pl pu ?_)
 show wpAny _ _ (if (((HT.sIx items.size 0 lo : Nat) : Int) == 0 && (1 : Int) == 1 && (HT.sIx items.size items.size hi - HT.sIx items.size 0 lo) == items.size) = true then _ else _) _ _ s
 rw [if_pos (by rw [hw.1, hw.2]; simp)]
 unfold Builtin.Tuple.tupleIsExact
 refine wpAny_bind (wpAny_bind (wpAny_typeOf ht.typeIs (wpAny_pure ?_)))
 rw [if_pos (by decide)]
 refine wpAny_bind (wpAny_rule ?_)
 exact wpAny_pure ⟨_, rfl, wpAny_pure h⟩
end
section
variable {X : Cx} {e : Expr} {te : TE} {p2 pos : Pos}
end
end L2
namespace L2
open PySem PySem.Spec PyProof.Rows
noncomputable abbrev RowsAt (H : Hp) (zs : List Addr) (rows : List (List Int)) : Prop := Paired (fun (z : Addr) (r : List Int) => H z = some (.tup (r.map V.int))) zs rows
theorem RowsAt.sameT {H H' : Hp} {zs : List Addr} {rows : List (List Int)} (h : RowsAt H zs rows) (s : SameT H H') : RowsAt H' zs rows := Paired.mapP h fun _ _ q => s _ _ q
theorem RowsAt.same {H H' : Hp} {zs : List Addr} {rows : List (List Int)} (h : RowsAt H zs rows) (s : Same H H') : RowsAt H' zs rows := h.sameT s.t
structure Bits (bs : List Bool) (m : Nat) (S : List Int) : Prop where
 len : bs.length = m
 bit : ∀ i, i < m -> bs[i]? = some (decide ((i : Int) ∈ S))
theorem bits0 (m : Nat) : Bits (List.replicate m false) m [] := ⟨by simp, fun i hi => by simp [hi]⟩
theorem Bits.set {bs : List Bool} {m : Nat} {S : List Int} {y : Int} (B : Bits bs m S) (h0 : 0 <= y) (h1 : y < m) : Bits (bs.set y.toNat true) m (S ++ [y]) := by
 refine ⟨by rw [List.length_set]; exact B.len, fun i hi => ?_⟩
 have hl := B.len
 by_cases e : i = y.toNat
 ·subst e
  rw [List.getElem?_set_self (by (first | lia | omega))]
  have : ((y.toNat : Nat) : Int) = y := by (first | lia | omega)
  rw [this]
  simp
 ·rw [List.getElem?_set_ne (Ne.symm e), B.bit i hi]
  have hne : ((i : Nat) : Int) ≠ y := by (first | lia | omega)
  simp [hne]
noncomputable def spRoundFrom : Sp := fun vs H Q _ => ∃ (a : Addr) (ns : List Int) (m : Nat) (x : Int), vs = [.ref a, .int x] /\ H a = some (.tup (ns.map V.int)) /\ Ord m ns /\ m <= 500 /\ 0 <= x /\ x < m /\ ∀ p H', Same H H' -> H' p = some (.tup ((rowO ns x).map V.int)) -> Q (.ref p) H'
noncomputable def spRoundsMet : Sp := fun vs H Q _ => ∃ (a l : Addr) (ns fs : List Int) (m : Nat), vs = [.ref a, .ref l] /\ H a = some (.tup (ns.map V.int)) /\ H l = some (.lst (fs.map V.int)) /\ Ord m ns /\ m <= 500 /\ (∀ f ∈ fs, 0 <= f /\ f < m) /\
 ∀ p zs H', Same H H' -> H' p = some (.lst (zs.map V.ref)) -> RowsAt H' zs (walkO ns fs) -> Q (.ref p) H'
noncomputable def spRounds : Sp := fun vs H Q _ => ∃ (a : Addr) (ns : List Int) (m : Nat), vs = [.ref a] /\ H a = some (.tup (ns.map V.int)) /\ Ord m ns /\ m <= 500 /\ ∀ p zs H', Same H H' -> H' p = some (.tup (zs.map V.ref)) -> RowsAt H' zs (roundsO ns) -> Q (.ref p) H'
theorem mapR_len (zs : List Addr) : (zs.map V.ref).length = zs.length := List.length_map ..
end L2
namespace L2
open PySem PySem.Spec PyProof.Rows
inductive Ents (P : Params) : List DictEntry -> List (Str × Addr) -> Prop
 | nil : Ents P [] []
 | cons {x : Str} {t : Tok} {f : Addr} {es : List DictEntry} {kvs : List (Str × Addr)} : Ents P es kvs -> Ents P (⟨PyData.keyHash P x, .str x t, .ref f⟩ :: es) ((x, f) :: kvs)
structure GDict (K : PySem.W.Frag) (P : Params) (C : Addr) (kvs : List (Str × Addr)) : Prop where
 ex : ∃ es n, K.lookup C = some { cls := .type "dict", data := .dict es n } /\ Ents P es.toList kvs
 nd : (kvs.map (·.1)).Nodup
theorem Ents.keys {prog : Program} {w : World} : ∀ {es : List DictEntry} {kvs : List (Str × Addr)}, Ents w.params es kvs -> ∀ e ∈ es, ∃ k, (PySem.strKind prog w).is k e.key = true /\ e.hash = (PySem.strKind prog w).hash k
 | _, _, .nil, _, h => by cases h
 | _, _, .cons (x := x) t, e, h => by
  rcases List.mem_cons.mp h with rfl | h
  ·exact ⟨x, by simp [PySem.strKind, Value.isStrOf], rfl⟩
  ·exact Ents.keys t e h
theorem Ents.pairs {prog : Program} {w : World} : ∀ {es : List DictEntry} {kvs : List (Str × Addr)}, Ents w.params es kvs -> Pairs (PySem.strKind prog w) es (kvs.map fun kv => (kv.1, Value.ref kv.2))
 | _, _, .nil => .nil
 | _, _, .cons t => .cons (by simp [PySem.strKind, Value.isStrOf]) rfl (Ents.pairs t)
theorem value_lookup : ∀ (kvs : List (Str × Addr)) (x : Str), valueAt (kvs.map fun kv => (kv.1, Value.ref kv.2)) x = (kvs.lookup x).map Value.ref
 | [], _ => rfl
 | (y, f) :: t, x => by
  have ih := value_lookup t x
  unfold valueAt at ih ⊢
  rw [List.map_cons, List.find?_cons, List.lookup_cons]
  by_cases h : y = x
  ·subst h
   simp
  ·have h2 : (x == y) = false := beq_eq_false_iff_ne.mpr fun z => h z.symm
   simp only [decide_eq_false h, h2]
   exact ih
section
variable {X : Cx}
noncomputable def rGd (K : PySem.W.Frag) (P : Params) : R2 := fun x y H Q => ∃ C kvs z f, x = .ref C /\ y = .str z /\ GDict K P C kvs /\ kvs.lookup z = some f /\ Q (.ref f) H
theorem ix_gd : IxR X (rGd X.K X.w.params) := by
 intro value slice pins s σ H x y v u Q I rx ry h hs
 obtain ⟨C, kvs, z, f, rfl, rfl, ⟨⟨es, n, hk, en⟩, nd⟩, hl, q⟩ := h
 cases rx
 obtain ⟨t, rfl⟩ := ry
 have hg := I.kIn C _ hk
 have hD : s.heap.DictOf (PySem.strKind X.prog X.w) C (kvs.map fun kv => (kv.1, Value.ref kv.2)) :=
  ⟨_, es, n, hg, ⟨rfl, rfl, rfl⟩, rfl, fun e he => en.keys e (by simpa using he), en.pairs, by rw [List.map_map]; exact nd⟩
 have fin : EP X pins σ Q (.ref f) { s with toks := s.toks + 1 } := ⟨.ref f, H, I.tok _, rfl, q⟩
 exact subscriptTail_builtinR (x := .ref f) hD.typeIs PySem.F.slot_dict_getitem.lookup
  (wpAny_getItem_of (k := z) (knd := PySem.strKind X.prog X.w) (Q := fun r s' => r = .ref f /\ EP X pins σ Q r s') (by simp [PySem.strKind, Value.isStrOf]) hD.mapOf (by rw [value_lookup, hl]; rfl) ⟨rfl, fin⟩) hs
end
structure CalF (P : Program) (w : World) (K : PySem.W.Frag) (mg : Str -> Option Value) (base : Heap) (k : Nat) (f : Addr) (ps : List Str) (sp : Sp) : Prop where
 ex : ∃ fd, FnOk P w K mg base CX0 k f fd ps sp /\ PySem.W.keepIn K (.ref f) = true /\ Binds K fd ps []
section
variable {X : Cx} {k : Nat} {x : Str} {p pos : Pos} {e : Expr} {es : List Expr} {t : TA} {tf : TE}
noncomputable def tCallV (P : Program) (w : World) (K : PySem.W.Frag) (mg : Str -> Option Value) (base : Heap) (k : Nat) (tf : TE) (t : TA) : TE := fun σ H Q => tf σ H fun v H1 => ∃ f ps sp, v = .ref f /\ CalF P w K mg base k f ps sp /\ t σ H1 fun vs H2 => sp vs H2 Q E0
theorem pe_callV (hf : PE X (.Name x p) tf) (hr : Room k X.A) (ha : PA X (e :: es) t) (he : starEach (e :: es) X.env = (false, eval e X.env) :: starEach es X.env := by rfl)
  (hpl : (backTo pos (starEach es X.env)).any (·.1) = false := by rfl) : PE X (.Call (.Name x p) (e :: es) [] pos) (tCallV X.prog X.w X.K X.mg X.base k tf t) := by
 intro pins s σ H Q I h
 refine wpAny_Call_Name_kw (thn (hf pins s σ H _ I h) fun v s1 zq => ?_)
 obtain ⟨y, H1, I1, r1, f, ps, sp, ey, ⟨fd, F, hk, hb⟩, q1⟩ := zq
 subst ey
 cases (show v = Value.ref f from r1)
 refine PySem.W.callWith_K (h₀ := X.base) I1.ok.mod.kin hk (thn (ha pos pins s1 σ H1 _ I1 q1) fun us s2 ⟨vs, H2, I2, r2, q2⟩ => ⟨I2.kIn, ?_⟩) he hpl
 exact run_fn F hr hb .nil pass0 I2 r2 (by rw [List.append_nil]; exact q2)
noncomputable def rSumL : List V -> Hp -> VK -> Prop := fun xs H Q => ∃ (l : Addr) (ns : List Int), xs = [.ref l] /\ H l = some (.lst (ns.map V.int)) /\ Q (.int ns.sum) H
theorem call_sumL (hc : X.calm = true) : CallR X (.builtin "sum") rSumL := by
 intro pins s σ H xs us Q I rs h
 obtain ⟨l, ns, rfl, hH, q⟩ := h
 obtain ⟨u, rfl, ru⟩ := vals1 rs
 cases (show u = Value.ref l from ru)
 obtain ⟨z, its, n, r, hl, e⟩ := I.lstM hH
 have hI := intsAre_of r
 obtain ⟨xs, hxs⟩ := hI.allInts.items
 have hnum : (numsOf its.toArray.toList) = ns := hI.numsOf
 refine sum_intListG (xs := xs) (I.ok.hd hc) (by rw [<- hxs]; exact ⟨_, e, rfl, n, rfl⟩) fun h' tk t' hk => ?_
 have hs : preSum (numAt xs) xs.size = ns.sum := by
  rw [preSum_eq, List.take_of_length_le (by simp)]
  rw [<- nums_intItems, <- hxs, hnum]
 rw [hs]
 exact ⟨.int ns.sum, H, I.kept (t' := tk) hk, ⟨_, rfl⟩, q⟩
end
end L2
namespace L2
open PySem PySem.Spec PyProof.Rows
noncomputable abbrev lc2 (elt tg iter : Expr) (ifs : List Expr) (tg2 iter2 : Expr) (ifs2 : List Expr) (scope : Scope) (pos : Pos) : Expr := .ListComp elt [⟨tg, iter, ifs, 0⟩, ⟨tg2, iter2, ifs2, 0⟩] scope pos
theorem compTurn_in (elt tg iter : Expr) (ifs : List Expr) (tg2 iter2 : Expr) (ifs2 : List Expr) (scope : Scope) (pos : Pos) (it acc : Value) (env : Env) :
  compTurn (lc2 elt tg iter ifs tg2 iter2 ifs2 scope pos) 1 it acc env = (do
   standAt iter2.pos
   match <- pyNext it with
   | none => pure (.done .next)
   | some v =>
    letOwnedTupleGo tg2 it v
    assign tg2 env v
    let mut ok := true
    for c in ifs2 do
     if ok then ok <- isTrue c env (eval c env)
    if ok then
     (do let _ <- call (.builtin "list.append") [acc, <- eval elt env])
    again (.compLoop (lc2 elt tg iter ifs tg2 iter2 ifs2 scope pos) 1 it acc env)) := by rfl
theorem compTurn_out (elt tg iter : Expr) (ifs : List Expr) (tg2 iter2 : Expr) (ifs2 : List Expr) (scope : Scope) (pos : Pos) (it acc : Value) (env : Env) :
  compTurn (lc2 elt tg iter ifs tg2 iter2 ifs2 scope pos) 0 it acc env = (do
   standAt iter.pos
   match <- pyNext it with
   | none => pure (.done .next)
   | some v =>
    letOwnedTupleGo tg it v
    assign tg env v
    let mut ok := true
    for c in ifs do
     if ok then ok <- isTrue c env (eval c env)
    if ok then
     let x <- eval iter2 env
     standAt iter2.pos
     let x <- foldedSetIterable iter2 env x
     let _ <- runOwn (.compStart (lc2 elt tg iter ifs tg2 iter2 ifs2 scope pos) 1 (<- holding [x] (pyIter x)) acc env) env
    again (.compLoop (lc2 elt tg iter ifs tg2 iter2 ifs2 scope pos) 0 it acc env)) := by rfl
section
variable {prog : Program} {w : World} {A : Around} {R : Result -> Shared -> Prop} {s : Shared} {elt tg iter tg2 iter2 : Expr} {ifs ifs2 : List Expr} {scope : Scope} {pos : Pos} {it acc : Value} {env : Env}
theorem compLoop_in (I : Nat -> Shared -> Prop)
  (turn : ∀ n s, I n s -> wpAny (model prog w) A (pyNext it) (fun r s₁ => match r with
   | none => R (.ok .next) s₁
   | some v => wpAny (model prog w) A (letOwnedTupleGo tg2 it v) (fun _ s₂ => wpAny (model prog w) A (assign tg2 env v) (fun _ s₃ =>
     wpAny (model prog w) A (forIn ifs2 true fun c r => if r = true then do let ok <- isTrue c env (eval c env); pure (ForInStep.yield ok) else pure (ForInStep.yield r)) (fun ok s₄ =>
      if ok = true then wpAny (model prog w) A (eval elt env) (fun x s₅ =>
       wpAny (model prog w) A (call (.builtin "list.append") [acc, x]) (fun _ s₆ => ∃ m, m < n /\ I m s₆) (fun _ _ => False) s₅) (fun _ _ => False) s₄
      else ∃ m, m < n /\ I m s₄) (fun _ _ => False) s₃) (fun _ _ => False) s₂) (fun _ _ => False) s₁) (fun _ _ => False) s)
  (n : Nat) (h : I n s) :
  codeAny (model prog w) A (.compLoop (lc2 elt tg iter ifs tg2 iter2 ifs2 scope pos) 1 it acc env) R s := by
 refine codeAny_loop rfl I (fun n s hI => ?_) n h
 show wpAny _ A ((compTurn (lc2 elt tg iter ifs tg2 iter2 ifs2 scope pos) 1 it acc env).onRaise (fun x => do noteFrame x env; theTreesLotGoes x)) _ _ s
 refine wpAny_noted (wpAny_noRaise ?_)
 rw [compTurn_in]
 refine wpAny_bind (wpAny_standAt (wpAny_bind (thn (turn n s hI) fun r s₁ h₁ => ?_)))
 cases r with
 | none => exact wpAny_pure h₁
 | some v =>
  refine wpAny_bind (thn h₁ fun _ s₂ h₂ => wpAny_bind (thn h₂ fun _ s₃ h₃ => wpAny_bind (thn h₃ fun ok s₄ h₄ => ?_)))
  cases ok with
  | false => exact wpAny_pure ⟨rfl, h₄⟩
  | true => exact wpAny_bind (wpAny_bind (thn h₄ fun x s₅ h₅ => wpAny_bind (thn h₅ fun _ s₆ h₆ => wpAny_pure (wpAny_pure ⟨rfl, h₆⟩))))
theorem compLoop_out (hs2 : ∀ x, foldedSetIterable iter2 env x = pure x) (I : Nat -> Shared -> Prop)
  (turn : ∀ n s, I n s -> wpAny (model prog w) A (pyNext it) (fun r s₁ => match r with
   | none => R (.ok .next) s₁
   | some v => wpAny (model prog w) A (letOwnedTupleGo tg it v) (fun _ s₂ => wpAny (model prog w) A (assign tg env v) (fun _ s₃ =>
     wpAny (model prog w) A (forIn ifs true fun c r => if r = true then do let ok <- isTrue c env (eval c env); pure (ForInStep.yield ok) else pure (ForInStep.yield r)) (fun ok s₄ =>
      if ok = true then wpAny (model prog w) A (eval iter2 env) (fun x s₅ => wpAny (model prog w) A (pyIter x) (fun it2 s₆ =>
       codeAny (model prog w) A (.compStart (lc2 elt tg iter ifs tg2 iter2 ifs2 scope pos) 1 it2 acc env) (fun r s₇ => r = .ok .next /\ ∃ m, m < n /\ I m s₇) s₆) (fun _ _ => False) s₅) (fun _ _ => False) s₄
      else ∃ m, m < n /\ I m s₄) (fun _ _ => False) s₃) (fun _ _ => False) s₂) (fun _ _ => False) s₁) (fun _ _ => False) s)
  (n : Nat) (h : I n s) :
  codeAny (model prog w) A (.compLoop (lc2 elt tg iter ifs tg2 iter2 ifs2 scope pos) 0 it acc env) R s := by
 refine codeAny_loop rfl I (fun n s hI => ?_) n h
 show wpAny _ A ((compTurn (lc2 elt tg iter ifs tg2 iter2 ifs2 scope pos) 0 it acc env).onRaise (fun x => do noteFrame x env; theTreesLotGoes x)) _ _ s
 refine wpAny_noted (wpAny_noRaise ?_)
 rw [compTurn_out]
 refine wpAny_bind (wpAny_standAt (wpAny_bind (thn (turn n s hI) fun r s₁ h₁ => ?_)))
 cases r with
 | none => exact wpAny_pure h₁
 | some v =>
  refine wpAny_bind (thn h₁ fun _ s₂ h₂ => wpAny_bind (thn h₂ fun _ s₃ h₃ => wpAny_bind (thn h₃ fun ok s₄ h₄ => ?_)))
  cases ok with
  | false => exact wpAny_pure ⟨rfl, h₄⟩
  | true =>
   refine wpAny_bind (thn h₄ fun x s₅ h₅ => wpAny_bind (wpAny_standAt (wpAny_bind (wpAny_of_eq (hs2 x) (wpAny_bind (wpAny_holding (thn h₅ fun it2 s₆ h₆ => ?_)))))))
   refine wpAny_bind (wpAny_runOwn (codeAny_mono h₆ fun r s₇ hr => ?_))
   obtain ⟨rfl, hr⟩ := hr
   exact wpAny_pure ⟨rfl, hr⟩
theorem codeAny_compStart_in
  (h0 : codeAny (model prog w) A (.compLoop (lc2 elt tg iter ifs tg2 iter2 ifs2 scope pos) 1 it acc env) R s)
  (h : wpAny (model prog w) A (pyIter it) (fun it' s' => codeAny (model prog w) A (.compLoop (lc2 elt tg iter ifs tg2 iter2 ifs2 scope pos) 1 it' acc env) R s')
   (notedBy (model prog w) A env fun x s' => R (.error x) s') s) :
  codeAny (model prog w) A (.compStart (lc2 elt tg iter ifs tg2 iter2 ifs2 scope pos) 1 it acc env) R s := by
 refine codeAny_of_tree ?_
 show wpAny _ _ ((compStart (lc2 elt tg iter ifs tg2 iter2 ifs2 scope pos) 1 it acc env).onRaise (fun x => do noteFrame x env; standAt theWindowsPlace)) _ _ s
 refine wpAny_notedAt ?_
 unfold compStart
 show wpAny _ _ (ask >>= _) _ _ s
 refine wpAny_bind (wpAny_askSetting (wpAny_ite ?_))
 split
 ·first
   | exact wpAny_bind (wpAny_pure (wpAny_pure (And.intro rfl h0)))
   | exact wpAny_pure (And.intro rfl h0)
 ·refine wpAny_bind (wpAny_rule (wpAny_bind (wpAny_standAt (wpAny_bind (wpAny_mono h (fun it' s' h' => wpAny_pure (And.intro rfl h')) fun _ _ e => e)))))
end
end L2
namespace L2
open PySem PySem.Spec PyProof.Rows
noncomputable def InW (J : It) (H1 : Hp) (g : TG) (tt : TT) (te : TE) (acc : Addr) (σ : St) (Kt : Hp -> Prop) : Prop :=
 ∃ V : Nat -> Nat -> Hp -> Prop, (∃ m, V 0 m H1) /\ ∀ i m H, V i m H ->
  (J.stop i H /\ Kt H) ∨ (J.go i H /\ ∀ x H', J.yld i H x H' -> g x σ H' fun σ2 H2 => Wk σ σ2 /\ tt σ2 H2 fun b H3 =>
   if b = true then te σ2 H3 fun v H4 => ∃ ys, H4 acc = some (.lst ys) /\ ys.length < sizeLine /\ ∃ m', m' < m /\ V (i + 1) m' (upd H4 acc (.lst (ys ++ [v])))
   else ∃ m', m' < m /\ V (i + 1) m' H3)
noncomputable def LcW2 (J : It) (H1 : Hp) (g : TG) (tt : TT) (wi2 : TI) (g2 : TG) (tt2 : TT) (te : TE) (n : Nat) (ix : List Nat) (σ : St) (Q : VK) : Prop := ∀ acc, H1 acc = none ->
 ∃ W : Nat -> Nat -> Hp -> Prop, (∃ m, W 0 m (upd H1 acc (.lst []))) /\ ∀ i m H, W i m H ->
  (J.stop i H /\ Q (.ref acc) H) ∨ (J.go i H /\ ∀ x H', J.yld i H x H' -> g x (compSt n ix σ) H' fun σ2 H2 => Wk (compSt n ix σ) σ2 /\ tt σ2 H2 fun b H3 =>
   if b = true then wi2 σ2 H3 fun J2 H4 => InW J2 H4 g2 tt2 te acc σ2 fun H5 => ∃ m', m' < m /\ W (i + 1) m' H5
   else ∃ m', m' < m /\ W (i + 1) m' H3)
noncomputable def tLc2 (wi : TI) (g : TG) (tt : TT) (wi2 : TI) (g2 : TG) (tt2 : TT) (te : TE) (n : Nat) (ix : List Nat) : TE := fun σ H Q => wi σ H fun J H1 => LcW2 J H1 g tt wi2 g2 tt2 te n ix σ Q
section
variable {X : Cx} {elt tg iter tg2 iter2 : Expr} {ifs ifs2 : List Expr} {scope : Scope} {pos : Pos} {wi wi2 : TI} {g g2 : TG} {tt tt2 : TT} {te : TE} {N' : List Str} {n : Nat} {ix : List Nat}
theorem lc_core2 {pins : List (Addr × Obj)} {σ : St} {H2 : Hp} {s2 : Shared} {cl : List (Str × Addr)} {it : Addr} {fp : List Addr} {tn : Nat -> Heap -> Prop} {J : It} {Q : VK} {R : Value -> Addr -> Result -> Shared -> Prop}
  (hc : X.calm = true) (S : CompScope X scope N' n ix)
  (hY : ∀ s₂ H₂ cl C fp, PG (X.comp s₂ H₂ N' scope cl C fp) tg g /\ PTs (X.comp s₂ H₂ N' scope cl C fp) ifs tt /\ PI (X.comp s₂ H₂ N' scope cl C fp) tg2 iter2 wi2 /\ PG (X.comp s₂ H₂ N' scope cl C fp) tg2 g2 /\ PTs (X.comp s₂ H₂ N' scope cl C fp) ifs2 tt2 /\
   PE (X.comp s₂ H₂ N' scope cl C fp) elt te)
  (hs2 : ∀ env x, foldedSetIterable iter2 env x = pure x)
  (I2 : Inv X pins σ H2 s2) (hcl1 : ∀ x c, cl.lookup x = some c -> X.env.cells.lookup x = some c) (hcl2 : ∀ y ∈ scope.names, y.2 = .free -> cl.lookup y.1 = X.env.cells.lookup y.1)
  (T : Turn X.prog X.w X.K tg J fp it tn) (st2 : tn 0 s2.heap) (f2 : ∀ b ∈ fp, FpOk X pins H2 b)
  (hW : LcW2 J H2 g tt wi2 g2 tt2 te n ix σ Q)
  (hR : ∀ acc C s' H' m, s'.heap.Ns C m -> Inv X pins σ H' s' -> H' C = none -> C ≠ X.env.locals -> (C ∈ X.ex ∨ X.s₀.heap.objs.size <= C) -> (∀ x c, X.env.cells.lookup x = some c -> c ≠ C) -> (∀ p ∈ X.pn ++ pins, p.1 ≠ C) -> C ∉ X.fs -> Q (.ref acc) H' -> R (.ref acc) C (.ok .next) s') :
  wpAny (model X.prog X.w) X.A (newList []) (fun acc s₃ => wpAny (model X.prog X.w) X.A (newFunctionEnv scope X.env.globals cl [] X.env.qual none .none (some X.env)) (fun cenv s₄ =>
   codeAny (model X.prog X.w) X.A (.compStart (lc2 elt tg iter ifs tg2 iter2 ifs2 scope pos) 0 (.ref it) acc { cenv with scope := relabel scope X.env }) (R acc cenv.locals) s₄) X.xe s₃) X.xe s2 := by
 refine wpAny_newObj_type (wpAny_newFunctionEnv S.nocell (by intro y hy; simp at hy) (fun h₁ hns₁ hsb₁ => ?_) S.kind)
 dsimp only at hns₁ hsb₁ ⊢
 generalize hH2 : s2.heap.push { cls := .type "list", dict := none, data := .seq ([] : List Value).toArray } = G at hns₁ hsb₁ ⊢
 have hC : G.objs.size = s2.heap.objs.size + 1 := by rw [<- hH2, Heap.size_push]
 have hlt : ∀ b ∈ fp, b < s2.heap.objs.size := fun b hb => by
  obtain ⟨o, e, _⟩ := T.obj _ _ st2 b hb
  exact Heap.lt_size e
 have old : ∀ b o, s2.heap.get? b = some o -> h₁.get? b = some o := fun b o e => hsb₁.extBut b o (by rw [hC]; exact Nat.ne_of_lt (Nat.lt_succ_of_lt (Heap.lt_size e))) (Heap.get?_push_of_some _ (hH2 ▸ Heap.get?_push_of_some _ e))
 have hacc : h₁.get? s2.heap.objs.size = some { cls := .type "list", dict := none, data := .seq ([] : List Value).toArray } := hsb₁.extBut _ _ (by rw [hC]; exact Nat.ne_of_lt (Nat.lt_succ_self _)) (Heap.get?_push_of_some _ (hH2 ▸ Heap.get?_push_size _ rfl))
 obtain ⟨W, ⟨m0, w0⟩, turn⟩ := hW s2.heap.objs.size (I2.hok.fresh (Nat.le_refl _))
 obtain ⟨hYg, hYt, hYi, hYg2, hYt2, hYe⟩ := hY s2 H2 cl G.objs.size fp
 have fpY : ∀ {H' : Hp}, (∀ b ∈ fp, H' b = none) -> ∀ b ∈ fp, FpOk (X.comp s2 H2 N' scope cl G.objs.size fp) [] H' b := fun {H'} hn b hb => by
  obtain ⟨_, q1, q2, q3, q4, q5⟩ := f2 b hb
  refine ⟨hn b hb, ?_, fun z => ?_, .inl hb, fun x c e => q4 x c (hcl1 x c e), fun p hp => absurd (show p ∈ ([] : List (Addr × Obj)) from hp) (by simp)⟩
  ·show b ≠ G.objs.size
   rw [hC]
   exact Nat.ne_of_lt (Nat.lt_succ_of_lt (hlt b hb))
  ·rcases List.mem_cons.mp (I2.stkSub b z) with y | y
   ·exact q1 y
   ·exact q2 y
 have loop : ∀ s₃ : Shared, s₃ = { s2 with heap := h₁, toks := s2.toks + ([] : List (Str × Value)).length } ->
   codeAny (model X.prog X.w) X.A (.compLoop (lc2 elt tg iter ifs tg2 iter2 ifs2 scope pos) 0 (.ref it) (.ref s2.heap.objs.size) (compEnvC scope cl G.objs.size X.env)) (R (.ref s2.heap.objs.size) G.objs.size) s₃ := by
  rintro s₃ rfl
  have I4 := inv_comp (tk := s2.toks + ([] : List (Str × Value)).length) I2 S hcl1 hcl2 f2 hlt (Nat.le_refl _) (by rw [hC]; exact Nat.le_succ _) (by rw [hC]; exact Nat.ne_of_gt (Nat.lt_succ_self _)) old hacc hns₁
  refine compLoop_out (fun x => hs2 _ x) (fun n' s' => ∃ i H', Inv (X.comp s2 H2 N' scope cl G.objs.size fp) [] (compSt n ix σ) H' s' /\ tn i s'.heap /\ (∀ b ∈ fp, H' b = none) /\ W i n' H') ?_ m0
   ⟨0, _, I4, T.keep _ _ _ st2 fun b hb o e => old b o e, fun b hb => ?_, w0⟩
  ·rintro n' s3 ⟨i, H3, I3, st3, fr3, w3⟩
   rcases turn i n' H3 w3 with ⟨stop, q⟩ | ⟨go, step⟩
   ·refine thn (T.done (X.comp s2 H2 N' scope cl G.objs.size fp) rfl rfl rfl hc i [] s3 _ H3 _ I3 (fpY fr3) st3 stop) fun r s4 zq => ?_
    obtain ⟨hr, I5⟩ := zq
    subst hr
    obtain ⟨mC, hnC, _⟩ := I5.loc
    have IX : Inv X pins σ H3 s4 := I2.call' I5.os I5.base I5.hok I5.bare fun b hb => by
     obtain ⟨_, q1, q2, q3, q4, q5⟩ := f2 b hb
     exact ⟨q3, q1, q4, q5⟩
    refine hR _ _ s4 H3 mC hnC IX I5.free ?_ (.inr ?_) (fun x c e z => ?_) (fun p hp z => ?_) (I2.nofs (by rw [hC]; exact Nat.le_succ _)) q
    ·rw [hC]
     exact Nat.ne_of_gt (Nat.lt_succ_of_lt I2.lt)
    ·rw [hC]
     exact Nat.le_succ_of_le I2.sz
    ·obtain ⟨v, q⟩ := I2.cell x c e
     rw [hC] at z
     exact absurd z (Nat.ne_of_lt (Nat.lt_succ_of_lt q.lt))
    ·rw [hC] at z
     exact absurd z (Nat.ne_of_lt (Nat.lt_succ_of_lt (Heap.lt_size (I2.pin p hp).1)))
   ·refine thn (T.item (X.comp s2 H2 N' scope cl G.objs.size fp) rfl rfl rfl hc i [] s3 _ H3 _ I3 (fpY fr3) st3 go) fun r s4 zq => ?_
    obtain ⟨u, hr, h4⟩ := zq
    subst hr
    refine thn h4 fun _ s5 zq => ?_
    obtain ⟨x, H5, I5, r5, y5, st5, fr5⟩ := zq
    have I5' := I5.pinned (fpY fr5) (T.obj _ _ st5)
    refine thn (hYg _ s5 _ H5 x u _ I5' r5 (step x H5 y5)) fun _ s6 zq => ?_
    obtain ⟨σ6, H6, I6, wk, q6⟩ := zq
    have back : ∀ {H' : Hp} {s' : Shared}, Inv (X.comp s2 H2 N' scope cl G.objs.size fp) ([] ++ pinsAt fp s5.heap) σ6 H' s' ->
      Inv (X.comp s2 H2 N' scope cl G.objs.size fp) [] (compSt n ix σ) H' s' /\ tn (i + 1) s'.heap /\ ∀ b ∈ fp, H' b = none := fun {H' s'} I7 => by
     refine ⟨I7.unpinned.weak wk.1 wk.2, T.keep _ _ _ st5 fun b hb o e => (I7.pin (b, o) (List.mem_append_right _ (List.mem_append_right _ (mem_pinsAt hb e)))).1, fun b hb => ?_⟩
     obtain ⟨o, e, d⟩ := T.obj _ _ st5 b hb
     exact (I7.pin (b, o) (List.mem_append_right _ (List.mem_append_right _ (mem_pinsAt hb e)))).2.1
    refine thn (hYt _ s6 σ6 H6 _ I6 q6) fun ok s7 zq => ?_
    obtain ⟨H7, I7, q7⟩ := zq
    cases ok with
    | false =>
     rw [if_neg Bool.false_ne_true] at q7 ⊢
     obtain ⟨m', hm, w7⟩ := q7
     obtain ⟨b1, b2, b3⟩ := back I7
     exact ⟨m', hm, i + 1, H7, b1, b2, b3, w7⟩
    | true =>
     rw [if_pos rfl] at q7 ⊢
     refine thn (hYi _ s7 σ6 H7 _ I7 q7) fun xv s8 h8 => thn h8 fun itv s9 h9 => ?_
     obtain ⟨it2, fp2, tn2, J2, H9, rfl, I9, T2, st9, f9, V, ⟨m1, v0⟩, turn2⟩ := h9
     have stat2 : ∀ {H' : Hp}, (∀ b ∈ fp2, H' b = none) -> ∀ b ∈ fp2, FpOk (X.comp s2 H2 N' scope cl G.objs.size fp) ([] ++ pinsAt fp s5.heap) H' b := fun hn b hb => ⟨hn b hb, (f9 b hb).2⟩
     have loop2 : codeAny (model X.prog X.w) X.A (.compLoop (lc2 elt tg iter ifs tg2 iter2 ifs2 scope pos) 1 (.ref it2) (.ref s2.heap.objs.size) (compEnvC scope cl G.objs.size X.env))
       (fun r s₇ => r = .ok .next /\ ∃ m, m < n' /\ ∃ i H', Inv (X.comp s2 H2 N' scope cl G.objs.size fp) [] (compSt n ix σ) H' s₇ /\ tn i s₇.heap /\ (∀ b ∈ fp, H' b = none) /\ W i m H') s9 := by
      refine compLoop_in (fun n'' s' => ∃ j H', Inv (X.comp s2 H2 N' scope cl G.objs.size fp) ([] ++ pinsAt fp s5.heap) σ6 H' s' /\ tn2 j s'.heap /\ (∀ b ∈ fp2, H' b = none) /\ V j n'' H') ?_ m1 ⟨0, H9, I9, st9, fun b hb => (f9 b hb).1, v0⟩
      rintro n'' s10 ⟨j, H10, I10, st10, fr10, v10⟩
      rcases turn2 j n'' H10 v10 with ⟨stop2, q10⟩ | ⟨go2, step2⟩
      ·refine thn (T2.done (X.comp s2 H2 N' scope cl G.objs.size fp) rfl rfl rfl hc j _ s10 _ H10 _ I10 (stat2 fr10) st10 stop2) fun r s11 zq => ?_
       obtain ⟨hr, I11⟩ := zq
       subst hr
       obtain ⟨m', hm, w10⟩ := q10
       obtain ⟨b1, b2, b3⟩ := back I11
       exact ⟨rfl, m', hm, i + 1, H10, b1, b2, b3, w10⟩
      ·refine thn (T2.item (X.comp s2 H2 N' scope cl G.objs.size fp) rfl rfl rfl hc j _ s10 _ H10 _ I10 (stat2 fr10) st10 go2) fun r s11 zq => ?_
       obtain ⟨u2, hr, h11⟩ := zq
       subst hr
       refine thn h11 fun _ s12 zq => ?_
       obtain ⟨y, H12, I12, r12, y12, st12, fr12⟩ := zq
       have I12' := I12.pinned (stat2 fr12) (T2.obj _ _ st12)
       refine thn (hYg2 _ s12 _ H12 y u2 _ I12' r12 (step2 y H12 y12)) fun _ s13 zq => ?_
       obtain ⟨σ13, H13, I13, wk2, q13⟩ := zq
       have back2 : ∀ {H' : Hp} {s' : Shared}, Inv (X.comp s2 H2 N' scope cl G.objs.size fp) (([] ++ pinsAt fp s5.heap) ++ pinsAt fp2 s12.heap) σ13 H' s' ->
         Inv (X.comp s2 H2 N' scope cl G.objs.size fp) ([] ++ pinsAt fp s5.heap) σ6 H' s' /\ tn2 (j + 1) s'.heap /\ ∀ b ∈ fp2, H' b = none := fun {H' s'} I7 => by
        refine ⟨I7.unpinned.weak wk2.1 wk2.2, T2.keep _ _ _ st12 fun b hb o e => (I7.pin (b, o) (List.mem_append_right _ (List.mem_append_right _ (mem_pinsAt hb e)))).1, fun b hb => ?_⟩
        obtain ⟨o, e, d⟩ := T2.obj _ _ st12 b hb
        exact (I7.pin (b, o) (List.mem_append_right _ (List.mem_append_right _ (mem_pinsAt hb e)))).2.1
       refine thn (hYt2 _ s13 σ13 H13 _ I13 q13) fun ok2 s14 zq => ?_
       obtain ⟨H14, I14, q14⟩ := zq
       cases ok2 with
       | false =>
        rw [if_neg Bool.false_ne_true] at q14 ⊢
        obtain ⟨m', hm, v14⟩ := q14
        obtain ⟨b1, b2, b3⟩ := back2 I14
        exact ⟨m', hm, j + 1, H14, b1, b2, b3, v14⟩
       | true =>
        rw [if_pos rfl] at q14 ⊢
        refine thn (hYe _ s14 σ13 H14 _ I14 q14) fun xv s15 zq => ?_
        obtain ⟨v15, H15, I15, r15, ys, ha, hz, m', hm, w15⟩ := zq
        refine thn (mt_append _ s15 σ13 H15 (.ref s2.heap.objs.size) [v15] (.ref s2.heap.objs.size) [xv] (fun _ H' => H' = upd H15 s2.heap.objs.size (.lst (ys ++ [v15]))) I15 rfl (.cons r15 .nil) ⟨_, ys, v15, rfl, rfl, ha, hz, rfl⟩) fun _ s16 zq => ?_
        obtain ⟨_, H16, I16, _, e16⟩ := zq
        subst e16
        obtain ⟨b1, b2, b3⟩ := back2 I16
        exact ⟨m', hm, j + 1, _, b1, b2, b3, w15⟩
     exact codeAny_compStart_in loop2 (T2.self _ 0 _ _ _ st9 loop2)
  ·rw [upd_ne (Nat.ne_of_lt (hlt b hb))]
   exact (f2 b hb).1
 exact codeAny_compStart_list (loop _ rfl) (T.self _ 0 _ _ _ (T.keep _ _ _ st2 fun b hb o e => old b o e) (loop _ rfl))
theorem pe_lc2 (hc : X.calm = true) (S : CompScope X scope N' n ix) (hi : PI X tg iter wi)
  (hY : ∀ s₂ H₂ cl C fp, PG (X.comp s₂ H₂ N' scope cl C fp) tg g /\ PTs (X.comp s₂ H₂ N' scope cl C fp) ifs tt /\ PI (X.comp s₂ H₂ N' scope cl C fp) tg2 iter2 wi2 /\ PG (X.comp s₂ H₂ N' scope cl C fp) tg2 g2 /\ PTs (X.comp s₂ H₂ N' scope cl C fp) ifs2 tt2 /\
   PE (X.comp s₂ H₂ N' scope cl C fp) elt te)
  (hs : ∀ x, foldedSetIterable iter X.env x = pure x := by intro _; rfl) (hs2 : ∀ env x, foldedSetIterable iter2 env x = pure x := by intro _ _; rfl) :
  PE X (.ListComp elt [⟨tg, iter, ifs, 0⟩, ⟨tg2, iter2, ifs2, 0⟩] scope pos) (tLc2 wi g tt wi2 g2 tt2 te n ix) := by
 intro pins s σ H Q I h
 obtain ⟨cl, hcl, hcl1, hcl2⟩ := closure_ok (env := X.env) (scope := scope) fun y hy hf => I.ok.has _ (S.free y hy hf)
 rw [eval_ListComp]
 refine wpAny_comprehension_free (use := none) rfl hs hcl S.kind S.names (thn (hi pins s σ H _ I h) fun v s1 h1 => thn h1 fun itv s2 h2 => ?_)
 obtain ⟨it, fp, tn, J, H2, rfl, I2, T, st2, f2, hW⟩ := h2
 refine lc_core2 (R := fun acc C => compPost (model X.prog X.w) X.A X.xe none (EP X pins σ Q) acc C) hc S hY hs2 I2 hcl1 hcl2 T st2 f2 hW ?_
 intro acc C s' H' m hn IX hf hL h1 h2 h3 h4 q
 exact ⟨m, hn, fun h' sb => ⟨.ref acc, H', IX.turned (t' := s'.toks) (fun b o hb e => sb.extBut b o hb e) hf hL h1 h2 h3, rfl, q⟩⟩
end
end L2
namespace L2
open PySem PySem.Spec PyProof.Rows
section
variable {X : Cx}
end
end L2
namespace L2
open PySem PySem.Spec PyProof.Rows
noncomputable def pairs2 (xs : List V) (ys : V -> List V) (p : V -> V -> Bool) : List (V × V) := xs.flatMap fun x => ((ys x).filter (p x)).map fun y => (x, y)
theorem lc2_grow {J : It} {Ok : Hp -> Prop} {xs : List V} {wi2 : TI} {tt2 : TT} {te : TE} {ix : List Nat} {σ : L2.St} {H1 : Hp} {Q : VK} (Y : Yields J Ok xs) (ys : V -> List V) (p : V -> V -> Bool) (R : V × V -> V -> Hp -> Prop)
  (small : (pairs2 xs ys p).length < sizeLine) (hR : ∀ xy v H H', SameT H H' -> R xy v H -> R xy v H') (hok : ∀ H, Same H1 H -> Ok H)
  (hin : ∀ x ∈ xs, ∀ H, Same H1 H -> ∀ Rr : It -> Hp -> Prop, (∀ J2 Ok2 H', Same H H' -> Yields J2 Ok2 (ys x) -> (∀ G, SameT H' G -> Same H1 G -> Ok2 G) -> Rr J2 H') -> wi2 (some x :: none :: ix.map fun i => σ.getD i none) H Rr)
  (ht : ∀ x ∈ xs, ∀ y ∈ ys x, ∀ H, Same H1 H -> ∀ Q' : Bool -> Hp -> Prop, Q' (p x y) H -> tt2 (some x :: some y :: ix.map fun i => σ.getD i none) H Q')
  (he : ∀ x ∈ xs, ∀ y ∈ ys x, p x y = true -> ∀ H, Same H1 H -> ∀ Q' : VK, (∀ v H', Same H H' -> R (x, y) v H' -> Q' v H') -> te (some x :: some y :: ix.map fun i => σ.getD i none) H Q')
  (fin : ∀ acc vs H', H1 acc = none -> Same H1 H' -> H' acc = some (.lst vs) -> Paired (fun xy v => R xy v H') (pairs2 xs ys p) vs -> Q (.ref acc) H') :
  LcW2 J H1 (gName 0) tNoTest wi2 (gName 1) tt2 te 2 ix σ Q := by
 intro acc ha
 refine ⟨fun i m H => m = xs.length - i /\ i <= xs.length /\ Same H1 H /\ ∃ vs, H acc = some (.lst vs) /\ Paired (fun xy v => R xy v H) (pairs2 (xs.take i) ys p) vs, ⟨xs.length, by simp, Nat.zero_le _, same_upd ha, [], upd_same, .nil⟩, ?_⟩
 rintro i m H ⟨rfl, hi, sm, vs, hacc, pr⟩
 have o := hok _ sm
 by_cases hlt : i < xs.length
 ·refine .inr ⟨Y.go i _ o hlt, fun x H' y => ?_⟩
  obtain ⟨rfl, hx⟩ := Y.yld i _ x H' o hlt y
  have hmem : x ∈ xs := List.mem_of_getElem? hx
  have htk : pairs2 (xs.take (i + 1)) ys p = pairs2 (xs.take i) ys p ++ ((ys x).filter (p x)).map fun y => (x, y) := by
   unfold pairs2
   rw [List.take_succ, hx]
   simp
  have hle : (pairs2 (xs.take (i + 1)) ys p).length <= (pairs2 xs ys p).length := by
   have e : pairs2 xs ys p = pairs2 (xs.take (i + 1)) ys p ++ pairs2 (xs.drop (i + 1)) ys p := by
    unfold pairs2
    conv => lhs; rw [<- List.take_append_drop (i + 1) xs]
    rw [List.flatMap_append]
   rw [e, List.length_append]
   (first | lia | omega)
  refine ⟨⟨rfl, fun j v e => ?_⟩, ?_⟩
  ·cases j with
   | zero => cases e
   | succ j => exact e
  ·unfold tNoTest
   dsimp only
   rw [if_pos rfl]
   refine hin x hmem _ sm _ fun J2 Ok2 H4 s4 Y2 hok2 => ?_
   refine ⟨fun j m2 G => m2 = (ys x).length - j /\ j <= (ys x).length /\ SameT H4 G /\ Same H1 G /\ ∃ us, G acc = some (.lst us) /\ Paired (fun xy v => R xy v G) (pairs2 (xs.take i) ys p ++ (((ys x).take j).filter (p x)).map fun y => (x, y)) us,
    ⟨(ys x).length, by simp, Nat.zero_le _, fun _ _ e => e, sm.trans s4, vs, s4 _ _ hacc, by simpa using Paired.mapP pr fun xy v r => hR xy v _ _ s4.t r⟩, ?_⟩
   rintro j m2 G ⟨rfl, hj, st, sm5, us, hus, pr5⟩
   have o2 := hok2 G st sm5
   by_cases hjl : j < (ys x).length
   ·refine .inr ⟨Y2.go j _ o2 hjl, fun y G' yy => ?_⟩
    obtain ⟨rfl, hy⟩ := Y2.yld j _ y G' o2 hjl yy
    have hymem : y ∈ ys x := List.mem_of_getElem? hy
    have htk2 : (ys x).take (j + 1) = (ys x).take j ++ [y] := by rw [List.take_succ, hy]; rfl
    refine ⟨⟨rfl, fun k v e => ?_⟩, ?_⟩
    ·cases k with
     | zero => exact e
     | succ k =>
      cases k with
      | zero => cases e
      | succ k => exact e
    ·refine ht x hmem y hymem _ sm5 _ ?_
     cases hp : p x y with
     | false =>
      rw [if_neg Bool.false_ne_true]
      refine ⟨(ys x).length - (j + 1), by (first | lia | omega), rfl, hjl, st, sm5, us, hus, ?_⟩
      rw [htk2, List.filter_append]
      simpa [hp] using pr5
     | true =>
      rw [if_pos rfl]
      refine he x hmem y hymem hp _ sm5 _ fun v G4 t4 r4 => ?_
      have hus4 : G4 acc = some (.lst us) := t4 _ _ hus
      have st6 : SameT G4 (upd G4 acc (.lst (us ++ [v]))) := sameT_lst hus4
      have hlen : us.length < sizeLine := by
       have e1 := Paired.length pr5
       rw [List.length_append, List.length_map] at e1
       have e2 : (((ys x).take j).filter (p x)).length <= ((ys x).filter (p x)).length := by
        conv => rhs; rw [<- List.take_append_drop j (ys x), List.filter_append, List.length_append]
        (first | lia | omega)
       rw [htk, List.length_append, List.length_map] at hle
       (first | lia | omega)
      refine ⟨us, hus4, hlen, (ys x).length - (j + 1), by (first | lia | omega), rfl, hjl, (st.trans t4.t).trans st6, same_updR (sm5.trans t4) ha, us ++ [v], upd_same, ?_⟩
      rw [htk2, List.filter_append, List.map_append, <- List.append_assoc]
      simp only [List.filter_cons, hp, if_true, List.filter_nil, List.map_cons, List.map_nil]
      exact Paired.snoc (Paired.mapP pr5 fun xy v r => hR xy v _ _ (t4.t.trans st6) r) (hR _ _ _ _ st6 r4)
   ·have e : j = (ys x).length := by (first | lia | omega)
    subst e
    refine .inl ⟨Y2.stop _ o2, xs.length - (i + 1), by (first | lia | omega), rfl, hlt, sm5, us, hus, ?_⟩
    rw [List.take_length] at pr5
    rw [htk]
    exact pr5
 ·have e : i = xs.length := by (first | lia | omega)
  subst e
  refine .inl ⟨Y.stop _ o, ?_⟩
  rw [List.take_length] at pr
  exact fin acc vs H ha sm hacc pr
end L2
namespace L2
open PySem PySem.Spec PyProof.Rows
section
variable {X : Cx}
noncomputable def rSlA : V -> Option Int -> Option Int -> Hp -> VK -> Prop := fun x lo hi H Q => ∃ a xs, x = .ref a /\ H a = some (.tup xs) /\ ∀ p H', Same H H' -> H' p = some (.tup (cutV xs lo hi)) -> Q (.ref p) H'
theorem sl_tupA : SlR X rSlA := by
 intro pins s σ H x v vl vu lo hi sl Q I rx hs pl pu h
 obtain ⟨a, xs, rfl, ha, q⟩ := h
 by_cases hw : HT.sIx xs.length 0 lo = 0 /\ HT.sIx xs.length xs.length hi = xs.length
 ·cases rx
  obtain ⟨its, r, ht, hz⟩ := I.tuple (SqT.of (K := X.K) ha)
  have hl : its.toArray.size = xs.length := by rw [List.size_toArray]; exact r.length.symm
  refine ⟨"tuple", _, PyProof.Rows.slot_tuple_getitem.lookup, ht.typeIs, ?_⟩
  refine getItem_tuple_whole ht hs pl pu (by rw [hl]; exact hw) ⟨.ref a, H, I, rfl, q a H (Same.refl H) ?_⟩
  unfold cutV
  rw [hw.1, hw.2, List.drop_zero, Nat.sub_zero, List.take_length]
  exact ha
 ·exact sl_tup pins s σ H _ v vl vu lo hi sl Q I rx hs pl pu ⟨a, xs, rfl, SqT.of ha, hw, fun p hp => q p _ (same_upd hp) upd_same⟩
end
section
variable {X : Cx} {elt tg iter tg2 iter2 : Expr} {ifs ifs2 : List Expr} {scope : Scope} {pos : Pos} {wi wi2 : TI} {g g2 : TG} {tt tt2 : TT} {te : TE} {N' : List Str} {n : Nat} {ix : List Nat}
end
end L2
namespace L2
open PySem PySem.Spec PyProof.Rows
noncomputable def freeO (m : Nat) (b : List Int) : List Int := (num0 m).filter fun x => decide (x ∉ b)
noncomputable def stepA (m : Nat) (L : List (List Int)) : List (List Int) := L.flatMap fun b => (freeO m b).map fun x => b ++ [x]
noncomputable def iterA (m : Nat) (L : List (List Int)) : Nat -> List (List Int)
 | 0 => L
 | k + 1 => stepA m (iterA m L k)
theorem free_nodup (m : Nat) (b : List Int) : (freeO m b).Nodup := List.Nodup.sublist List.filter_sublist (num0_nodup' m)
theorem free_snoc (m : Nat) (b : List Int) (x : Int) : freeO m (b ++ [x]) = (freeO m b).filter fun y => decide (y ≠ x) := by
 unfold freeO
 rw [List.filter_filter]
 apply List.filter_congr
 intro y _
 simp [List.mem_append]
 exact Bool.and_comm _ _
theorem filter_ne_mid {A B : List Int} {x : Int} (nd : (A ++ x :: B).Nodup) : (A ++ x :: B).filter (fun y => decide (y ≠ x)) = A ++ B := by
 obtain ⟨n1, n2, n3⟩ := List.nodup_append.mp nd
 have hx1 : ∀ y ∈ A, y ≠ x := fun y hy => n3 y hy x (by simp)
 have hx2 : ∀ y ∈ B, y ≠ x := fun y hy z => (List.nodup_cons.mp n2).1 (z ▸ hy)
 rw [List.filter_append, List.filter_cons]
 simp only [ne_eq, not_true_eq_false, decide_false, Bool.false_eq_true, if_false]
 rw [List.filter_eq_self.mpr fun y hy => by simpa using hx1 y hy, List.filter_eq_self.mpr fun y hy => by simpa using hx2 y hy]
theorem filter_ne_at {L : List Int} (nd : L.Nodup) {k : Nat} (hk : k < L.length) : L.filter (fun y => decide (y ≠ L[k])) = L.take k ++ L.drop (k + 1) := by
 have e : L.take k ++ L[k] :: L.drop (k + 1) = L := by rw [<- List.drop_eq_getElem_cons hk, List.take_append_drop]
 have := filter_ne_mid (A := L.take k) (B := L.drop (k + 1)) (x := L[k]) (by rw [e]; exact nd)
 rwa [e] at this
theorem free_nil (m : Nat) : freeO m [] = num0 m := by
 unfold freeO
 exact List.filter_eq_self.mpr fun y _ => by simp
structure Beg (m k : Nat) (b : List Int) : Prop where
 len : b.length = k
 nd : b.Nodup
 rng : ∀ y ∈ b, 0 <= y /\ y < m
 free : (freeO m b).length + k = m
theorem beg0 (m : Nat) : Beg m 0 [] := ⟨rfl, by simp, by simp, by rw [free_nil, num0_len']; (first | lia | omega)⟩
theorem Beg.more {m k : Nat} {b : List Int} (B : Beg m k b) {x : Int} (hx : x ∈ freeO m b) : Beg m (k + 1) (b ++ [x]) := by
 have hx' := List.mem_filter.mp hx
 have hxb : x ∉ b := by simpa using hx'.2
 have hxr := num0_mem hx'.1
 refine ⟨by rw [List.length_append, B.len]; rfl, List.nodup_append.mpr ⟨B.nd, by simp, fun a ha c hc e => ?_⟩, fun y hy => ?_, ?_⟩
 ·rw [List.mem_singleton] at hc
  subst hc e
  exact hxb ha
 ·rcases List.mem_append.mp hy with hy | hy
  ·exact B.rng y hy
  ·rw [List.mem_singleton.mp hy]; exact hxr
 ·obtain ⟨i, hi⟩ := List.getElem?_of_mem hx
  obtain ⟨hi1, hi2⟩ := List.getElem?_eq_some_iff.mp hi
  have := filter_ne_at (free_nodup m b) hi1
  rw [free_snoc, <- hi2, this, List.length_append, List.length_take, List.length_drop]
  have := B.free
  (first | lia | omega)
noncomputable def facD (m : Nat) : Nat -> Nat
 | 0 => 1
 | k + 1 => facD m k * (m - k)
theorem iter_beg (m : Nat) : ∀ k, (∀ b ∈ iterA m [[]] k, Beg m k b) /\ (iterA m [[]] k).length = facD m k
 | 0 => ⟨fun b hb => by rw [List.mem_singleton.mp hb]; exact beg0 m, rfl⟩
 | k + 1 => by
  obtain ⟨h1, h2⟩ := iter_beg m k
  refine ⟨fun b hb => ?_, ?_⟩
  ·obtain ⟨c, hc, hb⟩ := List.mem_flatMap.mp hb
   obtain ⟨x, hx, rfl⟩ := List.mem_map.mp hb
   exact (h1 c hc).more hx
  ·show (stepA m (iterA m [[]] k)).length = facD m k * (m - k)
   have key : ∀ L : List (List Int), (∀ b ∈ L, Beg m k b) -> (stepA m L).length = L.length * (m - k) := fun L => by
    induction L with
    | nil => intro _; simp [stepA]
    | cons b t ih =>
     intro h
     have hb := (h b (by simp)).free
     have := ih fun c hc => h c (by simp [hc])
     have e : stepA m (b :: t) = ((freeO m b).map fun x => b ++ [x]) ++ stepA m t := by simp [stepA]
     rw [e, List.length_append, List.length_map, this, List.length_cons, Nat.succ_mul]
     (first | lia | omega)
   rw [key _ h1, h2]
end L2
namespace L2
open PySem PySem.Spec PyProof.Rows
theorem inV_ints (n : Int) : ∀ S : List Int, inV (.int n) (S.map V.int) = decide (n ∈ S)
 | [] => by simp [inV]
 | a :: t => by
  have ih := inV_ints n t
  have e : inV (.int n) ((a :: t).map V.int) = ((a == n) || inV (.int n) (t.map V.int)) := rfl
  rw [e, ih]
  by_cases h : a = n
  ·subst h
   simp
  ·have h' : ¬ n = a := fun z => h z.symm
   rw [beq_eq_false_iff_ne.mpr h, Bool.false_or, decide_eq_decide]
   rw [List.mem_cons]
   exact ⟨.inr, fun z => z.resolve_left h'⟩
end L2
namespace L2
open PySem PySem.Spec PyProof.Rows
end L2
namespace L2
open PySem PySem.Spec PyProof.Rows
section
variable {X : Cx}
noncomputable def rMaxT : List V -> Hp -> VK -> Prop := fun xs H Q => ∃ (l : Addr) (ns : List Int), xs = [.ref l] /\ H l = some (.tup (ns.map V.int)) /\ ns ≠ [] /\ ∀ M, M ∈ ns -> (∀ a ∈ ns, a <= M) -> Q (.int M) H
theorem max_of_best {xs : Array (Int × Tok)} {ns : List Int} (hnum : xs.toList.map (·.1) = ns) (hsz : 0 < xs.size) :
  numAt xs (argBest (fun i j => decide (numAt xs i > numAt xs j)) (xs.size - 1)) ∈ ns /\ ∀ a ∈ ns, a <= numAt xs (argBest (fun i j => decide (numAt xs i > numAt xs j)) (xs.size - 1)) := by
 obtain ⟨h1, h2⟩ := argBest_gt (numAt xs) (xs.size - 1)
 subst hnum
 refine ⟨?_, fun a ha => ?_⟩
 ·rw [numAt_eq]; exact getD_mem (by rw [List.length_map, Array.length_toList]; (first | lia | omega))
 ·obtain ⟨j, hj, rfl⟩ := mem_getD ha
  rw [List.length_map, Array.length_toList] at hj
  rw [<- numAt_eq]; exact h2 j (by (first | lia | omega))
theorem call_maxT (hc : X.calm = true) : CallR X (.builtin "max") rMaxT := by
 intro pins s σ H xs us Q I rs h
 obtain ⟨l, ns, rfl, hH, hne, q⟩ := h
 obtain ⟨u, rfl, ru⟩ := vals1 rs
 cases (show u = Value.ref l from ru)
 obtain ⟨its, r, ht, hz⟩ := I.tuple (SqT.of (K := X.K) hH)
 have hI := intsAre_of r
 obtain ⟨xs, hxs⟩ := hI.allInts.items
 have hnum : xs.toList.map (·.1) = ns := by rw [<- nums_intItems, <- hxs]; exact hI.numsOf
 have hsz : 0 < xs.size := by
  have : ns.length = xs.size := by rw [<- hnum, List.length_map, Array.length_toList]
  have := List.length_pos_iff.mpr hne
  (first | lia | omega)
 obtain ⟨b1, b2⟩ := max_of_best hnum hsz
 have hT : s.heap.IsTuple l (intItems xs) := by rw [<- hxs]; exact ht
 have hlt : l < s.heap.objs.size := by obtain ⟨_, e, _⟩ := hT; exact Heap.lt_size e
 have hT2 : (s.heap.push { cls := .type "tuple_iterator", data := .fields #[.ref l, .int 0 0] }).IsTuple l (intItems xs) := by
  obtain ⟨o, e, r⟩ := hT
  exact ⟨o, Heap.get?_push_of_some _ e, r⟩
 have hh : X.A.handled = none := I.ok.hd hc
 refine call_max_walk (wpAny_pyIter_tuple hT ?_)
 refine ⟨_, _, _, _, _, _, _, rfl, Walks.tuple (A := X.A.in1) hh s.heap.objs.size l (Nat.ne_of_lt hlt) (intItems xs), ⟨⟨_, Heap.get?_push_size _ rfl, rfl, rfl⟩, hT2⟩, fun b hb => ?_, by simpa [intItems] using hsz, CmpOf.ints_gt (numAt xs) (fun _ _ => intItems_at), fun v h' tk hP hk => ?_⟩
 ·show b < (s.heap.push _).objs.size
  rw [Heap.size_push]
  rcases List.mem_cons.mp hb with rfl | hb
  ·exact Nat.lt_succ_self _
  ·rw [List.mem_singleton.mp hb]
   exact Nat.lt_succ_of_lt hlt
 ·have hv : (intItems xs)[argBest (fun i j => decide (numAt xs i > numAt xs j)) (xs.size - 1)]? = some v := by simpa [intItems] using hP
  obtain ⟨t, rfl⟩ := intItems_at hv
  refine ⟨.int _, H, I.kept (t' := tk) (fun b o e => hk b o (fun hm => ?_) (Heap.get?_push_of_some _ e)), ⟨_, rfl⟩, q _ b1 b2⟩
  rw [List.mem_singleton.mp hm] at e
  exact absurd (Heap.lt_size e) (Nat.lt_irrefl _)
end
noncomputable def enF (p : Nat -> V -> Bool) (f : Nat -> V -> V) : Nat -> List V -> List V
 | _, [] => []
 | i, x :: t => (if p i x then [f i x] else []) ++ enF p f (i + 1) t
theorem enF_append (p : Nat -> V -> Bool) (f : Nat -> V -> V) : ∀ (i : Nat) (a b : List V), enF p f i (a ++ b) = enF p f i a ++ enF p f (i + a.length) b
 | _, [], _ => by simp [enF]
 | i, x :: t, b => by
  show (if p i x then [f i x] else []) ++ enF p f (i + 1) (t ++ b) = _
  rw [enF_append p f (i + 1) t b]
  simp only [enF, List.append_assoc, List.length_cons]
  rw [show i + 1 + t.length = i + (t.length + 1) by (first | lia | omega)]
theorem enF_len (p : Nat -> V -> Bool) (f : Nat -> V -> V) : ∀ (i : Nat) (a : List V), (enF p f i a).length <= a.length
 | _, [] => Nat.le_refl _
 | i, x :: t => by
  have := enF_len p f (i + 1) t
  simp only [enF, List.length_append, List.length_cons]
  split <;> simp <;> (first | lia | omega)
theorem lc_enum {K : PySem.W.Frag} {a : Addr} {xs : List V} {tt : TT} {te : TE} {ix : List Nat} {σ : L2.St} {H1 : Hp} {Q : VK} (Fx : ∀ {H}, Same H1 H -> SqT K H a xs) (small : xs.length <= 1000) (p : Nat -> V -> Bool) (f : Nat -> V -> V)
  (ht : ∀ (i : Nat) x, xs[i]? = some x -> ∀ H, Same H1 H -> ∀ Q' : Bool -> Hp -> Prop, Q' (p i x) H -> tt (some (.int i) :: some x :: ix.map fun i => σ.getD i none) H Q')
  (he : ∀ (i : Nat) x, xs[i]? = some x -> p i x = true -> ∀ H, Same H1 H -> ∀ Q' : VK, Q' (f i x) H -> te (some (.int i) :: some x :: ix.map fun i => σ.getD i none) H Q')
  (fin : ∀ acc H', H1 acc = none -> Same H1 H' -> H' acc = some (.lst (enF p f 0 xs)) -> Q (.ref acc) H') :
  LcW (Ite K a) H1 (gTup K 2 (gCons (gName 0) (gCons (gName 1) gNil))) tt te 2 ix σ Q := by
 intro acc ha
 refine ⟨fun i m H => m = xs.length - i /\ i <= xs.length /\ Same H1 H /\ H acc = some (.lst (enF p f 0 (xs.take i))), ⟨xs.length, by simp, Nat.zero_le _, same_upd ha, upd_same⟩, ?_⟩
 rintro i m H ⟨rfl, hi, sm, hacc⟩
 by_cases hlt : i < xs.length
 ·refine .inr ⟨⟨xs, xs[i], Fx sm, List.getElem?_eq_getElem hlt⟩, fun v H' y => ?_⟩
  obtain ⟨t, x, hn, rfl, rfl, hv⟩ := y
  have e1 := hv xs (Fx sm)
  have htk : enF p f 0 (xs.take (i + 1)) = enF p f 0 (xs.take i) ++ (if p i x then [f i x] else []) := by
   have hl : (xs.take i).length = i := by rw [List.length_take]; (first | lia | omega)
   rw [List.take_succ, e1, enF_append, hl]
   simp [enF]
  refine ⟨t, _, rfl, SqT.of upd_same, rfl, _, _, rfl, x, _, rfl, rfl, ⟨rfl, fun j v e => ?_⟩, ?_⟩
  ·match j, e with
   | 0, e => cases e
   | 1, e => cases e
   | j + 2, e => exact e
  ·have sm2 := sm.trans (same_upd (o := .tup [.int i, x]) hn)
   have hacc2 : (upd H t (.tup [.int i, x])) acc = some (.lst (enF p f 0 (xs.take i))) := same_upd hn _ _ hacc
   refine ht i x e1 _ sm2 _ ?_
   cases hp : p i x with
   | false =>
    rw [if_neg Bool.false_ne_true]
    refine ⟨xs.length - (i + 1), by (first | lia | omega), rfl, hlt, sm2, ?_⟩
    rw [htk, hp, if_neg Bool.false_ne_true, List.append_nil]
    exact hacc2
   | true =>
    rw [if_pos rfl]
    refine he i x e1 hp _ sm2 _ ⟨_, hacc2, small1 (Nat.le_trans (enF_len _ _ _ _) (by rw [List.length_take]; (first | lia | omega))), xs.length - (i + 1), by (first | lia | omega), rfl, hlt, same_updR sm2 ha, ?_⟩
    rw [upd_same, htk, hp, if_pos rfl]
 ·have e : i = xs.length := by (first | lia | omega)
  subst e
  rw [List.take_length] at hacc
  exact .inl ⟨⟨xs, Fx sm, rfl⟩, fin acc H ha sm hacc⟩
theorem lc_zip {K : PySem.W.Frag} {a b : Addr} {xs ys : List V} {tt : TT} {te : TE} {ix : List Nat} {σ : L2.St} {H1 : Hp} {Q : VK} (Fx : ∀ {H}, Same H1 H -> SqT K H a xs) (Fy : ∀ {H}, Same H1 H -> SqT K H b ys) (small : (xs.zip ys).length <= 1000) (p : V × V -> Bool) (f : V × V -> V)
  (ht : ∀ xy ∈ xs.zip ys, ∀ H, Same H1 H -> ∀ Q' : Bool -> Hp -> Prop, Q' (p xy) H -> tt (some xy.1 :: some xy.2 :: ix.map fun i => σ.getD i none) H Q')
  (he : ∀ xy ∈ xs.zip ys, p xy = true -> ∀ H, Same H1 H -> ∀ Q' : VK, Q' (f xy) H -> te (some xy.1 :: some xy.2 :: ix.map fun i => σ.getD i none) H Q')
  (fin : ∀ acc H', H1 acc = none -> Same H1 H' -> H' acc = some (.lst (((xs.zip ys).filter p).map f)) -> Q (.ref acc) H') :
  LcW (Itz K a b) H1 (gTup K 2 (gCons (gName 0) (gCons (gName 1) gNil))) tt te 2 ix σ Q := by
 intro acc ha
 refine ⟨fun i m H => m = (xs.zip ys).length - i /\ i <= (xs.zip ys).length /\ Same H1 H /\ H acc = some (.lst ((((xs.zip ys).take i).filter p).map f)), ⟨(xs.zip ys).length, by simp, Nat.zero_le _, same_upd ha, upd_same⟩, ?_⟩
 rintro i m H ⟨rfl, hi, sm, hacc⟩
 by_cases hlt : i < (xs.zip ys).length
 ·have hl2 : i < xs.length /\ i < ys.length := by rw [List.length_zip] at hlt; (first | lia | omega)
  refine .inr ⟨⟨xs, ys, xs[i], ys[i], Fx sm, Fy sm, List.getElem?_eq_getElem hl2.1, List.getElem?_eq_getElem hl2.2⟩, fun v H' y => ?_⟩
  obtain ⟨t, x, y, hn, rfl, rfl, hv⟩ := y
  obtain ⟨e1, e2⟩ := hv xs ys (Fx sm) (Fy sm)
  have ez : (xs.zip ys)[i]? = some (x, y) := by rw [List.getElem?_zip_eq_some]; exact ⟨e1, e2⟩
  have hmem : (x, y) ∈ xs.zip ys := List.mem_of_getElem? ez
  have htk : (xs.zip ys).take (i + 1) = (xs.zip ys).take i ++ [(x, y)] := by rw [List.take_succ, ez]; rfl
  refine ⟨t, _, rfl, SqT.of upd_same, rfl, x, _, rfl, y, _, rfl, rfl, ⟨rfl, fun j v e => ?_⟩, ?_⟩
  ·match j, e with
   | 0, e => cases e
   | 1, e => cases e
   | j + 2, e => exact e
  ·have sm2 := sm.trans (same_upd (o := .tup [x, y]) hn)
   have hacc2 := same_upd (o := .tup [x, y]) hn _ _ hacc
   refine ht (x, y) hmem _ sm2 _ ?_
   cases hp : p (x, y) with
   | false =>
    rw [if_neg Bool.false_ne_true]
    refine ⟨(xs.zip ys).length - (i + 1), by (first | lia | omega), rfl, hlt, sm2, ?_⟩
    rw [htk, List.filter_append]
    simpa [hp] using hacc2
   | true =>
    rw [if_pos rfl]
    refine he (x, y) hmem hp _ sm2 _ ⟨_, hacc2, small1 ?_, (xs.zip ys).length - (i + 1), by (first | lia | omega), rfl, hlt, same_updR sm2 ha, ?_⟩
    ·rw [List.length_map]
     refine Nat.le_trans (List.length_filter_le _ _) ?_
     rw [List.length_take]
     (first | lia | omega)
    ·rw [upd_same, htk, List.filter_append, List.map_append]
     simp [hp]
 ·have e : i = (xs.zip ys).length := by (first | lia | omega)
  subst e
  rw [List.take_length] at hacc
  refine .inl ⟨⟨xs, ys, Fx sm, Fy sm, ?_⟩, fin acc H ha sm hacc⟩
  rw [List.length_zip]
  rcases Nat.le_total xs.length ys.length with h | h
  ·exact .inl (List.getElem?_eq_none (by (first | lia | omega)))
  ·exact .inr (List.getElem?_eq_none (by (first | lia | omega)))
end L2
namespace L2
open PySem PySem.Spec PyProof.Rows
noncomputable def en2 (ys : Nat -> V -> List V) (p : Nat -> V -> V -> Bool) (c : V) : Nat -> List V -> List V
 | _, [] => []
 | i, x :: t => ((ys i x).filter (p i x)).map (fun _ => c) ++ en2 ys p c (i + 1) t
theorem en2_append (ys : Nat -> V -> List V) (p : Nat -> V -> V -> Bool) (c : V) : ∀ (i : Nat) (a b : List V), en2 ys p c i (a ++ b) = en2 ys p c i a ++ en2 ys p c (i + a.length) b
 | _, [], _ => by simp [en2]
 | i, x :: t, b => by
  show ((ys i x).filter (p i x)).map (fun _ => c) ++ en2 ys p c (i + 1) (t ++ b) = _
  rw [en2_append ys p c (i + 1) t b]
  simp only [en2, List.append_assoc, List.length_cons]
  rw [show i + 1 + t.length = i + (t.length + 1) by (first | lia | omega)]
theorem lc2_enum {K : PySem.W.Frag} {a : Addr} {xs : List V} {wi2 : TI} {tt2 : TT} {te : TE} {ix : List Nat} {σ : L2.St} {H1 : Hp} {Q : VK} (Fx : ∀ {H}, Same H1 H -> SqT K H a xs) (ys : Nat -> V -> List V) (p : Nat -> V -> V -> Bool) (c : V)
  (small : (en2 ys p c 0 xs).length < sizeLine)
  (hin : ∀ (i : Nat) x, xs[i]? = some x -> ∀ H, Same H1 H -> ∀ Rr : It -> Hp -> Prop, (∀ J2 Ok2 H', Same H H' -> Yields J2 Ok2 (ys i x) -> (∀ G, SameT H' G -> Same H1 G -> Ok2 G) -> Rr J2 H') -> wi2 (some (.int i) :: some x :: none :: ix.map fun i => σ.getD i none) H Rr)
  (ht : ∀ (i : Nat) x, xs[i]? = some x -> ∀ y ∈ ys i x, ∀ H, Same H1 H -> ∀ Q' : Bool -> Hp -> Prop, Q' (p i x y) H -> tt2 (some (.int i) :: some x :: some y :: ix.map fun i => σ.getD i none) H Q')
  (he : ∀ (i : Nat) x, xs[i]? = some x -> ∀ y ∈ ys i x, ∀ H, Same H1 H -> ∀ Q' : VK, Q' c H -> te (some (.int i) :: some x :: some y :: ix.map fun i => σ.getD i none) H Q')
  (fin : ∀ acc H', H1 acc = none -> Same H1 H' -> H' acc = some (.lst (en2 ys p c 0 xs)) -> Q (.ref acc) H') :
  LcW2 (Ite K a) H1 (gTup K 2 (gCons (gName 0) (gCons (gName 1) gNil))) tNoTest wi2 (gName 2) tt2 te 3 ix σ Q := by
 intro acc ha
 refine ⟨fun i m H => m = xs.length - i /\ i <= xs.length /\ Same H1 H /\ H acc = some (.lst (en2 ys p c 0 (xs.take i))), ⟨xs.length, by simp, Nat.zero_le _, same_upd ha, upd_same⟩, ?_⟩
 rintro i m H ⟨rfl, hi, sm, hacc⟩
 by_cases hlt : i < xs.length
 ·refine .inr ⟨⟨xs, xs[i], Fx sm, List.getElem?_eq_getElem hlt⟩, fun v H' y => ?_⟩
  obtain ⟨t, x, hn, rfl, rfl, hv⟩ := y
  have e1 := hv xs (Fx sm)
  have htk : en2 ys p c 0 (xs.take (i + 1)) = en2 ys p c 0 (xs.take i) ++ ((ys i x).filter (p i x)).map fun _ => c := by
   have hl : (xs.take i).length = i := by rw [List.length_take]; (first | lia | omega)
   rw [List.take_succ, e1, en2_append, hl]
   simp [en2]
  have hle : (en2 ys p c 0 (xs.take (i + 1))).length <= (en2 ys p c 0 xs).length := by
   conv => rhs; rw [<- List.take_append_drop (i + 1) xs, en2_append, List.length_append]
   (first | lia | omega)
  refine ⟨t, _, rfl, SqT.of upd_same, rfl, _, _, rfl, x, _, rfl, rfl, ⟨rfl, fun j v e => ?_⟩, ?_⟩
  ·match j, e with
   | 0, e => cases e
   | 1, e => cases e
   | j + 2, e => exact e
  ·unfold tNoTest
   dsimp only
   rw [if_pos rfl]
   have sm2 := sm.trans (same_upd (o := .tup [.int i, x]) hn)
   have hacc2 : (upd H t (.tup [.int i, x])) acc = some (.lst (en2 ys p c 0 (xs.take i))) := same_upd hn _ _ hacc
   refine hin i x e1 _ sm2 _ fun J2 Ok2 H4 s4 Y2 hok2 => ?_
   refine ⟨fun j m2 G => m2 = (ys i x).length - j /\ j <= (ys i x).length /\ SameT H4 G /\ Same H1 G /\ G acc = some (.lst (en2 ys p c 0 (xs.take i) ++ (((ys i x).take j).filter (p i x)).map fun _ => c)),
    ⟨(ys i x).length, by simp, Nat.zero_le _, fun _ _ e => e, sm2.trans s4, by simpa using s4 _ _ hacc2⟩, ?_⟩
   rintro j m2 G ⟨rfl, hj, st, sm5, hus⟩
   have o2 := hok2 G st sm5
   by_cases hjl : j < (ys i x).length
   ·refine .inr ⟨Y2.go j _ o2 hjl, fun y G' yy => ?_⟩
    obtain ⟨rfl, hy⟩ := Y2.yld j _ y G' o2 hjl yy
    have hymem : y ∈ ys i x := List.mem_of_getElem? hy
    have htk2 : (ys i x).take (j + 1) = (ys i x).take j ++ [y] := by rw [List.take_succ, hy]; rfl
    refine ⟨⟨rfl, fun k v e => ?_⟩, ?_⟩
    ·match k, e with
     | 0, e => exact e
     | 1, e => exact e
     | 2, e => cases e
     | k + 3, e => exact e
    ·refine ht i x e1 y hymem _ sm5 _ ?_
     cases hp : p i x y with
     | false =>
      rw [if_neg Bool.false_ne_true]
      refine ⟨(ys i x).length - (j + 1), by (first | lia | omega), rfl, hjl, st, sm5, ?_⟩
      rw [htk2, List.filter_append]
      simpa [hp] using hus
     | true =>
      rw [if_pos rfl]
      refine he i x e1 y hymem _ sm5 _ ⟨_, hus, ?_, (ys i x).length - (j + 1), by (first | lia | omega), rfl, hjl, st.trans (sameT_lst hus), same_updR sm5 ha, ?_⟩
      ·have e2 : (((ys i x).take j).filter (p i x)).length <= ((ys i x).filter (p i x)).length := by
        conv => rhs; rw [<- List.take_append_drop j (ys i x), List.filter_append, List.length_append]
        (first | lia | omega)
       have e3 : 0 < (((ys i x).drop j).filter (p i x)).length := List.length_pos_iff_exists_mem.mpr ⟨y, List.mem_filter.mpr ⟨by rw [List.drop_eq_getElem_cons hjl]; rw [(List.getElem?_eq_some_iff.mp hy).2]; simp, hp⟩⟩
       have e4 : ((ys i x).filter (p i x)).length = (((ys i x).take j).filter (p i x)).length + (((ys i x).drop j).filter (p i x)).length := by
        conv => lhs; rw [<- List.take_append_drop j (ys i x), List.filter_append, List.length_append]
       rw [htk, List.length_append, List.length_map] at hle
       rw [List.length_append, List.length_map]
       (first | lia | omega)
      ·rw [upd_same, htk2, List.filter_append, List.map_append, <- List.append_assoc]
       simp [hp]
   ·have e : j = (ys i x).length := by (first | lia | omega)
    subst e
    refine .inl ⟨Y2.stop _ o2, xs.length - (i + 1), by (first | lia | omega), rfl, hlt, sm5, ?_⟩
    rw [List.take_length] at hus
    rw [htk]
    exact hus
 ·have e : i = xs.length := by (first | lia | omega)
  subst e
  rw [List.take_length] at hacc
  exact .inl ⟨⟨xs, Fx sm, rfl⟩, fin acc H ha sm hacc⟩
end L2
namespace L2
open PySem PySem.Spec PyProof.Rows
noncomputable def sumR (n : Nat) (g : Nat -> Int) : Int := ((List.range n).map g).sum
theorem sumR_succ (n : Nat) (g : Nat -> Int) : sumR (n + 1) g = sumR n g + g n := by simp [sumR, List.range_succ]
theorem sumR_num0 (n : Nat) (g : Int -> Int) : ((num0 n).map g).sum = sumR n fun k => g k := by
 unfold sumR num0
 rw [List.map_map]
 rfl
theorem sumR_congr {n : Nat} {f g : Nat -> Int} (h : ∀ k, k < n -> f k = g k) : sumR n f = sumR n g := by
 unfold sumR
 congr 1
 exact List.map_congr_left fun k hk => h k (List.mem_range.mp hk)
theorem ones_sum (n : Nat) : (List.replicate n (1 : Int)).sum = n := by
 induction n with
 | zero => rfl
 | succ n ih => rw [List.replicate_succ, List.sum_cons, ih]; push_cast; (first | lia | omega)
noncomputable def staysO (ns : List Int) : Int := sumR ns.length fun k => if atO ns k = k then 1 else 0
noncomputable def risesO (ns : List Int) : Int := sumR (ns.length - 1) fun k => if atO ns k < atO ns (k + 1 : Nat) then 1 else 0
noncomputable def highsO (ns : List Int) : Int := sumR ns.length fun k => if (ns.take (k + 1)).all (fun a => decide (a <= atO ns k)) then 1 else 0
noncomputable def crossedO (ns : List Int) : Int := sumR ns.length fun k => (((ns.take k).filter fun a => decide (atO ns k < a)).length : Int)
noncomputable def qN (q : Nat -> Int -> Bool) : Nat -> V -> Bool := fun i v => match v with | .int n => q i n | _ => false
noncomputable def qZ (q : Int -> Int -> Bool) : V × V -> Bool := fun xy => match xy with | (.int a, .int b) => q a b | _ => false
noncomputable def qC : Nat -> V -> V -> Bool := fun _ x y => match x, y with | .int a, .int b => decide (a < b) | _, _ => false
theorem enF_ones (q : Nat -> Int -> Bool) : ∀ (k : Nat) (ns : List Int), enF (qN q) (fun _ _ => .int 1) k (ns.map V.int) = (List.replicate ((List.range ns.length).countP fun j => q (k + j) (ns.getD j 0)) (1 : Int)).map V.int
 | _, [] => rfl
 | k, x :: t => by
  show (if q k x then [V.int 1] else []) ++ enF _ _ (k + 1) (t.map V.int) = _
  rw [enF_ones q (k + 1) t, List.length_cons, List.range_succ_eq_map, List.countP_cons, List.countP_map]
  have e : (List.range t.length).countP ((fun j => q (k + j) ((x :: t).getD j 0)) ∘ Nat.succ) = (List.range t.length).countP fun j => q (k + 1 + j) (t.getD j 0) := by
   apply List.countP_congr
   intro j _
   show (q (k + (j + 1)) ((x :: t).getD (j + 1) 0) = true) ↔ _
   rw [show k + (j + 1) = k + 1 + j by (first | lia | omega)]
   simp
  rw [e]
  cases h : q k x with
  | true => simp [h, List.replicate_succ]
  | false => simp [h]
theorem countP_sumR (n : Nat) (q : Nat -> Bool) : (((List.range n).countP q : Nat) : Int) = sumR n fun k => if q k then 1 else 0 := by
 induction n with
 | zero => rfl
 | succ n ih =>
  rw [sumR_succ, List.range_succ, List.countP_append, <- ih]
  cases h : q n <;> simp [h]
theorem zip_ones (q : Int -> Int -> Bool) : ∀ ns : List Int, ((((ns.map V.int).zip ((ns.drop 1).map V.int)).filter (qZ q)).map fun _ => V.int 1) =
  (List.replicate ((List.range (ns.length - 1)).countP fun j => q (ns.getD j 0) (ns.getD (j + 1) 0)) (1 : Int)).map V.int
 | [] => rfl
 | [x] => by simp
 | x :: y :: t => by
  have ih := zip_ones q (y :: t)
  simp only [List.drop_succ_cons, List.drop_zero, List.map_cons, List.zip_cons_cons] at ih ⊢
  have el : (x :: y :: t).length - 1 = ((y :: t).length - 1) + 1 := by simp
  rw [el, List.range_succ_eq_map, List.countP_cons, List.countP_map, List.filter_cons]
  have e : (List.range ((y :: t).length - 1)).countP ((fun j => q ((x :: y :: t).getD j 0) ((x :: y :: t).getD (j + 1) 0)) ∘ Nat.succ) = (List.range ((y :: t).length - 1)).countP fun j => q ((y :: t).getD j 0) ((y :: t).getD (j + 1) 0) := by
   apply List.countP_congr
   intro j _
   rfl
  rw [e]
  have e0 : q ((x :: y :: t).getD 0 0) ((x :: y :: t).getD (0 + 1) 0) = q x y := rfl
  rw [e0]
  have ez : qZ q (V.int x, V.int y) = q x y := rfl
  rw [ez]
  cases h : q x y with
  | true =>
   simp only [h, if_true, List.map_cons, List.replicate_succ]
   rw [ih]
  | false =>
   simp only [h, Bool.false_eq_true, if_false, Nat.add_zero]
   exact ih
theorem getD_atO (ns : List Int) (j : Nat) : ns.getD j 0 = atO ns (j : Int) := by unfold atO; rw [Int.toNat_natCast]
structure Heaps (ns : List Int) (L : List Int) (es : List Int) : Prop where
 inc : L.Pairwise (· < ·)
 len : es.length = ns.length
 up : ∀ (j : Nat) a, L[j]? = some a -> ∃ k : Nat, ns[k]? = some a /\ es[k]? = some ((j : Int) + 1)
 dn : ∀ (k : Nat) e, es[k]? = some e -> ∃ (j : Nat) (a b : Int), e = (j : Int) + 1 /\ L[j]? = some a /\ ns[k]? = some b /\ a <= b
end L2
namespace L2
open PySem PySem.Spec PyProof.Rows
noncomputable def Cx.compZ (X : Cx) (s₂ : Shared) (H₂ : Hp) (N' : List Str) (scope : Scope) (cl : List (Str × Addr)) (C : Addr) (fp : List Addr) (z : Str) (Z : Addr) : Cx :=
 { X with N := N', s₀ := s₂, H₀ := H₂, env := compEnvC scope ((z, Z) :: cl) C X.env, outer := X.stack, stack := X.stack, ex := fp, fn := fun x => x == z, pn := [], xe := fun _ _ => False }
structure CompScopeZ (X : Cx) (scope : Scope) (N' : List Str) (n : Nat) (ix : List Nat) (z : Str) : Prop where
 kind : scope.kind = .function
 onecell : ∀ y ∈ scope.names, y.2 = .cell -> y.1 = z
 nz : ∀ y : Str, (y, NameKind.free) ∈ scope.names -> y ≠ z
 cf : ∀ (a : Addr) (cl : List (Str × Addr)), cellsFrom a scope.names cl = (z, a) :: cl
 pc : ∀ h : Heap, pushCells h scope.names = h.push { cls := .type "cell", data := .cell none }
 names : ∀ y ∈ scope.names, y.2 = .local -> scope.names.lookup y.1 = some .local
 free : ∀ y ∈ scope.names, y.2 = .free -> X.env.scope.names.lookup y.1 = some .cell ∨ X.env.scope.names.lookup y.1 = some .free
 nodup : ∀ y : Str, (y, NameKind.free) ∈ scope.names -> scope.names.lookup y = some .local -> False
 len : N'.length = n + ix.length
 at_ : ∀ (j i : Nat), ix[j]? = some i -> ∃ x, N'[n + j]? = some x /\ X.N[i]? = some x /\ (x, NameKind.free) ∈ scope.names
theorem newEnvZ {M : Model} {A : Around} {E : Value -> Shared -> Prop} {s : Shared} {z : Str} {scope : Scope} {globals : Addr} {cl : List (Str × Addr)} {qual : Str} {env : Env} {Q : Env -> Shared -> Prop} (hcf : ∀ a, cellsFrom a scope.names cl = (z, a) :: cl)
  (hpc : ∀ h : Heap, pushCells h scope.names = h.push { cls := .type "cell", data := .cell none })
  (hQ : ∀ env' : Env, env' = { scope, locals := s.heap.objs.size, globals, cells := (z, s.heap.objs.size + 1) :: cl, qual, func := none, code := env.code, frame := env.frame, builtins := env.builtins } ->
   Q env' { s with heap := (s.heap.push { cls := .type "dict", data := .dict #[] }).push { cls := .type "cell", data := .cell none } }) :
  wpAny M A (newFunctionEnv scope globals cl [] qual none .none (some env)) Q E s := by
 simp only [newFunctionEnv, Option.isSome_some, if_true]
 refine wpAny_bind (wpAny_alloc ?_)
 refine wpAny_bind (wpAny_layCells _ (fun name kind cells => by cases hkc : kind == NameKind.cell <;> simp [hkc]) _ _ _ _ ?_)
 rw [hcf, hpc]
 simp only [List.forIn_nil]
 have hz : (s.heap.push { cls := .type "dict", data := .dict #[] }).objs.size = s.heap.objs.size + 1 := Heap.size_push ..
 refine wpAny_bind (wpAny_pure (wpAny_pure ?_))
 exact hQ _ (by simp only [hz])
section
variable {X : Cx} {pins : List (Addr × Obj)} {σ : St} {H : Hp} {s : Shared}
theorem of_relabelZ {env : Env} {scope : Scope} {x z : Str} (hn : ∀ y ∈ scope.names, y.2 = .cell -> y.1 = z) (hxz : x ≠ z) (h : (relabel scope env).names.lookup x = some .cell ∨ (relabel scope env).names.lookup x = some .free) : scope.names.lookup x = some .free := by
 rw [relabel_lookup] at h
 cases e : scope.names.lookup x with
 | none => rw [e] at h; rcases h with h | h <;> cases h
 | some k =>
  rw [e] at h
  have hk : k ≠ .cell := fun q => hxz (hn _ (PySem.mem_of_lookup e) q)
  by_cases hf : k = .free
  ·rw [hf]
  ·have hb : (k == NameKind.free) = false := by simpa using hf
   have hr : Option.map (fun k => if (k == NameKind.free && env.scope.kind == .function && env.kindOf x == some .cell) = true then NameKind.cell else k) (some k) = some k := by
    show some (ite _ _ _) = _
    rw [if_neg (by rw [hb]; simp)]
   rw [hr] at h
   rcases h with h | h
   ·cases h; exact absurd rfl hk
   ·exact h
theorem inv_compZ {z : Str} {Z : Addr} {scope : Scope} {N' : List Str} {n : Nat} {ix : List Nat} {cl : List (Str × Addr)} {fp : List Addr} {h₁ : Heap} {acc C : Addr} {na : Nat} {m : Str -> Option Value} {tk : Nat}
  (I : Inv X pins σ H s) (S : CompScopeZ X scope N' n ix z) (hcl1 : ∀ x c, cl.lookup x = some c -> X.env.cells.lookup x = some c) (hcl2 : ∀ y ∈ scope.names, y.2 = .free -> cl.lookup y.1 = X.env.cells.lookup y.1)
  (hf : ∀ b ∈ fp, FpOk X pins H b) (hlt : ∀ b ∈ fp, b < s.heap.objs.size) (ha : s.heap.objs.size <= acc) (hC : s.heap.objs.size <= C) (hne : C ≠ acc) (hZ : s.heap.objs.size <= Z) (hZC : Z ≠ C) (hZa : Z ≠ acc) (hZc : h₁.IsCell Z none)
  (k : ∀ b u, s.heap.get? b = some u -> h₁.get? b = some u) (hacc : h₁.get? acc = some { cls := .type "list", data := .seq ([] : List Value).toArray na }) (hns : h₁.Ns C m) :
  Inv (X.compZ s H N' scope cl C fp z Z) [] (compSt n ix σ) (upd H acc (.lst [])) { s with heap := h₁, toks := tk } := by
 have fr : ∀ b : Addr, s.heap.objs.size <= b -> H b = none := fun b hb => I.hok.fresh hb
 have cellLt : ∀ x c, cl.lookup x = some c -> c < s.heap.objs.size := fun x c e => by
  obtain ⟨v, q⟩ := I.cell x c (hcl1 x c e)
  exact q.lt
 have look : ∀ x c, List.lookup x ((z, Z) :: cl) = some c -> (x = z /\ c = Z) ∨ (x ≠ z /\ cl.lookup x = some c) := fun x c e => by
  rw [List.lookup_cons] at e
  cases hb : x == z with
  | true =>
   rw [hb] at e
   exact .inl ⟨eq_of_beq hb, (Option.some.inj e).symm⟩
  | false =>
   rw [hb] at e
   exact .inr ⟨fun q => by (rw [q, beq_self_eq_true] at hb; cases hb), e⟩
 have look2 : ∀ x, x ≠ z -> List.lookup x ((z, Z) :: cl) = cl.lookup x := fun x hx => by
  rw [List.lookup_cons]
  have hb : (x == z) = false := beq_eq_false_iff_ne.mpr hx
  rw [hb]
 have nZ : ∀ x c, cl.lookup x = some c -> c ≠ Z := fun x c e q => absurd (cellLt x c e) (by rw [q]; exact Nat.not_lt.mpr hZ)
 refine ⟨⟨I.ok.mod, S.kind, I.ok.glob, I.ok.blt, hC, fun x y c e1 e2 => ?inj, fun x hx => ?has, fun x c e e' => ?cab, I.ok.hd, I.ok.frames, .inl rfl, fun b hb => ⟨Nat.ne_of_lt (Nat.lt_of_lt_of_le (hlt b hb) hC), fun x c e => ?exf⟩,
   I.bs, Nat.le_trans I.ok.bsz I.sz, fun b o e hb => ?noex, fun b hb hs => ?exfs, I.stack, I.stkFree⟩,
  rfl, I.bare, Un.laid k ha (fr acc ha), ⟨m, hns, fun i x v e1 e2 e3 => ?loc⟩, fun x c e => ?cell, ?free, fun x c e => ?freeC, fun p hp => absurd (show p ∈ ([] : List (Addr × Obj)) from hp) (by simp), I.hok.laid k ha ⟨Nat.zero_le _, [], na, .nil, hacc⟩, ?len⟩
 case inj =>
  rcases look x c e1 with ⟨h1, h2⟩ | ⟨h1, h2⟩ <;> rcases look y c e2 with ⟨h3, h4⟩ | ⟨h3, h4⟩
  ·rw [h1, h3]
  ·exact absurd h2 (nZ y c h4)
  ·exact absurd h4 (nZ x c h2)
  ·exact I.ok.inj x y c (hcl1 x c h2) (hcl1 y c h4)
 case has =>
  by_cases hxz : x = z
  ·exact ⟨Z, by show List.lookup x ((z, Z) :: cl) = _; rw [hxz, List.lookup_cons, beq_self_eq_true]⟩
  ·have hx' : scope.names.lookup x = some .free := of_relabelZ (env := X.env) S.onecell hxz hx
   have hm := PySem.mem_of_lookup hx'
   obtain ⟨c, e⟩ := I.ok.has x (S.free _ hm rfl)
   exact ⟨c, by show List.lookup x ((z, Z) :: cl) = _; rw [look2 x hxz]; exact (hcl2 _ hm rfl).trans e⟩
 case cab =>
  rcases look x c e' with ⟨_, h2⟩ | ⟨h1, _⟩
  ·rw [h2]; exact hZ
  ·exact absurd (eq_of_beq (show (x == z) = true from e)) h1
 case exf =>
  rcases look x c e with ⟨_, h2⟩ | ⟨_, h2⟩
  ·rw [h2]; exact Nat.ne_of_gt (Nat.lt_of_lt_of_le (hlt b hb) hZ)
  ·exact (hf b hb).2.2.2.2.1 x c (hcl1 x c h2)
 case noex =>
  rcases (hf b hb).2.2.2.1 with z | z
  ·exact I.ok.noex b o e z
  ·exact absurd (Nat.lt_of_lt_of_le (Heap.lt_size e) (Nat.le_trans I.ok.bsz z)) (Nat.lt_irrefl _)
 case exfs =>
  rcases List.mem_cons.mp (I.stkSub b hs) with z | z
  ·exact (hf b hb).2.1 z
  ·exact (hf b hb).2.2.1 z
 case loc =>
  have hi : n <= i := by
   by_cases hi : n <= i
   ·exact hi
   ·unfold compSt at e2
    rw [List.getElem?_append_left (by simp; (first | lia | omega)), List.getElem?_replicate] at e2
    split at e2 <;> cases e2
  obtain ⟨j, rfl⟩ : ∃ j, i = n + j := ⟨i - n, by (first | lia | omega)⟩
  unfold compSt at e2
  rw [List.getElem?_append_right (by simp), List.length_replicate, Nat.add_sub_cancel_left, List.getElem?_map] at e2
  cases ej : ix[j]? with
  | none => rw [ej] at e2; cases e2
  | some q =>
   rw [ej] at e2
   have e2' : σ.getD q none = some v := Option.some.inj e2
   have e2'' : σ[q]? = some (some v) := by
    rw [List.getD_eq_getElem?_getD] at e2'
    cases eq : σ[q]? with
    | none => rw [eq] at e2'; cases e2'
    | some z => rw [eq] at e2'; exact congrArg some e2'
   obtain ⟨y, h1, h2, h3⟩ := S.at_ j q ej
   have ey : y = x := Option.some.inj (h1.symm.trans e1)
   subst ey
   have hk := S.free _ h3 rfl
   obtain ⟨mX, _, hl⟩ := I.loc
   obtain ⟨u, r, l⟩ := hl q y v h2 e2'' (.inr hk)
   refine ⟨u, r, .inr ?_⟩
   have hkc : X.env.kindOf y = some .cell ∨ X.env.kindOf y = some .free := hk
   have l' : ∃ c, X.env.cells.lookup y = some c /\ s.heap.IsCell c (some u) := by
    rcases l with ⟨z, _⟩ | ⟨_, c, ec, hc⟩
    ·rcases hkc with q | q <;> (rw [q] at z; cases z)
    ·exact ⟨c, ec, hc⟩
   obtain ⟨c, ec, o, ho, hd⟩ := l'
   have e3' : Vis (relabel scope X.env) y := e3
   have hyz : y ≠ z := S.nz y h3
   refine ⟨?_, c, by show List.lookup y ((z, Z) :: cl) = _; rw [look2 y hyz]; exact (hcl2 _ h3 rfl).trans ec, o, k _ _ ho, hd⟩
   have nl : scope.names.lookup y ≠ some .local := fun z => ?_
   ·cases el : scope.names.lookup y with
    | none =>
     have : (relabel scope X.env).names.lookup y = none := by rw [relabel_lookup, el]; rfl
     rcases e3' with z | z | z <;> (rw [this] at z; cases z)
    | some kk =>
     have hmem := PySem.mem_of_lookup el
     have ncell : kk ≠ .cell := fun q => hyz (S.onecell _ hmem q)
     have hr : (relabel scope X.env).names.lookup y = some (if (kk == NameKind.free && X.env.scope.kind == .function && X.env.kindOf y == some .cell) = true then .cell else kk) := by rw [relabel_lookup, el]; rfl
     by_cases hkf : kk = .free
     ·subst hkf
      exact relabel_free (env := X.env) el
     ·have hb : (kk == NameKind.free) = false := by simpa using hkf
      have hr' : (relabel scope X.env).names.lookup y = some kk := by rw [hr, hb]; rfl
      rcases e3' with z | z | z
      ·rw [hr'] at z; cases z; exact absurd el nl
      ·rw [hr'] at z; cases z; exact absurd rfl ncell
      ·rw [hr'] at z; cases z; exact absurd rfl hkf
   ·exact S.nodup _ h3 z
 case cell =>
  rcases look x c e with ⟨_, h2⟩ | ⟨_, h2⟩
  ·rw [h2]; exact ⟨none, hZc⟩
  ·obtain ⟨v, o, ho, hd⟩ := I.cell x c (hcl1 x c h2)
   exact ⟨v, o, k _ _ ho, hd⟩
 case free =>
  show upd H acc (.lst []) C = none
  rw [upd_ne hne]; exact fr C hC
 case freeC =>
  show upd H acc (.lst []) c = none
  rcases look x c e with ⟨_, h2⟩ | ⟨_, h2⟩
  ·rw [h2, upd_ne hZa]; exact fr Z hZ
  ·have := cellLt x c h2
   rw [upd_ne (Nat.ne_of_lt (Nat.lt_of_lt_of_le this ha))]
   exact I.freeC x c (hcl1 x c h2)
 case len =>
  show (compSt n ix σ).length = N'.length
  unfold compSt
  rw [List.length_append, List.length_replicate, List.length_map, S.len]
end
section
variable {X : Cx} {elt tg iter : Expr} {ifs : List Expr} {scope : Scope} {pos : Pos} {wi : TI} {g : TG} {tt : TT} {te : TE} {N' : List Str} {n : Nat} {ix : List Nat}
theorem lc_coreZ {z : Str} {pins : List (Addr × Obj)} {σ : St} {H2 : Hp} {s2 : Shared} {cl : List (Str × Addr)} {it : Addr} {fp : List Addr} {tn : Nat -> Heap -> Prop} {J : It} {Q : VK} {R : Value -> Addr -> Result -> Shared -> Prop}
  (hc : X.calm = true) (S : CompScopeZ X scope N' n ix z)
  (hY : ∀ s₂ H₂ cl C fp Z, PG (X.compZ s₂ H₂ N' scope cl C fp z Z) tg g /\ PTs (X.compZ s₂ H₂ N' scope cl C fp z Z) ifs tt /\ PE (X.compZ s₂ H₂ N' scope cl C fp z Z) elt te)
  (I2 : Inv X pins σ H2 s2) (hcl1 : ∀ x c, cl.lookup x = some c -> X.env.cells.lookup x = some c) (hcl2 : ∀ y ∈ scope.names, y.2 = .free -> cl.lookup y.1 = X.env.cells.lookup y.1)
  (T : Turn X.prog X.w X.K tg J fp it tn) (st2 : tn 0 s2.heap) (f2 : ∀ b ∈ fp, FpOk X pins H2 b)
  (hW : LcW J H2 g tt te n ix σ Q)
  (hR : ∀ acc C s' H' m, s'.heap.Ns C m -> Inv X pins σ H' s' -> H' C = none -> C ≠ X.env.locals -> (C ∈ X.ex ∨ X.s₀.heap.objs.size <= C) -> (∀ x c, X.env.cells.lookup x = some c -> c ≠ C) -> (∀ p ∈ X.pn ++ pins, p.1 ≠ C) -> C ∉ X.fs -> Q (.ref acc) H' -> R (.ref acc) C (.ok .next) s') :
  wpAny (model X.prog X.w) X.A (newList []) (fun acc s₃ => wpAny (model X.prog X.w) X.A (newFunctionEnv scope X.env.globals cl [] X.env.qual none .none (some X.env)) (fun cenv s₄ =>
   codeAny (model X.prog X.w) X.A (.compStart (.ListComp elt [⟨tg, iter, ifs, 0⟩] scope pos) 0 (.ref it) acc { cenv with scope := relabel scope X.env }) (R acc cenv.locals) s₄) X.xe s₃) X.xe s2 := by
 refine wpAny_newObj_type (newEnvZ (z := z) (fun a => S.cf a cl) S.pc fun env' he' => ?_)
 subst he'
 dsimp only
 generalize hH2 : s2.heap.push { cls := .type "list", dict := none, data := .seq ([] : List Value).toArray } = G
 have hC : G.objs.size = s2.heap.objs.size + 1 := by rw [<- hH2, Heap.size_push]
 generalize hh1 : (G.push { cls := .type "dict", data := .dict #[] }).push { cls := .type "cell", data := .cell none } = h₁
 have hkp : ∀ b o, G.get? b = some o -> h₁.get? b = some o := fun b o e => hh1 ▸ Heap.get?_push_of_some _ (Heap.get?_push_of_some _ e)
 have hns₁ : h₁.Ns G.objs.size fun _ => none := hh1 ▸ (Heap.Ns.new G (.type "dict")).keeps fun b o e => Heap.get?_push_of_some _ e
 have hZc : h₁.IsCell (G.objs.size + 1) none := by
  rw [<- hh1]
  refine ⟨{ cls := .type "cell", data := .cell none }, ?_, rfl⟩
  have := Heap.get?_push_size (G.push { cls := .type "dict", data := .dict #[] }) (o := { cls := .type "cell", data := .cell none }) rfl
  rwa [Heap.size_push] at this
 have hlt : ∀ b ∈ fp, b < s2.heap.objs.size := fun b hb => by
  obtain ⟨o, e, _⟩ := T.obj _ _ st2 b hb
  exact Heap.lt_size e
 have old : ∀ b o, s2.heap.get? b = some o -> h₁.get? b = some o := fun b o e => hkp b o (hH2 ▸ Heap.get?_push_of_some _ e)
 have hacc : h₁.get? s2.heap.objs.size = some { cls := .type "list", dict := none, data := .seq ([] : List Value).toArray } := hkp _ _ (hH2 ▸ Heap.get?_push_size _ rfl)
 obtain ⟨W, ⟨m0, w0⟩, turn⟩ := hW s2.heap.objs.size (I2.hok.fresh (Nat.le_refl _))
 obtain ⟨hYg, hYt, hYe⟩ := hY s2 H2 cl G.objs.size fp (G.objs.size + 1)
 have fpY : ∀ {H' : Hp}, (∀ b ∈ fp, H' b = none) -> ∀ b ∈ fp, FpOk (X.compZ s2 H2 N' scope cl G.objs.size fp z (G.objs.size + 1)) [] H' b := fun {H'} hn b hb => by
  obtain ⟨_, q1, q2, q3, q4, q5⟩ := f2 b hb
  refine ⟨hn b hb, ?_, fun z => ?_, .inl hb, fun x c e => ?_, fun p hp => absurd (show p ∈ ([] : List (Addr × Obj)) from hp) (by simp)⟩
  ·show b ≠ G.objs.size
   rw [hC]
   exact Nat.ne_of_lt (Nat.lt_succ_of_lt (hlt b hb))
  ·rcases List.mem_cons.mp (I2.stkSub b z) with y | y
   ·exact q1 y
   ·exact q2 y
  ·have e' : List.lookup x ((z, G.objs.size + 1) :: cl) = some c := e
   rw [List.lookup_cons] at e'
   cases hb' : x == z with
   | true =>
    rw [hb'] at e'
    have e2 : G.objs.size + 1 = c := Option.some.inj e'
    rw [<- e2, hC]
    have := hlt b hb
    exact Nat.ne_of_gt (Nat.lt_of_lt_of_le this (Nat.le_trans (Nat.le_succ _) (Nat.le_succ _)))
   | false =>
    rw [hb'] at e'
    exact q4 x c (hcl1 x c e')
 have loop : ∀ s₃ : Shared, s₃ = { s2 with heap := h₁ } ->
   codeAny (model X.prog X.w) X.A (.compLoop (.ListComp elt [⟨tg, iter, ifs, 0⟩] scope pos) 0 (.ref it) (.ref s2.heap.objs.size) (compEnvC scope ((z, G.objs.size + 1) :: cl) G.objs.size X.env)) (R (.ref s2.heap.objs.size) G.objs.size) s₃ := by
  rintro s₃ rfl
  have I4 := inv_compZ (Z := G.objs.size + 1) (tk := s2.toks) I2 S hcl1 hcl2 f2 hlt (Nat.le_refl _) (by rw [hC]; exact Nat.le_succ _) (by rw [hC]; exact Nat.ne_of_gt (Nat.lt_succ_self _)) (by rw [hC]; exact Nat.le_trans (Nat.le_succ _) (Nat.le_succ _)) (Nat.ne_of_gt (Nat.lt_succ_self _)) (by rw [hC]; exact Nat.ne_of_gt (Nat.lt_succ_of_lt (Nat.lt_succ_self _))) hZc old hacc hns₁
  refine compLoop_gen (fun n' s' => ∃ i H', Inv (X.compZ s2 H2 N' scope cl G.objs.size fp z (G.objs.size + 1)) [] (compSt n ix σ) H' s' /\ tn i s'.heap /\ (∀ b ∈ fp, H' b = none) /\ W i n' H') ?_ m0
   ⟨0, _, I4, T.keep _ _ _ st2 fun b hb o e => old b o e, fun b hb => ?_, w0⟩
  ·rintro n' s3 ⟨i, H3, I3, st3, fr3, w3⟩
   rcases turn i n' H3 w3 with ⟨stop, q⟩ | ⟨go, step⟩
   ·refine thn (T.done (X.compZ s2 H2 N' scope cl G.objs.size fp z (G.objs.size + 1)) rfl rfl rfl hc i [] s3 _ H3 _ I3 (fpY fr3) st3 stop) fun r s4 zq => ?_
    obtain ⟨hr, I5⟩ := zq
    subst hr
    obtain ⟨mC, hnC, _⟩ := I5.loc
    have IX : Inv X pins σ H3 s4 := I2.call' I5.os I5.base I5.hok I5.bare fun b hb => by
     obtain ⟨_, q1, q2, q3, q4, q5⟩ := f2 b hb
     exact ⟨q3, q1, q4, q5⟩
    refine hR _ _ s4 H3 mC hnC IX I5.free ?_ (.inr ?_) (fun x c e z => ?_) (fun p hp z => ?_) (I2.nofs (by rw [hC]; exact Nat.le_succ _)) q
    ·rw [hC]
     exact Nat.ne_of_gt (Nat.lt_succ_of_lt I2.lt)
    ·rw [hC]
     exact Nat.le_succ_of_le I2.sz
    ·obtain ⟨v, q⟩ := I2.cell x c e
     rw [hC] at z
     exact absurd z (Nat.ne_of_lt (Nat.lt_succ_of_lt q.lt))
    ·rw [hC] at z
     exact absurd z (Nat.ne_of_lt (Nat.lt_succ_of_lt (Heap.lt_size (I2.pin p hp).1)))
   ·refine thn (T.item (X.compZ s2 H2 N' scope cl G.objs.size fp z (G.objs.size + 1)) rfl rfl rfl hc i [] s3 _ H3 _ I3 (fpY fr3) st3 go) fun r s4 zq => ?_
    obtain ⟨u, hr, h4⟩ := zq
    subst hr
    refine thn h4 fun _ s5 zq => ?_
    obtain ⟨x, H5, I5, r5, y5, st5, fr5⟩ := zq
    have I5' := I5.pinned (fpY fr5) (T.obj _ _ st5)
    refine thn (hYg _ s5 _ H5 x u _ I5' r5 (step x H5 y5)) fun _ s6 zq => ?_
    obtain ⟨σ6, H6, I6, wk, q6⟩ := zq
    have back : ∀ {H' : Hp} {s' : Shared}, Inv (X.compZ s2 H2 N' scope cl G.objs.size fp z (G.objs.size + 1)) ([] ++ pinsAt fp s5.heap) σ6 H' s' ->
      Inv (X.compZ s2 H2 N' scope cl G.objs.size fp z (G.objs.size + 1)) [] (compSt n ix σ) H' s' /\ tn (i + 1) s'.heap /\ ∀ b ∈ fp, H' b = none := fun {H' s'} I7 => by
     refine ⟨I7.unpinned.weak wk.1 wk.2, T.keep _ _ _ st5 fun b hb o e => (I7.pin (b, o) (List.mem_append_right _ (List.mem_append_right _ (mem_pinsAt hb e)))).1, fun b hb => ?_⟩
     obtain ⟨o, e, d⟩ := T.obj _ _ st5 b hb
     exact (I7.pin (b, o) (List.mem_append_right _ (List.mem_append_right _ (mem_pinsAt hb e)))).2.1
    refine thn (hYt _ s6 σ6 H6 _ I6 q6) fun ok s7 zq => ?_
    obtain ⟨H7, I7, q7⟩ := zq
    cases ok with
    | false =>
     rw [if_neg Bool.false_ne_true] at q7 ⊢
     obtain ⟨m', hm, w7⟩ := q7
     obtain ⟨b1, b2, b3⟩ := back I7
     exact ⟨m', hm, i + 1, H7, b1, b2, b3, w7⟩
    | true =>
     rw [if_pos rfl] at q7 ⊢
     refine thn (hYe _ s7 σ6 H7 _ I7 q7) fun xv s8 zq => ?_
     obtain ⟨v8, H8, I8, r8, ys, ha, hz, m', hm, w8⟩ := zq
     refine thn (mt_append _ s8 σ6 H8 (.ref s2.heap.objs.size) [v8] (.ref s2.heap.objs.size) [xv] (fun _ H' => H' = upd H8 s2.heap.objs.size (.lst (ys ++ [v8]))) I8 rfl (.cons r8 .nil) ⟨_, ys, v8, rfl, rfl, ha, hz, rfl⟩) fun _ s9 zq => ?_
     obtain ⟨_, H9, I9, _, e9⟩ := zq
     subst e9
     obtain ⟨b1, b2, b3⟩ := back I9
     exact ⟨m', hm, i + 1, _, b1, b2, b3, w8⟩
  ·rw [upd_ne (Nat.ne_of_lt (hlt b hb))]
   exact (f2 b hb).1
 exact codeAny_compStart_list (loop _ rfl) (T.self _ 0 _ _ _ (T.keep _ _ _ st2 fun b hb o e => old b o e) (loop _ rfl))
theorem pe_lcZ {z : Str} (hc : X.calm = true) (S : CompScopeZ X scope N' n ix z) (hi : PI X tg iter wi)
  (hY : ∀ s₂ H₂ cl C fp Z, PG (X.compZ s₂ H₂ N' scope cl C fp z Z) tg g /\ PTs (X.compZ s₂ H₂ N' scope cl C fp z Z) ifs tt /\ PE (X.compZ s₂ H₂ N' scope cl C fp z Z) elt te)
  (hs : ∀ x, foldedSetIterable iter X.env x = pure x := by intro _; rfl) : PE X (.ListComp elt [⟨tg, iter, ifs, 0⟩] scope pos) (tLc wi g tt te n ix) := by
 intro pins s σ H Q I h
 obtain ⟨cl, hcl, hcl1, hcl2⟩ := closure_ok (env := X.env) (scope := scope) fun y hy hf => I.ok.has _ (S.free y hy hf)
 rw [eval_ListComp]
 refine wpAny_comprehension_free (use := none) rfl hs hcl S.kind S.names (thn (hi pins s σ H _ I h) fun v s1 h1 => thn h1 fun itv s2 h2 => ?_)
 obtain ⟨it, fp, tn, J, H2, rfl, I2, T, st2, f2, hW⟩ := h2
 refine lc_coreZ (R := fun acc C => compPost (model X.prog X.w) X.A X.xe none (EP X pins σ Q) acc C) hc S hY I2 hcl1 hcl2 T st2 f2 hW ?_
 intro acc C s' H' m hn IX hf hL h1 h2 h3 h4 q
 exact ⟨m, hn, fun h' sb => ⟨.ref acc, H', IX.turned (t' := s'.toks) (fun b o hb e => sb.extBut b o hb e) hf hL h1 h2 h3, rfl, q⟩⟩
end
end L2
namespace L2
open PySem PySem.Spec PyProof.Rows
mutual
inductive IsK (K : PySem.W.Frag) (H : Hp) : V -> PyData -> Prop
 | non : IsK K H .non .none
 | bl (b : Bool) : IsK K H (.bl b) (.bool b)
 | int (i : Int) : IsK K H (.int i) (.int i)
 | str (x : Str) : IsK K H (.str x) (.str x)
 | tup {a : Addr} {vs : List V} {ds : List PyData} : SqT K H a vs -> IsAllK K H vs ds -> IsK K H (.ref a) (.tuple ds)
 | lst {a : Addr} {vs : List V} {ds : List PyData} : H a = some (.lst vs) -> IsAllK K H vs ds -> IsK K H (.ref a) (.list ds)
inductive IsAllK (K : PySem.W.Frag) (H : Hp) : List V -> List PyData -> Prop
 | nil : IsAllK K H [] []
 | cons {v : V} {vs : List V} {d : PyData} {ds : List PyData} : IsK K H v d -> IsAllK K H vs ds -> IsAllK K H (v :: vs) (d :: ds)
end
section
variable {X : Cx} {pins : List (Addr × Obj)} {σ : St} {H : Hp} {s : Shared}
end
theorem Same.seqT {K : PySem.W.Frag} {H H' : Hp} {a : Addr} {xs : List V} (e : Same H H') (h : SqT K H a xs) : SqT K H' a xs := by
 rcases h with (h | ⟨o, h⟩) | h
 ·exact .inl (.inl (e _ _ h))
 ·exact .inl (.inr ⟨o, e _ _ h⟩)
 ·exact .inr h
noncomputable abbrev RowsK (K : PySem.W.Frag) (H : Hp) (zs : List Addr) (rows : List (List Int)) : Prop := Paired (fun (z : Addr) (r : List Int) => SqT K H z (r.map V.int)) zs rows
theorem RowsK.same {K : PySem.W.Frag} {H H' : Hp} {zs : List Addr} {rows : List (List Int)} (h : RowsK K H zs rows) (s : Same H H') : RowsK K H' zs rows := Paired.mapP h fun _ _ q => s.seqT q
end L2
namespace L2
open PySem PySem.Spec PyProof.Rows
theorem op_mulW {X : Cx} : OpR X (binaryOp .Mult) (rI (fun i j => IntMulOk i j) fun i j => .int (i * j)) := opI fun _ _ _ _ _ _ _ hc q => mul_int q hc
theorem bits_far : ∀ i : Nat, i <= 15 -> IntMulOk (((10 : Int) ^ (60 : Int).toNat) ^ i) ((10 : Int) ^ (60 : Int).toNat) := fun i hi => by
 have h10 : Builtin.Int.intBits (10 : Int) <= 4 := intBits_le_iff.mpr (by decide)
 have h1 : Builtin.Int.intBits ((10 : Int) ^ (60 : Int).toNat) <= 241 := intBits_pow_le h10 60
 have h2 : Builtin.Int.intBits (((10 : Int) ^ (60 : Int).toNat) ^ i) <= 241 * i + 1 := intBits_pow_le h1 i
 exact IntMulOk.of_le h2 h1 (by (first | lia | omega))
end L2
namespace L2
open PySem PySem.Spec PyProof.Rows
noncomputable def atZ (ns : List Int) (k : Int) : Int := if k < 0 then 0 else ns.getD k.toNat 0
theorem atZ_in {ns : List Int} {k : Int} (h : 0 <= k) : ns.getD k.toNat 0 = atZ ns k := by
 unfold atZ
 rw [if_neg (by (first | lia | omega))]
theorem atZ_lt {ns : List Int} {k : Int} (h : k < 0) : atZ ns k = 0 := by
 unfold atZ
 rw [if_pos h]
theorem atZ_ge {ns : List Int} {k : Int} (h : (ns.length : Int) <= k) : atZ ns k = 0 := by
 unfold atZ
 rw [if_neg (by (first | lia | omega)), List.getD_eq_getElem?_getD, List.getElem?_eq_none (by (first | lia | omega))]
 rfl
noncomputable def spNumAt (K : PySem.W.Frag) : Sp := fun vs H Q _ => ∃ (a : Addr) (ns : List Int) (k : Int), vs = [.ref a, .int k] /\ SqT K H a (ns.map V.int) /\ Q (.int (atZ ns k)) H
end L2
namespace L2
open PySem PySem.Spec PyProof.Rows
noncomputable def roundsRow (m : Nat) (ns : List Int) : List Int := (num0 (m + 1)).map fun k => atZ ns (k - 1) + ((m : Int) - 1) * atZ ns k
noncomputable def staysRow (m : Nat) (ns : List Int) : List Int := (num0 (m + 1)).map fun k => atZ ns (k - 1) + ((m : Int) - 1 - k) * atZ ns k + (k + 1) * atZ ns (k + 1)
noncomputable def risesRow (m : Nat) (ns : List Int) : List Int := (num0 m).map fun k => (k + 1) * atZ ns k + ((m : Int) - k) * atZ ns (k - 1)
noncomputable def spRow (K : PySem.W.Frag) (B : Nat) (g : Nat -> List Int -> List Int) : Sp := fun vs H Q _ => ∃ (m : Nat) (a : Addr) (ns : List Int), vs = [.int m, .ref a] /\ 1 <= m /\ m <= B /\ SqT K H a (ns.map V.int) /\ ns.length <= 1000 /\ ∀ p H', Same H H' -> H' p = some (.tup ((g m ns).map V.int)) -> Q (.ref p) H'
theorem cmul_small {i j : Int} (h0 : -100 <= i) (h1 : i <= 1000) : CMul i j := .inl ⟨Int.lt_of_lt_of_le (by decide) h0, Int.lt_of_le_of_lt h1 (by decide)⟩
end L2
namespace L2
open PySem PySem.Spec PyProof.Rows
section
variable {X : Cx}
noncomputable def rSlK (K : PySem.W.Frag) : V -> Option Int -> Option Int -> Hp -> VK -> Prop := fun x lo hi H Q => ∃ a xs, x = .ref a /\ SqT K H a xs /\ ∀ p H', Same H H' -> SqT K H' p (cutV xs lo hi) -> Q (.ref p) H'
theorem sl_tupK : SlR X (rSlK X.K) := by
 intro pins s σ H x v vl vu lo hi sl Q I rx hs pl pu h
 obtain ⟨a, xs, rfl, ha, q⟩ := h
 by_cases hw : HT.sIx xs.length 0 lo = 0 /\ HT.sIx xs.length xs.length hi = xs.length
 ·cases rx
  obtain ⟨its, r, ht, hz⟩ := I.tuple ha
  have hl : its.toArray.size = xs.length := by rw [List.size_toArray]; exact r.length.symm
  refine ⟨"tuple", _, PyProof.Rows.slot_tuple_getitem.lookup, ht.typeIs, ?_⟩
  refine getItem_tuple_whole ht hs pl pu (by rw [hl]; exact hw) ⟨.ref a, H, I, rfl, q a H (Same.refl H) ?_⟩
  unfold cutV
  rw [hw.1, hw.2, List.drop_zero, Nat.sub_zero, List.take_length]
  exact ha
 ·exact sl_tup pins s σ H _ v vl vu lo hi sl Q I rx hs pl pu ⟨a, xs, rfl, ha, hw, fun p hp => q p _ (same_upd hp) (SqT.of upd_same)⟩
theorem sl_tupKK (K : PySem.W.Frag) (hK : X.K = K) : SlR X (rSlK K) := hK ▸ sl_tupK
noncomputable def rSumT (K : PySem.W.Frag) : List V -> Hp -> VK -> Prop := fun xs H Q => ∃ (l : Addr) (ns : List Int), xs = [.ref l] /\ SqT K H l (ns.map V.int) /\ Q (.int ns.sum) H
theorem call_sumT (hc : X.calm = true) : CallR X (.builtin "sum") (rSumT X.K) := by
 intro pins s σ H xs us Q I rs h
 obtain ⟨l, ns, rfl, hH, q⟩ := h
 obtain ⟨u, rfl, ru⟩ := vals1 rs
 cases (show u = Value.ref l from ru)
 obtain ⟨its, r, ht, hz⟩ := I.tuple hH
 have hI := intsAre_of r
 obtain ⟨xs, hxs⟩ := hI.allInts.items
 have hnum : (numsOf its.toArray.toList) = ns := hI.numsOf
 refine PySem.W.ktm_sumG (xs := xs) (I.ok.hd hc) (by rw [<- hxs]; exact ht) fun h' tk t' hk => ?_
 have hs : preSum (numAt xs) xs.size = ns.sum := by
  rw [preSum_eq, List.take_of_length_le (by simp)]
  rw [<- nums_intItems, <- hxs, hnum]
 rw [hs]
 exact ⟨.int ns.sum, H, I.kept (t' := tk) hk, ⟨_, rfl⟩, q⟩
theorem call_sumTK (K : PySem.W.Frag) (hK : X.K = K) (hc : X.calm = true) : CallR X (.builtin "sum") (rSumT K) := hK ▸ call_sumT hc
end
noncomputable def win (ns : List Int) (lo : Int) (n : Nat) : Int := ((List.range n).map fun (i : Nat) => atZ ns (lo + (i : Int))).sum
theorem win_succ (ns : List Int) (lo : Int) (n : Nat) : win ns lo (n + 1) = win ns lo n + atZ ns (lo + (n : Int)) := by
 unfold win
 rw [List.range_succ, List.map_append, List.sum_append]
 simp
theorem sum_cut (ns : List Int) (lo : Nat) : ∀ n : Nat, ((ns.drop lo).take n).sum = win ns (lo : Int) n
 | 0 => by simp [win]
 | n + 1 => by
  rw [List.take_succ, List.sum_append, sum_cut ns lo n, win_succ, List.getElem?_drop]
  congr 1
  unfold atZ
  rw [if_neg (by (first | lia | omega)), show ((lo : Int) + (n : Int)).toNat = lo + n by (first | lia | omega), List.getD_eq_getElem?_getD]
  cases ns[lo + n]? <;> simp
theorem win_pos (ns : List Int) (lo : Int) : ∀ n : Nat, win ns lo n = win ns (max lo 0) (n - (-lo).toNat)
 | 0 => by simp [win]
 | n + 1 => by
  rw [win_succ, win_pos ns lo n]
  by_cases h : lo + (n : Int) < 0
  ·rw [atZ_lt h, show n + 1 - (-lo).toNat = 0 by (first | lia | omega), show n - (-lo).toNat = 0 by (first | lia | omega)]
   simp
  ·rw [show n + 1 - (-lo).toNat = (n - (-lo).toNat) + 1 by (first | lia | omega), win_succ]
   congr 2
   (first | lia | omega)
theorem cut_min (ns : List Int) (lo hi : Nat) : (ns.drop (min lo ns.length)).take (min hi ns.length - min lo ns.length) = (ns.drop lo).take (hi - lo) := by
 by_cases h : lo <= ns.length
 ·rw [Nat.min_eq_left h]
  by_cases h2 : hi <= ns.length
  ·rw [Nat.min_eq_left h2]
  ·rw [Nat.min_eq_right (by (first | lia | omega)), List.take_of_length_le (by rw [List.length_drop]; exact Nat.le_refl _), List.take_of_length_le (by rw [List.length_drop]; (first | lia | omega))]
 ·rw [show min lo ns.length = ns.length by (first | lia | omega), List.drop_length, List.drop_of_length_le (by (first | lia | omega)), List.take_nil, List.take_nil]
theorem cutV_ints (ns : List Int) (lo hi : Nat) : cutV (ns.map V.int) (some (lo : Int)) (some (hi : Int)) = ((ns.drop lo).take (hi - lo)).map V.int := by
 unfold cutV
 rw [HT.sIx_nat, HT.sIx_nat, mapI_len, <- List.map_drop, <- List.map_take, cut_min]
theorem paired_tab {g : Int -> Int} : ∀ {l : List Int} {ys : List V}, Paired (fun x v => ∀ k, x = V.int k -> v = V.int (g k)) (l.map V.int) ys -> ys = (l.map g).map V.int
 | [], _, .nil => rfl
 | a :: l, _, .cons h t => by
  rw [List.map_cons, List.map_cons, <- paired_tab t, h a rfl]
theorem lc_tabG {n : Nat} {te : TE} {ix : List Nat} {σ : L2.St} {H1 : Hp} {Q : VK} (g : Int -> Int) (small : n <= 1000) (he : ∀ k : Int, 0 <= k -> k < n -> ∀ H, Same H1 H -> ∀ Q' : VK, (∀ H', Same H H' -> Q' (.int (g k)) H') -> te (some (.int k) :: ix.map fun i => σ.getD i none) H Q')
  (fin : ∀ acc H', H1 acc = none -> Same H1 H' -> H' acc = some (.lst (((num0 n).map g).map V.int)) -> Q (.ref acc) H') : LcW (Itr 0 n) H1 (gName 0) tNoTest te 1 ix σ Q := by
 refine lc_grow (yields_range (lo := 0) (n := n)) (small1 (by rw [rangeV_len]; exact small)) (fun x v _ => ∀ k, x = V.int k -> v = V.int (g k)) (fun _ _ _ _ _ h => h) (fun _ _ => trivial) (fun x hx H' s' Q' q => ?_) fun acc ys H' hacc sm hys pr => ?_
 ·obtain ⟨k, rfl, k0, k1⟩ := mem_rangeV hx
  exact he k k0 k1 H' s' Q' fun H2 s2 => q _ H2 s2 fun k' e => by cases e; rfl
 ·rw [rangeV_num0] at pr
  rw [paired_tab pr] at hys
  exact fin acc H' hacc sm hys
end L2
namespace L2
open PySem PySem.Spec PyProof.Rows
noncomputable def crossedRow (m : Nat) (ns : List Int) : List Int := (num0 (m * (m - 1) / 2 + 1)).map fun k => win ns (k - (m : Int) + 1) m
end L2
namespace L2
open PySem PySem.Spec PyProof.Rows
noncomputable def kinds5 : List Str := ["rounds", "stays", "rises", "highs", "crossed"]
theorem kinds5_cases {kind : Str} (h : kind ∈ kinds5) : kind = "rounds" ∨ kind = "stays" ∨ kind = "rises" ∨ kind = "highs" ∨ kind = "crossed" := by
 unfold kinds5 at h
 simpa using h
noncomputable def rowOf (kind : Str) (m : Nat) (ns : List Int) : List Int :=
 if kind = "crossed" then crossedRow m ns else if kind = "rises" then risesRow m ns else if kind = "stays" then staysRow m ns else roundsRow m ns
noncomputable def bOf (kind : Str) : Nat := if kind = "crossed" then 24 else 60
noncomputable def spNext (K : PySem.W.Frag) : Sp := fun vs H Q _ => ∃ (kind : Str) (m : Nat) (a : Addr) (ns : List Int), vs = [.str kind, .int m, .ref a] /\ kind ∈ kinds5 /\ 1 <= m /\ m <= bOf kind /\ SqT K H a (ns.map V.int) /\ ns.length <= 1000 /\ ∀ p H', Same H H' -> H' p = some (.tup ((rowOf kind m ns).map V.int)) -> Q (.ref p) H'
noncomputable def rowZ (kind : Str) : Nat -> List Int
 | 0 => [1]
 | n + 1 => rowOf kind (n + 1) (rowZ kind n)
noncomputable def rowsZ (kind : Str) (n : Nat) : List (List Int) := (List.range (n + 1)).map (rowZ kind)
theorem num0_lenZ (n : Nat) : (num0 n).length = n := by simp [num0]
theorem bOf_le (kind : Str) : bOf kind <= 60 := by
 unfold bOf
 split <;> (first | lia | omega)
theorem rowOf_len {kind : Str} {m : Nat} (ns : List Int) (hm : m <= bOf kind) : (rowOf kind m ns).length <= 277 := by
 unfold rowOf
 unfold bOf at hm
 split
 ·rename_i h
  rw [if_pos h] at hm
  unfold crossedRow
  rw [List.length_map, num0_lenZ]
  have : m * (m - 1) <= 24 * 23 := Nat.mul_le_mul hm (by (first | lia | omega))
  (first | lia | omega)
 ·rename_i h
  rw [if_neg h] at hm
  split
  ·unfold risesRow; rw [List.length_map, num0_lenZ]; (first | lia | omega)
  ·split
   ·unfold staysRow; rw [List.length_map, num0_lenZ]; (first | lia | omega)
   ·unfold roundsRow; rw [List.length_map, num0_lenZ]; (first | lia | omega)
theorem rowZ_len {kind : Str} {n : Nat} (hn : n <= bOf kind) : (rowZ kind n).length <= 277 := by
 cases n with
 | zero => show 1 <= 277; (first | lia | omega)
 | succ n => exact rowOf_len _ hn
theorem rowsZ_succ (kind : Str) (n : Nat) : rowsZ kind (n + 1) = rowsZ kind n ++ [rowZ kind (n + 1)] := by
 unfold rowsZ
 rw [List.range_succ, List.map_append]
 rfl
theorem rowsZ_len (kind : Str) (n : Nat) : (rowsZ kind n).length = n + 1 := by simp [rowsZ]
noncomputable def spSteps (K : PySem.W.Frag) : Sp := fun vs H Q _ => ∃ (kind : Str) (m : Nat), vs = [.str kind, .int m] /\ kind ∈ kinds5 /\ m <= bOf kind /\ ∀ p zs H', Same H H' -> H' p = some (.tup (zs.map V.ref)) -> RowsK K H' zs (rowsZ kind m) -> Q (.ref p) H'
noncomputable def spTold (K : PySem.W.Frag) : Sp := fun vs H Q _ => ∃ (kind : Str) (m : Nat), vs = [.str kind, .int m] /\ kind ∈ kinds5 /\ m <= bOf kind /\ ∀ p H', Same H H' -> SqT K H' p ((rowZ kind m).map V.int) -> Q (.ref p) H'
theorem sqT_updL {K : PySem.W.Frag} {H : Hp} {a l : Addr} {xs ys : List V} {o : HO} (h : SqT K H a xs) (hl : H l = some (.lst ys)) : SqT K (upd H l o) a xs := by
 have hne : ∀ u, H a = some u -> (∀ ys, u ≠ .lst ys) -> a ≠ l := fun u e hu hal => by
  subst hal
  rw [hl] at e
  cases e
  exact hu _ rfl
 rcases h with (h | ⟨o', h⟩) | h
 ·exact .inl (.inl (by rw [upd_ne (hne _ h (fun _ q => nomatch q))]; exact h))
 ·exact .inl (.inr ⟨o', by rw [upd_ne (hne _ h (fun _ q => nomatch q))]; exact h⟩)
 ·exact .inr h
theorem RowsK.updL {K : PySem.W.Frag} {H : Hp} {zs : List Addr} {rows : List (List Int)} {l : Addr} {ys : List V} {o : HO} (h : RowsK K H zs rows) (hl : H l = some (.lst ys)) : RowsK K (upd H l o) zs rows := Paired.mapP h fun _ _ q => sqT_updL q hl
theorem RowsK.get {K : PySem.W.Frag} {H : Hp} : ∀ {zs : List Addr} {rows : List (List Int)}, RowsK K H zs rows -> ∀ {i : Nat} {r : List Int}, rows[i]? = some r -> ∃ z, zs[i]? = some z /\ SqT K H z (r.map V.int)
 | _, _, .nil, _, _, e => nomatch e
 | _, _, .cons h t, 0, _, e => by cases e; exact ⟨_, rfl, h⟩
 | _, _, .cons h t, i + 1, _, e => RowsK.get t e
end L2
namespace L2
theorem atI_neg1 {α : Type} {xs : List α} (h : 0 < xs.length) : atI xs (-1) = xs[xs.length - 1]? := by
 unfold atI ixN
 rw [if_neg (by decide), if_pos (by (first | lia | omega))]
 show xs[((-1 : Int) + xs.length).toNat]? = _
 rw [show ((-1 : Int) + xs.length).toNat = xs.length - 1 by (first | lia | omega)]
end L2
namespace L2
open PySem PySem.Spec PyProof.Rows
end L2
namespace L2
open PySem PySem.Spec PyProof.Rows
end L2
namespace L2
open PySem PySem.Spec PyProof.Rows
theorem GDict.of {K : PySem.W.Frag} {P : Params} {C : Addr} {kvs : List (Str × Addr)} {es : Array DictEntry} {n : Nat} (l : K.lookup C = some { cls := .type "dict", data := .dict es n }) (en : Ents P es.toList kvs) (nd : (kvs.map (·.1)).Nodup) : GDict K P C kvs := ⟨⟨es, n, l, en⟩, nd⟩
theorem CalF.of {P : Program} {w : World} {K : PySem.W.Frag} {mg : Str -> Option Value} {base : Heap} {k k' : Nat} {x : Str} {f : Addr} {ps : List Str} {sp : Sp} (C : Cal P w K mg base k x ps sp) (h : mg x = some (.ref f)) (hk : k <= k') : CalF P w K mg base k' f ps sp := by
 obtain ⟨f', fd, F, hm, kp, hb⟩ := C.ex
 rw [h] at hm
 cases hm
 exact ⟨fd, F.mono hk, kp, hb⟩
theorem sqT_ofK {K : PySem.W.Frag} {a : Addr} {xs : List V} {its : Array Value} {n : Nat} (l : K.lookup a = some { cls := .type "tuple", data := .seq its n }) (hz : its.size <= sizeLine) (r : Vals xs its.toList) : ∀ H, SqT K H a xs := fun _ => .inr ⟨_, its, n, l, rfl, rfl, hz, r⟩
end L2
namespace L2
open PySem PySem.Spec PyProof.Rows
structure TopX (mg : Str -> Option Value) : Prop where
 n_str : mg "str" = none
 n_repr : mg "repr" = none
 n_divmod : mg "divmod" = none
structure TopXK (K : PySem.W.Frag) : Prop where
 k_str : PySem.W.nsIn K mainGlobals "str" = some none
 k_repr : PySem.W.nsIn K mainGlobals "repr" = some none
 k_divmod : PySem.W.nsIn K mainGlobals "divmod" = some none
end L2
namespace L2
open PySem PySem.Spec PyProof.Rows
theorem lc_growF {J : It} {Ok : Hp -> Prop} {xs : List V} {tt : TT} {te : TE} {ix : List Nat} {σ : L2.St} {H1 : Hp} {Q : VK} (Y : Yields J Ok xs) (small : xs.length < sizeLine) (p : V -> Bool) (R : V -> V -> Hp -> Prop) (hR : ∀ x v H H', SameT H H' -> R x v H -> R x v H') (hok : ∀ H, Same H1 H -> Ok H)
  (ht : ∀ x ∈ xs, ∀ H, Same H1 H -> ∀ Q' : Bool -> Hp -> Prop, Q' (p x) H -> tt (some x :: ix.map fun i => σ.getD i none) H Q')
  (he : ∀ x ∈ xs, p x = true -> ∀ H, Same H1 H -> ∀ Q' : VK, (∀ v H', Same H H' -> R x v H' -> Q' v H') -> te (some x :: ix.map fun i => σ.getD i none) H Q')
  (fin : ∀ acc ys H', H1 acc = none -> Same H1 H' -> H' acc = some (.lst ys) -> Paired (fun x v => R x v H') (xs.filter p) ys -> Q (.ref acc) H') :
  LcW J H1 (gName 0) tt te 1 ix σ Q := by
 intro acc ha
 refine ⟨fun i m H => m = xs.length - i /\ i <= xs.length /\ Same H1 H /\ ∃ ys, H acc = some (.lst ys) /\ Paired (fun x v => R x v H) ((xs.take i).filter p) ys, ⟨xs.length, by simp, Nat.zero_le _, same_upd ha, [], upd_same, .nil⟩, ?_⟩
 rintro i m H ⟨rfl, hi, sm, ys, hacc, pr⟩
 have o := hok _ sm
 have hlen : ys.length <= i := by
  rw [<- Paired.length pr]
  exact Nat.le_trans (List.length_filter_le _ _) (by rw [List.length_take]; (first | lia | omega))
 by_cases hlt : i < xs.length
 ·refine .inr ⟨Y.go i _ o hlt, fun x H' y => ?_⟩
  obtain ⟨rfl, hx⟩ := Y.yld i _ x H' o hlt y
  have hmem : x ∈ xs := List.mem_of_getElem? hx
  have htk : xs.take (i + 1) = xs.take i ++ [x] := by
   rw [List.take_succ, hx]; rfl
  refine ⟨⟨rfl, fun j v e => ?_⟩, ?_⟩
  ·cases j with
   | zero => cases e
   | succ j => exact e
  ·refine ht x hmem _ sm _ ?_
   cases hp : p x with
   | false =>
    rw [if_neg Bool.false_ne_true]
    refine ⟨xs.length - (i + 1), by (first | lia | omega), rfl, hlt, sm, ys, hacc, ?_⟩
    rw [htk, List.filter_append]
    simpa [hp] using pr
   | true =>
    rw [if_pos rfl]
    refine he x hmem hp _ sm _ fun v H4 s4 r4 => ?_
    have h4 : H4 acc = some (.lst ys) := s4 _ _ hacc
    refine ⟨ys, h4, by (first | lia | omega), xs.length - (i + 1), by (first | lia | omega), rfl, hlt, same_updR (sm.trans s4) ha, ys ++ [v], upd_same, ?_⟩
    have st : SameT H4 (upd H4 acc (.lst (ys ++ [v]))) := sameT_lst h4
    rw [htk, List.filter_append, show [x].filter p = [x] by simp [hp]]
    exact Paired.snoc (Paired.mapP pr fun x' v' r' => hR _ _ _ _ (s4.t.trans st) r') (hR _ _ _ _ st r4)
 ·have e : i = xs.length := by (first | lia | omega)
  subst e
  refine .inl ⟨Y.stop _ o, ?_⟩
  rw [List.take_length] at pr
  exact fin acc ys H ha sm hacc pr
end L2
namespace L2
open PySem PySem.Spec PyProof.Rows
noncomputable def numF (lo : Int) (n : Nat) : List Int := (List.range n).map fun (i : Nat) => lo + (i : Int)
end L2
namespace L2
open PySem PySem.Spec PyProof.Rows
end L2
namespace L2
open PySem PySem.Spec PyProof.Rows
end L2
namespace L2
open PySem PySem.Spec PyProof.Rows
end L2
namespace L2
open PySem PySem.Spec PyProof.Rows
section
variable {κ : Type} [DecidableEq κ]
noncomputable def valV (kvs : List (κ × V)) (k : κ) : Option V := (kvs.find? fun kv => decide (kv.1 = k)).map (·.2)
noncomputable def putK (kvs : List (κ × V)) (k : κ) (v : V) : List (κ × V) :=
 if (kvs.any fun kv => decide (kv.1 = k)) = true then kvs.map (fun kv => if kv.1 = k then (kv.1, v) else kv) else kvs ++ [(k, v)]
theorem valV_pos {p : κ × V} {r : List (κ × V)} {k : κ} (e : p.1 = k) : valV (p :: r) k = some p.2 := by simp [valV, List.find?_cons, e]
theorem valV_neg {p : κ × V} {r : List (κ × V)} {k : κ} (e : ¬ p.1 = k) : valV (p :: r) k = valV r k := by simp [valV, List.find?_cons, e]
theorem valV_any (k : κ) : ∀ kvs : List (κ × V), (kvs.any fun kv => decide (kv.1 = k)) = (valV kvs k).isSome
 | [] => rfl
 | p :: r => by
  rw [List.any_cons]
  by_cases e : p.1 = k
  ·simp only [valV_pos e, decide_eq_true e, Bool.true_or, Option.isSome_some]
  ·rw [valV_neg e, decide_eq_false e, Bool.false_or]; exact valV_any k r
theorem length_putK (kvs : List (κ × V)) (k : κ) (v : V) : (putK kvs k v).length <= kvs.length + 1 := by
 unfold putK
 split
 ·rw [List.length_map]; (first | lia | omega)
 ·rw [List.length_append, List.length_cons, List.length_nil]; (first | lia | omega)
theorem RelO.isSome_eq {o : Option V} {u : Option Value} (r : RelO o u) : o.isSome = u.isSome := by
 cases o with
 | none => cases u with
  | none => rfl
  | some _ => exact (show False from r).elim
 | some _ => cases u with
  | none => exact (show False from r).elim
  | some _ => rfl
theorem RelO.getD {o : Option V} {u : Option Value} {d : V} {d' : Value} (r : RelO o u) (rd : RelV d d') : RelV (o.getD d) (u.getD d') := by
 cases o with
 | none => cases u with
  | none => exact rd
  | some _ => exact (show False from r).elim
 | some _ => cases u with
  | none => exact (show False from r).elim
  | some _ => exact r
theorem KV.val {kvs : List (κ × V)} {vs : List (κ × Value)} (r : KV kvs vs) (k : κ) : RelO (valV kvs k) (valueAt vs k) := by
 unfold KV at r
 induction r with
 | nil => exact True.intro
 | @cons p q ps qs h t ih =>
  obtain ⟨h1, h2⟩ := h
  by_cases e : p.1 = k
  ·have e' : q.1 = k := h1.symm.trans e
   have b : valueAt (q :: qs) k = some q.2 := by simp [valueAt, List.find?_cons, e']
   rw [valV_pos e, b]; exact h2
  ·have e' : ¬ q.1 = k := fun z => e (h1.trans z)
   have b : valueAt (q :: qs) k = valueAt qs k := by simp [valueAt, List.find?_cons, e']
   rw [valV_neg e, b]; exact ih
theorem KV.any {kvs : List (κ × V)} {vs : List (κ × Value)} (r : KV kvs vs) (k : κ) : (kvs.any fun kv => decide (kv.1 = k)) = vs.any fun kv => decide (kv.1 = k) := by
 unfold KV at r
 induction r with
 | nil => rfl
 | cons h t ih => rw [List.any_cons, List.any_cons, ih, h.1]
theorem KV.repl {kvs : List (κ × V)} {vs : List (κ × Value)} (r : KV kvs vs) (k : κ) {y : V} {u : Value} (ry : RelV y u) :
  KV (kvs.map fun kv => if kv.1 = k then (kv.1, y) else kv) (vs.map fun kv => if kv.1 = k then (kv.1, u) else kv) := by
 unfold KV at r ⊢
 induction r with
 | nil => exact .nil
 | @cons p q ps qs h t ih =>
  rw [List.map_cons, List.map_cons]
  refine .cons ?_ ih
  obtain ⟨h1, h2⟩ := h
  by_cases e : p.1 = k
  ·rw [if_pos e, if_pos (h1.symm.trans e)]; exact ⟨h1, ry⟩
  ·rw [if_neg e, if_neg (fun z => e (h1.trans z))]; exact ⟨h1, h2⟩
theorem KV.put {kvs : List (κ × V)} {vs : List (κ × Value)} (r : KV kvs vs) (k : κ) {y : V} {u : Value} (ry : RelV y u) : KV (putK kvs k y) (stored vs k u) := by
 unfold putK stored
 rw [r.any k]
 by_cases e : (vs.any fun kv => decide (kv.1 = k)) = true
 ·rw [if_pos e, if_pos e]; exact r.repl k ry
 ·rw [if_neg e, if_neg e]; exact Paired.snoc r ⟨rfl, ry⟩
theorem KV.length {kvs : List (κ × V)} {vs : List (κ × Value)} (r : KV kvs vs) : kvs.length = vs.length := Paired.length r
end
theorem kV_is {P : Program} {w : World} {k : Key} {u : Value} (r : RelV (kV k) u) : (mixKind P w).is k u = true := by
 cases k with
 | inl i => obtain ⟨t, e⟩ := (show ∃ t, u = Value.int i t from r); subst e; exact mixKind_int P w i t
 | inr x => obtain ⟨t, e⟩ := (show ∃ t, u = Value.str x t from r); subst e; exact mixKind_str P w x t
theorem items_are {P : Program} {w : World} : ∀ {ks : List Key} {us : List Value}, Vals (ks.map kV) us -> ItemsAre (mixKind P w) ks us
 | [], _, r => by rw [List.map_nil] at r; cases r; exact .nil
 | k :: ks, _, r => by
  rw [List.map_cons] at r
  cases r with
  | cons h t => exact .cons (kV_is h) (items_are t)
noncomputable abbrev KT (H : Hp) : List (List Key × V) -> List (List Key × Addr × Value) -> Prop := Paired fun p q => p.1 = q.1 /\ H q.2.1 = some (.tup (p.1.map kV)) /\ RelV p.2 q.2.2
theorem KT.val {H : Hp} {kvs : List (List Key × V)} {xs : List (List Key × Addr × Value)} (r : KT H kvs xs) (k : List Key) : RelO (valV kvs k) ((atKey xs k).map (·.2)) := by
 induction r with
 | nil => exact True.intro
 | @cons p q ps qs h t ih =>
  obtain ⟨h1, _, h2⟩ := h
  by_cases e : p.1 = k
  ·have e' : q.1 = k := h1.symm.trans e
   have b : atKey (q :: qs) k = some q.2 := by simp [atKey, List.find?_cons, e']
   rw [valV_pos e, b]; exact h2
  ·have e' : ¬ q.1 = k := fun z => e (h1.trans z)
   have b : atKey (q :: qs) k = atKey qs k := by simp [atKey, List.find?_cons, e']
   rw [valV_neg e, b]; exact ih
theorem KT.repl {H : Hp} {kvs : List (List Key × V)} {xs : List (List Key × Addr × Value)} (r : KT H kvs xs) (k : List Key) {y : V} {u : Value} (ry : RelV y u) :
  KT H (kvs.map fun kv => if kv.1 = k then (kv.1, y) else kv) (xs.map (putAt k u)) := by
 induction r with
 | nil => exact .nil
 | @cons p q ps qs h t ih =>
  rw [List.map_cons, List.map_cons]
  refine .cons ?_ ih
  obtain ⟨h1, h2, h3⟩ := h
  unfold putAt
  by_cases e : p.1 = k
  ·rw [if_pos e, if_pos (h1.symm.trans e)]; exact ⟨h1, h2, ry⟩
  ·rw [if_neg e, if_neg (fun z => e (h1.trans z))]; exact ⟨h1, h2, h3⟩
theorem KT.put {H : Hp} {kvs : List (List Key × V)} {xs : List (List Key × Addr × Value)} (r : KT H kvs xs) (k : List Key) {b : Addr} {y : V} {u : Value} (hb : H b = some (.tup (k.map kV))) (ry : RelV y u) :
  KT H (putK kvs k y) (storedH xs k b u) := by
 have e : (kvs.any fun kv => decide (kv.1 = k)) = (atKey xs k).isSome := by
  rw [valV_any, (r.val k).isSome_eq, Option.isSome_map]
 unfold putK storedH
 rw [e]
 by_cases q : (atKey xs k).isSome = true
 ·rw [if_pos q, if_pos q]; exact r.repl k ry
 ·rw [if_neg q, if_neg q]; exact Paired.snoc r ⟨rfl, hb, ry⟩
theorem KT.keeps {H H' : Hp} {kvs : List (List Key × V)} {xs : List (List Key × Addr × Value)} (r : KT H kvs xs) (ht : ∀ b ys, H b = some (.tup ys) -> H' b = some (.tup ys)) : KT H' kvs xs :=
 Paired.mapP r fun _ _ z => ⟨z.1, ht _ _ z.2.1, z.2.2⟩
section
variable {P : Program} {w : World} {H : Hp} {h : Heap} {a : Addr}
theorem rd_of {u : HO} (ok : HOk P w H h) (e : Rd H a u) : ObjOk P w H h a u := e.ok ok
theorem dk_rd {kvs : List (Key × V)} (ok : HOk P w H h) (e : Rd H a (.dK kvs)) : kvs.length <= sizeLine /\ (a == sysModules) = false /\ ∃ vs, KV kvs vs /\ h.DictOf (mixKind P w) a vs :=
 show ObjOk P w H h a (.dK kvs) from rd_of ok e
theorem dk_of {kvs : List (Key × V)} (ok : HOk P w H h) (e : H a = some (.dK kvs)) : kvs.length <= sizeLine /\ (a == sysModules) = false /\ ∃ vs, KV kvs vs /\ h.DictOf (mixKind P w) a vs := dk_rd ok (.inl e)
theorem key_of {ks : List Key} (ok : HOk P w H h) (e : H a = some (.tup (ks.map kV))) : (tupleKind (mixKind P w)).is h ks a := by
 obtain ⟨_, its, r, o, h1, h2, ⟨n, h3⟩, _⟩ := (show ObjOk P w H h a (.tup (ks.map kV)) from ok a _ e)
 exact ⟨o, its.toArray, n, h1, h2, h3, by simpa using items_are r⟩
theorem dt_rd {kvs : List (List Key × V)} (ok : HOk P w H h) (e : Rd H a (.dT kvs)) : kvs.length <= sizeLine /\ (a == sysModules) = false /\
  ∃ xs, KT H kvs xs /\ h.DictOfH (tupleKind (mixKind P w)) a xs := by
 obtain ⟨z, y, xs, r, o, es, ep, h1, h2, h3, h4, h5⟩ := (show ObjOk P w H h a (.dT kvs) from rd_of ok e)
 refine ⟨z, y, xs, r, o, es, ep, h1, h2, h3, h4, fun x hx => ?_, h5⟩
 have all : ∀ {l : List (List Key × V)} {m : List (List Key × Addr × Value)}, KT H l m -> ∀ x ∈ m, (tupleKind (mixKind P w)).is h x.1 x.2.1 := by
  intro l m q
  induction q with
  | nil => intro x hx; exact nomatch hx
  | @cons p q ps qs hq t ih =>
   intro x hx
   rcases List.mem_cons.mp hx with e | hx
   ·subst e
    exact key_of ok (by rw [<- hq.1]; exact hq.2.1)
   ·exact ih x hx
 exact all r x hx
theorem dt_of {kvs : List (List Key × V)} (ok : HOk P w H h) (e : H a = some (.dT kvs)) : kvs.length <= sizeLine /\ (a == sysModules) = false /\
  ∃ xs, KT H kvs xs /\ h.DictOfH (tupleKind (mixKind P w)) a xs := dt_rd ok (.inl e)
end
noncomputable def DGet (H : Hp) (a : Addr) (y : V) (r : Option V) : Prop :=
 (∃ kvs k, Rd H a (.dK kvs) /\ y = kV k /\ r = valV kvs k) ∨ ∃ kvs k b, Rd H a (.dT kvs) /\ y = .ref b /\ H b = some (.tup (k.map kV)) /\ r = valV kvs k
noncomputable def DPut (H : Hp) (a : Addr) (y v : V) (H' : Hp) : Prop :=
 (∃ kvs k, H a = some (.dK kvs) /\ y = kV k /\ kvs.length < sizeLine /\ H' = upd H a (.dK (putK kvs k v))) ∨
 ∃ kvs k b, H a = some (.dT kvs) /\ y = .ref b /\ H b = some (.tup (k.map kV)) /\ kvs.length < sizeLine /\ H' = upd H a (.dT (putK kvs k v))
theorem DGet.k {H : Hp} {a : Addr} {kvs : List (Key × V)} {k : Key} (e : H a = some (.dK kvs)) : DGet H a (kV k) (valV kvs k) := .inl ⟨kvs, k, .inl e, rfl, rfl⟩
section
variable {X : Cx} {pins : List (Addr × Obj)} {σ : St} {H : Hp} {s : Shared} {a : Addr} {y v : V} {u r : Value} {o : Option V} {A : Around} {E : Value -> Shared -> Prop}
theorem Inv.big (I : Inv X pins σ H s) : sysModules < s.heap.objs.size := by
 have h : mainGlobals < s.heap.objs.size := (I.mod.glob.keeps I.bk).lt
 exact Nat.lt_trans (by decide) h
theorem d_getItem {Q : Value -> Shared -> Prop} (hu : A.units + 1 < cLine) (I : Inv X pins σ H s) (g : DGet H a y (some v)) (ry : RelV y u) (h : ∀ w' s', Inv X pins σ H s' -> RelV v w' -> Q w' s') :
  wpAny (model X.prog X.w) A (getItem (.ref a) u) Q E s := by
 rcases g with ⟨kvs, k, e, ey, l⟩ | ⟨kvs, k, b, e, ey, eb, l⟩
 ·subst ey
  obtain ⟨z, hd, vs, rel, dd⟩ := dk_rd I.hok e
  obtain ⟨w', hw, rw'⟩ := RelO.some_of (v := v) (o := valueAt vs k) (by rw [l]; exact rel.val k)
  exact wpAny_getItem_of (kV_is ry) dd.mapOf hw (h w' _ (I.tok _) rw')
 ·subst ey
  cases (show u = Value.ref b from ry)
  obtain ⟨z, hd, xs, rel, dd⟩ := dt_rd I.hok e
  obtain ⟨w', hw, rw'⟩ := RelO.some_of (v := v) (o := (atKey xs k).map (·.2)) (by rw [l]; exact rel.val k)
  obtain ⟨p, hp, hp2⟩ := Option.map_eq_some_iff.mp hw
  refine wpAny_getItem_heap (tupleKind_room_in1 hu) (key_of I.hok eb) dd hp ?_
  rw [hp2]
  exact h w' _ (I.tok _) rw'
theorem d_write {h' : Heap} {t' : Nat} {ob : HO} (I : Inv X pins σ H s) (mu : Mut (H a)) (hs : Heap.SameBut a s.heap h') (he : ∃ q, h'.get? a = some q) (new : ObjOk X.prog X.w (upd H a ob) h' a ob) :
  Inv X pins σ (upd H a ob) { s with heap := h', toks := t' } :=
 I.write (x := a) (e := a) mu (.inl rfl) (fun b q hb z => (hs.2 b hb).trans z) he new
theorem dk_new {P : Program} {w : World} {H' : Hp} {h' : Heap} {kvs : List (Key × V)} {vs : List (Key × Value)} (z : kvs.length <= sizeLine) (hd : (a == sysModules) = false) (rel : KV kvs vs) (dd : h'.DictOf (mixKind P w) a vs) :
  ObjOk P w H' h' a (.dK kvs) := ⟨z, hd, vs, rel, dd⟩
theorem d_setItem {H' : Hp} {Q : Unit -> Shared -> Prop} (hu : A.units + 1 < cLine) (I : Inv X pins σ H s) (g : DPut H a y v H') (ry : RelV y u) (rv : RelV v r) (h : ∀ s', Inv X pins σ H' s' -> Q () s') :
  wpAny (model X.prog X.w) A (setItem (.ref a) u r) Q E s := by
 rcases g with ⟨kvs, k, e, ey, l, eH⟩ | ⟨kvs, k, b, e, ey, eb, l, eH⟩
 ·subst ey eH
  obtain ⟨z, hd, vs, rel, dd⟩ := dk_of I.hok e
  have hz : vs.length <= sizeLine := by rw [<- rel.length]; exact z
  have hl : (putK kvs k v).length <= sizeLine := by have := length_putK kvs k v; (first | lia | omega)
  refine wpAny_setItem_pairs (hsz := hz) (kV_is ry) dd fun h' dd' hs => h _ ?_
  have he : ∃ q, h'.get? a = some q := let ⟨q, _, _, hq, _⟩ := dd'; ⟨q, hq⟩
  exact d_write I (by rw [e]; exact True.intro) hs he (dk_new hl hd (rel.put k rv) dd')
 ·subst ey eH
  cases (show u = Value.ref b from ry)
  obtain ⟨z, hd, xs, rel, dd⟩ := dt_of I.hok e
  have hz : xs.length <= sizeLine := by rw [<- Paired.length rel]; exact z
  have hl : (putK kvs k v).length <= sizeLine := by have := length_putK kvs k v; (first | lia | omega)
  refine wpAny_setItem_heap (hsz := hz) (tupleKind_room_in1 hu) (key_of I.hok eb) dd fun h' dd' hs => h _ ?_
  obtain ⟨q, es, ep, hq, h2, h3, h4, _, h5⟩ := dd'
  refine d_write I (by rw [e]; exact True.intro) hs ⟨q, hq⟩ ⟨hl, hd, _, (rel.put k eb rv).keeps fun c ys ec => ?_, q, es, ep, hq, h2, h3, h4, h5⟩
  rw [upd_ne (ne_of ec e (fun z => nomatch z))]
  exact ec
end
section
variable {X : Cx} {pins : List (Addr × Obj)} {σ : St} {H : Hp} {s : Shared} {a : Addr} {kvs : List (Key × V)} {k : Key} {u : Value} {A : Around} {E : Value -> Shared -> Prop}
end
noncomputable def NoSl (i : Expr) : Prop := ∀ ov iv, subscripted i false ov iv = operate [ov, iv] (getItem ov iv)
theorem subD_of {prog : Program} {w : World} {A : Around} {E : Value -> Shared -> Prop} {s : Shared} {env : Env} {value slice : Expr} {pos : Pos} {T id : String} {Q : Value -> Shared -> Prop}
  (hl : typeLookup (.type T) "__getitem__" = pure (some (.builtin id))) (hs : NoSl slice)
  (h : wpAny (model prog w) A (eval value env) (fun o s₁ => wpAny (model prog w) A (eval slice env) (fun i s₂ => s₂.TypeIs o T /\ wpAny (model prog w) A (getItem o i) Q E s₂) E s₁) E s) :
  wpAny (model prog w) A (eval (.Subscript value slice pos) env) Q E s := by
 refine Subscript_ (wpAny_mono h (fun o s₁ h₁ => wpAny_mono h₁ (fun i s₂ h₂ => ?_) fun _ _ x => x) fun _ _ x => x)
 obtain ⟨hT, h₂⟩ := h₂
 unfold subscriptTail
 refine wpAny_bind ?_
 rw [getitemInPython_of_ne hT.not_modules]
 refine wpAny_bind (wpAny_specialOf hT hl ?_)
 have fin : wpAny (model prog w) A (subscripted slice false o i) (fun r s₃ => wpAny (model prog w) A (letTemporaryGo value o r >>= fun _ => pure r) Q E s₃) E s₂ := by
  rw [hs o i]
  exact wpAny_operating (wpAny_mono h₂ (fun r s₃ h₃ => wpAny_bind (wpAny_letTemporaryGo (wpAny_pure h₃))) fun _ _ x => x)
 first
  | exact wpAny_pure (wpAny_bind fin)
  | exact wpAny_bind (wpAny_pure (wpAny_bind fin))
  | exact wpAny_bind fin
theorem dict_typeIs {X : Cx} {pins : List (Addr × Obj)} {σ : St} {H : Hp} {s : Shared} {a : Addr} {y : V} {o : Option V} (I : Inv X pins σ H s) (g : DGet H a y o) : s.TypeIs (.ref a) "dict" := by
 rcases g with ⟨kvs, k, e, _, _⟩ | ⟨kvs, k, b, e, _, _, _⟩
 ·obtain ⟨_, _, vs, _, dd⟩ := dk_rd I.hok e
  exact dd.typeIs
 ·obtain ⟨_, _, xs, _, dd⟩ := dt_rd I.hok e
  exact dd.typeIs
noncomputable def tDGet (td ty : TE) : TE := fun σ H Q => td σ H fun x H1 => ty σ H1 fun y H2 => ∃ a v, x = .ref a /\ DGet H2 a y (some v) /\ Q v H2
noncomputable def sDPut (td ty tv : TE) : TS := fun D σ H => tv σ H fun v H1 => td σ H1 fun x H2 => ty σ H2 fun y H3 => ∃ a H4, x = .ref a /\ DPut H3 a y v H4 /\ D.nx σ H4
section
variable {X : Cx} {o i e value : Expr} {pos pos' tpos : Pos} {td ty tv : TE}
theorem pe_dget (hu : X.A.units + 1 < cLine) (ho : PE X o td) (hi : PE X i ty) (hs : NoSl i) : PE X (.Subscript o i pos) (tDGet td ty) := by
 intro pins s σ H Q I h
 refine subD_of PySem.F.slot_dict_getitem.lookup hs (thn (ho pins s σ H _ I h) fun u s1 ⟨x, H1, I1, rx, q1⟩ => thn (hi pins s1 σ H1 _ I1 q1) fun iv s2 ⟨y, H2, I2, ry, a, v, ex, g, q2⟩ => ?_)
 subst ex
 obtain rfl : u = Value.ref a := rx
 exact ⟨dict_typeIs I2 g, d_getItem hu I2 g ry fun w' s3 I3 rw' => ⟨v, H2, I3, rw', q2⟩⟩
theorem ps_dput (hu : X.A.units + 1 < cLine) (ho : PE X o td) (hi : PE X i ty) (hv : PE X value tv) (hs : swapsWith value (some (.Subscript o i pos')) pos.line X.env = pure false) :
  PS X (.Assign [.Subscript o i pos'] value pos) (sDPut td ty tv) := by
 intro pins s σ H D I h
 refine wpAny_Assign_Subscript (thn (hv pins s σ H _ I h) fun r s1 ⟨v, H1, I1, rv, q1⟩ => thn (ho pins s1 σ H1 _ I1 q1) fun u s2 ⟨x, H2, I2, rx, q2⟩ => thn (hi pins s2 σ H2 _ I2 q2) fun iv s3 ⟨y, H3, I3, ry, a, H4, ex, g, q3⟩ => ?_) hs
 subst ex
 obtain rfl : u = Value.ref a := rx
 exact d_setItem hu I3 g ry rv fun s4 I4 => ⟨σ, H4, I4, q3⟩
end
theorem dk_empty {P : Program} {w : World} {H : Hp} (h : Heap) (hb : sysModules < h.objs.size) : ObjOk P w H (h.push { cls := .type "dict", data := .dict #[] }) h.objs.size (.dK []) :=
 ⟨Nat.zero_le _, beq_eq_false_iff_ne.mpr (Ne.symm (Nat.ne_of_lt hb)), [], .nil, Heap.DictOf.new h⟩
section
variable {X : Cx} {pos : Pos}
end
structure M1 (X : Cx) (o : Expr) (m : Str) (apos : Pos) (e : Expr) (cpos : Pos) : Prop where
 base : attributeBase o m X.env (eval o X.env) = eval o X.env
 few : ((backTo cpos (starEach [e] X.env)).all (fun x => !x.1) && (backToKw cpos (keywordEach [] X.env)).all (fun x => x.1.isSome)
  && decide (([e] : List Expr).length + ([] : List Keyword).length + (if ([] : List Keyword).isEmpty then 0 else 1) < 30)) = true
 line : (apos.endLine == cpos.line) = true
 trees : backTo cpos (starEach [e] X.env) = [(false, eval e X.env)]
structure M2 (X : Cx) (o : Expr) (m : Str) (apos : Pos) (e f : Expr) (cpos : Pos) : Prop where
 base : attributeBase o m X.env (eval o X.env) = eval o X.env
 few : ((backTo cpos (starEach [e, f] X.env)).all (fun x => !x.1) && (backToKw cpos (keywordEach [] X.env)).all (fun x => x.1.isSome)
  && decide (([e, f] : List Expr).length + ([] : List Keyword).length + (if ([] : List Keyword).isEmpty then 0 else 1) < 30)) = true
 line : (apos.endLine == cpos.line) = true
 trees : backTo cpos (starEach [e, f] X.env) = [(false, eval e X.env), (false, eval f X.env)]
noncomputable def IsD (H : Hp) (a : Addr) : Prop := (∃ kvs, Rd H a (.dK kvs)) ∨ ∃ kvs, Rd H a (.dT kvs)
theorem isD_at {X : Cx} {pins : List (Addr × Obj)} {σ : St} {H : Hp} {s : Shared} {a : Addr} (I : Inv X pins σ H s) (d : IsD H a) :
  s.TypeIs (.ref a) "dict" /\ (∀ b, Value.ref a = .ref b -> ∃ ob, s.heap.get? b = some ob /\ ob.dict = none) /\ (a == sysModules) = false := by
 rcases d with ⟨kvs, e⟩ | ⟨kvs, e⟩
 ·obtain ⟨_, hd, vs, _, dd⟩ := dk_rd I.hok e
  refine ⟨dd.typeIs, fun b q => ?_, hd⟩
  cases q
  obtain ⟨ob, _, _, h1, h2, _⟩ := dd
  exact ⟨ob, h1, h2.2.1⟩
 ·obtain ⟨_, hd, xs, _, dd⟩ := dt_rd I.hok e
  refine ⟨dd.typeIs, fun b q => ?_, hd⟩
  cases q
  obtain ⟨ob, _, _, h1, h2, _⟩ := dd
  exact ⟨ob, h1, h2.2.1⟩
section
variable {X : Cx} {pins : List (Addr × Obj)} {σ : St} {H : Hp} {s : Shared} {a : Addr} {y d : V} {u r : Value} {o : Option V} {A : Around} {E : Value -> Shared -> Prop}
theorem d_get2 {Q : Value -> Shared -> Prop} (hu : A.units + 1 < cLine) (I : Inv X pins σ H s) (g : DGet H a y o) (ry : RelV y u) (rd : RelV d r) (h : ∀ w' s', Inv X pins σ H s' -> RelV (o.getD d) w' -> Q w' s') :
  wpAny (model X.prog X.w) A (call (.builtin "dict.get") [.ref a, u, r]) Q E s := by
 rcases g with ⟨kvs, k, e, ey, l⟩ | ⟨kvs, k, b, e, ey, eb, l⟩
 ·subst ey
  obtain ⟨z, hd, vs, rel, dd⟩ := dk_rd I.hok e
  refine call_meetsIn PySem.F.slot_dict_get dd.typeIs PySem.F.entry_dict_get (PySem.F.args_dict_get_3 _ _ _) (meets_dict_get_default (mixKind X.prog X.w) a (kV_is ry) hd r) ⟨_, dd.mapOf, h _ _ (I.tok _) ?_⟩
  rw [l]
  exact (rel.val k).getD rd
 ·subst ey
  cases (show u = Value.ref b from ry)
  obtain ⟨z, hd, xs, rel, dd⟩ := dt_rd I.hok e
  refine call_meetsIn PySem.F.slot_dict_get dd.typeIs PySem.F.entry_dict_get (PySem.F.args_dict_get_3 _ _ _) (meetsH_dict_get_default (tupleKind (mixKind X.prog X.w)) a b hd r) ⟨tupleKind_room_in1 hu, k, xs, key_of I.hok eb, dd, h _ _ (I.tok _) ?_⟩
  rw [l]
  exact (rel.val k).getD rd
end
noncomputable def tDGet2 (td ty tx : TE) : TE := fun σ H Q => td σ H fun x H1 => ∃ a, x = .ref a /\ IsD H1 a /\ ty σ H1 fun y H2 => tx σ H2 fun z H3 => ∃ o, DGet H3 a y o /\ Q (o.getD z) H3
section
variable {X : Cx} {o e f : Expr} {apos cpos : Pos} {td ty tx : TE}
theorem pe_dget2 (hu : X.A.units + 1 < cLine) (ho : PE X o td) (he : PE X e ty) (hf : PE X f tx) (m : M2 X o "get" apos e f cpos) : PE X (.Call (.Attribute o "get" apos) [e, f] [] cpos) (tDGet2 td ty tx) := by
 intro pins s σ H Q I h
 refine wpAny_Call_method m.base m.few m.line PySem.F.plainAttrs_dict PySem.F.slot_dict_get PySem.F.type_dict_get (thn (ho pins s σ H _ I h) fun u s1 zq => ?_)
 obtain ⟨x, H1, I1, rx, a, ex, d, q1⟩ := zq
 subst ex
 obtain rfl : u = Value.ref a := rx
 obtain ⟨t1, t2, _⟩ := isD_at I1 d
 refine ⟨t1, t2, ?_⟩
 rw [m.trees]
 refine Calls.callWith_builtin rfl (Calls.evalArgs_plain (Calls.spliced_cons (thn (he pins s1 σ H1 _ I1 q1) fun iv s2 ⟨y, H2, I2, ry, q2⟩ =>
  Calls.spliced_cons (thn (hf pins s2 σ H2 _ I2 q2) fun fv s3 ⟨z, H3, I3, rz, ov, g, q3⟩ => Calls.spliced_nil ?_))))
 exact d_get2 hu I3 g ry rz fun w' s4 I4 rw' => ⟨_, H3, I4, rw', q3⟩
end
section
variable {X : Cx} {pins : List (Addr × Obj)} {σ : St} {H : Hp} {s : Shared} {a : Addr} {kvs : List (Key × V)} {A : Around} {E : Value -> Shared -> Prop}
end
section
variable {X : Cx} {pins : List (Addr × Obj)} {σ : St} {H : Hp} {s : Shared} {a : Addr} {y : V} {u : Value} {A : Around} {E : Value -> Shared -> Prop}
end
end L2
namespace L2
open PySem PySem.Spec PyProof.Rows
noncomputable def kD : Key -> PyData
 | .inl i => .int i
 | .inr x => .str x
mutual
inductive IsY (S : Addr -> Prop) (H : Hp) : V -> PyData -> Prop
 | non : IsY S H .non .none
 | bl (b : Bool) : IsY S H (.bl b) (.bool b)
 | int (i : Int) : IsY S H (.int i) (.int i)
 | str (x : Str) : IsY S H (.str x) (.str x)
 | tup {a : Addr} {vs : List V} {ds : List PyData} : H a = some (.tup vs) -> IsAllY S H vs ds -> IsY S H (.ref a) (.tuple ds)
 | lst {a : Addr} {vs : List V} {ds : List PyData} : H a = some (.lst vs) -> S a -> IsAllY S H vs ds -> IsY S H (.ref a) (.list ds)
 | d0 {a : Addr} : H a = some (.dK []) -> IsY S H (.ref a) (.dict [])
 | d1 {a : Addr} {k : Key} {v : V} {d : PyData} : H a = some (.dK [(k, v)]) -> IsY S H v d -> IsY S H (.ref a) (.dict [(kD k, d)])
inductive IsAllY (S : Addr -> Prop) (H : Hp) : List V -> List PyData -> Prop
 | nil : IsAllY S H [] []
 | cons {v : V} {vs : List V} {d : PyData} {ds : List PyData} : IsY S H v d -> IsAllY S H vs ds -> IsAllY S H (v :: vs) (d :: ds)
end
section
variable {X : Cx} {pins : List (Addr × Obj)} {σ : St} {H : Hp} {s : Shared}
end
end L2
namespace L2
open PySem PySem.Spec PyProof.Rows
end L2
namespace L2
open PySem PySem.Spec PyProof.Rows
end L2
namespace L2
open PySem PySem.Spec PyProof.Rows
end L2
namespace L2
open PySem PySem.Spec PyProof.Rows
end L2
namespace L2
open PySem PySem.Spec PyProof.Rows
end L2
namespace L2
open PySem PySem.Spec PyProof.Rows
end L2
namespace L2
open PySem PySem.Spec PyProof.Rows
end L2
namespace L2
open PySem PySem.Spec PyProof.Rows
noncomputable def lit : Nat -> Expr -> Option PyData
 | 0, _ => none
 | _ + 1, .Constant .none _ _ => some .none
 | _ + 1, .Constant (.bool b) _ _ => some (.bool b)
 | _ + 1, .Constant (.int i) _ _ => some (.int i)
 | _ + 1, .Constant (.str x) _ _ => some (.str x)
 | _ + 1, .UnaryOp .USub (.Constant (.int i) _ _) _ => some (.int (-i))
 | n + 1, .Tuple es _ _ => if es.length <= 100 then (es.mapM (lit n)).map PyData.tuple else none
 | n + 1, .List es _ => if es.length <= 100 then (es.mapM (lit n)).map PyData.list else none
 | _ + 1, .Dict [] [] _ => some (.dict [])
 | _ + 1, _ => none
end L2
namespace L2
open PySem PySem.Spec PyProof.Rows
structure PEw (X : Cx) (e : Expr) (t : TE) : Prop where
 h : PE X e t
structure PAw (X : Cx) (e : List Expr) (t : TA) : Prop where
 h : PA X e t
structure PTw (X : Cx) (e : Expr) (t : TT) : Prop where
 h : PT X e t
structure PWw (X : Cx) (e : Expr) (t : TT) : Prop where
 h : PW X e t
structure PSw (X : Cx) (e : Stmt) (t : TS) : Prop where
 h : PS X e t
structure PSsw (X : Cx) (e : List Stmt) (t : TS) : Prop where
 h : PSs X e t
end L2
namespace Wr
open PySem PySem.Spec PyProof.Rows L2
end Wr
namespace L2
open PySem PySem.Spec PyProof.Rows
noncomputable def tD3 (k1 k2 k3 : Str) (t1 t2 t3 : TE) : TE := fun σ H Q => ∀ d, H d = none -> t1 σ (upd H d (.dK [])) fun v1 H1 => t2 σ H1 fun v2 H2 => t3 σ H2 fun v3 H3 => H3 d = some (.dK []) /\ Q (.ref d) (upd H3 d (.dK [(.inr k1, v1), (.inr k2, v2), (.inr k3, v3)]))
theorem pe_dict3 {X : Cx} {pos : Pos} {k1 k2 k3 : Str} {a1 a2 a3 b1 b2 b3 : Expr} {t1 t2 t3 : TE} (n12 : k1 ≠ k2) (n13 : k1 ≠ k3) (n23 : k2 ≠ k3) (q1 : PE X a1 (tC (.str k1))) (q2 : PE X a2 (tC (.str k2))) (q3 : PE X a3 (tC (.str k3))) (p1 : PE X b1 t1) (p2 : PE X b2 t2) (p3 : PE X b3 t3) :
  PE X (.Dict [some a1, some a2, some a3] [b1, b2, b3] pos) (tD3 k1 k2 k3 t1 t2 t3) := by
 intro pins s σ H Q I h
 have hd0 : H s.heap.objs.size = none := I.hok.fresh (Nat.le_refl _)
 have h := h _ hd0
 refine wpAny_Dict_walk (knd := mixKind X.prog X.w) rfl rfl (by simp) (by show 3 <= 15; decide) ?_
 have I0 : Inv X pins σ (upd H s.heap.objs.size (.dK [])) { s with heap := s.heap.push { cls := .type "dict", data := .dict #[] } } := I.laid (a := s.heap.objs.size) (o := .dK []) (t' := s.toks) (fun _ _ q => Heap.get?_push_of_some _ q) (Nat.le_refl _) (dk_empty s.heap I.big)
 refine evalPairs_cons (thn (q1 pins _ σ _ (fun x H' => x = .str k1 /\ H' = upd H s.heap.objs.size (.dK [])) I0 ⟨rfl, rfl⟩) fun u1 s1 zq => ?_)
 obtain ⟨x1, H1, I1, r1, e1, e1'⟩ := zq
 subst e1 e1'
 refine wpAny_bind (thn (p1 pins s1 σ _ _ I1 h) fun w1 s2 ⟨v1, H2, I2, rv1, h⟩ => wpAny_bind (wpAny_standAt (wpAny_pure ?_)))
 refine evalPairs_cons (thn (q2 pins s2 σ _ (fun x H' => x = .str k2 /\ H' = H2) I2 ⟨rfl, rfl⟩) fun u2 s3 zq => ?_)
 obtain ⟨x2, H3, I3, r2, e2, e2'⟩ := zq
 subst e2 e2'
 refine wpAny_bind (thn (p2 pins s3 σ _ _ I3 h) fun w2 s4 ⟨v2, H4, I4, rv2, h⟩ => wpAny_bind (wpAny_standAt (wpAny_pure ?_)))
 refine evalPairs_cons (thn (q3 pins s4 σ _ (fun x H' => x = .str k3 /\ H' = H4) I4 ⟨rfl, rfl⟩) fun u3 s5 zq => ?_)
 obtain ⟨x3, H5, I5, r3, e3, e3'⟩ := zq
 subst e3 e3'
 refine wpAny_bind (thn (p3 pins s5 σ _ _ I5 h) fun w3 s6 ⟨v3, H6, I6, rv3, hd6, h⟩ => wpAny_bind (wpAny_standAt (wpAny_pure (evalPairs_nil ?_))))
 refine ⟨[(.inr k1, w1), (.inr k2, w2), (.inr k3, w3)], ⟨kV_is (k := .inr k1) r1, rfl, kV_is (k := .inr k2) r2, rfl, kV_is (k := .inr k3) r3, rfl, trivial⟩, ?_, fun h' dd' hs => ?_⟩
 ·obtain ⟨z, hd, vs, rel, dd⟩ := dk_of I6.hok hd6
  cases rel
  exact dd
 ·have em : merged [] [((Sum.inr k1 : Key), w1), (.inr k2, w2), (.inr k3, w3)] = [(.inr k1, w1), (.inr k2, w2), (.inr k3, w3)] := by
   unfold merged stored
   have a12 : ¬ (Sum.inr k1 : Key) = .inr k2 := fun z => n12 (Sum.inr.inj z)
   have a13 : ¬ (Sum.inr k1 : Key) = .inr k3 := fun z => n13 (Sum.inr.inj z)
   have a23 : ¬ (Sum.inr k2 : Key) = .inr k3 := fun z => n23 (Sum.inr.inj z)
   simp [n12, n13, n23]
  rw [em] at dd'
  obtain ⟨z, hd, vs, rel, dd⟩ := dk_of I6.hok hd6
  have he : ∃ q, h'.get? s.heap.objs.size = some q := let ⟨q, _, _, hq, _⟩ := dd'; ⟨q, hq⟩
  refine ⟨.ref s.heap.objs.size, _, d_write I6 (by rw [hd6]; exact True.intro) hs he (dk_new (by show 3 <= sizeLine; decide) hd (.cons ⟨rfl, rv1⟩ (.cons ⟨rfl, rv2⟩ (.cons ⟨rfl, rv3⟩ .nil))) dd'), rfl, h⟩
end L2
namespace L2
open PySem PySem.Spec PyProof.Rows
noncomputable def sprD (q : Addr) (s t : Int) : List (Key × V) := [(.inr "own", .ref q), (.inr "seed", .int s), (.inr "turn", .int t)]
noncomputable def Spring (H : Hp) (p q : Addr) (n : Nat) : Prop := ∃ (ns : List Int) (s t : Int), H p = some (.dK (sprD q s t)) /\ H q = some (.lst (ns.map V.int)) /\ (∀ m ∈ ns, 0 <= m) /\ ns.length <= 63 /\ 0 <= s /\ s < 2305843009213693951 /\ 0 <= t /\ t <= n
theorem Spring.same {H H' : Hp} {p q : Addr} {n : Nat} (h : Spring H p q n) (sm : Same H H') : Spring H' p q n := by
 obtain ⟨ns, s, t, h1, h2, h3⟩ := h
 exact ⟨ns, s, t, sm _ _ h1, sm _ _ h2, h3⟩
theorem Spring.more {H : Hp} {p q : Addr} {n m : Nat} (h : Spring H p q n) (l : n <= m) : Spring H p q m := by
 obtain ⟨ns, s, t, h1, h2, h3, h4, h5, h6, h7, h8⟩ := h
 exact ⟨ns, s, t, h1, h2, h3, h4, h5, h6, h7, by (first | lia | omega)⟩
theorem Spring.new {H : Hp} {p q a : Addr} {n : Nat} (h : Spring H p q n) (e : H a = none) : a ≠ p /\ a ≠ q := by
 obtain ⟨ns, s, t, h1, h2, _⟩ := h
 exact ⟨(fun z => by rw [z, h1] at e; cases e), (fun z => by rw [z, h2] at e; cases e)⟩
theorem Spring.tup_ne {H : Hp} {p q a : Addr} {n : Nat} {xs : List V} (h : Spring H p q n) (e : H a = some (.tup xs)) : a ≠ p /\ a ≠ q := by
 obtain ⟨ns, s, t, h1, h2, _⟩ := h
 exact ⟨ne_of e h1 (by intro z; cases z), ne_of e h2 (by intro z; cases z)⟩
theorem spr_own {H : Hp} {p q : Addr} {s t : Int} (h : H p = some (.dK (sprD q s t))) : DGet H p (.str "own") (some (.ref q)) := .inl ⟨_, .inr "own", .inl h, rfl, by unfold sprD valV; rfl⟩
theorem spr_seed {H : Hp} {p q : Addr} {s t : Int} (h : H p = some (.dK (sprD q s t))) : DGet H p (.str "seed") (some (.int s)) := .inl ⟨_, .inr "seed", .inl h, rfl, by unfold sprD valV; rfl⟩
theorem spr_turn {H : Hp} {p q : Addr} {s t : Int} (h : H p = some (.dK (sprD q s t))) : DGet H p (.str "turn") (some (.int t)) := .inl ⟨_, .inr "turn", .inl h, rfl, by unfold sprD valV; rfl⟩
theorem spr_put {H : Hp} {p q : Addr} {s t u : Int} (h : H p = some (.dK (sprD q s t))) : DPut H p (.str "turn") (.int u) (upd H p (.dK (sprD q s u))) := .inl ⟨_, .inr "turn", h, rfl, by show 3 < sizeLine; decide, by congr 2⟩
noncomputable def spSpring (K : PySem.W.Frag) : Sp := fun vs H Q _ => ∃ (a : Addr) (ns : List Int), vs = [.ref a] /\ SqL K H a (ns.map V.int) /\ ns.length <= 63 /\ ∀ p q H', Same H H' -> Spring H' p q 0 -> H p = none -> H q = none -> Q (.ref p) H'
noncomputable def spTakeS : Sp := fun vs H Q _ => ∃ (p q : Addr) (m : Int) (n : Nat), vs = [.ref p, .int m] /\ 0 < m /\ m < 1073741824 /\ Spring H p q n /\ n < 1000000 /\ ∀ d H', 0 <= d -> d < m -> Spring H' p q (n + 1) -> Keep p q H H' -> Q (.int d) H'
theorem neNilS {H : Hp} {q e : Addr} {ns : List Int} {Q : VK} (hq : H q = some (.lst (ns.map V.int))) (he : H e = none) (h : Q (.bl (!ns.isEmpty)) (upd H e (.lst []))) : rNeD (.ref q) (.ref e) (upd H e (.lst [])) Q := by
 have hq' : (upd H e (.lst [])) q = some (.lst (ns.map V.int)) := by rw [upd_ne (ne_of_none hq he)]; exact hq
 refine ⟨_, _, .lst hq' (IsAll.ints ns), .lst (vs := []) upd_same .nil, shaped_lints ns, shaped_lints [], ?_⟩
 have : PyData.eqv (.list (ns.map PyData.int)) (.list []) = ns.isEmpty := by
  have := eqv_ints ns []
  show PyData.eqvAll (ns.map PyData.int) [] = _
  rw [show ([] : List PyData) = ([] : List Int).map PyData.int from rfl, this]
  cases ns <;> simp
 rw [this]
 exact h
end L2
namespace L2
open PySem PySem.Spec PyProof.Rows
end L2
namespace L2
open PySem PySem.Spec PyProof.Rows
noncomputable abbrev Sm (x : Int) (n : Nat) : Prop := Builtin.Int.intBits x <= n
structure ShB (p : Int × Int) (n : Nat) : Prop where
 pos : 0 < p.2
 s1 : Sm p.1 n
 s2 : Sm p.2 n
noncomputable def fcZ : Nat -> Int
 | 0 => 1
 | n + 1 => fcZ n * ((n : Int) + 1)
end L2
namespace L2
open PySem PySem.Spec PyProof.Rows
end L2
namespace L2
open PySem PySem.Spec PyProof.Rows
noncomputable def cdP (c : Addr) (q : Str) : HO := .ext fun h => ∃ o vs t, h.get? c = some o /\ o.data = .fields vs /\ vs[1]? = some (.str q t)
noncomputable def lmP (f : Addr) (q : Str) (params : Arguments) (body : Expr) (scope : Scope) (clos : List (Str × Addr)) (c : Addr) : HO := .ext fun h => ∃ pm ct, h.get? f = some (PySem.W.kla_obj "<lambda>" q params body scope clos pm c ct)
structure TbOk (H : Hp) (T : Addr) (q : Str) (ps : Array Value) : Prop where
 at_ : H T = some (.tbl ps)
 tri : TriplesOk ps.toList
 hit : ∀ pos cv, codeAmong pos ps.toList = some cv -> ∃ c, cv = .ref c /\ H c = some (cdP c q)
noncomputable def unt (H : Hp) (f : Addr) : Hp := fun b => if b = f then none else H b
theorem unt_ne {H : Hp} {f b : Addr} (h : b ≠ f) : unt H f b = H b := if_neg h
theorem unt_some {H : Hp} {f b : Addr} {o : HO} (e : unt H f b = some o) : b ≠ f /\ H b = some o := by
 unfold unt at e
 by_cases h : b = f
 ·rw [if_pos h] at e; cases e
 ·rw [if_neg h] at e; exact ⟨h, e⟩
theorem unt_none {H : Hp} {f b : Addr} (e : H b = none) : unt H f b = none := by
 unfold unt
 split
 ·rfl
 ·exact e
theorem among_snoc {pos : Pos} {a b : Int} {c cv : Value} : ∀ {l : List Value}, TriplesOk l -> codeAmong pos (l ++ [rawInt a, rawInt b, c]) = some cv -> codeAmong pos l = some cv ∨ cv = c := by
 intro l
 induction l using TriplesOk.induct with
 | case1 =>
  intro _ h
  refine .inr ?_
  rw [List.nil_append] at h
  unfold rawInt at h
  rw [codeAmong.eq_1] at h
  split at h
  ·exact (Option.some.inj h).symm
  ·rw [codeAmong.eq_2 pos [] (fun _ _ _ _ _ _ z => by cases z)] at h
   cases h
 | case2 i t j u v r ih =>
  intro ht h
  rw [TriplesOk.eq_2] at ht
  rw [List.cons_append, List.cons_append, List.cons_append, codeAmong.eq_1] at h
  rw [codeAmong.eq_1]
  split at h
  ·rename_i hc
   rw [if_pos hc]
   exact .inl h
  ·rename_i hc
   rw [if_neg hc]
   exact ih ht h
 | case3 t h1 h2 =>
  intro ht
  rw [TriplesOk.eq_3 t h1 h2] at ht
  exact ht.elim
noncomputable def tLam (X : Cx) (T : Addr) (q : Str) (params : Arguments) (body : Expr) (scope : Scope) : TE := fun _ H Q =>
 ∃ ps, TbOk H T q ps /\ ∀ (f c : Addr) (clos : List (Str × Addr)) (ps' : Array Value) (H' : Hp), H f = none -> f ≠ T -> f ≠ c -> TbOk (unt H' f) T q ps' -> H' f = some (lmP f q params body scope clos c) -> H' c = some (cdP c q) -> (∀ b o, H b = some o -> b ≠ T -> H' b = some o) ->
  (∀ x a, clos.lookup x = some a -> X.env.cells.lookup x = some a) -> (∀ y ∈ scope.names, y.2 = .free -> clos.lookup y.1 = X.env.cells.lookup y.1) -> Q (.ref f) H'
theorem cd_stable {c : Addr} {q : Str} {h : Heap} {o : Obj} {vs : Array Value} {t : Tok} (h1 : h.get? c = some o) (h2 : o.data = .fields vs) (h3 : vs[1]? = some (.str q t)) {P : Program} {w : World} {H : Hp} : ObjOk P w H h c (cdP c q) :=
 ⟨⟨o, vs, t, h1, h2, h3⟩, ⟨o, h1⟩, fun _ _ ⟨o', vs', t', g1, g2, g3⟩ k => ⟨o', vs', t', k _ g1, g2, g3⟩⟩
theorem pe_lam {X : Cx} {params : Arguments} {body : Expr} {scope : Scope} {pos : Pos} {q : Str} {c T : Addr} {sc : Scope} (hd : defaultsOf params X.env = ([], [])) (hq : X.env.qual ++ "<lambda>" = q)
  (hsc : X.env.scope = sc) (S : ∀ y ∈ scope.names, y.2 = .free -> sc.names.lookup y.1 = some .cell) (hc : X.env.code = .ref c) (hC : ∀ h : Heap, X.K.In h -> PySem.W.CodeHd h c T) (hB : X.base.BuiltinsAt X.mg T) (hT : mainGlobals ≠ T) :
  PE X (.Lambda params body scope pos) (tLam X T q params body scope) := by
 intro pins s σ H Q I h
 obtain ⟨ps, hTb, k⟩ := h
 subst hq
 obtain ⟨cl, hcl, hcl1, hcl2⟩ := closure_ok (env := X.env) (scope := scope) fun y hy hf => I.ok.has _ (.inl (by show X.env.scope.names.lookup y.1 = _; rw [hsc]; exact S y hy hf))
 have tab : s.heap.get? T = some (PySem.W.tabObj ps) := I.hok T _ hTb.at_
 have hTl : T < s.heap.objs.size := Heap.lt_size tab
 have nsG : s.heap.Ns mainGlobals X.mg := I.mod.glob.keeps I.bk
 refine PySem.W.kla_eval hd ?_
 cases e : codeAmong pos ps.toList with
 | none =>
  refine PySem.W.kla_makeFunction hcl I.ok.glob nsG hc (hC _ I.kIn) tab hTb.tri e hT (hB.keeps I.bk) fun c' ctv h' tk hk hc1 hc2 hcr hP => ?_
  have hf1 : s.heap.objs.size <= h'.objs.size := by (first | lia | omega)
  generalize hF : PySem.W.kla_obj "<lambda>" (X.env.qual ++ "<lambda>") params body scope cl ((X.mg "__name__").getD .none) c' ctv = fo
  have kp : ∀ b o, b ≠ T -> s.heap.get? b = some o -> (h'.push fo).get? b = some o := fun b o hb e => Heap.get?_push_of_some _ (hk b o hb e)
  have hTf : T ≠ h'.objs.size := Nat.ne_of_lt (Nat.lt_of_lt_of_le hTl hf1)
  have hTc : T ≠ c' := Nat.ne_of_lt (Nat.lt_of_lt_of_le hTl hc1)
  have hfc : h'.objs.size ≠ c' := Nat.ne_of_gt hc2
  have nf : H h'.objs.size = none := I.hok.fresh hf1
  have nc : H c' = none := I.hok.fresh hc1
  obtain ⟨cc, co, cvs, ct, ec, g1, g2, g3⟩ := hcr
  cases ec
  have gT : (h'.push fo).get? T = some (PySem.W.tabObj (ps ++ #[rawInt ↑pos.line, rawInt ↑pos.col, .ref c'])) := Heap.get?_push_of_some _ hP
  have gc := Heap.get?_push_of_some fo g1
  have gf : (h'.push fo).get? h'.objs.size = some fo := Heap.get?_push_size _ (by rw [<- hF]; rfl)
  let H' : Hp := upd (upd (upd H T (.tbl (ps ++ #[rawInt ↑pos.line, rawInt ↑pos.col, .ref c']))) c' (cdP c' (X.env.qual ++ "<lambda>"))) h'.objs.size (lmP h'.objs.size (X.env.qual ++ "<lambda>") params body scope cl c')
  have old : ∀ b o, H b = some o -> b ≠ T -> H' b = some o := fun b o e hb => by
   show upd _ _ _ b = _
   rw [upd_ne (fun z => by rw [z, nf] at e; cases e), upd_ne (fun z => by rw [z, nc] at e; cases e), upd_ne hb]
   exact e
  have hT' : H' T = some (.tbl (ps ++ #[rawInt ↑pos.line, rawInt ↑pos.col, .ref c'])) := by
   show upd _ _ _ T = _
   rw [upd_ne hTf, upd_ne hTc, upd_same]
  have hc' : H' c' = some (cdP c' (X.env.qual ++ "<lambda>")) := by
   show upd _ _ _ c' = _
   rw [upd_ne (Ne.symm hfc), upd_same]
  have hf' : H' h'.objs.size = some (lmP h'.objs.size (X.env.qual ++ "<lambda>") params body scope cl c') := upd_same
  have other : ∀ b, b ≠ h'.objs.size -> b ≠ c' -> b ≠ T -> H' b = H b := fun b h1 h2 h3 => by
   show upd _ _ _ b = _
   rw [upd_ne h1, upd_ne h2, upd_ne h3]
  refine ⟨.ref h'.objs.size, H', I.un ⟨fun b o e n _ _ => kp b o (fun z => by rw [z, hTb.at_] at n; cases n) e, fun b o e n _ _ => ⟨o.slots, kp b o (fun z => by rw [z, hTb.at_] at n; cases n) e⟩, fun b o e n _ => ?_, fun b o e _ => ?_, fun b xs e => old b _ e (fun z => by rw [z, hTb.at_] at e; cases e), fun b o u e => old b _ e (fun z => by rw [z, hTb.at_] at e; cases e), fun b qs e => ?_⟩ ?_, rfl, k _ c' cl _ H' nf (Ne.symm hTf) hfc ⟨by rw [unt_ne hTf]; exact hT', ?_, ?_⟩ hf' hc' old hcl1 hcl2⟩
  ·have hb := Heap.lt_size e
   rw [other b (Nat.ne_of_lt (Nat.lt_of_lt_of_le hb hf1)) (Nat.ne_of_lt (Nat.lt_of_lt_of_le hb hc1)) fun z => by rw [z, hTb.at_] at n; cases n]
   exact n
  ·by_cases hb : b = T
   ·subst hb
    exact ⟨_, gT⟩
   ·exact ⟨_, kp b o hb e⟩
  ·by_cases hb : b = T
   ·subst hb
    rw [hTb.at_] at e
    cases e
    exact ⟨_, hT'⟩
   ·exact ⟨#[], by rw [old b _ e hb]; simp⟩
  ·intro a o e
   by_cases h1 : a = h'.objs.size
   ·subst h1
    rw [hf'] at e
    cases e
    refine ⟨⟨(X.mg "__name__").getD .none, ctv, ?_⟩, ⟨fo, gf⟩, fun _ _ ⟨pm, ct, g⟩ k => ⟨pm, ct, k _ g⟩⟩
    rw [gf, <- hF]
   ·by_cases h2 : a = c'
    ·subst h2
     rw [hc'] at e
     cases e
     exact cd_stable gc g2 g3
    ·by_cases h3 : a = T
     ·subst h3
      rw [hT'] at e
      cases e
      exact gT
     ·rw [other a h1 h2 h3] at e
      refine (I.hok a o e).stay (fun b u hb q => kp b u (fun z => ?_) q) (fun b hb => old b _ hb fun z => by rw [z, hTb.at_] at hb; cases hb) fun b xs hb => old b _ hb fun z => by rw [z, hTb.at_] at hb; cases hb
      rcases hb with rfl | hb
      ·exact h3 z
      ·rw [z, hTb.at_] at hb
       cases hb
  ·rw [Array.toList_append]
   exact TriplesOk_snoc _ _ _ _ hTb.tri
  ·intro pos' cv hcv
   rw [Array.toList_append] at hcv
   rcases among_snoc hTb.tri hcv with h | h
   ·obtain ⟨d, rfl, hd⟩ := hTb.hit _ _ h
    exact ⟨d, rfl, by rw [unt_ne fun z => by rw [z, nf] at hd; cases hd]; exact old d _ hd fun z => by rw [z, hTb.at_] at hd; cases hd⟩
   ·exact ⟨c', h, by rw [unt_ne (Ne.symm hfc)]; exact hc'⟩
 | some cv =>
  obtain ⟨c', rfl, hc0⟩ := hTb.hit _ _ e
  refine PySem.W.kla_makeFunctionHit hcl I.ok.glob nsG hc (hC _ I.kIn) tab hTb.tri e (hB.keeps I.bk) fun ctv h' tk hk hf1 => ?_
  generalize hF : (⟨.type "function", none, .func (PySem.W.kla_fn "<lambda>" (X.env.qual ++ "<lambda>") params body scope cl ((X.mg "__name__").getD .none) (.ref c') ctv), #[]⟩ : Obj) = fo
  have kp : ∀ b o, s.heap.get? b = some o -> (h'.push fo).get? b = some o := fun b o e => Heap.get?_push_of_some _ (hk b o e)
  have nf : H h'.objs.size = none := I.hok.fresh hf1
  have gf : (h'.push fo).get? h'.objs.size = some fo := Heap.get?_push_size _ (by rw [<- hF]; rfl)
  have hfc : h'.objs.size ≠ c' := fun z => by rw [<- z, nf] at hc0; cases hc0
  have hTf : h'.objs.size ≠ T := Nat.ne_of_gt (Nat.lt_of_lt_of_le hTl hf1)
  refine ⟨.ref h'.objs.size, _, I.laid (a := h'.objs.size) (o := lmP h'.objs.size (X.env.qual ++ "<lambda>") params body scope cl c') (t' := tk) kp hf1 ?_, rfl, k _ c' cl ps _ nf hTf hfc ⟨by rw [unt_ne (Ne.symm hTf), upd_ne (Ne.symm hTf)]; exact hTb.at_, hTb.tri, fun pos' cv' h' => ?_⟩ upd_same (by rw [upd_ne (Ne.symm hfc)]; exact hc0) (fun b o e _ => by rw [upd_ne (fun z => by rw [z, nf] at e; cases e)]; exact e) hcl1 hcl2⟩
  ·refine ⟨⟨(X.mg "__name__").getD .none, ctv, ?_⟩, ⟨fo, gf⟩, fun _ _ ⟨pm, ct, g⟩ k => ⟨pm, ct, k _ g⟩⟩
   rw [gf, <- hF]
  ·obtain ⟨d, rfl, hd⟩ := hTb.hit _ _ h'
   have hdf : d ≠ _ := fun z => by rw [z, nf] at hd; cases hd
   exact ⟨d, rfl, by rw [unt_ne hdf, upd_ne hdf]; exact hd⟩
end L2
namespace L2
open PySem PySem.Spec PyProof.Rows
noncomputable abbrev lamEnv (q : Str) (scope : Scope) (n : Nat) (f : Addr) (clos : List (Str × Addr)) (cd : Value) : Env := newEnv scope n mainGlobals clos (q ++ ".<locals>.") (some f) cd none builtinsNs
noncomputable def cxL (CX : CXT) (P : Program) (w : World) (K : PySem.W.Frag) (mg : Str -> Option Value) (base : Heap) (N : List Str) (q : Str) (scope : Scope) (f : Addr) (clos : List (Str × Addr)) (cd : Value) (A : Around) (outer : List Env) (s : Shared) (H : Hp) (E : XK) : Cx where
 prog := P
 w := w
 K := K
 mg := mg
 base := base
 A := A.deeper (lamEnv q scope s.heap.objs.size f clos cd)
 N := N
 s₀ := s
 H₀ := H
 env := lamEnv q scope s.heap.objs.size f clos cd
 outer := outer
 stack := lamEnv q scope s.heap.objs.size f clos cd :: outer
 ex := []
 calm := true
 fn := fun _ => false
 pn := []
 xe := fun e s' => wpAny (model P w) (A.deeper (lamEnv q scope s.heap.objs.size f clos cd)) (leaving (lamEnv q scope s.heap.objs.size f clos cd) e) (fun _ s'' => CX outer H s E e s'') (fun e' s'' => CX outer H s E e' s'') s'
structure LamScope (ps fr : List Str) (scope : Scope) : Prop where
 nd : (ps ++ fr).Nodup
 kind : scope.kind = .function
 nocell : ∀ y ∈ scope.names, y.2 ≠ .cell
 par : ∀ x ∈ ps, scope.names.lookup x = some .local
 fre : ∀ x ∈ fr, scope.names.lookup x = some .free
 co : scope.isCoroutine = false
 gen : scope.isGenerator = false
theorem zip_lookup {x : Str} {v : Value} : ∀ {ps : List Str} {us : List Value} {i : Nat}, ps.Nodup -> ps[i]? = some x -> us[i]? = some v -> (ps.zip us).reverse.lookup x = some v := by
 intro ps us i nd h1 h2
 have hl : ∀ (l : List (Str × Value)), (l.map (·.1)).Nodup -> (x, v) ∈ l -> l.lookup x = some v := by
  intro l
  induction l with
  | nil => intro _ h; cases h
  | cons y r ih =>
   intro nd h
   obtain ⟨a, b⟩ := y
   rw [List.map_cons, List.nodup_cons] at nd
   rw [List.lookup_cons]
   rcases List.mem_cons.mp h with h | h
   ·cases h
    simp
   ·have : x ≠ a := fun z => nd.1 (List.mem_map.mpr ⟨_, h, z⟩)
    have e : (x == a) = false := beq_eq_false_iff_ne.mpr this
    rw [e]
    exact ih nd.2 h
 refine hl _ ?_ ?_
 ·rw [List.map_reverse]
  refine (List.reverse_perm _).nodup_iff.mpr ?_
  have : ((ps.zip us).map (·.1)).Sublist ps := by
   clear h1 h2 hl nd
   induction ps generalizing us with
   | nil => exact .slnil
   | cons p r ih =>
    cases us with
    | nil => exact List.nil_sublist _
    | cons u us => exact .cons₂ _ ih
  exact nd.sublist this
 ·rw [List.mem_reverse]
  refine List.mem_of_getElem? (i := i) ?_
  rw [List.getElem?_zip_eq_some]
  exact ⟨h1, h2⟩
theorem fnl_of {P : Program} {w : World} {K : PySem.W.Frag} {mg : Str -> Option Value} {base : Heap} {k : Nat} {f c : Addr} {q : Str} {params : Arguments} {body : Expr} {scope : Scope} {clos : List (Str × Addr)} {pm ct : Value} {ps fr : List Str} {fvs : List V} {sp : Sp}
  (hf : base.get? f = some (PySem.W.kla_obj "<lambda>" q params body scope clos pm c ct)) (S : LamScope ps fr scope)
  (hcl : ∀ x, scope.names.lookup x = some .free -> ∃ a, clos.lookup x = some a) (hinj : ∀ x y a, clos.lookup x = some a -> clos.lookup y = some a -> x = y) (hcell : ∀ x a, clos.lookup x = some a -> ∃ v, base.IsCell a v)
  (hval : ∀ (i : Nat) (x : Str) (v : V), fr[i]? = some x -> fvs[i]? = some v -> ∃ a u, clos.lookup x = some a /\ base.IsCell a (some u) /\ RelV v u) (hlen : fvs.length = fr.length)
  (len : ∀ vs H Q E, sp vs H Q E -> vs.length = ps.length /\ H c = some (cdP c q))
  (hbody : ∀ (A : Around) (outer : List Env) (s : Shared) (H : Hp) (vs : List V) (Q : VK) (E : XK), Room k (A.deeper (lamEnv q scope s.heap.objs.size f clos (.ref c))) -> sp vs H Q E ->
   ∃ t, PE (cxL CX0 P w K mg base (ps ++ fr) q scope f clos (.ref c) A outer s H E).nox body t /\ t ((vs ++ fvs).map some) H Q) :
  FnOk P w K mg base CX0 (k + 1) f (PySem.W.kla_fn "<lambda>" q params body scope clos pm (.ref c) ct) ps sp := by
 refine ⟨fun vs H Q E h => (len vs H Q E h).1, fun A outer s H args us vs Q E hr e0 hb r hsp => ?_⟩
 obtain ⟨hl, hcd⟩ := len _ _ _ _ hsp
 have lim : s.heap.NoLimit := e0.mod.nolimit.keeps fun b o e => (e0.bs b o e).1
 have kb : ∀ b o, base.get? b = some o -> s.heap.get? b = some o := fun b o e => (e0.bs b o e).1
 have hcr' : s.heap.CodeRec (.ref c) q := by
  obtain ⟨⟨o, cvs, t, e2, e3, e4⟩, _⟩ := e0.hok c _ hcd
  exact ⟨c, o, cvs, t, rfl, e2, e3, e4⟩
 refine PySem.W.kla_callFunE hr.depth (kb _ _ hf) rfl S.co S.gen rfl hcr' (hb _ _ _ _ ?_)
 refine wpAny_newFunctionEnv S.nocell (fun x hx => S.par _ (List.of_mem_zip hx).1) (fun h' hns hsb => ?_) S.kind
 have kp : ∀ b o, s.heap.get? b = some o -> h'.get? b = some o := fun b o e => (hsb.2 b (Nat.ne_of_lt (Heap.lt_size e))).trans (Heap.get?_push_of_some _ e)
 refine ⟨lim.keeps kp, PySem.W.kla_codeExpr ?_⟩
 obtain ⟨t, ht, hq⟩ := hbody A outer s H vs Q E (hr.deeper _) hsp
 have noA : ∀ b : Addr, b ∉ (cxL CX0 P w K mg base (ps ++ fr) q scope f clos (.ref c) A outer s H E).ex := fun b z => absurd (show b ∈ ([] : List Addr) from z) (by simp)
 have I : Inv (cxL CX0 P w K mg base (ps ++ fr) q scope f clos (.ref c) A outer s H E) [] ((vs ++ fvs).map some) H { heap := h', gens := s.gens, drawn := s.drawn, toks := s.toks + (ps.zip us).length, os := s.os } := by
  refine ⟨⟨e0.mod, S.kind, rfl, rfl, Nat.le_refl _, hinj, fun y hy => ?_, (fun y c h => by cases h), fun _ => hr.hd, Around.frames_deeper e0.frames, .inr ⟨rfl, rfl⟩, fun b z => absurd z (noA b), e0.bs, e0.bsz, fun b _ _ => noA b, fun b z => absurd z (noA b), e0.funs, e0.frf⟩,
   rfl, e0.bare, Un.kept kp, ⟨_, hns, fun i y v h1 h2 h3 => ?_⟩, fun y a h => ?_, e0.hok.fresh (Nat.le_refl _), fun y a h => ?_, fun p hp => absurd (show p ∈ ([] : List (Addr × Obj)) from hp) (by simp), e0.hok.kept kp, ?_⟩
  ·have hy : scope.names.lookup y = some .cell ∨ scope.names.lookup y = some .free := hy
   rcases hy with hy | hy
   ·exact absurd rfl (S.nocell _ (PySem.mem_of_lookup hy))
   ·exact hcl y hy
  ·have h1 : (ps ++ fr)[i]? = some y := h1
   rw [List.getElem?_map] at h2
   obtain ⟨v', hv', e⟩ := Option.map_eq_some_iff.mp h2
   cases e
   by_cases hi : i < ps.length
   ·rw [List.getElem?_append_left hi] at h1
    rw [List.getElem?_append_left (by (first | lia | omega))] at hv'
    obtain ⟨u, hu, rv⟩ := r.get hv'
    exact ⟨u, rv, .inl ⟨S.par y (List.mem_of_getElem? h1), zip_lookup (S.nd.sublist (List.sublist_append_left _ _)) h1 hu⟩⟩
   ·rw [List.getElem?_append_right (by (first | lia | omega))] at h1 hv'
    rw [hl] at hv'
    obtain ⟨a, u, g1, g2, g3⟩ := hval _ y v h1 hv'
    exact ⟨u, g3, .inr ⟨.inr (S.fre y (List.mem_of_getElem? h1)), a, g1, (fun ⟨o, e, d⟩ => ⟨o, kp _ _ (kb _ _ e), d⟩ : base.IsCell a (some u) -> h'.IsCell a (some u)) g2⟩⟩
  ·obtain ⟨v, hv⟩ := hcell y a h
   obtain ⟨o, e, d⟩ := hv
   exact ⟨v, o, kp _ _ (kb _ _ e), d⟩
  ·obtain ⟨v, hv⟩ := hcell y a h
   obtain ⟨o, ho, _⟩ := hv
   exact (e0.bs a o ho).2
  ·show ((vs ++ fvs).map some).length = (ps ++ fr).length
   rw [List.length_map, List.length_append, List.length_append, hl, hlen]
 refine wpAny_mono (ht.nox [] _ _ H _ I hq) (fun u s' hs => ?_) fun e s' hs => hs
 obtain ⟨v, H', J, rv, q'⟩ := hs
 exact ⟨v, H', J.os, J.bare, J.base, J.hok, rv, q'⟩
structure CalL (P : Program) (w : World) (K : PySem.W.Frag) (mg : Str -> Option Value) (base : Heap) (k : Nat) (f : Addr) (ps : List Str) (sp : Sp) : Prop where
 ex : ∃ fd o, base.get? f = some o /\ o.data = .func fd /\ FnOk P w K mg base CX0 k f fd ps sp /\ Binds K fd ps []
noncomputable def tCallL (P : Program) (w : World) (K : PySem.W.Frag) (mg : Str -> Option Value) (base : Heap) (k : Nat) (tf : TE) (t : TA) : TE := fun σ H Q => tf σ H fun v H1 => ∃ f ps sp, v = .ref f /\ CalL P w K mg base k f ps sp /\ t σ H1 fun vs H2 => sp vs H2 Q E0
theorem pe_callL {X : Cx} {k : Nat} {x : Str} {p pos : Pos} {e : Expr} {es : List Expr} {t : TA} {tf : TE} (hf : PE X (.Name x p) tf) (hr : Room k X.A) (ha : PA X (e :: es) t) (he : starEach (e :: es) X.env = (false, eval e X.env) :: starEach es X.env := by rfl)
  (hpl : (backTo pos (starEach es X.env)).any (·.1) = false := by rfl) : PE X (.Call (.Name x p) (e :: es) [] pos) (tCallL X.prog X.w X.K X.mg X.base k tf t) := by
 intro pins s σ H Q I h
 refine wpAny_Call_Name_kw (thn (hf pins s σ H _ I h) fun v s1 z => ?_)
 obtain ⟨y, H1, I1, r1, f, ps, sp, ey, ⟨fd, o, ho, hd, F, hb⟩, q1⟩ := z
 subst ey
 cases (show v = Value.ref f from r1)
 have kin : ∀ {h : Heap}, h.get? f = some o -> PySem.W.Frag.In [(f, o)] h := fun {h} e b o' e' => by
  rw [List.lookup_cons] at e'
  split at e'
  ·rename_i hb
   cases e'
   rw [eq_of_beq hb]
   exact e
  ·cases e'
 have hk : PySem.W.keepIn [(f, o)] (.ref f) = true := by
  unfold PySem.W.keepIn
  show (match List.lookup f [(f, o)] with | _ => _) = true
  rw [List.lookup_cons_self]
  obtain ⟨oc, od, dt, osl⟩ := o
  cases hd
  rfl
 refine PySem.W.callWith_K (K := [(f, o)]) (h₀ := X.base) (kin ho) hk (thn (ha pos pins s1 σ H1 _ I1 q1) fun us s2 z => ?_) he hpl
 obtain ⟨vs, H2, I2, r2, q2⟩ := z
 refine ⟨kin (I2.bk _ _ ho), ?_⟩
 exact run_fn F hr hb .nil pass0 I2 r2 (by rw [List.append_nil]; exact q2)
end L2
namespace L2
open PySem PySem.Spec PyProof.Rows
section
variable {K : PySem.W.Frag} {x qual : Str} {st : Stmt} {f : Addr} {fd : FuncData}
theorem Fun.b0 (F : Fun K x qual st f fd) (h : ∀ (kV doc pm : Value) (an : Option Addr) (cdv ct : Value), bindArgs (PySem.W.fnOf x qual (defArgs st) (defBody st) (defScope st) .none kV doc pm an cdv ct) ⟨[], []⟩ = pure (([] : List Str).zip [])) : Binds K fd [] [] :=
 F.binds fun kV doc pm an cdv ct us hl => match us, hl with | [], _ => h kV doc pm an cdv ct
theorem Fun.b1 {p0 : Str} (F : Fun K x qual st f fd) (h : ∀ (kV doc pm : Value) (an : Option Addr) (cdv ct : Value) (a0 : Value), bindArgs (PySem.W.fnOf x qual (defArgs st) (defBody st) (defScope st) .none kV doc pm an cdv ct) ⟨[a0], []⟩ = pure (([p0] : List Str).zip [a0])) : Binds K fd [p0] [] :=
 F.binds fun kV doc pm an cdv ct us hl => match us, hl with | [a0], _ => h kV doc pm an cdv ct a0
theorem Fun.b2 {p0 p1 : Str} (F : Fun K x qual st f fd) (h : ∀ (kV doc pm : Value) (an : Option Addr) (cdv ct : Value) (a0 a1 : Value), bindArgs (PySem.W.fnOf x qual (defArgs st) (defBody st) (defScope st) .none kV doc pm an cdv ct) ⟨[a0, a1], []⟩ = pure (([p0, p1] : List Str).zip [a0, a1])) : Binds K fd [p0, p1] [] :=
 F.binds fun kV doc pm an cdv ct us hl => match us, hl with | [a0, a1], _ => h kV doc pm an cdv ct a0 a1
theorem Fun.b3 {p0 p1 p2 : Str} (F : Fun K x qual st f fd) (h : ∀ (kV doc pm : Value) (an : Option Addr) (cdv ct : Value) (a0 a1 a2 : Value), bindArgs (PySem.W.fnOf x qual (defArgs st) (defBody st) (defScope st) .none kV doc pm an cdv ct) ⟨[a0, a1, a2], []⟩ = pure (([p0, p1, p2] : List Str).zip [a0, a1, a2])) : Binds K fd [p0, p1, p2] [] :=
 F.binds fun kV doc pm an cdv ct us hl => match us, hl with | [a0, a1, a2], _ => h kV doc pm an cdv ct a0 a1 a2
theorem Fun.b4 {p0 p1 p2 p3 : Str} (F : Fun K x qual st f fd) (h : ∀ (kV doc pm : Value) (an : Option Addr) (cdv ct : Value) (a0 a1 a2 a3 : Value), bindArgs (PySem.W.fnOf x qual (defArgs st) (defBody st) (defScope st) .none kV doc pm an cdv ct) ⟨[a0, a1, a2, a3], []⟩ = pure (([p0, p1, p2, p3] : List Str).zip [a0, a1, a2, a3])) : Binds K fd [p0, p1, p2, p3] [] :=
 F.binds fun kV doc pm an cdv ct us hl => match us, hl with | [a0, a1, a2, a3], _ => h kV doc pm an cdv ct a0 a1 a2 a3
end
theorem binds1 {K : PySem.W.Frag} {fd : FuncData} {p : Str} (h : ∀ a : Value, bindArgs fd ⟨[a], []⟩ = pure (([p] : List Str).zip [a])) : Binds K fd [p] [] := .all fun us hl => match us, hl with | [a], _ => h a
theorem fr3 {N : List Str} {σ : L2.St} {x1 x2 x3 : Str} {v1 v2 v3 : V} (h1 : ∃ j : Nat, N[j]? = some x1 /\ σ[j]? = some (some v1)) (h2 : ∃ j : Nat, N[j]? = some x2 /\ σ[j]? = some (some v2)) (h3 : ∃ j : Nat, N[j]? = some x3 /\ σ[j]? = some (some v3)) :
  ∀ (i : Nat) (x : Str) (v : V), [x1, x2, x3][i]? = some x -> [v1, v2, v3][i]? = some v -> ∃ j : Nat, N[j]? = some x /\ σ[j]? = some (some v) := by
 intro i x v e1 e2
 match i, e1, e2 with
 | 0, e1, e2 => cases e1; cases e2; exact h1
 | 1, e1, e2 => cases e1; cases e2; exact h2
 | 2, e1, e2 => cases e1; cases e2; exact h3
 | i + 3, e1, e2 => cases e1
end L2
namespace L2
open PySem PySem.Spec PyProof.Rows
theorem frames_base {h b1 b2 : Heap} : ∀ {l : List Env}, h.FunFrames b1 l -> (∀ a ∈ frs l, b2.get? a = none) -> h.FunFrames b2 l
 | [], _, _ => trivial
 | e :: l, hf, hn => by
  obtain ⟨hk, ⟨L, o, e1, _, e3, e4⟩, r⟩ := hf
  have ef : frs (e :: l) = L :: frs l := by unfold frs; rw [List.filterMap_cons, e1]
  rw [ef] at hn
  exact ⟨hk, ⟨L, o, e1, hn L List.mem_cons_self, e3, e4⟩, frames_base r fun a ha => hn a (List.mem_cons_of_mem _ ha)⟩
theorem frames_there {h b : Heap} : ∀ {l : List Env}, h.FunFrames b l -> ∀ a ∈ frs l, ∃ o, h.get? a = some o
 | [], _, a, ha => by cases ha
 | e :: l, hf, a, ha => by
  obtain ⟨_, ⟨L, o, e1, _, e3, _⟩, r⟩ := hf
  have ef : frs (e :: l) = L :: frs l := by unfold frs; rw [List.filterMap_cons, e1]
  rw [ef] at ha
  rcases List.mem_cons.mp ha with rfl | ha
  ·exact ⟨o, e3⟩
  ·exact frames_there r a ha
theorem Inv.unt {X : Cx} {pins : List (Addr × Obj)} {σ : St} {H : Hp} {s : Shared} {f : Addr} {φ : Heap -> Prop} (I : Inv X pins σ H s) (hf : H f = some (.ext φ)) : Inv X pins σ (L2.unt H f) s := by
 have keep : ∀ {b : Addr} {o : HO}, H b = some o -> (∀ ψ, o ≠ .ext ψ) -> L2.unt H f b = some o := fun {b o} e n => by
  rw [unt_ne fun z => by rw [z, hf] at e; cases e; exact n _ rfl]
  exact e
 refine ⟨I.ok, I.os, I.bare, ⟨I.base.keep, I.base.slot, fun b o e n x => unt_none (I.base.free b o e n x), I.base.there, fun b xs e => keep (I.base.tups b xs e) (fun _ z => by cases z), fun b o u e => keep (I.base.frzs b o u e) (fun _ z => by cases z), fun b ps e => ?_⟩, I.loc, I.cell, unt_none I.free, fun x c e => unt_none (I.freeC x c e), fun p hp => ?_, fun a o e => ?_, I.len⟩
 ·obtain ⟨more, e'⟩ := I.base.tbls b ps e
  exact ⟨more, keep e' fun _ z => by cases z⟩
 ·obtain ⟨h1, h2, h3⟩ := I.pin p hp
  exact ⟨h1, unt_none h2, h3⟩
 ·obtain ⟨_, e'⟩ := unt_some e
  exact (I.hok a o e').stay (fun b u _ q => q) (fun b q => keep q fun _ z => by cases z) fun b xs q => keep q fun _ z => by cases z
noncomputable def tCalN (X : Cx) (kL : Nat) (q : Str) (params : Arguments) (body : Expr) (scope : Scope) (psL fr : List Str) (spN : Heap -> Sp) (t : TA) : TE := fun σ H Q => t σ H fun vs H1 => ∃ (f c : Addr) (clos : List (Str × Addr)) (fvs : List V) (spL : Sp),
 H1 f = some (lmP f q params body scope clos c) /\ (∀ x a, clos.lookup x = some a -> X.env.cells.lookup x = some a) /\ (∀ y ∈ scope.names, y.2 = .free -> clos.lookup y.1 = X.env.cells.lookup y.1) /\ fvs.length = fr.length /\
 (∀ (i : Nat) (x : Str) (v : V), fr[i]? = some x -> fvs[i]? = some v -> ∃ j : Nat, X.N[j]? = some x /\ σ[j]? = some (some v)) /\ (∀ vs H Q E, spL vs H Q E -> vs.length = psL.length /\ H c = some (cdP c q)) /\
 (∀ base', X.K.In base' -> base'.Ns mainGlobals X.mg -> ∀ (A : Around) (outer : List Env) (s : Shared) (H : Hp) (vs : List V) (Q : VK) (E : XK), Room kL (A.deeper (lamEnv q scope s.heap.objs.size f clos (.ref c))) -> spL vs H Q E ->
   ∃ t, PE (cxL CX0 X.prog X.w X.K X.mg base' (psL ++ fr) q scope f clos (.ref c) A outer s H E).nox body t /\ t ((vs ++ fvs).map some) H Q) /\
 ∀ base', CalL X.prog X.w X.K X.mg base' (kL + 1) f psL spL -> spN base' vs (unt H1 f) Q E0
theorem pe_calN {X : Cx} {k kL : Nat} {x : Str} {p pos : Pos} {e : Expr} {es : List Expr} {t : TA} {q : Str} {params : Arguments} {body : Expr} {scope : Scope} {ps psL fr : List Str} {spN : Heap -> Sp} {sc : Scope}
  (hN : ∀ base', X.K.In base' -> base'.Ns mainGlobals X.mg -> Cal X.prog X.w X.K X.mg base' k x ps (spN base')) (hr : Room k X.A) (hg : Gl X x) (S : LamScope psL fr scope) (hsc : X.env.scope = sc) (hfr : ∀ y ∈ scope.names, y.2 = .free -> sc.names.lookup y.1 = some .cell) (hfn : ∀ x, X.fn x = true)
  (hbL : ∀ (clos : List (Str × Addr)) (pm : Value) (c : Addr) (ct : Value), Binds X.K (PySem.W.kla_fn "<lambda>" q params body scope clos pm (.ref c) ct) psL []) (ha : PA X (e :: es) t)
  (hdb : (x == ("__debug__" : Str)) = false := by decide) (he : starEach (e :: es) X.env = (false, eval e X.env) :: starEach es X.env := by rfl) (hpl : (backTo pos (starEach es X.env)).any (·.1) = false := by rfl) :
  PE X (.Call (.Name x p) (e :: es) [] pos) (tCalN X kL q params body scope psL fr spN t) := by
 have hfree : ∀ x, scope.names.lookup x = some .free -> X.env.kindOf x = some .cell := fun x hx => by show X.env.scope.names.lookup x = _; rw [hsc]; exact hfr (x, .free) (PySem.mem_of_lookup hx) rfl
 intro pins s σ H Q I h
 obtain ⟨f0, fd0, _, hm, hk, _⟩ := (hN X.base I.mod.kin I.mod.glob).ex
 refine wpAny_Call_Name_kw (ld_glob I hg hm ?_ hdb)
 refine PySem.W.callWith_K (h₀ := X.base) I.ok.mod.kin hk (thn (ha pos pins s σ H _ I h) fun us s1 z => ?_) he hpl
 obtain ⟨vs, H1, I1, r, f, c, clos, fvs, spL, hf, hc1, hc2, hvl, hvs, hlen, hbody, hsp⟩ := z
 refine ⟨I1.kIn, ?_⟩
 obtain ⟨⟨pm, ct, hfo⟩, _, _⟩ := I1.hok f _ hf
 have I2 := I1.unt hf
 have E0' := I2.env0
 let base' : Heap := PySem.W.hideAll s1.heap (trk s1.heap (unt H1 f) ++ frs X.stack)
 have get' : ∀ {b : Addr} {o : Obj}, s1.heap.get? b = some o -> unt H1 f b = none -> b ∉ frs X.stack -> base'.get? b = some o := fun {b o} e n m => PySem.W.hideAll_get _ e fun z => by
  rcases List.mem_append.mp z with z | z
  ·unfold trk at z
   have := (List.mem_filter.mp z).2
   rw [n] at this
   cases this
  ·exact m z
 have of' : ∀ {b : Addr} {o : Obj}, base'.get? b = some o -> s1.heap.get? b = some o /\ unt H1 f b = none /\ b ∉ frs X.stack := fun {b o} e => by
  have e' := PySem.W.of_hideAll _ e
  refine ⟨e', ?_, fun z => ?_⟩
  ·cases q : unt H1 f b with
   | none => rfl
   | some u =>
    have hm : b ∈ trk s1.heap (unt H1 f) ++ frs X.stack := List.mem_append_left _ (List.mem_filter.mpr ⟨List.mem_range.mpr (Heap.lt_size e'), by rw [q]; rfl⟩)
    have e2 : base'.get? b = none := PySem.W.hideAll_none _ hm
    rw [e2] at e
    cases e
  ·have e2 : base'.get? b = none := PySem.W.hideAll_none _ (List.mem_append_right _ z)
   rw [e2] at e
   cases e
 have noFr : ∀ {b : Addr} {o : Obj}, X.base.get? b = some o -> b ∉ frs X.stack := fun {b o} e z => by
  have key : ∀ {l : List Env}, s1.heap.FunFrames X.base l -> ∀ a ∈ frs l, X.base.get? a = none := fun {l} => by
   induction l with
   | nil => intro _ a ha; cases ha
   | cons e l ih =>
    intro hf a ha
    obtain ⟨_, ⟨L, o, e1, e2, _, _⟩, r⟩ := hf
    have ef : frs (e :: l) = L :: frs l := by unfold frs; rw [List.filterMap_cons, e1]
    rw [ef] at ha
    rcases List.mem_cons.mp ha with rfl | ha
    ·exact e2
    ·exact ih r a ha
  rw [key E0'.funs b z] at e
  cases e
 have kb : ∀ b o, X.base.get? b = some o -> base'.get? b = some o := fun b o e => get' (E0'.bs b o e).1 (E0'.bs b o e).2 (noFr e)
 have hMod : Mod X.K X.mg base' := by
  obtain ⟨mb, h1, h2⟩ := I.mod.blt
  exact ⟨I.mod.kin.keeps kb, I.mod.glob.keeps kb, ⟨mb, h1.keeps kb, h2⟩, I.mod.nolimit.keeps kb⟩
 have hE : Env0 X.prog X.w X.K X.mg base' X.A X.stack s1 (unt H1 f) :=
  ⟨E0'.frames, hMod, fun b o e => ⟨(of' e).1, (of' e).2.1⟩, Nat.le_of_eq (PySem.W.hideAll_size _ _), frames_base E0'.funs fun a ha => PySem.W.hideAll_none _ (List.mem_append_right _ ha), E0'.frf, E0'.hok, E0'.bare⟩
 have hfb : base'.get? f = some (PySem.W.kla_obj "<lambda>" q params body scope clos pm c ct) := get' hfo (if_pos rfl) fun z => by
  have := I1.env0.frf f z
  rw [hf] at this
  cases this
 have cellB : ∀ {x : Str} {a : Addr} {v : Option Value}, clos.lookup x = some a -> s1.heap.IsCell a v -> base'.IsCell a v := fun {x a v} e hcel => by
  obtain ⟨o, ho, hd⟩ := hcel
  have hX := hc1 x a e
  refine ⟨o, get' ho (unt_none (I1.freeC x a hX)) fun z => ?_, hd⟩
  have hge : X.s₀.heap.objs.size <= a := I1.ok.cab x a (hfn x) hX
  have stk : a ∈ frs X.outer ∨ a = X.env.locals := by
   rcases I1.ok.stk with q | ⟨q, q2⟩
   ·rw [q] at z; exact .inl z
   ·rw [q] at z
    have ef : frs (X.env :: X.outer) = X.env.locals :: frs X.outer := by unfold frs; rw [List.filterMap_cons, q2]
    rw [ef] at z
    rcases List.mem_cons.mp z with z | z
    ·exact .inr z
    ·exact .inl z
  rcases stk with z | z
  ·obtain ⟨o', ho'⟩ := frames_there I1.ok.funs a z
   exact absurd (Heap.lt_size ho') (Nat.not_lt.mpr hge)
  ·obtain ⟨m, ⟨oL, es, ep, hoL, hdL, _⟩, _⟩ := I1.loc
   rw [z] at ho
   rw [ho] at hoL
   cases hoL
   rw [hd] at hdL
   cases hdL
 have FL := fnl_of (mg := X.mg) (K := X.K) (P := X.prog) (w := X.w) (k := kL) (fvs := fvs) (sp := spL) hfb S (fun x hx => ?hcl) (fun x y a h1 h2 => I1.ok.inj x y a (hc1 x a h1) (hc1 y a h2)) (fun x a h => ?hcell) (fun i x v h1 h2 => ?hval) hvl hlen (hbody base' hMod.kin hMod.glob)
 case hcl =>
  obtain ⟨a, ha⟩ := I1.ok.has x (.inl (hfree x hx))
  exact ⟨a, by rw [hc2 (x, .free) (PySem.mem_of_lookup hx) rfl]; exact ha⟩
 case hcell =>
  obtain ⟨v, hv⟩ := I1.cell x a (hc1 x a h)
  exact ⟨v, cellB h hv⟩
 case hval =>
  obtain ⟨j, hj1, hj2⟩ := hvs i x v h1 h2
  have hxf := S.fre x (List.mem_of_getElem? h1)
  have hxk := hfree x hxf
  obtain ⟨m, _, hloc⟩ := I1.loc
  obtain ⟨u, rv, lk⟩ := hloc j x v hj1 hj2 (.inr (.inl hxk))
  rcases lk with ⟨z, _⟩ | ⟨_, a, ha, hcel⟩
  ·rw [hxk] at z
   cases z
  ·have hcx : clos.lookup x = some a := by rw [hc2 (x, .free) (PySem.mem_of_lookup hxf) rfl]; exact ha
   exact ⟨a, u, hcx, cellB hcx hcel, rv⟩
 have C := hsp base' ⟨_, _, hfb, rfl, FL, hbL clos pm c ct⟩
 obtain ⟨f1, fd, F, hm1, hk1, hb1⟩ := (hN base' hMod.kin hMod.glob).ex
 rw [hm] at hm1
 cases hm1
 have hl : us.length = ps.length := by rw [<- r.length]; exact F.len _ _ _ _ C
 have hbt := hb1 s1 us I1.kIn (by rw [List.append_nil]; exact hl)
 rw [List.append_nil] at hbt
 refine wpAny_call (codeAny_mono (F.run X.A X.stack s1 (unt H1 f) ⟨[] ++ us, []⟩ us vs Q E0 hr hE hbt r C) fun r' s' hq => ?_)
 cases r' with
 | error e => exact hq.elim
 | ok fl =>
  cases fl with
  | ret u => exact I2.after hq
  | next => exact False.elim hq
  | brk => exact False.elim hq
  | cont => exact False.elim hq
end L2
namespace L2
open PySem PySem.Spec PyProof.Rows
theorem law_callT {P : Program} {w : World} {K : PySem.W.Frag} {mg mb : Str -> Option Value} {k : Nat} {fa a : Addr} {fd : FuncData} {x : Str} {sp : Sp} {s₁ : Shared} {vs : List Value} {ns : List Int} {Ts : List Addr}
  (KX : K.In s₁.heap) (hns : s₁.heap.Ns mainGlobals mg) (hb : s₁.heap.Ns builtinsNs mb) (hbb : ∀ x : Str, x ≠ "__name__" -> mb x = bootBuiltins x) (hlim : s₁.heap.NoLimit) (hg : s₁.gens = #[])
  (ha : s₁.heap.get? a = some { cls := .type "list", data := .seq vs.toArray }) (hi : IntsAre vs ns) (hl : ns.length <= sizeLine) (hr : Room k callerA)
  (hT : ∀ T ∈ Ts, s₁.heap.get? T = some (PySem.W.tabObj #[]) /\ isCodeTable s₁.heap T /\ K.lookup T = none)
  (hB : ∀ T ∈ Ts, s₁.heap.BuiltinsAt mg T)
  (F : ∀ base : Heap, K.In base -> base.Ns mainGlobals mg -> (∀ T ∈ Ts, base.BuiltinsAt mg T) -> FnOk P w K mg base CX0 k fa fd [x] sp) (hbind : ∀ (s : Shared) (u : Value), BindsTo s fd ⟨[u], []⟩ [(x, u)])
  (hsp : ∀ H : Hp, (∀ T ∈ Ts, H T = some (.tbl #[])) -> SqL K H a (ns.map V.int) -> sp [.ref a] H (fun v _ => v = .bl true) E0) :
  codeAny (model P w) callerA (.call (.ref fa) ⟨[.ref a], []⟩) (fun r s' => r = .ok (.ret (.bool true)) /\ OldK s₁.heap s'.heap /\ s'.os = s₁.os /\ AllBare s'.gens) s₁ := by
 have rv := vals_ints hi
 have lenV := hi.length
 have naT : ∀ T ∈ Ts, T ≠ a := fun T hm z => by
  have := (hT T hm).1
  rw [z, ha] at this
  cases this
 have core : ∀ (own : Option HO), (own = none ∨ own = some (.frz { cls := .type "list", data := .seq vs.toArray } (.lst (ns.map V.int)))) -> (own ≠ none -> K.lookup a = none) ->
   SqL K (fun b => if b = a then own else if b ∈ Ts then some (.tbl #[]) else none) a (ns.map V.int) ->
   codeAny (model P w) callerA (.call (.ref fa) ⟨[.ref a], []⟩) (fun r s' => r = .ok (.ret (.bool true)) /\ OldK s₁.heap s'.heap /\ s'.os = s₁.os /\ AllBare s'.gens) s₁ := by
  intro own hown hK hS
  generalize hH : (fun b => if b = a then own else if b ∈ Ts then some (.tbl #[]) else none : Hp) = H at hS
  have Ha : H a = own := by rw [<- hH]; exact if_pos rfl
  have HT : ∀ T ∈ Ts, H T = some (.tbl #[]) := fun T hm => by
   rw [<- hH]
   show (if T = a then own else if T ∈ Ts then some (HO.tbl #[]) else none) = _
   rw [if_neg (naT T hm), if_pos hm]
  have Hn : ∀ b, b ≠ a -> b ∉ Ts -> H b = none := fun b h1 h2 => by
   rw [<- hH]
   show (if b = a then own else if b ∈ Ts then some (HO.tbl #[]) else none) = _
   rw [if_neg h1, if_neg h2]
  have hok : HOk P w H s₁.heap := fun b u e => by
   by_cases h1 : b = a
   ·subst h1
    rw [Ha] at e
    rcases hown with z | z
    ·rw [z] at e; cases e
    ·rw [z] at e
     cases e
     exact ⟨ha, by rw [List.length_map]; exact hl, vs, _, rv, ha⟩
   ·by_cases h2 : b ∈ Ts
    ·rw [HT b h2] at e
     cases e
     exact (hT b h2).1
    ·rw [Hn b h1 h2] at e
     cases e
  have base_of : ∀ {b : Addr} {o : Obj}, s₁.heap.get? b = some o -> H b = none -> (hidT s₁.heap H).get? b = some o := fun e n => hidT_get e n
  have noA : ∀ {b : Addr} {o : Obj} {es : Array DictEntry} {ep : Nat}, s₁.heap.get? b = some o -> o.data = .dict es ep -> H b = none := fun {b o es ep} e d => by
   refine Hn b (fun z => ?_) (fun z => ?_)
   ·rw [z, ha] at e
    cases e
    have d' : Data.seq vs.toArray _ = Data.dict es ep := d
    cases d'
   ·rw [(hT b z).1] at e
    cases e
    cases d
  have nsK : ∀ {b : Addr} {m : Str -> Option Value}, s₁.heap.Ns b m -> (hidT s₁.heap H).Ns b m := fun {b m} ⟨o, es, ep, e, d, r⟩ => ⟨o, es, ep, base_of e (noA e d), d, r⟩
  have hKb : K.In (hidT s₁.heap H) := fun b o e => base_of (KX b o e) (by
   by_cases h1 : b = a
   ·rw [h1, Ha]
    rcases hown with z | z
    ·exact z
    ·have := hK (by rw [z]; simp)
     rw [h1, this] at e
     cases e
   ·refine Hn b h1 fun h2 => ?_
    rw [(hT b h2).2.2] at e
    cases e)
  have hBb : ∀ T ∈ Ts, (hidT s₁.heap H).BuiltinsAt mg T := fun T hm => by
   obtain ⟨bm, o, b1, b2, b3, b4, b5, b6, b7, b8⟩ := hB T hm
   refine ⟨bm, o, b1, b2, b3, b4, base_of b5 (Hn bm (fun z => ?_) fun z => ?_), b6, b7, b8⟩
   ·rw [z, ha] at b5
    cases b5
    cases b8
   ·rw [(hT bm z).1] at b5
    cases b5
    cases b8
  have hM : Mod K mg (hidT s₁.heap H) := ⟨hKb, nsK hns, ⟨mb, nsK hb, hbb⟩, let ⟨mc, h1, h2⟩ := hlim; ⟨mc, nsK h1, h2⟩⟩
  have e0 : Env0 P w K mg (hidT s₁.heap H) callerA [] s₁ H := ⟨rfl, hM, fun b o e => of_hidT e, Nat.le_of_eq (hidT_size _ _), trivial, fun b hb => absurd (show b ∈ ([] : List Addr) from hb) (by simp), hok, .of_eq hg⟩
  refine codeAny_mono ((F _ hKb (nsK hns) hBb).run callerA [] s₁ H ⟨[.ref a], []⟩ [.ref a] [.ref a] _ _ hr e0 (hbind s₁ (.ref a)) (.cons rfl .nil) (hsp H HT hS)) fun r s' h => ?_
  cases r with
  | error e => exact h.elim
  | ok fl =>
   cases fl with
   | next => exact False.elim h
   | brk => exact False.elim h
   | cont => exact False.elim h
   | ret u =>
    obtain ⟨v, H', os, bare, un, hok', r', q⟩ := h
    have q' : v = .bl true := q
    subst q'
    obtain rfl : u = Value.bool true := r'
    have nofs : ∀ b : Addr, b ∉ frs ([] : List Env) := fun b z => absurd (show b ∈ ([] : List Addr) from z) (by simp)
    refine ⟨rfl, ⟨fun b o e => ?_, fun b o e => un.there b o e (by simp)⟩, os, bare⟩
    by_cases h2 : b ∈ Ts
    ·obtain ⟨more, hm⟩ := un.tbls b #[] (HT b h2)
     have g : s'.heap.get? b = some { cls := .none, data := .fields (#[] ++ more) } := hok' b _ hm
     rw [(hT b h2).1] at e
     cases e
     exact .inr (.inl ⟨(hT b h2).2.1, rfl, #[], more, rfl, g⟩)
    ·refine .inl ?_
     by_cases h1 : b = a
     ·rcases hown with z | z
      ·exact un.keep b o e (by rw [h1, Ha]; exact z) (nofs b) (by simp)
      ·have hz : H b = some (.frz { cls := .type "list", data := .seq vs.toArray } (.lst (ns.map V.int))) := by rw [h1, Ha]; exact z
       have z2 := un.frzs b _ _ hz
       obtain ⟨e2, _⟩ := hok' b _ z2
       rw [h1, ha] at e
       cases e
       rw [h1] at e2 ⊢
       exact e2
     ·exact un.keep b o e (Hn b h1 h2) (nofs b) (by simp)
 cases hk : K.lookup a with
 | some o =>
  have e := KX a o hk
  rw [ha] at e
  cases e
  exact core none (.inl rfl) (fun z => absurd rfl z) (.inr ⟨_, vs.toArray, _, hk, rfl, rfl, rfl, by rw [List.size_toArray, lenV]; exact hl, by simpa using rv⟩)
 | none => exact core _ (.inr rfl) (fun _ => hk) (.inl (.inr ⟨{ cls := .type "list", data := .seq vs.toArray }, if_pos rfl⟩))
theorem walk_ofT {l : PySem.W.OpenLaw} {n k : Nat} {q : Program} {loose : List Str} {XP : (Str -> Option Value) -> Heap -> Prop} {YP : World -> Heap -> Prop} {d : DefRec} {K : Params -> PySem.W.Frag} {sp : World -> Sp} {x : Str} {Ts : List Addr}
  (hn : l.most = some n) (hn2 : n <= sizeLine) (hdf : d.params.defaults = []) (hr : Room k callerA)
  (hY : ∀ (w : World) (h : Heap), YP w h -> (K w.params).In h /\ ∀ T ∈ Ts, h.get? T = some (PySem.W.tabObj #[]) /\ isCodeTable h T /\ (K w.params).lookup T = none)
  (F : ∀ (w : World) (mg : Str -> Option Value) (fa : Addr) (h : Heap), (K w.params).In h -> h.Ns mainGlobals mg -> mg d.name = some (.ref fa) ->
   ∃ fd : FuncData, (∀ (s : Shared) (u : Value), BindsTo s fd ⟨[u], []⟩ [(x, u)]) /\
    ∀ base : Heap, (K w.params).In base -> base.Ns mainGlobals mg -> (∀ T ∈ Ts, base.BuiltinsAt mg T) -> FnOk l.prog w (K w.params) mg base CX0 k fa fd [x] (sp w))
  (hsp : ∀ (w : World) (H : Hp) (a : Addr) (ns : List Int), ns.length <= n -> (∀ T ∈ Ts, H T = some (.tbl #[])) -> SqL (K w.params) H a (ns.map V.int) -> sp w [.ref a] H (fun v _ => v = .bl true) E0) :
  PySem.W.WalkO q loose XP YP l.row.toRowW d [] (fun f vs => PySem.call f vs) := by
 refine Att.attach_call hn hdf fun w s₀ s₁ mg mb fa o pm cd doc a vs ns G Y ho hd hcd hmg hobj hints hlen hg => ?_
 obtain ⟨KX, hT⟩ := hY w _ Y
 obtain ⟨fd, hb, hF⟩ := F w mg fa _ KX G.T.g hmg
 have hB : ∀ T ∈ Ts, s₁.heap.BuiltinsAt mg T := fun T hm => by
  obtain ⟨bm, ob, b1, b2, b3, b4, b5, b6⟩ := G.T.bmain
  refine ⟨bm, ob, b1, b2, fun z => ?_, fun z => ?_, b3, b4, b5, b6⟩
  ·obtain ⟨o', es, ep, e1, e2, _⟩ := G.T.g
   rw [<- z, b3] at e1
   cases e1
   rw [b6] at e2
   cases e2
  ·rw [z, (hT T hm).1] at b3
   cases b3
   cases b6
 exact law_callT KX G.T.g G.T.b G.T.builtins G.T.nolimit hg hobj hints (Nat.le_trans hlen hn2) hr hT hB hF hb (fun H hTs hS => hsp w H a ns hlen hTs hS)
end L2
namespace L2
open PySem PySem.Spec PyProof.Rows
noncomputable def leastG (b : List Int) (f : Int) : Nat -> Int -> Int
 | 0, n => n
 | u + 1, n => if f < n /\ n < (b.length : Int) then leastG b f u (atO b n) else n
noncomputable def leastS (b : List Int) (f : Int) : Nat -> Int -> Bool
 | 0, n => !(decide (f < n) && decide (n < (b.length : Int)))
 | u + 1, n => if f < n /\ n < (b.length : Int) then leastS b f u (atO b n) else true
noncomputable def leastB (b : List Int) (f : Int) : Bool := decide (leastG b f 7 (atO b f) = f)
noncomputable def closedZ (b : List Int) : Int := (((num0 b.length).filter (leastB b)).length : Int)
noncomputable def stR (base : Nat) : Nat -> List Int
 | 0 => [fcZ base]
 | j + 1 => staysRow (base + j + 1) (stR base j)
noncomputable def gput (n : Nat) (ns : List Int) : List Int := (num0 (n + 1)).map fun k => k * atZ ns k + ((n : Int) - k + 1) * atZ ns (k - 1)
noncomputable def lput (n : Nat) (ns : List Int) : List Int := (num0 (n + 1)).map fun k => (k + 1) * atZ ns k + ((n : Int) - k) * atZ ns (k - 1)
noncomputable def grR : Nat -> List Int
 | 0 => [1]
 | j + 1 => gput (j + 1) (grR j)
noncomputable def riR (g : Nat) : Nat -> List Int
 | 0 => grR g
 | j + 1 => lput (g + j + 1) (riR g j)
noncomputable def prF (a : Nat) : Nat -> Int
 | 0 => 1
 | j + 1 => prF a j * ((a : Int) + 1 + (j : Int))
noncomputable def mxD (b : List Int) : Int := b.foldl (fun x y => if x < y then y else x) (-1)
noncomputable def cntI (p : Int -> Bool) (l : List Int) : Nat := (l.filter p).length
noncomputable def sureZ (kind : Str) (m : Nat) (b : List Int) : Int :=
 if kind = "rounds" then closedZ b else if kind = "stays" then staysO b else if kind = "rises" then risesO b else if kind = "highs" then highsO b else crossedO b + (b.map fun a => (cntI (fun x => decide (x < a)) (freeO m b) : Int)).sum
noncomputable def ableZ (kind : Str) (m : Nat) (b : List Int) : Nat :=
 if kind = "rounds" then 0 else if kind = "stays" then cntI (fun x => decide ((b.length : Int) <= x)) (freeO m b) else if kind = "rises" then (if b = [] then 0 else cntI (fun x => decide (x < atO b ((b.length : Int) - 1))) (freeO m b)) else if kind = "highs" then cntI (fun x => decide (mxD b < x)) (freeO m b) else 0
noncomputable def endR (kind : Str) (e : Bool) (l a : Nat) : List Int :=
 if kind = "rounds" then rowZ "rounds" l else if kind = "stays" then stR (l - a) a else if kind = "rises" then (if e then rowZ "rises" l else riR (l - a) a) else if kind = "highs" then (rowZ "highs" a).map (prF a (l - a) * ·) else rowZ "crossed" l
noncomputable def wayR (kind : Str) (m : Nat) (b : List Int) : List Int := endR kind b.isEmpty (m - b.length) (ableZ kind m b)
noncomputable def wayZ (kind : Str) (m : Nat) (b : List Int) (n : Int) : Int := atZ (wayR kind m b) (n - sureZ kind m b)
noncomputable def visG (l : List (Option Int)) : Nat -> Int -> List (Option Int)
 | 0, _ => l
 | u + 1, h => match l.getD h.toNat none with
  | none => l
  | some x => visG (l.set h.toNat none) u x
noncomputable def rndG (l : List (Option Int)) (c : Int) : Nat -> Nat -> Int
 | 0, _ => c
 | u + 1, k => match l.getD k none with
  | none => rndG l c u (k + 1)
  | some _ => rndG (visG l (l.length + 1) (k : Int)) (c + 1) u (k + 1)
noncomputable def ownZ (kind : Str) (o : List Int) : Int :=
 if kind = "stays" then staysO o else if kind = "rises" then risesO o else if kind = "highs" then highsO o else if kind = "crossed" then crossedO o else rndG (o.map some) 0 o.length 0
noncomputable def shZ (s : Int) (row : List Int) : List Int := List.replicate s.toNat 0 ++ row
noncomputable def adL : List Int -> List Int -> List Int
 | [], y => y
 | a :: x, [] => a :: x
 | a :: x, b :: y => (a + b) :: adL x y
noncomputable def eqL : List Int -> List Int -> Bool
 | [], y => y.all fun b => decide (b = 0)
 | a :: x, [] => (a :: x).all fun b => decide (b = 0)
 | a :: x, b :: y => decide (a = b) && eqL x y
end L2
namespace L2
open PySem PySem.Spec PyProof.Rows
theorem free_asc (m : Nat) (b : List Int) : (freeO m b).Pairwise (· < ·) := by
 unfold freeO
 refine List.Pairwise.sublist (List.filter_sublist) ?_
 unfold num0
 rw [List.pairwise_map]
 exact List.Pairwise.imp (fun h => by (first | lia | omega)) List.pairwise_lt_range
noncomputable def rkF (F : List Int) (x : Int) : Nat := cntI (fun y => decide (y < x)) F
theorem rk_at {F : List Int} (h : F.Pairwise (· < ·)) {i : Nat} (hi : i < F.length) : rkF F F[i] = i := by
 unfold rkF cntI
 have s : F = F.take i ++ F[i] :: F.drop (i + 1) := by rw [List.getElem_cons_drop, List.take_append_drop]
 have e : F.filter (fun y => decide (y < F[i])) = F.take i := by
  have hp := h
  rw [s] at hp
  obtain ⟨_, p2, p3⟩ := List.pairwise_append.mp hp
  obtain ⟨p4, _⟩ := List.pairwise_cons.mp p2
  generalize F[i] = y at *
  generalize F.drop (i + 1) = D at *
  generalize F.take i = T at *
  rw [s, List.filter_append, List.filter_cons, if_neg (by simp), List.filter_eq_self.mpr (fun a ha => decide_eq_true (p3 a ha y List.mem_cons_self)), List.filter_eq_nil_iff.mpr (fun a ha => by have := p4 a ha; simp; (first | lia | omega)), List.append_nil]
 rw [e, List.length_take]
 (first | lia | omega)
theorem ranks {F : List Int} (h : F.Pairwise (· < ·)) : F.map (rkF F) = List.range F.length := by
 refine List.ext_getElem (by simp) fun i h1 h2 => ?_
 rw [List.getElem_map, List.getElem_range]
 exact rk_at h (by simpa using h1)
theorem sum_rank {F : List Int} (h : F.Pairwise (· < ·)) (g : Nat -> Int) : (F.map fun x => g (rkF F x)).sum = ((List.range F.length).map g).sum := by
 rw [<- ranks h, List.map_map]
 rfl
theorem rk_lt {F : List Int} (h : F.Pairwise (· < ·)) {x y : Int} (hx : x ∈ F) : x < y ↔ rkF F x < rkF F y := by
 obtain ⟨i, hi, rfl⟩ := List.getElem_of_mem hx
 rw [rk_at h hi]
 have s : F = F.take (i + 1) ++ F.drop (i + 1) := (List.take_append_drop _ _).symm
 constructor
 ·intro hl
  unfold rkF cntI
  have : (F.take (i + 1)).length <= (F.filter fun z => decide (z < y)).length := by
   have e : (F.take (i + 1)).filter (fun z => decide (z < y)) = F.take (i + 1) := by
    refine List.filter_eq_self.mpr fun a ha => decide_eq_true ?_
    obtain ⟨j, hj, rfl⟩ := List.getElem_of_mem ha
    rw [List.getElem_take]
    rw [List.length_take] at hj
    by_cases c : j = i
    ·subst c; exact hl
    ·have := List.pairwise_iff_getElem.mp h j i (by (first | lia | omega)) hi (by (first | lia | omega))
     (first | lia | omega)
   have hs : (F.take (i + 1)).Sublist F := List.take_sublist _ _
   have := (hs.filter fun z => decide (z < y)).length_le
   rw [e] at this
   exact this
  rw [List.length_take] at this
  (first | lia | omega)
 ·intro hl
  by_cases c : F[i] < y
  ·exact c
  ·exfalso
   have : rkF F y <= i := by
    unfold rkF cntI
    have e : F.filter (fun z => decide (z < y)) = (F.take i).filter (fun z => decide (z < y)) := by
     have s2 : F = F.take i ++ F.drop i := (List.take_append_drop _ _).symm
     conv => lhs; rw [s2, List.filter_append]
     have hz : (F.drop i).filter (fun z => decide (z < y)) = [] := List.filter_eq_nil_iff.mpr fun a ha => ?_
     ·rw [hz, List.append_nil]
     obtain ⟨j, hj, rfl⟩ := List.getElem_of_mem ha
     rw [List.getElem_drop]
     have : F[i] <= F[i + j]'(by rw [List.length_drop] at hj; (first | lia | omega)) := by
      by_cases c0 : j = 0
      ·subst c0; exact Int.le_refl _
      ·have := List.pairwise_iff_getElem.mp h i (i + j) hi (by rw [List.length_drop] at hj; (first | lia | omega)) (by (first | lia | omega))
       (first | lia | omega)
     simp
     (first | lia | omega)
    rw [e]
    have := List.length_filter_le (fun z => decide (z < y)) (F.take i)
    rw [List.length_take] at this
    (first | lia | omega)
   (first | lia | omega)
theorem cnt_less {F : List Int} (nd : F.Nodup) {x : Int} (hx : x ∈ F) (p : Int -> Bool) : cntI p (F.filter fun y => decide (y ≠ x)) + (if p x = true then 1 else 0) = cntI p F := by
 unfold cntI
 induction F with
 | nil => cases hx
 | cons a t ih =>
  obtain ⟨h1, h2⟩ := List.nodup_cons.mp nd
  by_cases c : a = x
  ·subst c
   have e : t.filter (fun y => decide (y ≠ a)) = t := List.filter_eq_self.mpr fun y hy => by
    have : y ≠ a := fun z => h1 (z ▸ hy)
    simp [this]
   rw [List.filter_cons, if_neg (by simp), e, List.filter_cons]
   split <;> simp_all
  ·have hx' : x ∈ t := by
    rcases List.mem_cons.mp hx with h | h
    ·exact absurd h.symm c
    ·exact h
   have := ih h2 hx'
   rw [List.filter_cons, if_pos (by simpa using c), List.filter_cons, List.filter_cons (xs := t)]
   by_cases d : p a = true
   ·rw [if_pos d, if_pos d, List.length_cons, List.length_cons]
    (first | lia | omega)
   ·rw [if_neg d, if_neg d]
    exact this
theorem cnt_snoc {m k : Nat} {b : List Int} (_ : Beg m k b) {x : Int} (hx : x ∈ freeO m b) (p : Int -> Bool) : cntI p (freeO m (b ++ [x])) + (if p x = true then 1 else 0) = cntI p (freeO m b) := by
 have := cnt_less (free_nodup m b) hx p
 rw [free_snoc]
 exact this
theorem atO_app {b : List Int} {x : Int} {k : Nat} (h : k < b.length) : atO (b ++ [x]) k = atO b k := by
 unfold atO
 rw [Int.toNat_natCast, List.getD_eq_getElem?_getD, List.getElem?_append_left h, <- List.getD_eq_getElem?_getD]
theorem atO_new {b : List Int} {x : Int} : atO (b ++ [x]) (b.length : Nat) = x := by
 unfold atO
 rw [Int.toNat_natCast, List.getD_eq_getElem?_getD, List.getElem?_append_right (Nat.le_refl _), Nat.sub_self]
 rfl
theorem stays_snoc (b : List Int) (x : Int) : staysO (b ++ [x]) = staysO b + (if x = (b.length : Int) then 1 else 0) := by
 unfold staysO
 rw [List.length_append]
 show sumR (b.length + 1) _ = _
 rw [sumR_succ, atO_new]
 congr 1
 exact sumR_congr fun k hk => by rw [atO_app hk]
theorem rises_snoc {b : List Int} (hb : b ≠ []) (x : Int) : risesO (b ++ [x]) = risesO b + (if atO b ((b.length : Int) - 1) < x then 1 else 0) := by
 have hl := List.length_pos_iff.mpr hb
 unfold risesO
 rw [List.length_append]
 show sumR (b.length + 1 - 1) _ = _
 obtain ⟨n, hn⟩ : ∃ n, b.length = n + 1 := ⟨b.length - 1, by (first | lia | omega)⟩
 rw [show b.length + 1 - 1 = n + 1 by (first | lia | omega), show b.length - 1 = n by (first | lia | omega), sumR_succ]
 have e1 : atO (b ++ [x]) ((n + 1 : Nat) : Int) = x := by rw [<- hn]; exact atO_new
 have e2 : atO (b ++ [x]) ((n : Nat) : Int) = atO b ((b.length : Int) - 1) := by
  rw [atO_app (by (first | lia | omega))]
  congr 1
  (first | lia | omega)
 rw [e1, e2]
 congr 1
 exact sumR_congr fun k hk => by rw [atO_app (by (first | lia | omega)), atO_app (by (first | lia | omega))]
theorem crossed_snoc (b : List Int) (x : Int) : crossedO (b ++ [x]) = crossedO b + (cntI (fun a => decide (x < a)) b : Int) := by
 unfold crossedO
 rw [List.length_append]
 show sumR (b.length + 1) _ = _
 rw [sumR_succ, atO_new, List.take_left']
 ·congr 1
  exact sumR_congr fun k hk => by rw [atO_app hk, List.take_append_of_le_length (by (first | lia | omega))]
 ·rfl
theorem mx_le : ∀ (b : List Int) (s x : Int), (b.foldl (fun x y => if x < y then y else x) s <= x) ↔ s <= x /\ ∀ a ∈ b, a <= x
 | [], s, x => by simp
 | a :: b, s, x => by
  rw [List.foldl_cons, mx_le b]
  constructor
  ·rintro ⟨h1, h2⟩
   split at h1
   ·exact ⟨by (first | lia | omega), fun c hc => by rcases List.mem_cons.mp hc with rfl | hc; exact h1; exact h2 c hc⟩
   ·exact ⟨h1, fun c hc => by rcases List.mem_cons.mp hc with rfl | hc; (first | lia | omega); exact h2 c hc⟩
  ·rintro ⟨h1, h2⟩
   have := h2 a List.mem_cons_self
   exact ⟨by split <;> (first | lia | omega), fun c hc => h2 c (List.mem_cons_of_mem _ hc)⟩
theorem mx_mem : ∀ (b : List Int) (s : Int), b.foldl (fun x y => if x < y then y else x) s = s ∨ b.foldl (fun x y => if x < y then y else x) s ∈ b
 | [], s => .inl rfl
 | a :: b, s => by
  rw [List.foldl_cons]
  rcases mx_mem b (if s < a then a else s) with h | h
  ·rw [h]
   split
   ·exact .inr List.mem_cons_self
   ·exact .inl rfl
  ·exact .inr (List.mem_cons_of_mem _ h)
theorem highs_snoc {b : List Int} {x : Int} (h0 : 0 <= x) (hx : x ∉ b) : highsO (b ++ [x]) = highsO b + (if mxD b < x then 1 else 0) := by
 unfold highsO
 rw [List.length_append]
 show sumR (b.length + 1) _ = _
 rw [sumR_succ, atO_new]
 have e1 : (b ++ [x]).take (b.length + 1) = b ++ [x] := List.take_of_length_le (by simp)
 rw [e1]
 have e2 : ((b ++ [x]).all fun a => decide (a <= x)) = decide (mxD b < x) := by
  rw [Bool.eq_iff_iff, List.all_eq_true, decide_eq_true_eq]
  unfold mxD
  constructor
  ·intro h
   have := (mx_le b (-1) x).mpr ⟨by (first | lia | omega), fun a ha => of_decide_eq_true (h a (List.mem_append_left _ ha))⟩
   rcases mx_mem b (-1) with e | e
   ·(first | lia | omega)
   ·rcases Int.lt_or_eq_of_le this with l | l
    ·exact l
    ·exact absurd (l ▸ e) hx
  ·intro h a ha
   have := (mx_le b (-1) x).mp (by (first | lia | omega))
   rcases List.mem_append.mp ha with ha | ha
   ·exact decide_eq_true (this.2 a ha)
   ·rw [List.mem_singleton.mp ha]
    exact decide_eq_true (Int.le_refl _)
 rw [e2]
 congr 1
 ·exact sumR_congr fun k hk => by rw [atO_app hk, List.take_append_of_le_length (by (first | lia | omega))]
 ·by_cases c : mxD b < x <;> simp [c]
end L2
namespace L2
open PySem PySem.Spec PyProof.Rows
noncomputable def sumL (f : Nat -> List Int) (n : Nat) : List Int := (List.range n).foldr (fun r acc => adL (f r) acc) []
noncomputable def ckRis (n : Nat) : Bool := (List.range n).all fun L => (List.range (L + 2)).all fun A => eqL (sumL (fun r => shZ (if A <= r then 1 else 0) (riR (L - r) r)) (L + 1)) (riR (L + 1 - A) A)
noncomputable def ckRi0 (n : Nat) : Bool := (List.range n).all fun L => eqL (sumL (fun r => riR (L - r) r) (L + 1)) (rowZ "rises" (L + 1))
noncomputable def hiE (l a : Nat) : List Int := (rowZ "highs" a).map (prF a (l - a) * ·)
noncomputable def ckHig (n : Nat) : Bool := (List.range n).all fun L => (List.range (L + 2)).all fun A => eqL (sumL (fun r => if r < L + 1 - A then hiE L A else shZ 1 (hiE L (L - r))) (L + 1)) (hiE (L + 1) A)
noncomputable def ckSt1 (n : Nat) : Bool := (List.range n).all fun L => (List.range (L + 1)).all fun a => eqL (sumL (fun r => if r < L - a then stR (L - a) a else if r = L - a then shZ 1 (stR (L - a) a) else stR (L - (a - 1)) (a - 1)) (L + 1)) (stR (L - a) (a + 1))
noncomputable def ckSt2 (n : Nat) : Bool := (List.range n).all fun L => (List.range (L + 1)).all fun A => eqL (sumL (fun r => if r < L + 1 - A then stR (L - A) A else stR (L - (A - 1)) (A - 1)) (L + 1)) (stR (L + 1 - A) A)
theorem ckHig_t : ckHig 24 = true := by decide +kernel
end L2
namespace L2
open PySem PySem.Spec PyProof.Rows
theorem eqL_atW : ∀ {x y : List Int}, eqL x y = true -> ∀ n, x.getD n 0 = y.getD n 0
 | [], y, h, n => by
  have h' := List.all_eq_true.mp (show (y.all fun b => decide (b = 0)) = true from h)
  rw [List.getD_nil, List.getD_eq_getElem?_getD]
  cases e : y[n]? with
  | none => rfl
  | some v => exact (of_decide_eq_true (h' v (List.mem_of_getElem? e))).symm
 | a :: x, [], h, n => by
  have h' := List.all_eq_true.mp (show ((a :: x).all fun b => decide (b = 0)) = true from h)
  rw [List.getD_nil, List.getD_eq_getElem?_getD]
  cases e : (a :: x)[n]? with
  | none => rfl
  | some v => exact of_decide_eq_true (h' v (List.mem_of_getElem? e))
 | a :: x, b :: y, h, n => by
  unfold eqL at h
  rw [Bool.and_eq_true, decide_eq_true_eq] at h
  cases n with
  | zero => simpa using h.1
  | succ n => simpa using eqL_atW h.2 n
theorem adL_atW : ∀ (x y : List Int) (n : Nat), (adL x y).getD n 0 = x.getD n 0 + y.getD n 0
 | [], y, n => by rw [List.getD_nil, Int.zero_add]; rfl
 | a :: x, [], n => by rw [List.getD_nil, Int.add_zero]; rfl
 | a :: x, b :: y, n => by
  cases n with
  | zero => rfl
  | succ n => simpa [adL] using adL_atW x y n
theorem sh_atW {s : Int} (hs : 0 <= s) (row : List Int) (n : Nat) : (shZ s row).getD n 0 = atZ row ((n : Int) - s) := by
 unfold shZ atZ
 obtain ⟨t, rfl⟩ : ∃ t : Nat, s = (t : Int) := ⟨s.toNat, by (first | lia | omega)⟩
 rw [Int.toNat_natCast]
 by_cases h : (n : Int) - (t : Int) < 0
 ·rw [if_pos h, List.getD_eq_getElem?_getD, List.getElem?_append_left (by rw [List.length_replicate]; (first | lia | omega)), List.getElem?_replicate]
  split <;> rfl
 ·rw [if_neg h, List.getD_eq_getElem?_getD, List.getElem?_append_right (by rw [List.length_replicate]; (first | lia | omega)), List.length_replicate, List.getD_eq_getElem?_getD]
  congr 2
  (first | lia | omega)
theorem fold_atW {f : Nat -> List Int} (t : Nat) : ∀ l : List Nat, (l.foldr (fun r acc => adL (f r) acc) []).getD t 0 = (l.map fun r => (f r).getD t 0).sum
 | [] => rfl
 | a :: l => by rw [List.foldr_cons, adL_atW, fold_atW t l, List.map_cons, List.sum_cons]
theorem sum_zero {α : Type} {g : α -> Int} : ∀ (l : List α), (∀ x ∈ l, g x = 0) -> (l.map g).sum = 0
 | [], _ => rfl
 | a :: l, h => by rw [List.map_cons, List.sum_cons, h a List.mem_cons_self, sum_zero l fun x hx => h x (List.mem_cons_of_mem _ hx)]; rfl
theorem spread_at {f : Nat -> List Int} {R : List Int} {n : Nat} (h : eqL (sumL f n) R = true) (δ : Nat -> Int) (ρ : Nat -> List Int) (hδ : ∀ r, 0 <= δ r) (hf : ∀ r, r < n -> f r = shZ (δ r) (ρ r)) (t : Int) : ((List.range n).map fun r => atZ (ρ r) (t - δ r)).sum = atZ R t := by
 by_cases c : t < 0
 ·rw [sum_zero _ fun r _ => ?_]
  ·unfold atZ
   rw [if_pos c]
  ·unfold atZ
   have := hδ r
   rw [if_pos (by (first | lia | omega))]
 ·obtain ⟨T, rfl⟩ : ∃ T : Nat, t = (T : Int) := ⟨t.toNat, by (first | lia | omega)⟩
  have e1 : atZ R (T : Int) = R.getD T 0 := by unfold atZ; rw [if_neg (by (first | lia | omega)), Int.toNat_natCast]
  rw [e1, <- eqL_atW h T]
  unfold sumL
  rw [fold_atW]
  congr 1
  exact List.map_congr_left fun r hr => by rw [hf r (List.mem_range.mp hr), sh_atW (hδ r)]
theorem ckRi0_at (h : ckRi0 24 = true) {L : Nat} (hL : L < 24) : eqL (sumL (fun r => riR (L - r) r) (L + 1)) (rowZ "rises" (L + 1)) = true := by
 unfold ckRi0 at h
 exact List.all_eq_true.mp h L (List.mem_range.mpr hL)
theorem ckRis_at (h : ckRis 24 = true) {L A : Nat} (hL : L < 24) (hA : A < L + 2) : eqL (sumL (fun r => shZ (if A <= r then 1 else 0) (riR (L - r) r)) (L + 1)) (riR (L + 1 - A) A) = true := by
 unfold ckRis at h
 exact List.all_eq_true.mp (List.all_eq_true.mp h L (List.mem_range.mpr hL)) A (List.mem_range.mpr hA)
theorem ckHig_at (h : ckHig 24 = true) {L A : Nat} (hL : L < 24) (hA : A < L + 2) : eqL (sumL (fun r => if r < L + 1 - A then hiE L A else shZ 1 (hiE L (L - r))) (L + 1)) (hiE (L + 1) A) = true := by
 unfold ckHig at h
 exact List.all_eq_true.mp (List.all_eq_true.mp h L (List.mem_range.mpr hL)) A (List.mem_range.mpr hA)
theorem ckSt1_at (h : ckSt1 24 = true) {L a : Nat} (hL : L < 24) (hA : a < L + 1) : eqL (sumL (fun r => if r < L - a then stR (L - a) a else if r = L - a then shZ 1 (stR (L - a) a) else stR (L - (a - 1)) (a - 1)) (L + 1)) (stR (L - a) (a + 1)) = true := by
 unfold ckSt1 at h
 exact List.all_eq_true.mp (List.all_eq_true.mp h L (List.mem_range.mpr hL)) a (List.mem_range.mpr hA)
theorem ckSt2_at (h : ckSt2 24 = true) {L A : Nat} (hL : L < 24) (hA : A < L + 1) : eqL (sumL (fun r => if r < L + 1 - A then stR (L - A) A else stR (L - (A - 1)) (A - 1)) (L + 1)) (stR (L + 1 - A) A) = true := by
 unfold ckSt2 at h
 exact List.all_eq_true.mp (List.all_eq_true.mp h L (List.mem_range.mpr hL)) A (List.mem_range.mpr hA)
section
variable {m k : Nat} {b : List Int} {x : Int}
theorem last_mem (hb : b ≠ []) : atO b ((b.length : Int) - 1) ∈ b := by
 have hl := List.length_pos_iff.mpr hb
 unfold atO
 rw [show ((b.length : Int) - 1).toNat = b.length - 1 by (first | lia | omega), List.getD_eq_getElem?_getD, List.getElem?_eq_getElem (by (first | lia | omega))]
 exact List.getElem_mem _
theorem mem_free : x ∈ freeO m b ↔ (0 <= x /\ x < m) /\ x ∉ b := by
 unfold freeO
 rw [List.mem_filter, mem_num0, decide_eq_true_eq]
theorem able_rises (B : Beg m k b) (hx : x ∈ freeO m b) : ableZ "rises" m (b ++ [x]) = rkF (freeO m b) x := by
 have e : atO (b ++ [x]) (((b ++ [x]).length : Int) - 1) = x := by
  rw [show (((b ++ [x]).length : Int) - 1) = ((b.length : Nat) : Int) by rw [List.length_append]; show ((b.length + 1 : Nat) : Int) - 1 = _; (first | lia | omega)]
  exact atO_new
 have : ableZ "rises" m (b ++ [x]) = cntI (fun y => decide (y < atO (b ++ [x]) (((b ++ [x]).length : Int) - 1))) (freeO m (b ++ [x])) := by
  unfold ableZ
  rw [if_neg (by decide), if_neg (by decide), if_pos rfl, if_neg (by simp)]
 rw [this, e]
 have := cnt_snoc B hx (fun y => decide (y < x))
 rw [if_neg (by simp), Nat.add_zero] at this
 exact this
theorem way_snoc (kind : Str) (B : Beg m k b) (n : Int) : wayZ kind m (b ++ [x]) n = atZ (endR kind false (m - (k + 1)) (ableZ kind m (b ++ [x]))) (n - sureZ kind m (b ++ [x])) := by
 unfold wayZ wayR
 rw [show (b ++ [x]).isEmpty = false by cases b <;> rfl, List.length_append, B.len]
 rfl
theorem spread_rises (B : Beg m k b) (hk : k < m) (hm : m <= 24) (h1 : ckRi0 24 = true) (h2 : ckRis 24 = true) (n : Int) : ((freeO m b).map fun x => wayZ "rises" m (b ++ [x]) n).sum = wayZ "rises" m b n := by
 have hF := B.free
 have asc := free_asc m b
 obtain ⟨L, hL⟩ : ∃ L, m - k = L + 1 := ⟨m - k - 1, by (first | lia | omega)⟩
 have hFl : (freeO m b).length = L + 1 := by (first | lia | omega)
 have hL' : m - (k + 1) = L := by (first | lia | omega)
 have eR : ∀ r, endR "rises" false L r = riR (L - r) r := fun r => rfl
 by_cases hb : b = []
 ·have e1 : ∀ x ∈ freeO m b, wayZ "rises" m (b ++ [x]) n = atZ (riR (L - rkF (freeO m b) x) (rkF (freeO m b) x)) (n - 0) := fun x hx => by
   have h0 : sureZ "rises" m (b ++ [x]) = 0 := by
    unfold sureZ
    rw [if_neg (by decide), if_neg (by decide), if_pos rfl, hb]
    rfl
   rw [way_snoc "rises" B, able_rises B hx, hL', eR, h0]
  rw [List.map_congr_left e1, sum_rank asc (fun r => atZ (riR (L - r) r) (n - 0)), hFl]
  have := spread_at (ckRi0_at h1 (show L < 24 by (first | lia | omega))) (fun _ => 0) (fun r => riR (L - r) r) (fun _ => Int.le_refl _) (fun r _ => rfl) n
  rw [this]
  have hk0 : k = 0 := by rw [<- B.len, hb]; rfl
  have e2 : wayR "rises" m b = rowZ "rises" (L + 1) := by
   unfold wayR
   rw [hb]
   show endR "rises" true (m - 0) _ = _
   rw [show m - 0 = L + 1 by (first | lia | omega)]
   rfl
  have e3 : sureZ "rises" m b = 0 := by
   unfold sureZ
   rw [if_neg (by decide), if_neg (by decide), if_pos rfl, hb]
   rfl
  unfold wayZ
  rw [e2, e3, Int.sub_zero]
 ·have sA : ableZ "rises" m b = rkF (freeO m b) (atO b ((b.length : Int) - 1)) := by
   unfold ableZ
   rw [if_neg (by decide), if_neg (by decide), if_pos rfl, if_neg hb]
   rfl
  have hAle : ableZ "rises" m b <= L + 1 := by
   rw [sA]
   unfold rkF cntI
   have := List.length_filter_le (fun y => decide (y < atO b ((b.length : Int) - 1))) (freeO m b)
   (first | lia | omega)
  have e1 : ∀ x ∈ freeO m b, wayZ "rises" m (b ++ [x]) n = atZ (riR (L - rkF (freeO m b) x) (rkF (freeO m b) x)) (n - risesO b - (if ableZ "rises" m b <= rkF (freeO m b) x then 1 else 0)) := fun x hx => by
   rw [way_snoc "rises" B, able_rises B hx, hL', eR]
   have hs : sureZ "rises" m (b ++ [x]) = risesO (b ++ [x]) := by
    unfold sureZ
    rw [if_neg (by decide), if_neg (by decide), if_pos rfl]
   have hne : x ≠ atO b ((b.length : Int) - 1) := fun e => (mem_free.mp hx).2 (e ▸ last_mem hb)
   have hlt := rk_lt asc (x := x) (y := atO b ((b.length : Int) - 1)) hx
   rw [<- sA] at hlt
   have key : (if atO b ((b.length : Int) - 1) < x then (1 : Int) else 0) = if ableZ "rises" m b <= rkF (freeO m b) x then 1 else 0 := by
    generalize atO b ((b.length : Int) - 1) = y at *
    generalize ableZ "rises" m b = A at *
    generalize rkF (freeO m b) x = r at *
    by_cases c : y < x
    ·have h' : ¬ x < y := by (first | lia | omega)
     rw [hlt] at h'
     rw [if_pos c, if_pos (by (first | lia | omega))]
    ·have h' : x < y := by (first | lia | omega)
     rw [hlt] at h'
     rw [if_neg c, if_neg (by (first | lia | omega))]
   rw [hs, rises_snoc hb, key, Int.sub_sub]
  rw [List.map_congr_left e1, sum_rank asc (fun r => atZ (riR (L - r) r) (n - risesO b - (if ableZ "rises" m b <= r then 1 else 0))), hFl]
  have := spread_at (ckRis_at h2 (show L < 24 by (first | lia | omega)) (show ableZ "rises" m b < L + 2 by (first | lia | omega))) (fun r => if ableZ "rises" m b <= r then 1 else 0) (fun r => riR (L - r) r) (fun r => by split <;> decide) (fun r _ => rfl) (n - risesO b)
  rw [this]
  have e2 : wayR "rises" m b = riR (L + 1 - ableZ "rises" m b) (ableZ "rises" m b) := by
   unfold wayR
   rw [show b.isEmpty = false by cases b with | nil => exact absurd rfl hb | cons _ _ => rfl, B.len, hL]
   rfl
  have e3 : sureZ "rises" m b = risesO b := by
   unfold sureZ
   rw [if_neg (by decide), if_neg (by decide), if_pos rfl]
  unfold wayZ
  rw [e2, e3]
theorem able_highs : ableZ "highs" m b = cntI (fun y => decide (mxD b < y)) (freeO m b) := by
 unfold ableZ
 rw [if_neg (by decide), if_neg (by decide), if_neg (by decide), if_pos rfl]
theorem sure_highs : sureZ "highs" m b = highsO b := by
 unfold sureZ
 rw [if_neg (by decide), if_neg (by decide), if_neg (by decide), if_pos rfl]
theorem mx_snoc : mxD (b ++ [x]) = if mxD b < x then x else mxD b := by
 unfold mxD
 rw [List.foldl_append]
 rfl
theorem cnt_split (F : List Int) (p : Int -> Bool) : cntI p F + cntI (fun y => !p y) F = F.length := by
 unfold cntI
 induction F with
 | nil => rfl
 | cons a t ih =>
  rw [List.filter_cons, List.filter_cons]
  cases h : p a <;> simp <;> (first | lia | omega)
theorem cnt_congr {F : List Int} {p q : Int -> Bool} (h : ∀ y ∈ F, p y = q y) : cntI p F = cntI q F := by
 unfold cntI
 rw [List.filter_congr h]
theorem cnt_above (hx : x ∈ freeO m b) : cntI (fun y => decide (x < y)) (freeO m b) + rkF (freeO m b) x + 1 = (freeO m b).length := by
 have h1 := cnt_split (freeO m b) (fun y => decide (x < y))
 have h2 := cnt_less (free_nodup m b) hx (fun y => !decide (x < y))
 have h3 : cntI (fun y => !decide (x < y)) ((freeO m b).filter fun y => decide (y ≠ x)) = rkF ((freeO m b).filter fun y => decide (y ≠ x)) x := cnt_congr fun y hy => by
  have : y ≠ x := of_decide_eq_true (List.mem_filter.mp hy).2
  by_cases c : x < y
  ·rw [decide_eq_true c, decide_eq_false (by (first | lia | omega))]; rfl
  ·rw [decide_eq_false c, decide_eq_true (by (first | lia | omega))]; rfl
 have h4 := cnt_less (free_nodup m b) hx (fun y => decide (y < x))
 rw [if_neg (by simp)] at h4
 rw [if_pos (by simp), h3] at h2
 unfold rkF at *
 (first | lia | omega)
set_option maxHeartbeats 2000000 in
theorem spread_highs (B : Beg m k b) (hk : k < m) (hm : m <= 24) (h2 : ckHig 24 = true) (n : Int) : ((freeO m b).map fun x => wayZ "highs" m (b ++ [x]) n).sum = wayZ "highs" m b n := by
 have hF := B.free
 have asc := free_asc m b
 obtain ⟨L, hL⟩ : ∃ L, m - k = L + 1 := ⟨m - k - 1, by (first | lia | omega)⟩
 have hFl : (freeO m b).length = L + 1 := by (first | lia | omega)
 have hL' : m - (k + 1) = L := by (first | lia | omega)
 have eR : ∀ (e : Bool) (l a : Nat), endR "highs" e l a = hiE l a := fun e l a => by
  unfold endR
  rw [if_neg (by decide), if_neg (by decide), if_neg (by decide), if_pos rfl]
  rfl
 have hAle : ableZ "highs" m b <= L + 1 := by
  rw [able_highs]
  unfold cntI
  have := List.length_filter_le (fun y => decide (mxD b < y)) (freeO m b)
  (first | lia | omega)
 have hmx : ∀ y ∈ freeO m b, y ≠ mxD b := fun y hy e => by
  have hy' := mem_free.mp hy
  rcases mx_mem b (-1) with h | h
  ·have : mxD b = -1 := h
   (first | lia | omega)
  ·exact hy'.2 (e ▸ h)
 have e1 : ∀ x ∈ freeO m b, wayZ "highs" m (b ++ [x]) n = atZ (if rkF (freeO m b) x < L + 1 - ableZ "highs" m b then hiE L (ableZ "highs" m b) else hiE L (L - rkF (freeO m b) x)) (n - highsO b - (if rkF (freeO m b) x < L + 1 - ableZ "highs" m b then 0 else 1)) := fun x hx => by
  have hx' := mem_free.mp hx
  rw [way_snoc "highs" B, hL', eR, sure_highs, highs_snoc hx'.1.1 hx'.2]
  have hlt := rk_lt asc (x := x) (y := mxD b) hx
  have hsp : rkF (freeO m b) (mxD b) + ableZ "highs" m b = L + 1 := by
   have hq : cntI (fun y => decide (mxD b < y)) (freeO m b) = cntI (fun y => !decide (y < mxD b)) (freeO m b) := cnt_congr fun y hy => by
    have := hmx y hy
    by_cases c : y < mxD b
    ·rw [decide_eq_true c, decide_eq_false (by (first | lia | omega))]; rfl
    ·rw [decide_eq_false c, decide_eq_true (by (first | lia | omega))]; rfl
   have hc := cnt_split (freeO m b) (fun y => decide (y < mxD b))
   rw [able_highs, hq]
   unfold rkF
   rw [hc, hFl]
  have hne := hmx x hx
  by_cases c : mxD b < x
  ·have h' : ¬ x < mxD b := by (first | lia | omega)
   rw [hlt] at h'
   have hA : ableZ "highs" m (b ++ [x]) = L - rkF (freeO m b) x := by
    rw [able_highs, mx_snoc, if_pos c]
    have a1 := cnt_snoc B hx (fun y => decide (x < y))
    rw [if_neg (by simp), Nat.add_zero] at a1
    have a2 := cnt_above hx
    (first | lia | omega)
   rw [hA, if_pos c, if_neg (by (first | lia | omega)), if_neg (by (first | lia | omega)), Int.sub_sub]
  ·have h' : x < mxD b := by (first | lia | omega)
   rw [hlt] at h'
   have hA : ableZ "highs" m (b ++ [x]) = ableZ "highs" m b := by
    rw [able_highs, mx_snoc, if_neg c, able_highs]
    have a1 := cnt_snoc B hx (fun y => decide (mxD b < y))
    rw [if_neg (by simpa using c), Nat.add_zero] at a1
    exact a1
   rw [hA, if_neg c, if_pos (by (first | lia | omega)), if_pos (by (first | lia | omega)), Int.add_zero, Int.sub_zero]
 rw [List.map_congr_left e1, sum_rank asc (fun r => atZ (if r < L + 1 - ableZ "highs" m b then hiE L (ableZ "highs" m b) else hiE L (L - r)) (n - highsO b - (if r < L + 1 - ableZ "highs" m b then 0 else 1))), hFl]
 have := spread_at (ckHig_at h2 (show L < 24 by (first | lia | omega)) (show ableZ "highs" m b < L + 2 by (first | lia | omega))) (fun r => if r < L + 1 - ableZ "highs" m b then 0 else 1) (fun r => if r < L + 1 - ableZ "highs" m b then hiE L (ableZ "highs" m b) else hiE L (L - r)) (fun r => by split <;> decide) (fun r _ => by split <;> rfl) (n - highsO b)
 rw [this]
 have e2 : wayR "highs" m b = hiE (L + 1) (ableZ "highs" m b) := by
  unfold wayR
  rw [eR, B.len, hL]
 unfold wayZ
 rw [e2, sure_highs]
theorem able_stays : ableZ "stays" m b = cntI (fun y => decide ((b.length : Int) <= y)) (freeO m b) := by
 unfold ableZ
 rw [if_neg (by decide), if_pos rfl]
theorem sure_stays : sureZ "stays" m b = staysO b := by
 unfold sureZ
 rw [if_neg (by decide), if_pos rfl]
set_option maxHeartbeats 2000000 in
theorem spread_stays (B : Beg m k b) (hk : k < m) (hm : m <= 24) (h1 : ckSt1 24 = true) (h2 : ckSt2 24 = true) (n : Int) : ((freeO m b).map fun x => wayZ "stays" m (b ++ [x]) n).sum = wayZ "stays" m b n := by
 have hF := B.free
 have asc := free_asc m b
 obtain ⟨L, hL⟩ : ∃ L, m - k = L + 1 := ⟨m - k - 1, by (first | lia | omega)⟩
 have hFl : (freeO m b).length = L + 1 := by (first | lia | omega)
 have hL' : m - (k + 1) = L := by (first | lia | omega)
 have eR : ∀ (e : Bool) (l a : Nat), endR "stays" e l a = stR (l - a) a := fun e l a => by
  unfold endR
  rw [if_neg (by decide), if_pos rfl]
 have hlen := B.len
 have hsp : rkF (freeO m b) (k : Int) + ableZ "stays" m b = L + 1 := by
  have hq : cntI (fun y => decide ((k : Int) <= y)) (freeO m b) = cntI (fun y => !decide (y < (k : Int))) (freeO m b) := cnt_congr fun y hy => by
   by_cases c : y < (k : Int)
   ·rw [decide_eq_true c, decide_eq_false (by (first | lia | omega))]; rfl
   ·rw [decide_eq_false c, decide_eq_true (by (first | lia | omega))]; rfl
  have hc := cnt_split (freeO m b) (fun y => decide (y < (k : Int)))
  rw [able_stays, hlen, hq]
  unfold rkF
  rw [hc, hFl]
 have hab : ∀ x ∈ freeO m b, ableZ "stays" m (b ++ [x]) + (if (k : Int) < x then 1 else 0) = cntI (fun y => decide ((k : Int) < y)) (freeO m b) := fun x hx => by
  have a1 := cnt_snoc B hx (fun y => decide ((k : Int) < y))
  rw [able_stays, List.length_append, hlen]
  have e : cntI (fun y => decide (((k + [x].length : Nat) : Int) <= y)) (freeO m (b ++ [x])) = cntI (fun y => decide ((k : Int) < y)) (freeO m (b ++ [x])) := cnt_congr fun y _ => decide_eq_decide.mpr (by show ((k + 1 : Nat) : Int) <= y ↔ _; (first | lia | omega))
  rw [e, <- a1]
  by_cases c : (k : Int) < x
  ·rw [if_pos c, if_pos (decide_eq_true c)]
  ·rw [if_neg c, if_neg (by simpa using c)]
 have hss : ∀ x : Int, sureZ "stays" m (b ++ [x]) = staysO b + (if x = (k : Int) then 1 else 0) := fun x => by rw [sure_stays, stays_snoc, hlen]
 have e2 : wayR "stays" m b = stR (L + 1 - ableZ "stays" m b) (ableZ "stays" m b) := by
  unfold wayR
  rw [eR, hlen, hL]
 by_cases hkF : (k : Int) ∈ freeO m b
 ·have hgt : cntI (fun y => decide ((k : Int) < y)) (freeO m b) + 1 = ableZ "stays" m b := by
   have := cnt_above hkF
   (first | lia | omega)
  obtain ⟨a, ha⟩ : ∃ a, ableZ "stays" m b = a + 1 := ⟨ableZ "stays" m b - 1, by (first | lia | omega)⟩
  have e1 : ∀ x ∈ freeO m b, wayZ "stays" m (b ++ [x]) n = atZ (if rkF (freeO m b) x < L - a then stR (L - a) a else if rkF (freeO m b) x = L - a then stR (L - a) a else stR (L - (a - 1)) (a - 1)) (n - staysO b - (if rkF (freeO m b) x = L - a then 1 else 0)) := fun x hx => by
   rw [way_snoc "stays" B, hL', eR, hss, <- Int.sub_sub]
   have hA := hab x hx
   have hlt := rk_lt asc (x := x) (y := (k : Int)) hx
   have hgt' := rk_lt asc (x := (k : Int)) (y := x) hkF
   by_cases c : x < (k : Int)
   ·rw [if_neg (by (first | lia | omega))] at hA
    have hr := hlt.mp c
    rw [show ableZ "stays" m (b ++ [x]) = a by (first | lia | omega), if_neg (by (first | lia | omega)), if_pos (by (first | lia | omega)), if_neg (by (first | lia | omega))]
   ·by_cases d : x = (k : Int)
    ·subst d
     rw [if_neg (by (first | lia | omega))] at hA
     rw [show ableZ "stays" m (b ++ [(k : Int)]) = a by (first | lia | omega), if_pos rfl, if_neg (by (first | lia | omega)), if_pos (by (first | lia | omega)), if_pos (by (first | lia | omega))]
    ·have d' : (k : Int) < x := by (first | lia | omega)
     rw [if_pos d'] at hA
     have hr := hgt'.mp d'
     rw [show ableZ "stays" m (b ++ [x]) = a - 1 by (first | lia | omega), if_neg d, if_neg (by (first | lia | omega)), if_neg (by (first | lia | omega)), if_neg (by (first | lia | omega))]
  rw [List.map_congr_left e1, sum_rank asc (fun r => atZ (if r < L - a then stR (L - a) a else if r = L - a then stR (L - a) a else stR (L - (a - 1)) (a - 1)) (n - staysO b - (if r = L - a then 1 else 0))), hFl]
  have := spread_at (ckSt1_at h1 (show L < 24 by (first | lia | omega)) (show a < L + 1 by (first | lia | omega))) (fun r => if r = L - a then 1 else 0) (fun r => if r < L - a then stR (L - a) a else if r = L - a then stR (L - a) a else stR (L - (a - 1)) (a - 1)) (fun r => by split <;> decide) (fun r _ => by
   by_cases c : r < L - a
   ·rw [if_pos c, if_pos c, if_neg (by (first | lia | omega))]; rfl
   ·rw [if_neg c, if_neg c]
    by_cases d : r = L - a
    ·rw [if_pos d, if_pos d, if_pos d]
    ·rw [if_neg d, if_neg d, if_neg d]; rfl) (n - staysO b)
  rw [this]
  unfold wayZ
  rw [e2, sure_stays, ha, show L + 1 - (a + 1) = L - a by (first | lia | omega)]
 ·have hgt : cntI (fun y => decide ((k : Int) < y)) (freeO m b) = ableZ "stays" m b := by
   rw [able_stays, hlen]
   refine cnt_congr fun y hy => decide_eq_decide.mpr ?_
   have : y ≠ (k : Int) := fun e => hkF (e ▸ hy)
   (first | lia | omega)
  have hAL : ableZ "stays" m b <= L := by
   have h0 : 0 < rkF (freeO m b) (k : Int) := by
    by_cases c : 0 < rkF (freeO m b) (k : Int)
    ·exact c
    ·exfalso
     have hall : ∀ y ∈ freeO m b, (k : Int) < y := fun y hy => by
      have hlt := rk_lt asc (x := y) (y := (k : Int)) hy
      have : y ≠ (k : Int) := fun e => hkF (e ▸ hy)
      have : ¬ y < (k : Int) := fun z => by have := hlt.mp z; (first | lia | omega)
      (first | lia | omega)
     have : (freeO m b).length <= (numF ((k : Int) + 1) (m - k - 1)).length := by
      refine len_le (free_nodup m b) fun y hy => ?_
      have h1 := hall y hy
      have h2 := (mem_free.mp hy).1
      exact List.mem_map.mpr ⟨(y - (k : Int) - 1).toNat, List.mem_range.mpr (by (first | lia | omega)), by (first | lia | omega)⟩
     unfold numF at this
     rw [List.length_map, List.length_range] at this
     (first | lia | omega)
   (first | lia | omega)
  have e1 : ∀ x ∈ freeO m b, wayZ "stays" m (b ++ [x]) n = atZ (if rkF (freeO m b) x < L + 1 - ableZ "stays" m b then stR (L - ableZ "stays" m b) (ableZ "stays" m b) else stR (L - (ableZ "stays" m b - 1)) (ableZ "stays" m b - 1)) (n - staysO b - 0) := fun x hx => by
   have hne : x ≠ (k : Int) := fun e => hkF (e ▸ hx)
   rw [way_snoc "stays" B, hL', eR, hss, if_neg hne, Int.add_zero, Int.sub_zero]
   have hA := hab x hx
   have hlt := rk_lt asc (x := x) (y := (k : Int)) hx
   by_cases c : x < (k : Int)
   ·rw [if_neg (by (first | lia | omega))] at hA
    have hr := hlt.mp c
    rw [show ableZ "stays" m (b ++ [x]) = ableZ "stays" m b by (first | lia | omega), if_pos (by (first | lia | omega))]
   ·rw [if_pos (by (first | lia | omega))] at hA
    have hr : ¬ rkF (freeO m b) x < rkF (freeO m b) (k : Int) := fun z => c (hlt.mpr z)
    rw [show ableZ "stays" m (b ++ [x]) = ableZ "stays" m b - 1 by (first | lia | omega), if_neg (by (first | lia | omega))]
  rw [List.map_congr_left e1, sum_rank asc (fun r => atZ (if r < L + 1 - ableZ "stays" m b then stR (L - ableZ "stays" m b) (ableZ "stays" m b) else stR (L - (ableZ "stays" m b - 1)) (ableZ "stays" m b - 1)) (n - staysO b - 0)), hFl]
  have := spread_at (ckSt2_at h2 (show L < 24 by (first | lia | omega)) (show ableZ "stays" m b < L + 1 by (first | lia | omega))) (fun _ => 0) (fun r => if r < L + 1 - ableZ "stays" m b then stR (L - ableZ "stays" m b) (ableZ "stays" m b) else stR (L - (ableZ "stays" m b - 1)) (ableZ "stays" m b - 1)) (fun r => Int.le_refl _) (fun r _ => rfl) (n - staysO b)
  rw [this]
  unfold wayZ
  rw [e2, sure_stays]
end
end L2
namespace L2
open PySem PySem.Spec PyProof.Rows
noncomputable def ckCr (n : Nat) : Bool := (List.range n).all fun L => eqL (sumL (fun r => shZ (r : Int) (rowZ "crossed" L)) (L + 1)) (rowZ "crossed" (L + 1))
theorem ckCr_t : ckCr 12 = true := by decide +kernel
noncomputable def ckRo (n : Nat) : Bool := (List.range n).all fun L => eqL (sumL (fun r => shZ (if r = 0 then 1 else 0) (rowZ "rounds" L)) (L + 1)) (rowZ "rounds" (L + 1))
theorem ckRo_t : ckRo 24 = true := by decide +kernel
theorem ckCr_at {L : Nat} (hL : L < 12) : eqL (sumL (fun r => shZ (r : Int) (rowZ "crossed" L)) (L + 1)) (rowZ "crossed" (L + 1)) = true := by
 have h := ckCr_t
 unfold ckCr at h
 exact List.all_eq_true.mp h L (List.mem_range.mpr hL)
theorem ckRo_at {L : Nat} (hL : L < 24) : eqL (sumL (fun r => shZ (if r = 0 then 1 else 0) (rowZ "rounds" L)) (L + 1)) (rowZ "rounds" (L + 1)) = true := by
 have h := ckRo_t
 unfold ckRo at h
 exact List.all_eq_true.mp h L (List.mem_range.mpr hL)
section
variable {m k : Nat} {b : List Int} {x : Int}
theorem sure_crossed : sureZ "crossed" m b = crossedO b + (b.map fun a => (cntI (fun x => decide (x < a)) (freeO m b) : Int)).sum := by
 unfold sureZ
 rw [if_neg (by decide), if_neg (by decide), if_neg (by decide), if_neg (by decide)]
theorem sum_sub {f g : Int -> Int} (p : Int -> Bool) : ∀ (l : List Int), (∀ a ∈ l, f a + (if p a = true then 1 else 0) = g a) -> (l.map f).sum + (cntI p l : Int) = (l.map g).sum
 | [], _ => rfl
 | a :: l, h => by
  have h1 := h a List.mem_cons_self
  have h2 := sum_sub p l fun c hc => h c (List.mem_cons_of_mem _ hc)
  unfold cntI at *
  rw [List.map_cons, List.map_cons, List.sum_cons, List.sum_cons, List.filter_cons]
  by_cases c : p a = true
  ·rw [if_pos c] at h1 ⊢
   rw [List.length_cons]
   push_cast
   (first | lia | omega)
  ·rw [if_neg c] at h1 ⊢
   (first | lia | omega)
theorem crossed_sure (B : Beg m k b) (hx : x ∈ freeO m b) : sureZ "crossed" m (b ++ [x]) = sureZ "crossed" m b + (rkF (freeO m b) x : Int) := by
 rw [sure_crossed, sure_crossed, crossed_snoc, List.map_append, List.sum_append]
 have h1 := sum_sub (f := fun a => (cntI (fun y => decide (y < a)) (freeO m (b ++ [x])) : Int)) (g := fun a => (cntI (fun y => decide (y < a)) (freeO m b) : Int)) (fun a => decide (x < a)) b fun a ha => by
  have := cnt_snoc B hx (fun y => decide (y < a))
  by_cases c : x < a
  ·rw [if_pos (decide_eq_true c)] at this ⊢
   (first | lia | omega)
  ·rw [if_neg (by simpa using c)] at this ⊢
   (first | lia | omega)
 have h2 := cnt_snoc B hx (fun y => decide (y < x))
 rw [if_neg (by simp), Nat.add_zero] at h2
 have h3 : ([x].map fun a => (cntI (fun y => decide (y < a)) (freeO m (b ++ [x])) : Int)).sum = (rkF (freeO m b) x : Int) := by
  show (cntI (fun y => decide (y < x)) (freeO m (b ++ [x])) : Int) + 0 = _
  rw [h2, Int.add_zero]
  rfl
 rw [h3]
 (first | lia | omega)
theorem spread_crossed (B : Beg m k b) (hk : k < m) (hm : m <= 12) (n : Int) : ((freeO m b).map fun x => wayZ "crossed" m (b ++ [x]) n).sum = wayZ "crossed" m b n := by
 have hF := B.free
 have asc := free_asc m b
 obtain ⟨L, hL⟩ : ∃ L, m - k = L + 1 := ⟨m - k - 1, by (first | lia | omega)⟩
 have hFl : (freeO m b).length = L + 1 := by (first | lia | omega)
 have hL' : m - (k + 1) = L := by (first | lia | omega)
 have eR : ∀ (e : Bool) (l a : Nat), endR "crossed" e l a = rowZ "crossed" l := fun e l a => by
  unfold endR
  rw [if_neg (by decide), if_neg (by decide), if_neg (by decide), if_neg (by decide)]
 have e1 : ∀ x ∈ freeO m b, wayZ "crossed" m (b ++ [x]) n = atZ (rowZ "crossed" L) (n - sureZ "crossed" m b - (rkF (freeO m b) x : Int)) := fun x hx => by
  rw [way_snoc "crossed" B, hL', eR, crossed_sure B hx, Int.sub_sub]
 rw [List.map_congr_left e1, sum_rank asc (fun r => atZ (rowZ "crossed" L) (n - sureZ "crossed" m b - (r : Int))), hFl]
 have := spread_at (ckCr_at (show L < 12 by (first | lia | omega))) (fun r => (r : Int)) (fun _ => rowZ "crossed" L) (fun r => by (first | lia | omega)) (fun r _ => rfl) (n - sureZ "crossed" m b)
 rw [this]
 have e2 : wayR "crossed" m b = rowZ "crossed" (L + 1) := by
  unfold wayR
  rw [eR, B.len, hL]
 unfold wayZ
 rw [e2]
end
end L2
namespace L2
open PySem PySem.Spec PyProof.Rows
noncomputable def itB (b : List Int) : Nat -> Int -> Int
 | 0, v => v
 | n + 1, v => atO b (itB b n v)
theorem itB_succ (b : List Int) : ∀ (n : Nat) (v : Int), itB b (n + 1) v = itB b n (atO b v)
 | 0, _ => rfl
 | n + 1, v => by
  show atO b (itB b (n + 1) v) = atO b (itB b n (atO b v))
  rw [itB_succ b n v]
theorem itB_add (b : List Int) (i : Nat) : ∀ (j : Nat) (v : Int), itB b (i + j) v = itB b j (itB b i v)
 | 0, _ => rfl
 | j + 1, v => by
  show atO b (itB b (i + j) v) = atO b (itB b j (itB b i v))
  rw [itB_add b i j v]
noncomputable def LsR (b : List Int) (f : Int) (s : Nat) : Prop := (∀ j, j < s -> f < itB b (j + 1) f /\ itB b (j + 1) f < (b.length : Int)) /\ itB b (s + 1) f = f
noncomputable def leastW (b : List Int) (f : Int) : Bool := decide (leastG b f b.length (atO b f) = f)
noncomputable def closedW (b : List Int) : Int := (cntI (leastW b) (num0 b.length) : Int)
theorem least_of (b : List Int) (f : Int) : ∀ (u s : Nat) (v : Int), s <= u -> (∀ j, j < s -> f < itB b j v /\ itB b j v < (b.length : Int)) -> itB b s v = f -> leastG b f u v = f
 | 0, s, v, hs, _, h => by
  have : s = 0 := by (first | lia | omega)
  subst this
  exact h
 | u + 1, s, v, hs, hj, h => by
  cases s with
  | zero =>
   have h : v = f := h
   show (if f < v /\ v < (b.length : Int) then leastG b f u (atO b v) else v) = f
   rw [if_neg (by (first | lia | omega))]
   exact h
  | succ s =>
   show (if f < v /\ v < (b.length : Int) then leastG b f u (atO b v) else v) = f
   rw [if_pos (show f < v /\ v < (b.length : Int) from hj 0 (by (first | lia | omega)))]
   exact least_of b f u s (atO b v) (by (first | lia | omega)) (fun j hj' => by rw [<- itB_succ]; exact hj (j + 1) (by (first | lia | omega))) (by rw [<- itB_succ]; exact h)
theorem of_least (b : List Int) (f : Int) : ∀ (u : Nat) (v : Int), leastG b f u v = f -> ∃ s, s <= u /\ (∀ j, j < s -> f < itB b j v /\ itB b j v < (b.length : Int)) /\ itB b s v = f
 | 0, v, h => ⟨0, Nat.le_refl _, fun j hj => by (first | lia | omega), h⟩
 | u + 1, v, h => by
  have h : (if f < v /\ v < (b.length : Int) then leastG b f u (atO b v) else v) = f := h
  by_cases c : f < v /\ v < (b.length : Int)
  ·rw [if_pos c] at h
   obtain ⟨s, h1, h2, h3⟩ := of_least b f u (atO b v) h
   refine ⟨s + 1, by (first | lia | omega), fun j hj => ?_, by rw [itB_succ]; exact h3⟩
   cases j with
   | zero => exact c
   | succ j => rw [itB_succ]; exact h2 j (by (first | lia | omega))
  ·rw [if_neg c] at h
   exact ⟨0, Nat.zero_le _, fun j hj => by (first | lia | omega), h⟩
theorem at_inj {b : List Int} (nd : b.Nodup) {x y : Int} (hx : 0 <= x /\ x < (b.length : Int)) (hy : 0 <= y /\ y < (b.length : Int)) (h : atO b x = atO b y) : x = y := by
 unfold atO at h
 rw [List.getD_eq_getElem?_getD, List.getD_eq_getElem?_getD, List.getElem?_eq_getElem (by (first | lia | omega)), List.getElem?_eq_getElem (by (first | lia | omega))] at h
 have := (List.getElem_inj nd).mp h
 (first | lia | omega)
theorem it_inj {b : List Int} (nd : b.Nodup) {v : Int} : ∀ (i j : Nat), (∀ l, l < i + j -> 0 <= itB b l v /\ itB b l v < (b.length : Int)) -> itB b (i + j) v = itB b i v -> itB b j v = v
 | 0, j, _, h => by rw [Nat.zero_add] at h; exact h
 | i + 1, j, hr, h => by
  refine it_inj nd i j (fun l hl => hr l (by (first | lia | omega))) ?_
  rw [show i + 1 + j = (i + j) + 1 by (first | lia | omega)] at h
  exact at_inj nd (hr (i + j) (by (first | lia | omega))) (hr i (by (first | lia | omega))) h
theorem low_card {b : List Int} {f : Int} {s : Nat} (g : Nat -> Int) (h0 : 0 <= f) (hr : ∀ j, j < s -> f < g j /\ g j < (b.length : Int)) (hi : ∀ i j, i < j -> j < s -> g i ≠ g j) : s < b.length + 1 := by
 have : ((List.range s).map g).length <= (num0 b.length).length := by
  refine len_le ?_ fun y hy => ?_
  ·rw [List.nodup_iff_pairwise_ne, List.pairwise_map]
   refine List.Pairwise.imp_of_mem (fun {i j} hi' hj' h => hi i j h (List.mem_range.mp hj')) List.pairwise_lt_range
  ·obtain ⟨j, hj, rfl⟩ := List.mem_map.mp hy
   have := hr j (List.mem_range.mp hj)
   exact mem_num0.mpr ⟨by (first | lia | omega), by (first | lia | omega)⟩
 rw [List.length_map, List.length_range, num0_len'] at this
 (first | lia | omega)
theorem ls_dist {b : List Int} (nd : b.Nodup) {f : Int} (h0 : 0 <= f) (hf : f < (b.length : Int)) {s : Nat} (hr : ∀ j, j < s -> f < itB b (j + 1) f /\ itB b (j + 1) f < (b.length : Int)) : ∀ i j, i < j -> j < s -> itB b (i + 1) f ≠ itB b (j + 1) f := fun i j hij hj e => by
 have rng : ∀ l, l < s + 1 -> 0 <= itB b l f /\ itB b l f < (b.length : Int) := fun l hl => by
  cases l with
  | zero => exact ⟨h0, hf⟩
  | succ l => have := hr l (by (first | lia | omega)); exact ⟨by (first | lia | omega), this.2⟩
 have := it_inj nd (v := f) (i + 1) (j - i) (fun l hl => rng l (by (first | lia | omega))) (by rw [show i + 1 + (j - i) = j + 1 by (first | lia | omega)]; exact e.symm)
 have h2 := hr (j - i - 1) (by (first | lia | omega))
 rw [show j - i - 1 + 1 = j - i by (first | lia | omega), this] at h2
 (first | lia | omega)
theorem leastW_iff {b : List Int} (nd : b.Nodup) {f : Int} (h0 : 0 <= f) (hf : f < (b.length : Int)) : leastW b f = true ↔ ∃ s, LsR b f s := by
 unfold leastW
 rw [decide_eq_true_eq]
 constructor
 ·intro h
  obtain ⟨s, _, h2, h3⟩ := of_least b f _ _ h
  exact ⟨s, fun j hj => by rw [itB_succ]; exact h2 j hj, by rw [itB_succ]; exact h3⟩
 ·rintro ⟨s, h1, h2⟩
  have := low_card (b := b) (s := s) (fun j => itB b (j + 1) f) h0 h1 (ls_dist nd h0 hf h1)
  exact least_of b f _ s _ (by (first | lia | omega)) (fun j hj => by rw [<- itB_succ]; exact h1 j hj) (by rw [<- itB_succ]; exact h2)
end L2
namespace L2
open PySem PySem.Spec PyProof.Rows
noncomputable def Rch (b : List Int) (v : Int) (t : Nat) : Prop := (∀ j, j < t -> 0 <= itB b j v /\ itB b j v < (b.length : Int)) /\ itB b t v = (b.length : Int)
theorem rch_dist {b : List Int} (nd : b.Nodup) {v : Int} {t : Nat} (h : Rch b v t) : ∀ i j, i < j -> j < t -> itB b i v ≠ itB b j v := fun i j hij hj e => by
 obtain ⟨h1, h2⟩ := h
 have e2 : itB b (t - (j - i)) v = itB b t v := by
  have a1 : itB b t v = itB b (t - j) (itB b j v) := by rw [<- itB_add]; congr 1; (first | lia | omega)
  have a2 : itB b (t - (j - i)) v = itB b (t - j) (itB b i v) := by rw [<- itB_add]; congr 1; (first | lia | omega)
  rw [a1, a2, e]
 have := h1 (t - (j - i)) (by (first | lia | omega))
 rw [e2, h2] at this
 (first | lia | omega)
theorem rch_len {b : List Int} (nd : b.Nodup) {v : Int} {t : Nat} (h : Rch b v t) : t <= b.length := by
 have : ((List.range t).map fun j => itB b j v).length <= (num0 b.length).length := by
  refine len_le ?_ fun y hy => ?_
  ·rw [List.nodup_iff_pairwise_ne, List.pairwise_map]
   exact List.Pairwise.imp_of_mem (fun {i j} _ hj' h' => rch_dist nd h i j h' (List.mem_range.mp hj')) List.pairwise_lt_range
  ·obtain ⟨j, hj, rfl⟩ := List.mem_map.mp hy
   exact mem_num0.mpr (h.1 j (List.mem_range.mp hj))
 rw [List.length_map, List.length_range, num0_len'] at this
 exact this
theorem rch_back {b : List Int} {w : Int} {t : Nat} (hw : 0 <= w /\ w < (b.length : Int)) (h : Rch b (atO b w) t) : Rch b w (t + 1) := by
 refine ⟨fun j hj => ?_, by rw [itB_succ]; exact h.2⟩
 cases j with
 | zero => exact hw
 | succ j => rw [itB_succ]; exact h.1 j (by (first | lia | omega))
theorem rch_some {b : List Int} {m k : Nat} (B : Beg m k b) (hk : k < m) : ∃ e ∈ freeO m b, ∃ t, Rch b e t := by
 have key : ∀ u : Nat, (∃ e ∈ freeO m b, ∃ t, Rch b e t) ∨ ∃ v, (0 <= v /\ v < (m : Int)) /\ Rch b v u := by
  intro u
  induction u with
  | zero =>
   have := B.len
   exact .inr ⟨(b.length : Int), by (first | lia | omega), fun j hj => by (first | lia | omega), rfl⟩
  | succ u ih =>
   rcases ih with h | ⟨v, hv, h⟩
   ·exact .inl h
   ·by_cases c : v ∈ b
    ·obtain ⟨i, hi, e⟩ := List.getElem_of_mem c
     have hat : atO b (i : Int) = v := by rw [atO_get hi]; exact e
     have hl := B.len
     exact .inr ⟨(i : Int), by (first | lia | omega), rch_back (by (first | lia | omega)) (by rw [hat]; exact h)⟩
    ·exact .inl ⟨v, mem_free.mpr ⟨hv, c⟩, u, h⟩
 rcases key (b.length + 1) with h | ⟨v, _, h⟩
 ·exact h
 ·have := rch_len B.nd h
  (first | lia | omega)
theorem rch_one {b : List Int} (nd : b.Nodup) {e1 e2 : Int} (h1 : e1 ∉ b) (h2 : e2 ∉ b) : ∀ (t1 t2 : Nat), Rch b e1 t1 -> Rch b e2 t2 -> t1 <= t2 -> e1 = e2 := by
 intro t1 t2 r1 r2 hle
 have back : ∀ i, i <= t1 -> itB b (t1 - i) e1 = itB b (t2 - i) e2 := by
  intro i
  induction i with
  | zero => intro _; rw [Nat.sub_zero, Nat.sub_zero, r1.2, r2.2]
  | succ i ih =>
   intro hi
   have := ih (by (first | lia | omega))
   rw [show t1 - i = (t1 - (i + 1)) + 1 by (first | lia | omega), show t2 - i = (t2 - (i + 1)) + 1 by (first | lia | omega)] at this
   exact at_inj nd (r1.1 _ (by (first | lia | omega))) (r2.1 _ (by (first | lia | omega))) this
 have h := back t1 (Nat.le_refl _)
 rw [Nat.sub_self] at h
 have h : e1 = itB b (t2 - t1) e2 := h
 by_cases c : t1 = t2
 ·rw [h, c, Nat.sub_self]
  rfl
 ·exfalso
  obtain ⟨d, hd⟩ : ∃ d, t2 - t1 = d + 1 := ⟨t2 - t1 - 1, by (first | lia | omega)⟩
  rw [hd] at h
  refine h1 ?_
  rw [h]
  show atO b (itB b d e2) ∈ b
  have := r2.1 d (by (first | lia | omega))
  unfold atO
  rw [List.getD_eq_getElem?_getD, List.getElem?_eq_getElem (by (first | lia | omega))]
  exact List.getElem_mem _
theorem it_app {b : List Int} {x v : Int} : ∀ (n : Nat), (∀ j, j < n -> 0 <= itB b j v /\ itB b j v < (b.length : Int)) -> itB (b ++ [x]) n v = itB b n v
 | 0, _ => rfl
 | n + 1, h => by
  show atO (b ++ [x]) (itB (b ++ [x]) n v) = atO b (itB b n v)
  rw [it_app n fun j hj => h j (by (first | lia | omega))]
  have := h n (by (first | lia | omega))
  obtain ⟨i, hi⟩ : ∃ i : Nat, itB b n v = (i : Int) := ⟨(itB b n v).toNat, by (first | lia | omega)⟩
  rw [hi, atO_app (by (first | lia | omega))]
theorem it_app' {b : List Int} {x v : Int} : ∀ (n : Nat), (∀ j, j < n -> 0 <= itB (b ++ [x]) j v /\ itB (b ++ [x]) j v < (b.length : Int)) -> itB b n v = itB (b ++ [x]) n v
 | 0, _ => rfl
 | n + 1, h => by
  show atO b (itB b n v) = atO (b ++ [x]) (itB (b ++ [x]) n v)
  rw [it_app' n fun j hj => h j (by (first | lia | omega))]
  have := h n (by (first | lia | omega))
  obtain ⟨i, hi⟩ : ∃ i : Nat, itB (b ++ [x]) n v = (i : Int) := ⟨(itB (b ++ [x]) n v).toNat, by (first | lia | omega)⟩
  rw [hi, atO_app (by (first | lia | omega))]
theorem ls_up {b : List Int} {x f : Int} {s : Nat} (h0 : 0 <= f) (hf : f < (b.length : Int)) (h : LsR b f s) : LsR (b ++ [x]) f s := by
 have rng : ∀ l, l < s + 1 -> 0 <= itB b l f /\ itB b l f < (b.length : Int) := fun l hl => by
  cases l with
  | zero => exact ⟨h0, hf⟩
  | succ l => have := h.1 l (by (first | lia | omega)); exact ⟨by (first | lia | omega), this.2⟩
 refine ⟨fun j hj => ?_, ?_⟩
 ·rw [it_app (j + 1) fun l hl => rng l (by (first | lia | omega))]
  have := h.1 j hj
  rw [List.length_append]
  exact ⟨this.1, by have := this.2; show _ < ((b.length + 1 : Nat) : Int); (first | lia | omega)⟩
 ·rw [it_app (s + 1) fun l hl => rng l hl]
  exact h.2
theorem ls_down {b : List Int} {x f : Int} {s : Nat} (h0 : 0 <= f) (hf : f < (b.length : Int)) (h : LsR (b ++ [x]) f s) (hn : ∀ j, j < s -> itB (b ++ [x]) (j + 1) f ≠ (b.length : Int)) : LsR b f s := by
 have hb : ((b ++ [x]).length : Int) = (b.length : Int) + 1 := by rw [List.length_append]; rfl
 have rng : ∀ l, l < s + 1 -> 0 <= itB (b ++ [x]) l f /\ itB (b ++ [x]) l f < (b.length : Int) := fun l hl => by
  cases l with
  | zero => exact ⟨h0, hf⟩
  | succ l =>
   have h1 := h.1 l (by (first | lia | omega))
   have h2 := hn l (by (first | lia | omega))
   rw [hb] at h1
   (first | lia | omega)
 refine ⟨fun j hj => ?_, ?_⟩
 ·rw [it_app' (j + 1) fun l hl => rng l (by (first | lia | omega))]
  exact ⟨(h.1 j hj).1, (rng (j + 1) (by (first | lia | omega))).2⟩
 ·rw [it_app' (s + 1) fun l hl => rng l hl]
  exact h.2
theorem ls_uniq {b : List Int} {f : Int} {s s' : Nat} (h : LsR b f s) (h' : LsR b f s') : s = s' := by
 rcases Nat.lt_trichotomy s s' with c | c | c
 ·have := (h'.1 s c).1
  rw [h.2] at this
  (first | lia | omega)
 ·exact c
 ·have := (h.1 s' c).1
  rw [h'.2] at this
  (first | lia | omega)
end L2
namespace L2
open PySem PySem.Spec PyProof.Rows
theorem least_nat {p : Nat -> Prop} : ∀ n, p n -> ∃ t, p t /\ ∀ j, j < t -> ¬ p j := by
 intro n
 induction n using Nat.strongRecOn with
 | ind n ih =>
  intro h
  by_cases c : ∃ j, j < n /\ p j
  ·obtain ⟨j, hj, pj⟩ := c
   exact ih j hj pj
  ·exact ⟨n, h, fun j hj pj => c ⟨j, hj, pj⟩⟩
theorem min_at (g : Nat -> Int) : ∀ t, ∃ i, i <= t /\ ∀ l, l <= t -> g i <= g l
 | 0 => ⟨0, Nat.le_refl _, fun l hl => by rw [show l = 0 by (first | lia | omega)]; exact Int.le_refl _⟩
 | t + 1 => by
  obtain ⟨i, hi, h⟩ := min_at g t
  by_cases c : g i <= g (t + 1)
  ·refine ⟨i, by (first | lia | omega), fun l hl => ?_⟩
   by_cases d : l = t + 1
   ·rw [d]; exact c
   ·exact h l (by (first | lia | omega))
  ·refine ⟨t + 1, Nat.le_refl _, fun l hl => ?_⟩
   by_cases d : l = t + 1
   ·rw [d]; exact Int.le_refl _
   ·have := h l (by (first | lia | omega))
    (first | lia | omega)
theorem it_per {b : List Int} {v : Int} {c : Nat} (h : itB b c v = v) (r : Nat) : ∀ q, itB b (q * c + r) v = itB b r v
 | 0 => by rw [Nat.zero_mul, Nat.zero_add]
 | q + 1 => by
  rw [show (q + 1) * c + r = c + (q * c + r) by rw [Nat.succ_mul]; (first | lia | omega), itB_add, h]
  exact it_per h r q
theorem it_mod {b : List Int} {v : Int} {c : Nat} (h : itB b c v = v) (n : Nat) : itB b n v = itB b (n % c) v := by
 have := it_per h (n % c) (n / c)
 rw [show n / c * c + n % c = n by rw [Nat.mul_comm]; exact Nat.div_add_mod n c] at this
 exact this
section
variable {b : List Int} {x : Int}
theorem at_end : atO (b ++ [x]) (b.length : Int) = x := atO_new
noncomputable def Thr (b : List Int) (x f : Int) (s : Nat) : Prop := LsR (b ++ [x]) f s /\ ∃ i, i <= s /\ itB (b ++ [x]) i f = (b.length : Int)
theorem ls_low {c : List Int} {f : Int} {s : Nat} (h : LsR c f s) (n : Nat) : f <= itB c n f /\ (itB c n f = f ∨ itB c n f < (c.length : Int)) := by
 rw [it_mod h.2 n]
 have hm : n % (s + 1) < s + 1 := Nat.mod_lt _ (by (first | lia | omega))
 generalize n % (s + 1) = r at hm
 cases r with
 | zero => exact ⟨Int.le_refl _, .inl rfl⟩
 | succ r =>
  have := h.1 r (by (first | lia | omega))
  exact ⟨by (first | lia | omega), .inr this.2⟩
theorem thr_rch {f : Int} {s : Nat} (h0 : 0 <= f) (hf : f <= (b.length : Int)) (h : Thr b x f s) : ∃ t, Rch b x t := by
 obtain ⟨h, i, hi, hN⟩ := h
 have hb : ((b ++ [x]).length : Int) = (b.length : Int) + 1 := by rw [List.length_append]; rfl
 have ex : ∀ n, itB (b ++ [x]) n x = itB (b ++ [x]) (i + (n + 1)) f := fun n => by
  rw [itB_add, hN, itB_succ, at_end]
 have rng : ∀ n, 0 <= itB (b ++ [x]) n x /\ itB (b ++ [x]) n x <= (b.length : Int) := fun n => by
  rw [ex]
  have := ls_low h (i + (n + 1))
  rw [hb] at this
  (first | lia | omega)
 have hs : itB (b ++ [x]) s x = (b.length : Int) := by
  rw [ex, show i + (s + 1) = (s + 1) + i by (first | lia | omega), itB_add, h.2, hN]
 obtain ⟨t, ht, hlt⟩ := least_nat (p := fun n => itB (b ++ [x]) n x = (b.length : Int)) s hs
 have rl : ∀ j, j < t -> 0 <= itB (b ++ [x]) j x /\ itB (b ++ [x]) j x < (b.length : Int) := fun j hj => by
  have := rng j
  have := hlt j hj
  (first | lia | omega)
 refine ⟨t, fun j hj => ?_, ?_⟩
 ·rw [it_app' j fun l hl => rl l (by (first | lia | omega))]
  exact rl j hj
 ·rw [it_app' t rl]
  exact ht
theorem rch_thr (nd : b.Nodup) {t : Nat} (h : Rch b x t) : ∃ f, (0 <= f /\ f <= (b.length : Int)) /\ (∃ s, Thr b x f s) /\ ∀ f' s', Thr b x f' s' -> f' = f := by
 have hb : ((b ++ [x]).length : Int) = (b.length : Int) + 1 := by rw [List.length_append]; rfl
 have eq : ∀ l, l <= t -> itB (b ++ [x]) l x = itB b l x := fun l hl => it_app l fun j hj => h.1 j (by (first | lia | omega))
 have per : itB (b ++ [x]) (t + 1) x = x := by
  show atO (b ++ [x]) (itB (b ++ [x]) t x) = x
  rw [eq t (Nat.le_refl _), h.2, at_end]
 have rng : ∀ l, l <= t -> 0 <= itB b l x /\ itB b l x <= (b.length : Int) := fun l hl => by
  by_cases c : l = t
  ·rw [c, h.2]; (first | lia | omega)
  ·have := h.1 l (by (first | lia | omega))
   (first | lia | omega)
 have dist : ∀ i j, i <= t -> j <= t -> i ≠ j -> itB b i x ≠ itB b j x := by
  have main : ∀ i j, i < j -> j <= t -> itB b i x ≠ itB b j x := fun i j hij hj => by
   by_cases c : j = t
   ·rw [c, h.2]
    have := h.1 i (by (first | lia | omega))
    (first | lia | omega)
   ·exact rch_dist nd h i j hij (by (first | lia | omega))
  intro i j hi hj hne e
  rcases Nat.lt_or_gt_of_ne hne with l | l
  ·exact main i j l hj e
  ·exact main j i l hi e.symm
 have allv : ∀ n, ∃ l, l <= t /\ itB (b ++ [x]) n x = itB b l x /\ l = n % (t + 1) := fun n => by
  have hm : n % (t + 1) < t + 1 := Nat.mod_lt _ (by (first | lia | omega))
  exact ⟨n % (t + 1), by (first | lia | omega), by rw [it_mod per n, eq _ (by (first | lia | omega))], rfl⟩
 obtain ⟨i, hi, hmin⟩ := min_at (fun l => itB b l x) t
 have ef : ∀ n, itB (b ++ [x]) n (itB b i x) = itB (b ++ [x]) (i + n) x := fun n => by rw [itB_add, eq i hi]
 have hself : itB (b ++ [x]) (t + 1) (itB b i x) = itB b i x := by
  rw [ef, show i + (t + 1) = (t + 1) + i by (first | lia | omega), itB_add, per, eq i hi]
 refine ⟨itB b i x, rng i hi, ⟨t, ⟨fun j hj => ?_, hself⟩, t - i, by (first | lia | omega), by rw [ef, show i + (t - i) = t by (first | lia | omega), eq t (Nat.le_refl _), h.2]⟩, fun f' s' ⟨h', i', hi', hN'⟩ => ?_⟩
 ·rw [ef]
  obtain ⟨l, hl, e, el⟩ := allv (i + (j + 1))
  rw [e, hb]
  have hne : l ≠ i := by
   rw [el]
   intro z
   by_cases c : i + (j + 1) < t + 1
   ·rw [Nat.mod_eq_of_lt c] at z
    (first | lia | omega)
   ·rw [Nat.mod_eq_sub_mod (by (first | lia | omega)), Nat.mod_eq_of_lt (by (first | lia | omega))] at z
    (first | lia | omega)
  have h1 := hmin l hl
  have h2 := dist l i hl hi hne
  have h3 := rng l hl
  have h1 : itB b i x <= itB b l x := h1
  (first | lia | omega)
 ·-- f' is gone to from x
  have e1 : f' = itB (b ++ [x]) (s' - i') x := by
   have : itB (b ++ [x]) (s' + 1) f' = f' := h'.2
   rw [show s' + 1 = i' + ((s' - i') + 1) by (first | lia | omega), itB_add, hN', itB_succ, at_end] at this
   exact this.symm
  obtain ⟨l, hl, e, _⟩ := allv (s' - i')
  rw [e] at e1
  have g1 : itB b i x <= f' := by rw [e1]; exact hmin l hl
  have e2 : itB b i x = itB (b ++ [x]) (i' + (i + 1)) f' := by rw [itB_add, hN', itB_succ, at_end, eq i hi]
  have := (ls_low h' (i' + (i + 1))).1
  rw [<- e2] at this
  (first | lia | omega)
end
theorem cnt_more {p q : Int -> Bool} {f : Int} : ∀ {l : List Int}, l.Nodup -> f ∈ l -> q f = true -> p f = false -> (∀ y ∈ l, y ≠ f -> q y = p y) -> cntI q l = cntI p l + 1
 | [], _, h, _, _, _ => by cases h
 | a :: l, nd, hf, h1, h2, h3 => by
  obtain ⟨n1, n2⟩ := List.nodup_cons.mp nd
  unfold cntI at *
  rw [List.filter_cons, List.filter_cons]
  by_cases c : a = f
  ·subst c
   rw [if_pos h1, if_neg (by rw [h2]; exact Bool.false_ne_true), List.length_cons]
   congr 2
   exact List.filter_congr fun y hy => h3 y (List.mem_cons_of_mem _ hy) fun e => n1 (e ▸ hy)
  ·have hf' : f ∈ l := by
    rcases List.mem_cons.mp hf with h | h
    ·exact absurd h.symm c
    ·exact h
   have ih := cnt_more n2 hf' h1 h2 fun y hy => h3 y (List.mem_cons_of_mem _ hy)
   unfold cntI at ih
   rw [h3 a List.mem_cons_self c]
   by_cases d : p a = true
   ·rw [if_pos d, if_pos d, List.length_cons, List.length_cons, ih]
   ·rw [if_neg d, if_neg d, ih]
theorem closed_snoc {m k : Nat} {b : List Int} (B : Beg m k b) (hk : k < m) : ∃ e ∈ freeO m b, ∀ x ∈ freeO m b, closedW (b ++ [x]) = closedW b + (if x = e then 1 else 0) := by
 obtain ⟨e, he, te, hte⟩ := rch_some B hk
 refine ⟨e, he, fun x hx => ?_⟩
 have nd' : (b ++ [x]).Nodup := (B.more hx).nd
 have hb : ((b ++ [x]).length : Int) = (b.length : Int) + 1 := by rw [List.length_append]; rfl
 have hnum : num0 (b ++ [x]).length = num0 b.length ++ [(b.length : Int)] := by
  rw [List.length_append]
  show num0 (b.length + 1) = _
  simp [num0, List.range_succ]
 have up : ∀ y, 0 <= y -> y < (b.length : Int) -> leastW b y = true -> leastW (b ++ [x]) y = true := fun y y0 y1 h => by
  obtain ⟨s, hs⟩ := (leastW_iff B.nd y0 y1).mp h
  exact (leastW_iff nd' y0 (by (first | lia | omega))).mpr ⟨s, ls_up y0 y1 hs⟩
 have down : ∀ y, 0 <= y -> y < (b.length : Int) -> leastW (b ++ [x]) y = true -> leastW b y = true ∨ ∃ s, Thr b x y s := fun y y0 y1 h => by
  obtain ⟨s, hs⟩ := (leastW_iff nd' y0 (by (first | lia | omega))).mp h
  by_cases c : ∃ j, j < s /\ itB (b ++ [x]) (j + 1) y = (b.length : Int)
  ·obtain ⟨j, hj, ej⟩ := c
   exact .inr ⟨s, hs, j + 1, by (first | lia | omega), ej⟩
  ·exact .inl ((leastW_iff B.nd y0 y1).mpr ⟨s, ls_down y0 y1 hs fun j hj ej => c ⟨j, hj, ej⟩⟩)
 have no : ∀ y s, 0 <= y -> y < (b.length : Int) -> Thr b x y s -> leastW b y = false := fun y s y0 y1 h => by
  cases hq : leastW b y with
  | false => rfl
  | true =>
   exfalso
   obtain ⟨s', hs'⟩ := (leastW_iff B.nd y0 y1).mp hq
   obtain ⟨hL, i, hi, hN⟩ := h
   have := ls_uniq hL (ls_up y0 y1 hs')
   subst this
   have rng : ∀ l, l < s + 1 -> 0 <= itB b l y /\ itB b l y < (b.length : Int) := fun l hl => by
    cases l with
    | zero => exact ⟨y0, y1⟩
    | succ l => have := hs'.1 l (by (first | lia | omega)); exact ⟨by (first | lia | omega), this.2⟩
   rw [it_app i fun l hl => rng l (by (first | lia | omega))] at hN
   have := rng i (by (first | lia | omega))
   (first | lia | omega)
 have atN : leastW (b ++ [x]) (b.length : Int) = true ↔ ∃ s, Thr b x (b.length : Int) s := by
  rw [leastW_iff nd' (by (first | lia | omega)) (by (first | lia | omega))]
  exact ⟨fun ⟨s, hs⟩ => ⟨s, hs, 0, Nat.zero_le _, rfl⟩, fun ⟨s, hs, _⟩ => ⟨s, hs⟩⟩
 have ndn := num0_nodup' b.length
 have hx' := mem_free.mp hx
 have he' := mem_free.mp he
 have split : cntI (leastW (b ++ [x])) (num0 (b ++ [x]).length) = cntI (leastW (b ++ [x])) (num0 b.length) + (if leastW (b ++ [x]) (b.length : Int) = true then 1 else 0) := by
  rw [hnum]
  unfold cntI
  rw [List.filter_append, List.length_append, List.filter_cons]
  split <;> rfl
 unfold closedW
 rw [split]
 by_cases c : x = e
 ·rw [if_pos c]
  rw [<- c] at hte
  obtain ⟨f, ⟨f0, f1⟩, ⟨s, hs⟩, hu⟩ := rch_thr B.nd hte
  by_cases d : f = (b.length : Int)
  ·rw [if_pos (atN.mpr ⟨s, d ▸ hs⟩)]
   have : cntI (leastW (b ++ [x])) (num0 b.length) = cntI (leastW b) (num0 b.length) := cnt_congr fun y hy => by
    have hy := mem_num0.mp hy
    rw [Bool.eq_iff_iff]
    refine ⟨fun h => ?_, up y hy.1 hy.2⟩
    rcases down y hy.1 hy.2 h with h | ⟨s', h⟩
    ·exact h
    ·have := hu y s' h
     (first | lia | omega)
   rw [this]
   push_cast
   rfl
  ·have hfl : f < (b.length : Int) := by (first | lia | omega)
   have hNo : ¬ leastW (b ++ [x]) (b.length : Int) = true := fun h => by
    obtain ⟨s', h⟩ := atN.mp h
    exact d (hu _ s' h).symm
   rw [if_neg hNo, Nat.add_zero]
   have := cnt_more (p := leastW b) (q := leastW (b ++ [x])) (f := f) ndn (mem_num0.mpr ⟨f0, hfl⟩) ((leastW_iff nd' f0 (by (first | lia | omega))).mpr ⟨s, hs.1⟩) (no f s f0 hfl hs) fun y hy hne => by
    have hy := mem_num0.mp hy
    rw [Bool.eq_iff_iff]
    refine ⟨fun h => ?_, up y hy.1 hy.2⟩
    rcases down y hy.1 hy.2 h with h | ⟨s', h⟩
    ·exact h
    ·exact absurd (hu y s' h) hne
   rw [this]
   push_cast
   rfl
 ·rw [if_neg c]
  have none : ∀ y s, 0 <= y -> y <= (b.length : Int) -> ¬ Thr b x y s := fun y s y0 y1 h => by
   obtain ⟨t, ht⟩ := thr_rch y0 y1 h
   rcases Nat.le_total t te with l | l
   ·exact c (rch_one B.nd hx'.2 he'.2 t te ht hte l)
   ·exact c (rch_one B.nd he'.2 hx'.2 te t hte ht l).symm
  have hNo : ¬ leastW (b ++ [x]) (b.length : Int) = true := fun h => by
   obtain ⟨s', h⟩ := atN.mp h
   exact none _ s' (by (first | lia | omega)) (Int.le_refl _) h
  rw [if_neg hNo]
  have : cntI (leastW (b ++ [x])) (num0 b.length) = cntI (leastW b) (num0 b.length) := cnt_congr fun y hy => by
   have hy := mem_num0.mp hy
   rw [Bool.eq_iff_iff]
   refine ⟨fun h => ?_, up y hy.1 hy.2⟩
   rcases down y hy.1 hy.2 h with h | ⟨s', h⟩
   ·exact h
   ·exact absurd h (none y s' hy.1 (by (first | lia | omega)))
  rw [this]
  rfl
end L2
namespace L2
open PySem PySem.Spec PyProof.Rows
noncomputable def sureW (kind : Str) (m : Nat) (b : List Int) : Int := if kind = "rounds" then closedW b else sureZ kind m b
noncomputable def wayW (kind : Str) (m : Nat) (b : List Int) (n : Int) : Int := atZ (wayR kind m b) (n - sureW kind m b)
theorem sum_pt (A B : Int) (r0 : Nat) : ∀ n, ((List.range n).map fun r => if r = r0 then A else B).sum = (if r0 < n then A - B else 0) + (n : Int) * B
 | 0 => by rw [if_neg (by (first | lia | omega))]; simp
 | n + 1 => by
  rw [List.range_succ, List.map_append, List.sum_append, sum_pt A B r0 n]
  show _ + ((if n = r0 then A else B) + 0) = _
  have e : ((n + 1 : Nat) : Int) * B = (n : Int) * B + B := by
   rw [show ((n + 1 : Nat) : Int) = (n : Int) + 1 by (first | lia | omega), Int.add_mul, Int.one_mul]
  rw [e]
  by_cases c : n = r0
  ·subst c
   rw [if_neg (by (first | lia | omega)), if_pos rfl, if_pos (by (first | lia | omega))]
   (first | lia | omega)
  ·rw [if_neg c]
   by_cases d : r0 < n
   ·rw [if_pos d, if_pos (by (first | lia | omega))]
    (first | lia | omega)
   ·rw [if_neg d, if_neg (by (first | lia | omega))]
    (first | lia | omega)
section
variable {m k : Nat} {b : List Int}
theorem spread_rounds (B : Beg m k b) (hk : k < m) (hm : m <= 24) (n : Int) : ((freeO m b).map fun x => wayW "rounds" m (b ++ [x]) n).sum = wayW "rounds" m b n := by
 have hF := B.free
 have asc := free_asc m b
 obtain ⟨L, hL⟩ : ∃ L, m - k = L + 1 := ⟨m - k - 1, by (first | lia | omega)⟩
 have hFl : (freeO m b).length = L + 1 := by (first | lia | omega)
 have hL' : m - (k + 1) = L := by (first | lia | omega)
 have eR : ∀ c : List Int, wayR "rounds" m c = rowZ "rounds" (m - c.length) := fun c => by
  unfold wayR endR
  rw [if_pos rfl]
 obtain ⟨e, he, hc⟩ := closed_snoc B hk
 have hre : rkF (freeO m b) e < L + 1 := by
  obtain ⟨i, hi, hi2⟩ := List.getElem_of_mem he
  rw [<- hi2, rk_at asc hi]
  (first | lia | omega)
 have e1 : ∀ x ∈ freeO m b, wayW "rounds" m (b ++ [x]) n = if rkF (freeO m b) x = rkF (freeO m b) e then atZ (rowZ "rounds" L) (n - closedW b - 1) else atZ (rowZ "rounds" L) (n - closedW b) := fun x hx => by
  unfold wayW sureW
  rw [if_pos rfl, eR, List.length_append, B.len, show m - (k + [x].length) = L from hL', hc x hx]
  by_cases c : x = e
  ·rw [if_pos c, if_pos (by rw [c]), Int.sub_sub]
  ·rw [if_neg c, Int.add_zero, if_neg fun z => c ?_]
   rcases Int.lt_trichotomy x e with l | l | l
   ·have := (rk_lt asc (y := e) hx).mp l
    (first | lia | omega)
   ·exact l
   ·have := (rk_lt asc (y := x) he).mp l
    (first | lia | omega)
 rw [List.map_congr_left e1, sum_rank asc (fun r => if r = rkF (freeO m b) e then atZ (rowZ "rounds" L) (n - closedW b - 1) else atZ (rowZ "rounds" L) (n - closedW b)), hFl, sum_pt, if_pos hre]
 have := spread_at (ckRo_at (show L < 24 by (first | lia | omega))) (fun r => if r = 0 then 1 else 0) (fun _ => rowZ "rounds" L) (fun r => by split <;> decide) (fun r _ => rfl) (n - closedW b)
 have e2 : ((List.range (L + 1)).map fun r => atZ (rowZ "rounds" L) (n - closedW b - (if r = 0 then 1 else 0))) = (List.range (L + 1)).map fun r => if r = 0 then atZ (rowZ "rounds" L) (n - closedW b - 1) else atZ (rowZ "rounds" L) (n - closedW b) := List.map_congr_left fun r _ => by
  by_cases c : r = 0
  ·rw [if_pos c, if_pos c]
  ·rw [if_neg c, if_neg c, Int.sub_zero]
 rw [e2, sum_pt, if_pos (by (first | lia | omega))] at this
 rw [this]
 unfold wayW sureW
 rw [if_pos rfl, eR, B.len, hL]
theorem way_not {kind : Str} (h : kind ≠ "rounds") (c : List Int) (n : Int) : wayW kind m c n = wayZ kind m c n := by
 unfold wayW wayZ sureW
 rw [if_neg h]
structure Cks : Prop where
 ri0 : ckRi0 24 = true
 ris : ckRis 24 = true
 hig : ckHig 24 = true
 st1 : ckSt1 24 = true
 st2 : ckSt2 24 = true
theorem spread_all (K : Cks) {kind : Str} (hkd : kind ∈ kinds5) (B : Beg m k b) (hk : k < m) (hm : m <= 24) (hc : kind = "crossed" -> m <= 12) (n : Int) : ((freeO m b).map fun x => wayW kind m (b ++ [x]) n).sum = wayW kind m b n := by
 have sw : kind ≠ "rounds" -> ((freeO m b).map fun x => wayW kind m (b ++ [x]) n).sum = ((freeO m b).map fun x => wayZ kind m (b ++ [x]) n).sum := fun h => by
  rw [List.map_congr_left fun x _ => way_not h (b ++ [x]) n]
 rcases kinds5_cases hkd with rfl | rfl | rfl | rfl | rfl
 ·exact spread_rounds B hk hm n
 ·rw [sw (by decide), way_not (by decide)]
  exact spread_stays B hk hm K.st1 K.st2 n
 ·rw [sw (by decide), way_not (by decide)]
  exact spread_rises B hk hm K.ri0 K.ris n
 ·rw [sw (by decide), way_not (by decide)]
  exact spread_highs B hk hm K.hig n
 ·rw [sw (by decide), way_not (by decide)]
  exact spread_crossed B hk (hc rfl) n
theorem free_whole (B : Beg m m b) : freeO m b = [] := List.eq_nil_of_length_eq_zero (by have := B.free; (first | lia | omega))
theorem wayR_whole {kind : Str} (hkd : kind ∈ kinds5) (B : Beg m m b) : wayR kind m b = [1] := by
 have hf := free_whole B
 have hl := B.len
 have ha : ableZ kind m b = 0 := by
  unfold ableZ
  rw [hf]
  repeat' split
  all_goals rfl
 unfold wayR
 rw [ha, hl, Nat.sub_self]
 rcases kinds5_cases hkd with rfl | rfl | rfl | rfl | rfl
 ·rfl
 ·rfl
 ·cases b.isEmpty <;> rfl
 ·rfl
 ·rfl
theorem at_one (t : Int) : atZ [1] t = if t = 0 then 1 else 0 := by
 unfold atZ
 by_cases c : t < 0
 ·rw [if_pos c, if_neg (by (first | lia | omega))]
 ·rw [if_neg c]
  obtain ⟨n, rfl⟩ : ∃ n : Nat, t = (n : Int) := ⟨t.toNat, by (first | lia | omega)⟩
  rw [Int.toNat_natCast]
  cases n with
  | zero => rfl
  | succ n => rw [if_neg (by (first | lia | omega))]; rfl
theorem way_whole {kind : Str} (hkd : kind ∈ kinds5) (B : Beg m m b) (n : Int) : wayW kind m b n = if n = sureW kind m b then 1 else 0 := by
 unfold wayW
 rw [wayR_whole hkd B, at_one]
 by_cases c : n = sureW kind m b
 ·rw [if_pos c, if_pos (by (first | lia | omega))]
 ·rw [if_neg c, if_neg (by (first | lia | omega))]
end
end L2
namespace L2
open PySem PySem.Spec PyProof.Rows
section
variable {m : Nat} {o : List Int}
theorem it_rngO (h : Ord m o) {v : Int} (hv : 0 <= v /\ v < (m : Int)) : ∀ n, 0 <= itB o n v /\ itB o n v < (m : Int)
 | 0 => hv
 | n + 1 => by
  have := it_rngO h hv n
  have hl := h.len
  show 0 <= atO o (itB o n v) /\ atO o (itB o n v) < (m : Int)
  have hm : atO o (itB o n v) ∈ o := by
   unfold atO
   rw [List.getD_eq_getElem?_getD, List.getElem?_eq_getElem (by (first | lia | omega))]
   exact List.getElem_mem _
  exact mem_num0.mp (h.mem_iff.mp hm)
theorem it_back (h : Ord m o) {v : Int} (hv : 0 <= v /\ v < (m : Int)) : ∃ c, 1 <= c /\ c <= m /\ itB o c v = v /\ ∀ i j, i < j -> j < c -> itB o i v ≠ itB o j v := by
 have hl := h.len
 have nd := h.nodup
 have ex : ∃ i j, i < j /\ j <= m /\ itB o i v = itB o j v := by
  apply Classical.byContradiction
  intro hno
  have : ((List.range (m + 1)).map fun j => itB o j v).length <= (num0 m).length := by
   refine len_le ?_ fun y hy => ?_
   ·rw [List.nodup_iff_pairwise_ne, List.pairwise_map]
    exact List.Pairwise.imp_of_mem (fun {i j} _ hj' h' e => hno ⟨i, j, h', by have := List.mem_range.mp hj'; (first | lia | omega), e⟩) List.pairwise_lt_range
   ·obtain ⟨j, _, rfl⟩ := List.mem_map.mp hy
    exact mem_num0.mpr (it_rngO h hv j)
  rw [List.length_map, List.length_range, num0_len'] at this
  (first | lia | omega)
 obtain ⟨i, j, hij, hj, e⟩ := ex
 have hr := it_inj nd (v := v) i (j - i) (fun l _ => by rw [hl]; exact it_rngO h hv l) (by rw [show i + (j - i) = j by (first | lia | omega)]; exact e.symm)
 obtain ⟨c, ⟨hc1, hc2⟩, hcl⟩ := least_nat (p := fun n => 1 <= n /\ itB o n v = v) (j - i) ⟨by (first | lia | omega), hr⟩
 have hcm : c <= j - i := by
  apply Classical.byContradiction
  intro hh
  exact hcl (j - i) (by (first | lia | omega)) ⟨by (first | lia | omega), hr⟩
 refine ⟨c, hc1, by (first | lia | omega), hc2, fun i' j' h1 h2 e' => ?_⟩
 have := it_inj nd (v := v) i' (j' - i') (fun l _ => by rw [hl]; exact it_rngO h hv l) (by rw [show i' + (j' - i') = j' by (first | lia | omega)]; exact e'.symm)
 exact hcl (j' - i') (by (first | lia | omega)) ⟨by (first | lia | omega), this⟩
theorem it_sym (h : Ord m o) {v w : Int} (hv : 0 <= v /\ v < (m : Int)) (hw : ∃ n, itB o n v = w) : ∃ n, itB o n w = v := by
 obtain ⟨n, rfl⟩ := hw
 obtain ⟨c, c1, _, hc, _⟩ := it_back h hv
 refine ⟨n * c - n + 0, ?_⟩
 rw [<- itB_add]
 have e : n + (n * c - n + 0) = n * c + 0 := by
  have : n <= n * c := Nat.le_mul_of_pos_right n (by (first | lia | omega))
  (first | lia | omega)
 rw [e]
 exact it_per hc 0 n
theorem least_whole (h : Ord m o) {f : Int} (hf : 0 <= f /\ f < (m : Int)) : leastW o f = true ↔ ∀ n, f <= itB o n f := by
 have hl := h.len
 rw [leastW_iff h.nodup hf.1 (by rw [hl]; exact hf.2)]
 constructor
 ·rintro ⟨s, hs⟩ n
  exact (ls_low hs n).1
 ·intro hn
  obtain ⟨c, c1, _, hc, hd⟩ := it_back h hf
  refine ⟨c - 1, fun j hj => ?_, by rw [show c - 1 + 1 = c by (first | lia | omega)]; exact hc⟩
  have h1 := hn (j + 1)
  have h2 := hd 0 (j + 1) (by (first | lia | omega)) (by (first | lia | omega))
  have h2 : f ≠ itB o (j + 1) f := h2
  have h3 := it_rngO h hf (j + 1)
  rw [hl]
  (first | lia | omega)
structure MkO (o : List Int) (m : Nat) (l : List (Option Int)) (P : Nat -> Prop) : Prop where
 len : l.length = m
 no : ∀ v, v < m -> P v -> l.getD v none = none
 yes : ∀ v, v < m -> ¬ P v -> l.getD v none = some (atO o (v : Int))
theorem getD_setO {l : List (Option Int)} {i v : Nat} {y : Option Int} (hi : i < l.length) : (l.set i y).getD v none = if v = i then y else l.getD v none := by
 rw [List.getD_eq_getElem?_getD, List.getD_eq_getElem?_getD]
 by_cases c : v = i
 ·subst c
  rw [if_pos rfl, List.getElem?_set_self hi]
  rfl
 ·rw [if_neg c, List.getElem?_set_ne (by (first | lia | omega))]
theorem vis_mk (h : Ord m o) {k c : Nat} (hk : k < m) (hc0 : 1 <= c) (hc : itB o c (k : Int) = (k : Int)) (hd : ∀ i j, i < j -> j < c -> itB o i (k : Int) ≠ itB o j (k : Int)) {P : Nat -> Prop} (hP : ∀ n, ¬ P (itB o n (k : Int)).toNat) : ∀ (r j u : Nat) (l : List (Option Int)), j + r = c -> r + 1 <= u -> MkO o m l (fun v => P v ∨ ∃ i, i < j /\ itB o i (k : Int) = (v : Int)) -> MkO o m (visG l u (itB o j (k : Int))) (fun v => P v ∨ ∃ i, i < c /\ itB o i (k : Int) = (v : Int))
 | 0, j, u, l, hj, hu, M => by
  have hjc : j = c := by (first | lia | omega)
  subst hjc
  obtain ⟨u', rfl⟩ : ∃ u', u = u' + 1 := ⟨u - 1, by (first | lia | omega)⟩
  rw [hc]
  have hn := M.no k hk (.inr ⟨0, by (first | lia | omega), rfl⟩)
  show MkO o m (match l.getD ((k : Int)).toNat none with | none => l | some x => visG (l.set ((k : Int)).toNat none) u' x) _
  rw [Int.toNat_natCast, hn]
  exact M
 | r + 1, j, u, l, hj, hu, M => by
  obtain ⟨u', rfl⟩ : ∃ u', u = u' + 1 := ⟨u - 1, by (first | lia | omega)⟩
  have hr := it_rngO h (v := (k : Int)) (by (first | lia | omega)) j
  obtain ⟨w, hw⟩ : ∃ w : Nat, itB o j (k : Int) = (w : Int) := ⟨(itB o j (k : Int)).toNat, by (first | lia | omega)⟩
  have hwm : w < m := by (first | lia | omega)
  have hns : ¬ (P w ∨ ∃ i, i < j /\ itB o i (k : Int) = (w : Int)) := by
   rintro (hh | ⟨i, hi, e⟩)
   ·have := hP j
    rw [hw, Int.toNat_natCast] at this
    exact this hh
   ·exact hd i j hi (by (first | lia | omega)) (by rw [e, hw])
  have hy := M.yes w hwm hns
  show MkO o m (match l.getD (itB o j (k : Int)).toNat none with | none => l | some x => visG (l.set (itB o j (k : Int)).toNat none) u' x) _
  rw [hw, Int.toNat_natCast, hy]
  show MkO o m (visG (l.set w none) u' (atO o (w : Int))) _
  have e1 : atO o (w : Int) = itB o (j + 1) (k : Int) := by
   show _ = atO o (itB o j (k : Int))
   rw [hw]
  rw [e1]
  refine vis_mk h hk hc0 hc hd hP r (j + 1) u' (l.set w none) (by (first | lia | omega)) (by (first | lia | omega)) ⟨by rw [List.length_set]; exact M.len, fun v hv hp => ?_, fun v hv hp => ?_⟩
  ·rw [getD_setO (by rw [M.len]; exact hwm)]
   by_cases c1 : v = w
   ·rw [if_pos c1]
   ·rw [if_neg c1]
    refine M.no v hv ?_
    rcases hp with hp | ⟨i, hi, e⟩
    ·exact .inl hp
    ·refine .inr ⟨i, ?_, e⟩
     by_cases c2 : i = j
     ·subst c2
      rw [hw] at e
      (first | lia | omega)
     ·(first | lia | omega)
  ·have c1 : v ≠ w := fun e => hp (.inr ⟨j, by (first | lia | omega), by rw [hw, e]⟩)
   rw [getD_setO (by rw [M.len]; exact hwm), if_neg c1]
   exact M.yes v hv fun hh => hp (hh.elim .inl fun ⟨i, hi, e⟩ => .inr ⟨i, by (first | lia | omega), e⟩)
theorem MkO.iff {l : List (Option Int)} {P Q : Nat -> Prop} (M : MkO o m l P) (h : ∀ v, v < m -> (P v ↔ Q v)) : MkO o m l Q :=
 ⟨M.len, fun v hv q => M.no v hv ((h v hv).mpr q), fun v hv q => M.yes v hv fun p => q ((h v hv).mp p)⟩
theorem numF_consW (k : Int) (u : Nat) : numF k (u + 1) = k :: numF (k + 1) u := by
 unfold numF
 rw [List.range_succ_eq_map, List.map_cons, List.map_map]
 refine List.cons_eq_cons.mpr ⟨by simp, List.map_congr_left fun i _ => ?_⟩
 show k + ((i + 1 : Nat) : Int) = k + 1 + (i : Int)
 (first | lia | omega)
theorem rnd_cnt (h : Ord m o) : ∀ (u k : Nat) (l : List (Option Int)) (c0 : Int), k + u = m -> MkO o m l (fun v => ∃ n, itB o n (v : Int) < (k : Int)) -> rndG l c0 u k = c0 + (cntI (leastW o) (numF (k : Int) u) : Int)
 | 0, k, l, c0, _, _ => by
  show c0 = c0 + 0
  (first | lia | omega)
 | u + 1, k, l, c0, hku, M => by
  have hk : k < m := by (first | lia | omega)
  have hkr : 0 <= (k : Int) /\ (k : Int) < (m : Int) := by (first | lia | omega)
  have hlw := least_whole h hkr
  rw [numF_consW]
  have ec : cntI (leastW o) ((k : Int) :: numF ((k : Int) + 1) u) = (if leastW o (k : Int) = true then 1 else 0) + cntI (leastW o) (numF ((k : Int) + 1) u) := by
   unfold cntI
   rw [List.filter_cons]
   split
   ·rw [List.length_cons]; (first | lia | omega)
   ·(first | lia | omega)
  rw [ec]
  have ek : (((k + 1 : Nat)) : Int) = (k : Int) + 1 := by (first | lia | omega)
  by_cases c : ∃ n, itB o n (k : Int) < (k : Int)
  ·have hn := M.no k hk c
   have hle : ¬ leastW o (k : Int) = true := fun z => by
    obtain ⟨n, hn⟩ := c
    have := hlw.mp z n
    (first | lia | omega)
   rw [if_neg hle]
   show (match l.getD k none with | none => rndG l c0 u (k + 1) | some _ => rndG (visG l (l.length + 1) (k : Int)) (c0 + 1) u (k + 1)) = _
   rw [hn]
   show rndG l c0 u (k + 1) = _
   rw [rnd_cnt h u (k + 1) l c0 (by (first | lia | omega)) (M.iff fun v hv => ⟨fun ⟨n, hn⟩ => ⟨n, by (first | lia | omega)⟩, fun ⟨n, hn⟩ => ?_⟩), ek]
   ·push_cast
    (first | lia | omega)
   ·by_cases d : itB o n (v : Int) < (k : Int)
    ·exact ⟨n, d⟩
    ·have e : itB o n (v : Int) = (k : Int) := by (first | lia | omega)
     obtain ⟨n', hn'⟩ := c
     exact ⟨n + n', by rw [itB_add, e]; exact hn'⟩
  ·have hy := M.yes k hk c
   have hle : leastW o (k : Int) = true := hlw.mpr fun n => by
    apply Classical.byContradiction
    intro z
    exact c ⟨n, by (first | lia | omega)⟩
   rw [if_pos hle]
   show (match l.getD k none with | none => rndG l c0 u (k + 1) | some _ => rndG (visG l (l.length + 1) (k : Int)) (c0 + 1) u (k + 1)) = _
   rw [hy]
   show rndG (visG l (l.length + 1) (k : Int)) (c0 + 1) u (k + 1) = _
   obtain ⟨cl, cl1, clm, hcl, hdl⟩ := it_back h hkr
   have hP : ∀ n, ¬ (fun v : Nat => ∃ n, itB o n (v : Int) < (k : Int)) (itB o n (k : Int)).toNat := fun n ⟨n', hn'⟩ => by
    have := it_rngO h hkr n
    rw [Int.toNat_of_nonneg this.1, <- itB_add] at hn'
    exact c ⟨_, hn'⟩
   have MV := vis_mk h hk cl1 hcl hdl (P := fun v => ∃ n, itB o n (v : Int) < (k : Int)) hP cl 0 (l.length + 1) l (by (first | lia | omega)) (by rw [M.len]; (first | lia | omega)) (M.iff fun v _ => ⟨.inl, fun hh => hh.elim id fun ⟨i, hi, _⟩ => by (first | lia | omega)⟩)
   have MV : MkO o m (visG l (l.length + 1) (k : Int)) _ := MV
   rw [rnd_cnt h u (k + 1) _ (c0 + 1) (by (first | lia | omega)) (MV.iff fun v hv => ⟨fun hh => ?_, fun ⟨n, hn⟩ => ?_⟩), ek]
   ·push_cast
    (first | lia | omega)
   ·rcases hh with ⟨n, hn⟩ | ⟨i, _, e⟩
    ·exact ⟨n, by (first | lia | omega)⟩
    ·obtain ⟨n, hn⟩ := it_sym h hkr ⟨i, e⟩
     exact ⟨n, by (first | lia | omega)⟩
   ·by_cases d : itB o n (v : Int) < (k : Int)
    ·exact .inl ⟨n, d⟩
    ·have e : itB o n (v : Int) = (k : Int) := by (first | lia | omega)
     obtain ⟨n', hn'⟩ := it_sym h (v := (v : Int)) (by (first | lia | omega)) ⟨n, e⟩
     refine .inr ⟨n' % cl, Nat.mod_lt _ (by (first | lia | omega)), ?_⟩
     rw [<- it_mod hcl]
     exact hn'
theorem own_sure {kind : Str} (hkd : kind ∈ kinds5) (h : Ord m o) : ownZ kind o = sureW kind m o := by
 have hl := h.len
 have hf : freeO m o = [] := by
  unfold freeO
  refine List.filter_eq_nil_iff.mpr fun y hy => ?_
  have : y ∈ o := h.mem_iff.mpr hy
  simpa using this
 rcases kinds5_cases hkd with rfl | rfl | rfl | rfl | rfl
 ·have e : ownZ "rounds" o = rndG (o.map some) 0 o.length 0 := rfl
  rw [e, hl, rnd_cnt h m 0 (o.map some) 0 (by (first | lia | omega)) ⟨by rw [List.length_map]; exact hl, fun v hv hp => ?_, fun v hv _ => ?_⟩]
  ·show 0 + (cntI (leastW o) (numF ((0 : Nat) : Int) m) : Int) = closedW o
   unfold closedW
   rw [hl, Int.zero_add]
   have : numF ((0 : Nat) : Int) m = num0 m := by
    unfold numF num0
    exact List.map_congr_left fun i _ => by (first | lia | omega)
   rw [this]
  ·obtain ⟨n, hn⟩ := hp
   have := it_rngO h (v := (v : Int)) (by (first | lia | omega)) n
   (first | lia | omega)
  ·rw [List.getD_eq_getElem?_getD, List.getElem?_map, List.getElem?_eq_getElem (by (first | lia | omega)), atO_get (by (first | lia | omega))]
   rfl
 ·rfl
 ·rfl
 ·rfl
 ·have e : sureW "crossed" m o = crossedO o + (o.map fun a => (cntI (fun x => decide (x < a)) (freeO m o) : Int)).sum := by
   unfold sureW
   rw [if_neg (by decide)]
   exact sure_crossed
  rw [e, hf, sum_zero (g := fun a => (cntI (fun x => decide (x < a)) [] : Int)) o fun a _ => rfl, Int.add_zero]
  rfl
end
end L2
namespace L2
open PySem PySem.Spec PyProof.Rows
end L2
namespace L2
open PySem PySem.Spec PyProof.Rows
end L2
namespace L2
open PySem PySem.Spec PyProof.Rows
end L2
namespace L2
open PySem PySem.Spec PyProof.Rows
noncomputable def Chn (ns ks : List Int) : Prop := ks.Pairwise (fun a b => b < a /\ atO ns b < atO ns a) /\ ∀ k ∈ ks, 0 <= k /\ k < ns.length
structure Pat (ns L : List Int) : Prop where
 inc : L.Pairwise (· < ·)
 up : ∀ (j : Nat) a, L[j]? = some a -> ∃ k ks, Chn ns (k :: ks) /\ ks.length = j /\ atO ns k = a
 dn : ∀ k ks, Chn ns (k :: ks) -> ∃ a, L[ks.length]? = some a /\ a <= atO ns k
end L2
namespace L2
open PySem PySem.Spec PyProof.Rows
theorem row_orbR {ns : List Int} {m : Nat} {x : Int} (h : Ord m ns) (hx : 0 <= x /\ x < m) : ∃ k, rowO ns x = orbO ns x (k + 1) /\ itO ns x (k + 1) = x /\ (orbO ns x (k + 1)).Nodup := by
 obtain ⟨⟨k, e, hk⟩, nd⟩ := row_is h hx
 exact ⟨k, e, hk, e ▸ nd⟩
theorem it_rowR {ns : List Int} {m : Nat} {x : Int} (h : Ord m ns) (hx : 0 <= x /\ x < m) : ∀ n, itO ns x n ∈ rowO ns x := by
 obtain ⟨q, er, hq, nd⟩ := row_orbR h hx
 intro n
 rw [er]
 induction n using Nat.strongRecOn with
 | ind n ih =>
  by_cases c : n < q + 1
  ·exact mem_orb.mpr ⟨n, c, rfl⟩
  ·have e : itO ns x n = itO ns x (n - (q + 1)) := by
    conv => lhs; rw [show n = (q + 1) + (n - (q + 1)) by (first | lia | omega), it_add, hq]
   rw [e]
   exact ih _ (by (first | lia | omega))
theorem row_subR {ns : List Int} {m : Nat} {x k : Int} (h : Ord m ns) (hx : 0 <= x /\ x < m) (hk : k ∈ rowO ns x) : ∀ y, y ∈ rowO ns k ↔ y ∈ rowO ns x := by
 have hkr := row_mem h hx k hk
 obtain ⟨q, er, hq, nd⟩ := row_orbR h hx
 rw [er] at hk
 obtain ⟨j, hj, rfl⟩ := mem_orb.mp hk
 intro y
 constructor
 ·intro hy
  obtain ⟨q2, er2, _, _⟩ := row_orbR h hkr
  rw [er2] at hy
  obtain ⟨i, _, rfl⟩ := mem_orb.mp hy
  rw [<- it_add]
  exact it_rowR h hx _
 ·intro hy
  rw [er] at hy
  obtain ⟨i, _, rfl⟩ := mem_orb.mp hy
  have e : itO ns x i = itO ns (itO ns x j) ((q + 1 - j) + i) := by
   rw [<- it_add, show j + (q + 1 - j + i) = (q + 1) + i by (first | lia | omega), it_add, hq]
  rw [e]
  exact it_rowR h hkr _
theorem met_rounds {ns : List Int} {m : Nat} (h : Ord m ns) : MetO ns m (roundsO ns) := by
 unfold roundsO walkO
 rw [h.len]
 exact met_walk h (num0 m) (fun f hf => num0_mem hf) met_nil
end L2
namespace L2
open PySem PySem.Spec PyProof.Rows
structure Wt (m : Nat) (W : List Int -> Int) (L : List Int -> List (List Int)) : Prop where
 cnt : ∀ (k : Nat) (b : List Int), k <= m -> b ∈ iterA m [[]] k -> W b = ((L b).length : Int)
 stp : ∀ (k : Nat) (b : List Int), k < m -> b ∈ iterA m [[]] k -> L b = (freeO m b).flatMap fun x => L (b ++ [x])
 fin : ∀ b : List Int, b ∈ iterA m [[]] m -> L b = [b] ∨ L b = []
 pre : ∀ (k : Nat) (b o : List Int), k <= m -> b ∈ iterA m [[]] k -> o ∈ L b -> o.take k = b
theorem iter_more {m k : Nat} {b : List Int} (h : b ∈ iterA m [[]] k) {x : Int} (hx : x ∈ freeO m b) : b ++ [x] ∈ iterA m [[]] (k + 1) :=
 List.mem_flatMap.mpr ⟨b, h, List.mem_map.mpr ⟨x, hx, rfl⟩⟩
theorem iter_lenX {m : Nat} : ∀ {k : Nat} {b : List Int}, b ∈ iterA m [[]] k -> b.length = k
 | 0, b, h => by rw [List.mem_singleton.mp h]; rfl
 | k + 1, b, h => by
  obtain ⟨c, hc, hb⟩ := List.mem_flatMap.mp h
  obtain ⟨x, _, rfl⟩ := List.mem_map.mp hb
  rw [List.length_append, iter_lenX hc]
  rfl
theorem iter_take {m : Nat} : ∀ {n : Nat} {o : List Int}, o ∈ iterA m [[]] n -> ∀ k, k <= n -> o.take k ∈ iterA m [[]] k /\ (k < n -> o.take (k + 1) = o.take k ++ [o.getD k 0] /\ o.getD k 0 ∈ freeO m (o.take k))
 | 0, o, h, k, hk => by
  have : k = 0 := by (first | lia | omega)
  subst this
  rw [List.mem_singleton.mp h]
  exact ⟨List.mem_singleton.mpr rfl, fun z => by (first | lia | omega)⟩
 | n + 1, o, h, k, hk => by
  obtain ⟨c, hc, hb⟩ := List.mem_flatMap.mp h
  obtain ⟨x, hx, rfl⟩ := List.mem_map.mp hb
  have hl := iter_lenX hc
  have hl2 := iter_lenX h
  have ht : ∀ j, j <= n -> (c ++ [x]).take j = c.take j := fun j hj => List.take_append_of_le_length (by (first | lia | omega))
  by_cases hkn : k <= n
  ·obtain ⟨i1, i2⟩ := iter_take hc k hkn
   rw [ht k hkn]
   refine ⟨i1, fun _ => ?_⟩
   by_cases e : k = n
   ·subst e
    have eg : (c ++ [x]).getD k 0 = x := by
     rw [List.getD_eq_getElem?_getD, List.getElem?_append_right (by (first | lia | omega)), hl, Nat.sub_self]
     rfl
    rw [eg, List.take_of_length_le (by (first | lia | omega)), List.take_of_length_le (by (first | lia | omega))]
    exact ⟨rfl, hx⟩
   ·obtain ⟨j1, j2⟩ := i2 (by (first | lia | omega))
    have eg : (c ++ [x]).getD k 0 = c.getD k 0 := by
     rw [List.getD_eq_getElem?_getD, List.getD_eq_getElem?_getD, List.getElem?_append_left (by (first | lia | omega))]
    rw [eg, ht (k + 1) (by (first | lia | omega))]
    exact ⟨j1, j2⟩
  ·have : k = n + 1 := by (first | lia | omega)
   subst this
   rw [List.take_of_length_le (by (first | lia | omega))]
   exact ⟨h, fun z => by (first | lia | omega)⟩
theorem free_part {m : Nat} {b : List Int} {y : Int} (hy : y ∈ freeO m b) : ∃ zs, freeO m b = freeO y.toNat b ++ y :: zs /\ ∀ z ∈ zs, y < z := by
 obtain ⟨h1, h2⟩ := List.mem_filter.mp hy
 obtain ⟨j, hj, rfl⟩ := List.mem_map.mp h1
 have hj := List.mem_range.mp hj
 obtain ⟨r, rfl⟩ : ∃ r, m = j + (1 + r) := ⟨m - j - 1, by (first | lia | omega)⟩
 have e : num0 (j + (1 + r)) = num0 j ++ (j : Int) :: (List.range r).map fun i => ((j + (1 + i) : Nat) : Int) := by
  unfold num0
  rw [List.range_add, List.range_add, List.map_append]
  simp
 refine ⟨((List.range r).map fun i => ((j + (1 + i) : Nat) : Int)).filter fun x => decide (x ∉ b), ?_, fun z hz => ?_⟩
 ·unfold freeO
  rw [e, List.filter_append, List.filter_cons, if_pos h2, Int.toNat_natCast]
 ·obtain ⟨i, _, rfl⟩ := List.mem_map.mp (List.mem_filter.mp hz).1
  (first | lia | omega)
noncomputable def plS (W : List Int -> Int) (o : List Int) (p : Nat) : Int := ((freeO (o.getD p 0).toNat (o.take p)).map fun x => W (o.take p ++ [x])).sum
noncomputable def spWy (m : Nat) (W : List Int -> Int) (c : Addr) (q : Str) (G : Hp -> Prop) : Sp := fun vs H Q _ => ∃ (k : Nat) (a : Addr) (b : List Int), vs = [.ref a] /\ H a = some (.tup (b.map V.int)) /\ k <= m /\ b ∈ iterA m [[]] k /\ H c = some (cdP c q) /\ G H /\ ∀ H', Same H H' -> Q (.int (W b)) H'
noncomputable def spPlaceBy (P : Program) (w : World) (K : PySem.W.Frag) (mg : Str -> Option Value) (base : Heap) : Sp := fun vs H Q _ => ∃ (f c a : Addr) (q : Str) (m : Nat) (o : List Int) (W : List Int -> Int) (G : Hp -> Prop),
 vs = [.ref f, .ref a] /\ CalL P w K mg base 8 f ["begun"] (spWy m W c q G) /\ (∀ H', Same H H' -> G H') /\ m <= 24 /\ H a = some (.tup (o.map V.int)) /\ o ∈ iterA m [[]] m /\ H c = some (cdP c q) /\ ∀ H', Same H H' -> Q (.int ((List.range m).map fun i => plS W o i).sum) H'
end L2
namespace L2
open PySem PySem.Spec PyProof.Rows
theorem one_minR {r : List Int} (nd : r.Nodup) (hne : r ≠ []) : (r.filter fun k => r.all fun y => decide (k <= y)).length = 1 := by
 obtain ⟨M, hM, hall⟩ : ∃ M ∈ r, ∀ y ∈ r, M <= y := by
  clear nd
  induction r with
  | nil => exact absurd rfl hne
  | cons a t ih =>
   cases t with
   | nil => exact ⟨a, by simp, by simp⟩
   | cons b t =>
    obtain ⟨M, hM, hall⟩ := ih (by simp)
    by_cases c : M <= a
    ·exact ⟨M, List.mem_cons_of_mem _ hM, fun y hy => by
      rcases List.mem_cons.mp hy with rfl | hy
      ·exact c
      ·exact hall y hy⟩
    ·exact ⟨a, by simp, fun y hy => by
      rcases List.mem_cons.mp hy with rfl | hy
      ·exact Int.le_refl _
      ·have := hall y hy; (first | lia | omega)⟩
 have e : (r.filter fun k => r.all fun y => decide (k <= y)) = r.filter fun k => decide (k = M) := by
  refine List.filter_congr fun k hk => ?_
  by_cases c : k = M
  ·subst c
   rw [decide_eq_true rfl, List.all_eq_true]
   exact fun y hy => decide_eq_true (hall y hy)
  ·rw [decide_eq_false c, List.all_eq_false]
   refine ⟨M, hM, fun z => c ?_⟩
   have := of_decide_eq_true z
   have := hall k hk
   (first | lia | omega)
 rw [e]
 have e2 : (r.filter fun k => decide (k = M)).length = r.count M := by
  rw [List.count_eq_countP, List.countP_eq_length_filter]
  congr 1
 rw [e2]
 have c1 := (List.nodup_iff_count.mp nd) M
 have c2 := List.count_pos_iff.mpr hM
 (first | lia | omega)
theorem rows_keyL {ns : List Int} {m : Nat} (h : Ord m ns) : ∀ rows : List (List Int), (∀ r ∈ rows, ∃ f : Int, 0 <= f /\ f < m /\ r = rowO ns f) -> (rows.flatten.filter fun k => (rowO ns k).all fun y => decide (k <= y)).length = rows.length := by
 intro rows
 induction rows with
 | nil => intro _; rfl
 | cons r t ih =>
  intro hr
  rw [List.flatten_cons, List.filter_append, List.length_append, ih (fun r hr' => hr r (List.mem_cons_of_mem _ hr'))]
  obtain ⟨f, f0, f1, rfl⟩ := hr r (by simp)
  have e : ((rowO ns f).filter fun k => (rowO ns k).all fun y => decide (k <= y)) = (rowO ns f).filter fun k => (rowO ns f).all fun y => decide (k <= y) := by
   refine List.filter_congr fun k hk => ?_
   have hs := row_subR h ⟨f0, f1⟩ hk
   apply Bool.eq_iff_iff.mpr
   rw [List.all_eq_true, List.all_eq_true]
   exact ⟨fun a y hy => a y ((hs y).mpr hy), fun a y hy => a y ((hs y).mp hy)⟩
  rw [e, one_minR (row_is h ⟨f0, f1⟩).nd (fun z => by have := (row_len h ⟨f0, f1⟩).1; rw [z] at this; simp at this), List.length_cons]
  (first | lia | omega)
theorem itB_itO (o : List Int) (v : Int) : ∀ n, itB o n v = itO o v n
 | 0 => rfl
 | n + 1 => by
  show atO o (itB o n v) = atO o (itO o v n)
  rw [itB_itO o v n]
theorem rounds_sure {ns : List Int} {m : Nat} (h : Ord m ns) : ((roundsO ns).length : Int) = sureW "rounds" m ns := by
 have e : sureW "rounds" m ns = (cntI (leastW ns) (num0 ns.length) : Int) := rfl
 rw [e, h.len, <- rows_keyL h _ (met_rounds h).row, List.Perm.length_eq ((rounds_perm h).filter _)]
 unfold cntI
 refine congrArg (fun l : List Int => (l.length : Int)) (List.filter_congr fun k hk => ?_)
 have hkr := num0_mem hk
 apply Bool.eq_iff_iff.mpr
 rw [List.all_eq_true, least_whole h hkr]
 constructor
 ·intro a n
  have := a (itO ns k n) (it_rowR h hkr n)
  rw [itB_itO]
  exact of_decide_eq_true this
 ·intro a y hy
  obtain ⟨q, er, _, _⟩ := row_orbR h hkr
  rw [er] at hy
  obtain ⟨i, _, rfl⟩ := mem_orb.mp hy
  have := a i
  rw [itB_itO] at this
  exact decide_eq_true this
theorem Ord.beg {m k : Nat} {o : List Int} (h : Ord m o) (hk : k <= m) : Beg m k (o.take k) := by
 have hl := h.len
 have hnd := h.nodup
 have sub : ∀ y ∈ o.take k, y ∈ o := fun y hy => List.mem_of_mem_take hy
 refine ⟨by rw [List.length_take]; (first | lia | omega), hnd.sublist (List.take_sublist _ _), fun y hy => mem_num0.mp (h.mem_iff.mp (sub y hy)), ?_⟩
 have p1 : (freeO m (o.take k)).Perm (o.drop k) := by
  refine perm_of_nd (free_nodup m _) (hnd.sublist (List.drop_sublist _ _)) fun y => ?_
  have hn := hnd
  rw [<- List.take_append_drop k o] at hn
  have hn3 := (List.nodup_append.mp hn).2.2
  rw [mem_free]
  constructor
  ·rintro ⟨h1, h2⟩
   have : y ∈ o := h.mem_iff.mpr (mem_num0.mpr h1)
   rw [<- List.take_append_drop k o] at this
   rcases List.mem_append.mp this with z | z
   ·exact absurd z h2
   ·exact z
  ·intro hy
   exact ⟨mem_num0.mp (h.mem_iff.mp (List.mem_of_mem_drop hy)), fun z => hn3 y z y hy rfl⟩
 rw [p1.length_eq, List.length_drop]
 (first | lia | omega)
structure Wz (m : Nat) (W : List Int -> Int) : Prop where
 sp : ∀ (k : Nat) (b : List Int), k < m -> Beg m k b -> ((freeO m b).map fun x => W (b ++ [x])).sum = W b
 nn : ∀ b : List Int, Beg m m b -> 0 <= W b
theorem sum_nnW {f : Int -> Int} : ∀ l : List Int, (∀ x ∈ l, 0 <= f x) -> 0 <= (l.map f).sum
 | [], _ => Int.le_refl _
 | x :: l, h => by
  rw [List.map_cons, List.sum_cons]
  have := h x List.mem_cons_self
  have := sum_nnW l fun y hy => h y (List.mem_cons_of_mem _ hy)
  (first | lia | omega)
section
variable {m : Nat} {W : List Int -> Int}
theorem Wz.nonneg (h : Wz m W) : ∀ (j k : Nat) (b : List Int), k + j = m -> Beg m k b -> 0 <= W b
 | 0, k, b, hk, B => by
  have : k = m := by (first | lia | omega)
  subst this
  exact h.nn b B
 | j + 1, k, b, hk, B => by
  rw [<- h.sp k b (by (first | lia | omega)) B]
  exact sum_nnW _ fun x hx => h.nonneg j (k + 1) _ (by (first | lia | omega)) (B.more hx)
noncomputable def tlW (W : List Int -> Int) (o : List Int) (k j : Nat) : Int := ((List.range j).map fun i => plS W o (k + i)).sum
theorem tlW_succ (W : List Int -> Int) (o : List Int) (k j : Nat) : tlW W o k (j + 1) = plS W o k + tlW W o (k + 1) j := by
 unfold tlW
 rw [List.range_succ_eq_map, List.map_cons, List.sum_cons, List.map_map]
 refine congrArg (plS W o k + ·) (congrArg List.sum (List.map_congr_left fun i _ => ?_))
 show plS W o (k + (i + 1)) = _
 rw [show k + (i + 1) = k + 1 + i by (first | lia | omega)]
theorem ord_at {o : List Int} (h : Ord m o) {k : Nat} (hk : k < m) : Beg m k (o.take k) /\ o.take (k + 1) = o.take k ++ [o.getD k 0] /\ o.getD k 0 ∈ freeO m (o.take k) := by
 have hl := h.len
 have e1 : o.take (k + 1) = o.take k ++ [o.getD k 0] := by
  rw [List.take_succ, List.getD_eq_getElem?_getD, List.getElem?_eq_getElem (by (first | lia | omega))]
  rfl
 refine ⟨h.beg (by (first | lia | omega)), e1, mem_free.mpr ⟨?_, fun z => ?_⟩⟩
 ·refine mem_num0.mp (h.mem_iff.mp ?_)
  rw [List.getD_eq_getElem?_getD, List.getElem?_eq_getElem (by (first | lia | omega))]
  exact List.getElem_mem _
 ·have hn := (h.beg (k := k + 1) (by (first | lia | omega))).nd
  rw [e1] at hn
  exact (List.nodup_append.mp hn).2.2 _ z _ List.mem_cons_self rfl
theorem pl_split (W : List Int -> Int) {o : List Int} (h : Ord m o) {k : Nat} (hk : k < m) {N : Nat} (hy : o.getD k 0 ∈ freeO N (o.take k)) : ∃ zs, freeO N (o.take k) = freeO (o.getD k 0).toNat (o.take k) ++ o.getD k 0 :: zs /\
  ((freeO N (o.take k)).map fun x => W (o.take k ++ [x])).sum = plS W o k + (W (o.take (k + 1)) + (zs.map fun x => W (o.take k ++ [x])).sum) := by
 obtain ⟨zs, e, _⟩ := free_part hy
 refine ⟨zs, e, ?_⟩
 rw [e, List.map_append, List.sum_append, List.map_cons, List.sum_cons, (ord_at h hk).2.1]
 rfl
theorem Wz.tail (h : Wz m W) {o : List Int} (ho : Ord m o) (hw : W o = 1) : ∀ (j k : Nat), k + j = m -> tlW W o k j + 1 <= W (o.take k) /\ 0 <= tlW W o k j
 | 0, k, hk => by
  rw [List.take_of_length_le (by rw [ho.len]; (first | lia | omega)), hw]
  exact ⟨Int.le_refl _, Int.le_refl _⟩
 | j + 1, k, hk => by
  obtain ⟨B, e1, hy⟩ := ord_at ho (show k < m by (first | lia | omega))
  obtain ⟨zs, ez, es⟩ := pl_split W ho (show k < m by (first | lia | omega)) hy
  have nn : ∀ x ∈ freeO m (o.take k), 0 <= W (o.take k ++ [x]) := fun x hx => h.nonneg j (k + 1) _ (by (first | lia | omega)) (B.more hx)
  rw [<- h.sp k _ (by (first | lia | omega)) B, es, tlW_succ]
  obtain ⟨i1, i2⟩ := h.tail ho hw j (k + 1) (by (first | lia | omega))
  have z0 := sum_nnW (f := fun x => W (o.take k ++ [x])) zs fun x hx => nn x (by rw [ez]; exact List.mem_append_right _ (List.mem_cons_of_mem _ hx))
  have p0 : 0 <= plS W o k := sum_nnW (f := fun x => W (o.take k ++ [x])) _ fun x hx => nn x (by rw [ez]; exact List.mem_append_left _ hx)
  constructor <;> (first | lia | omega)
theorem Wz.less (h : Wz m W) {o o' : List Int} (ho : Ord m o) (ho' : Ord m o') (hw : W o = 1) (hw' : W o' = 1) : ∀ (j k : Nat), k + j = m -> o.take k = o'.take k -> HT.lexLt (o.drop k) (o'.drop k) = true -> tlW W o k j < tlW W o' k j
 | 0, k, hk, _, hx => by
  rw [List.drop_of_length_le (by rw [ho.len]; (first | lia | omega)), List.drop_of_length_le (by rw [ho'.len]; (first | lia | omega))] at hx
  cases hx
 | j + 1, k, hk, ht, hx => by
  have hkm : k < m := by (first | lia | omega)
  have hl := ho.len
  have hl' := ho'.len
  obtain ⟨B, e1, hy⟩ := ord_at ho hkm
  obtain ⟨B', e1', hy'⟩ := ord_at ho' hkm
  have d1 : ∀ {p : List Int}, Ord m p -> p.drop k = p.getD k 0 :: p.drop (k + 1) := fun {p} hp => by
   have := hp.len
   rw [List.drop_eq_getElem_cons (by (first | lia | omega)), List.getD_eq_getElem?_getD, List.getElem?_eq_getElem (by (first | lia | omega))]
   rfl
  rw [d1 ho, d1 ho', HT.lexLt_cons] at hx
  rw [tlW_succ, tlW_succ]
  by_cases c : o.getD k 0 = o'.getD k 0
  ·rw [if_pos c] at hx
   have ih := h.less ho ho' hw hw' j (k + 1) (by (first | lia | omega)) (by rw [e1, e1', ht, c]) hx
   have ep : plS W o k = plS W o' k := by
    unfold plS
    rw [ht, c]
   (first | lia | omega)
  ·rw [if_neg c] at hx
   have hlt := of_decide_eq_true hx
   have hr := (mem_free.mp hy).1
   have hr' := (mem_free.mp hy').1
   have hin : o.getD k 0 ∈ freeO (o'.getD k 0).toNat (o.take k) := mem_free.mpr ⟨by (first | lia | omega), (mem_free.mp hy).2⟩
   obtain ⟨zs, ez, es⟩ := pl_split W ho hkm hin
   have ep : plS W o' k = plS W o k + (W (o.take (k + 1)) + (zs.map fun x => W (o.take k ++ [x])).sum) := by
    rw [<- es, ht]
    rfl
   have nn : ∀ x ∈ zs, 0 <= W (o.take k ++ [x]) := fun x hx => by
    have hm : x ∈ freeO (o'.getD k 0).toNat (o.take k) := by rw [ez]; exact List.mem_append_right _ (List.mem_cons_of_mem _ hx)
    obtain ⟨h1, h2⟩ := mem_free.mp hm
    exact h.nonneg j (k + 1) _ (by (first | lia | omega)) (B.more (mem_free.mpr ⟨by (first | lia | omega), h2⟩))
   have z0 := sum_nnW (f := fun x => W (o.take k ++ [x])) zs nn
   obtain ⟨i1, _⟩ := h.tail ho hw j (k + 1) (by (first | lia | omega))
   obtain ⟨_, i2⟩ := h.tail ho' hw' j (k + 1) (by (first | lia | omega))
   (first | lia | omega)
theorem lex_totW : ∀ a b : List Int, HT.lexLt a b = false -> HT.lexLt b a = false -> a = b
 | [], [], _, _ => rfl
 | [], _ :: _, h, _ => by rw [HT.lexLt_nil_cons] at h; cases h
 | _ :: _, [], _, h => by rw [HT.lexLt_nil_cons] at h; cases h
 | x :: a, y :: b, h1, h2 => by
  rw [HT.lexLt_cons] at h1 h2
  by_cases c : x = y
  ·subst c
   rw [if_pos rfl] at h1 h2
   rw [lex_totW a b h1 h2]
  ·rw [if_neg c] at h1
   rw [if_neg (Ne.symm c)] at h2
   have := of_decide_eq_false h1
   have := of_decide_eq_false h2
   (first | lia | omega)
theorem Wz.both (h : Wz m W) {o o' : List Int} (ho : Ord m o) (ho' : Ord m o') (hw : W o = 1) (hw' : W o' = 1) : decide (((List.range m).map fun i => plS W o i).sum < ((List.range m).map fun i => plS W o' i).sum) = HT.lexLt o o' := by
 have e : ∀ p : List Int, ((List.range m).map fun i => plS W p i).sum = tlW W p 0 m := fun p => by
  unfold tlW
  simp only [Nat.zero_add]
 rw [e, e]
 cases c : HT.lexLt o o' with
 | true => exact decide_eq_true (h.less ho ho' hw hw' m 0 (by (first | lia | omega)) rfl c)
 | false =>
  refine decide_eq_false ?_
  cases c2 : HT.lexLt o' o with
  | true =>
   have := h.less ho' ho hw' hw m 0 (by (first | lia | omega)) rfl c2
   (first | lia | omega)
  | false =>
   rw [lex_totW o o' c c2]
   (first | lia | omega)
theorem wz_way (K : Cks) {kind : Str} (hkd : kind ∈ kinds5) (hm : m <= 24) (hc : kind = "crossed" -> m <= 12) (n : Int) : Wz m (fun b => wayW kind m b n) :=
 ⟨fun k b hk B => spread_all K hkd B hk hm hc n, fun b B => by
  show 0 <= wayW kind m b n
  rw [way_whole hkd B]
  split <;> (first | lia | omega)⟩
theorem beg_iter {o : List Int} (h : Ord m o) : ∀ k, k <= m -> o.take k ∈ iterA m [[]] k
 | 0, _ => List.mem_singleton.mpr rfl
 | k + 1, hk => by
  obtain ⟨_, e1, hy⟩ := ord_at h (show k < m by (first | lia | omega))
  rw [e1]
  exact iter_more (beg_iter h k (by (first | lia | omega))) hy
end
end L2
namespace K44
open PySem PySem.Spec PyProof.Rows L2
noncomputable def top (i : Nat) : Stmt := PySem.Challenge.pw_shuffletold_k44_places_by_beginnings.main.body.getD i (.Pass ⟨0, 0, 0, 0⟩)
end K44
namespace K44
open PySem PySem.Spec PyProof.Rows L2
section
variable {P : Program} {w : World} {K : PySem.W.Frag} {mg : Str -> Option Value} {base : Heap}
noncomputable abbrev s_number_at : Stmt := top 18
theorem sc_number_at : FnScope ["row", "place"] ["row", "place"] (defScope s_number_at) := ⟨rfl, rfl, rfl, by decide +kernel, rfl, by decide +kernel, by decide +kernel⟩
theorem ok_number_at {f : Addr} {fd : FuncData} (F : Fun K "number_at" "number_at" s_number_at f fd) (T : Top mg) : FnOk P w K mg base CX0 1 f fd ["row", "place"] (spNumAt K) := by
 refine F.ok sc_number_at (fun vs H Q E h => ?_) (fun cdv A outer s H vs Q E hr h => ?_)
 ·obtain ⟨a, ns, k, rfl, _⟩ := h
  rfl
 ·obtain ⟨a, ns, k, rfl, ha, q⟩ := h
  refine ⟨_, (pss_one (ps_ret (pe_ifExp (pt_chain op_le op_lt pe_int (pv 1) (pe_callB call_len_seq (by rfl) T.n_len boot_len (pa_cons (pv 0) pa_nil))) (pe_ix ix_tup (pv 0) (pv 1) (fun _ _ => rfl)) pe_int))), ?_⟩
  refine ⟨_, rfl, _, _, rfl, rfl, _, rfl, ?_⟩
  by_cases h0 : 0 <= k
  ·rw [if_pos (by simpa using h0)]
   refine ⟨_, rfl, a, _, rfl, .inr ha, _, _, rfl, rfl, _, rfl, ?_⟩
   rw [List.length_map]
   by_cases h1 : k < (ns.length : Int)
   ·rw [decide_eq_true h1]
    refine iteT ⟨_, rfl, _, rfl, a, _, _, _, rfl, rfl, ha, at_getD h0 h1, ?_⟩
    rw [atZ_in h0]
    exact q
   ·rw [decide_eq_false h1]
    rw [atZ_ge (by (first | lia | omega))] at q
    exact iteF q
  ·rw [if_neg (by simpa using h0)]
   refine ⟨_, rfl, ?_⟩
   rw [atZ_lt (by (first | lia | omega))] at q
   exact iteF q
end
end K44
namespace K44
open PySem PySem.Spec PyProof.Rows L2
section
variable {P : Program} {w : World} {K : PySem.W.Frag} {mg : Str -> Option Value} {base : Heap}
noncomputable abbrev s_rounds_row : Stmt := top 19
noncomputable abbrev s_stays_row : Stmt := top 20
noncomputable abbrev s_rises_row : Stmt := top 21
theorem sc_rounds_row : FnScope ["many", "ahead"] ["many", "ahead"] (defScope s_rounds_row) := ⟨rfl, rfl, rfl, by decide +kernel, rfl, by decide +kernel, by decide +kernel⟩
theorem sc_stays_row : FnScope ["many", "ahead"] ["many", "ahead"] (defScope s_stays_row) := ⟨rfl, rfl, rfl, by decide +kernel, rfl, by decide +kernel, by decide +kernel⟩
theorem sc_rises_row : FnScope ["many", "ahead"] ["many", "ahead"] (defScope s_rises_row) := ⟨rfl, rfl, rfl, by decide +kernel, rfl, by decide +kernel, by decide +kernel⟩
theorem ok_rounds_row {f : Addr} {fd : FuncData} (F : Fun K "rounds_row" "rounds_row" s_rounds_row f fd) (T : Top mg) (Cnumber_at : Cal P w K mg base 1 "number_at" ["row", "place"] (spNumAt K)) : FnOk P w K mg base CX0 2 f fd ["many", "ahead"] (spRow K 60 roundsRow) := by
 refine F.ok sc_rounds_row (fun vs H Q E h => ?_) (fun cdv A outer s H vs Q E hr h => ?_)
 ·obtain ⟨m, a, ns, rfl, _⟩ := h
  rfl
 ·obtain ⟨m, a, ns, rfl, m1, m2, ha, hl, k⟩ := h
  refine ⟨_, (pss_one (ps_ret (pe_callTy call_tuple_of (by rfl) T.n_tuple boot_tuple (pa_cons (pe_lc (N' := ["k", "ahead", "many"]) (n := 1) (ix := [1, 0]) rfl (CompScope.of (sc := defScope s_rounds_row) (N := ["many", "ahead"]) (by decide +kernel) rfl rfl) (pi_range1 rfl T.n_range (pa_cons (pe_op op_add (pv 0) pe_int) pa_nil)) (fun _ _ _ _ _ => ⟨(pg_name (i := 0) (show (["k", "ahead", "many"] : List Str).Nodup by decide +kernel) rfl (Or.inl rfl)), pts_nil, (pe_op op_add (pe_cal Cnumber_at (hr.mono (by decide)) rfl (pa_cons (pv 1) (pa_cons (pe_op op_sub (pv 0) pe_int) pa_nil))) (pe_op op_mul (pe_op op_sub (pv 2) pe_int) (pe_cal Cnumber_at (hr.mono (by decide)) rfl (pa_cons (pv 1) (pa_cons (pv 0) pa_nil)))))⟩)) pa_nil)))), ?_⟩
  refine ⟨_, rfl, _, _, rfl, rfl, _, rfl, by (first | lia | omega), by (first | lia | omega), ?_⟩
  refine lc_tab (n := m + 1) (fun k => atZ ns (k - 1) + ((m : Int) - 1) * atZ ns k) (by (first | lia | omega)) (fun k k0 k1 H' s' Q' q => ?_) fun acc hacc => ?_
  ·exact ⟨_, rfl, _, rfl, _, _, rfl, rfl, a, ns, _, rfl, s'.seqT ha, _, rfl, _, _, rfl, rfl, _, rfl, _, rfl, a, ns, _, rfl, s'.seqT ha, _, _, rfl, rfl, cmul_small (by (first | lia | omega)) (by (first | lia | omega)), _, _, rfl, rfl, q⟩
  ·refine ⟨acc, _, rfl, .inl ⟨SqL.of upd_same, fun p hp => ?_⟩⟩
   exact k p _ ((same_upd hacc).trans (same_upd hp)) upd_same
theorem ok_stays_row {f : Addr} {fd : FuncData} (F : Fun K "stays_row" "stays_row" s_stays_row f fd) (T : Top mg) (Cnumber_at : Cal P w K mg base 1 "number_at" ["row", "place"] (spNumAt K)) : FnOk P w K mg base CX0 2 f fd ["many", "ahead"] (spRow K 60 staysRow) := by
 refine F.ok sc_stays_row (fun vs H Q E h => ?_) (fun cdv A outer s H vs Q E hr h => ?_)
 ·obtain ⟨m, a, ns, rfl, _⟩ := h
  rfl
 ·obtain ⟨m, a, ns, rfl, m1, m2, ha, hl, k⟩ := h
  refine ⟨_, (pss_one (ps_ret (pe_callTy call_tuple_of (by rfl) T.n_tuple boot_tuple (pa_cons (pe_lc (N' := ["k", "ahead", "many"]) (n := 1) (ix := [1, 0]) rfl (CompScope.of (sc := defScope s_stays_row) (N := ["many", "ahead"]) (by decide +kernel) rfl rfl) (pi_range1 rfl T.n_range (pa_cons (pe_op op_add (pv 0) pe_int) pa_nil)) (fun _ _ _ _ _ => ⟨(pg_name (i := 0) (show (["k", "ahead", "many"] : List Str).Nodup by decide +kernel) rfl (Or.inl rfl)), pts_nil, (pe_op op_add (pe_op op_add (pe_cal Cnumber_at (hr.mono (by decide)) rfl (pa_cons (pv 1) (pa_cons (pe_op op_sub (pv 0) pe_int) pa_nil))) (pe_op op_mul (pe_op op_sub (pe_op op_sub (pv 2) pe_int) (pv 0)) (pe_cal Cnumber_at (hr.mono (by decide)) rfl (pa_cons (pv 1) (pa_cons (pv 0) pa_nil))))) (pe_op op_mul (pe_op op_add (pv 0) pe_int) (pe_cal Cnumber_at (hr.mono (by decide)) rfl (pa_cons (pv 1) (pa_cons (pe_op op_add (pv 0) pe_int) pa_nil)))))⟩)) pa_nil)))), ?_⟩
  refine ⟨_, rfl, _, _, rfl, rfl, _, rfl, by (first | lia | omega), by (first | lia | omega), ?_⟩
  refine lc_tab (n := m + 1) (fun k => atZ ns (k - 1) + ((m : Int) - 1 - k) * atZ ns k + (k + 1) * atZ ns (k + 1)) (by (first | lia | omega)) (fun k k0 k1 H' s' Q' q => ?_) fun acc hacc => ?_
  ·refine ⟨_, rfl, _, rfl, _, _, rfl, rfl, a, ns, _, rfl, s'.seqT ha, _, rfl, _, _, rfl, rfl, _, rfl, _, _, rfl, rfl, _, rfl, _, rfl, a, ns, _, rfl, s'.seqT ha, _, _, rfl, rfl, cmul_small (by (first | lia | omega)) (by (first | lia | omega)), _, _, rfl, rfl, ?_⟩
   exact ⟨_, rfl, _, _, rfl, rfl, _, rfl, _, rfl, _, _, rfl, rfl, a, ns, _, rfl, s'.seqT ha, _, _, rfl, rfl, cmul_small (by (first | lia | omega)) (by (first | lia | omega)), _, _, rfl, rfl, q⟩
  ·refine ⟨acc, _, rfl, .inl ⟨SqL.of upd_same, fun p hp => ?_⟩⟩
   exact k p _ ((same_upd hacc).trans (same_upd hp)) upd_same
theorem ok_rises_row {f : Addr} {fd : FuncData} (F : Fun K "rises_row" "rises_row" s_rises_row f fd) (T : Top mg) (Cnumber_at : Cal P w K mg base 1 "number_at" ["row", "place"] (spNumAt K)) : FnOk P w K mg base CX0 2 f fd ["many", "ahead"] (spRow K 60 risesRow) := by
 refine F.ok sc_rises_row (fun vs H Q E h => ?_) (fun cdv A outer s H vs Q E hr h => ?_)
 ·obtain ⟨m, a, ns, rfl, _⟩ := h
  rfl
 ·obtain ⟨m, a, ns, rfl, m1, m2, ha, hl, k⟩ := h
  refine ⟨_, (pss_one (ps_ret (pe_callTy call_tuple_of (by rfl) T.n_tuple boot_tuple (pa_cons (pe_lc (N' := ["k", "ahead", "many"]) (n := 1) (ix := [1, 0]) rfl (CompScope.of (sc := defScope s_rises_row) (N := ["many", "ahead"]) (by decide +kernel) rfl rfl) (pi_range1 rfl T.n_range (pa_cons (pv 0) pa_nil)) (fun _ _ _ _ _ => ⟨(pg_name (i := 0) (show (["k", "ahead", "many"] : List Str).Nodup by decide +kernel) rfl (Or.inl rfl)), pts_nil, (pe_op op_add (pe_op op_mul (pe_op op_add (pv 0) pe_int) (pe_cal Cnumber_at (hr.mono (by decide)) rfl (pa_cons (pv 1) (pa_cons (pv 0) pa_nil)))) (pe_op op_mul (pe_op op_sub (pv 2) (pv 0)) (pe_cal Cnumber_at (hr.mono (by decide)) rfl (pa_cons (pv 1) (pa_cons (pe_op op_sub (pv 0) pe_int) pa_nil)))))⟩)) pa_nil)))), ?_⟩
  refine ⟨_, rfl, _, rfl, by (first | lia | omega), by (first | lia | omega), ?_⟩
  refine lc_tab (n := m) (fun k => (k + 1) * atZ ns k + ((m : Int) - k) * atZ ns (k - 1)) (by (first | lia | omega)) (fun k k0 k1 H' s' Q' q => ?_) fun acc hacc => ?_
  ·refine ⟨_, rfl, _, _, rfl, rfl, _, rfl, _, rfl, a, ns, _, rfl, s'.seqT ha, _, _, rfl, rfl, cmul_small (by (first | lia | omega)) (by (first | lia | omega)), ?_⟩
   exact ⟨_, rfl, _, rfl, _, _, rfl, rfl, _, rfl, _, rfl, _, _, rfl, rfl, a, ns, _, rfl, s'.seqT ha, _, _, rfl, rfl, cmul_small (by (first | lia | omega)) (by (first | lia | omega)), _, _, rfl, rfl, q⟩
  ·refine ⟨acc, _, rfl, .inl ⟨SqL.of upd_same, fun p hp => ?_⟩⟩
   exact k p _ ((same_upd hacc).trans (same_upd hp)) upd_same
end
end K44
namespace K44
open PySem PySem.Spec PyProof.Rows L2
section
variable {P : Program} {w : World} {K : PySem.W.Frag} {mg : Str -> Option Value} {base : Heap}
noncomputable abbrev s_crossed_row : Stmt := top 22
theorem sc_crossed_row : FnScope ["many", "ahead"] ["many", "ahead"] (defScope s_crossed_row) := ⟨rfl, rfl, rfl, by decide +kernel, rfl, by decide +kernel, by decide +kernel⟩
theorem tri_le {m : Nat} (h : m <= 24) : m * (m - 1) / 2 <= 276 := by
 have : m * (m - 1) <= 24 * 23 := Nat.mul_le_mul h (by (first | lia | omega))
 (first | lia | omega)
theorem tri_cast {m : Nat} (h : 1 <= m) : (m : Int) * ((m : Int) - 1) / 2 + 1 = ((m * (m - 1) / 2 + 1 : Nat) : Int) := by
 rw [show ((m : Int) - 1) = ((m - 1 : Nat) : Int) by (first | lia | omega)]
 push_cast
 rfl
theorem ok_crossed_row {f : Addr} {fd : FuncData} (F : Fun K "crossed_row" "crossed_row" s_crossed_row f fd) (T : Top mg) : FnOk P w K mg base CX0 2 f fd ["many", "ahead"] (spRow K 24 crossedRow) := by
 refine F.ok sc_crossed_row (fun vs H Q E h => ?_) (fun cdv A outer s H vs Q E hr h => ?_)
 ·obtain ⟨m, a, ns, rfl, _⟩ := h
  rfl
 ·obtain ⟨m, a, ns, rfl, m1, m2, ha, hl, k⟩ := h
  have t1 := tri_le m2
  refine ⟨_, (pss_one (ps_ret (pe_callTy call_tuple_of (by rfl) T.n_tuple boot_tuple (pa_cons (pe_lc (N' := ["k", "ahead", "many"]) (n := 1) (ix := [1, 0]) rfl (CompScope.of (sc := defScope s_crossed_row) (N := ["many", "ahead"]) (by decide +kernel) rfl rfl) (pi_range1 rfl T.n_range (pa_cons (pe_op op_add (pe_op op_fdiv (pe_op op_mul (pv 0) (pe_op op_sub (pv 0) pe_int)) pe_int) pe_int) pa_nil)) (fun _ _ _ _ _ => ⟨(pg_name (i := 0) (show (["k", "ahead", "many"] : List Str).Nodup by decide +kernel) rfl (Or.inl rfl)), pts_nil, (pe_callB (call_sumTK K rfl rfl) (by rfl) T.n_sum boot_sum (pa_cons (pe_slice (sl_tupKK K rfl) (pv 1) (po_some (pe_callB (call_max2 rfl) (by rfl) T.n_max boot_max (pa_cons pe_int (pa_cons (pe_op op_add (pe_op op_sub (pv 0) (pv 2)) pe_int) pa_nil)))) (po_some (pe_op op_add (pv 0) pe_int))) pa_nil))⟩)) pa_nil)))), ?_⟩
  refine ⟨_, rfl, _, rfl, _, _, rfl, rfl, _, _, rfl, rfl, cmul_small (by (first | lia | omega)) (by (first | lia | omega)), _, _, rfl, rfl, ⟨by decide, by decide⟩, _, _, rfl, rfl, _, rfl, ?_⟩
  rw [tri_cast m1]
  refine ⟨by (first | lia | omega), by (first | lia | omega), ?_⟩
  refine lc_tabG (fun k => win ns (k - (m : Int) + 1) m) (by (first | lia | omega)) (fun k k0 k1 H' s' Q' q => ?_) fun acc H' hacc sm hys => ?_
  ·refine ⟨_, rfl, _, rfl, _, rfl, _, _, rfl, rfl, _, _, rfl, rfl, _, _, rfl, _, rfl, _, rfl, _, _, rfl, rfl, _, rfl, ?_⟩
   refine ⟨a, _, rfl, s'.seqT ha, fun p H2 s2 hp => ?_⟩
   rw [show (if k - (m : Int) + 1 > 0 then k - (m : Int) + 1 else 0) = (((k - (m : Int) + 1).toNat : Nat) : Int) by split <;> (first | lia | omega), show k + 1 = ((k + 1).toNat : Int) by (first | lia | omega), cutV_ints] at hp
   refine ⟨p, _, rfl, hp, ?_⟩
   rw [sum_cut]
   have e := win_pos ns (k - (m : Int) + 1) m
   rw [show max (k - (m : Int) + 1) 0 = ((k - (m : Int) + 1).toNat : Int) by (first | lia | omega), show m - (-(k - (m : Int) + 1)).toNat = (k + 1).toNat - (k - (m : Int) + 1).toNat by (first | lia | omega)] at e
   rw [<- e]
   exact q H2 s2
  ·refine ⟨acc, _, rfl, .inl ⟨SqL.of hys, fun p hp => ?_⟩⟩
   exact k p _ (sm.trans (same_upd hp)) upd_same
end
end K44
namespace K44
open PySem PySem.Spec PyProof.Rows L2
section
variable {P : Program} {w : World} {K : PySem.W.Frag} {mg : Str -> Option Value} {base : Heap}
noncomputable abbrev s_next_row : Stmt := top 24
noncomputable abbrev s_told : Stmt := top 28
noncomputable abbrev s_steps : Stmt := top 29
theorem sc_next_row : FnScope ["kind", "many", "ahead", "row"] ["kind", "many", "ahead"] (defScope s_next_row) := ⟨rfl, rfl, rfl, by decide +kernel, rfl, by decide +kernel, by decide +kernel⟩
theorem sc_told : FnScope ["kind", "many"] ["kind", "many"] (defScope s_told) := ⟨rfl, rfl, rfl, by decide +kernel, rfl, by decide +kernel, by decide +kernel⟩
theorem sc_steps : FnScope ["kind", "many", "rows", "size"] ["kind", "many"] (defScope s_steps) := ⟨rfl, rfl, rfl, by decide +kernel, rfl, by decide +kernel, by decide +kernel⟩
theorem ok_next_row {f C f1 f2 f3 f5 : Addr} {fd : FuncData} (F : Fun K "next_row" "next_row" s_next_row f fd) (hC : mg "ROWS" = some (.ref C)) (GD : GDict K w.params C [("rounds", f1), ("stays", f2), ("rises", f3), ("highs", f1), ("crossed", f5)])
  (c1 : CalF P w K mg base 2 f1 ["many", "ahead"] (spRow K 60 roundsRow)) (c2 : CalF P w K mg base 2 f2 ["many", "ahead"] (spRow K 60 staysRow)) (c3 : CalF P w K mg base 2 f3 ["many", "ahead"] (spRow K 60 risesRow)) (c5 : CalF P w K mg base 2 f5 ["many", "ahead"] (spRow K 24 crossedRow)) : FnOk P w K mg base CX0 3 f fd ["kind", "many", "ahead"] (spNext K) := by
 refine F.ok sc_next_row (fun vs H Q E h => ?_) (fun cdv A outer s H vs Q E hr h => ?_)
 ·obtain ⟨kind, m, a, ns, rfl, _⟩ := h
  rfl
 ·obtain ⟨kind, m, a, ns, rfl, hk, m1, m2, ha, hl, k⟩ := h
  refine ⟨_, (pss_cons (ps_set (i := 3) sc_next_row.nd rfl (Or.inl rfl) (pe_ix ix_gd (pe_glob (v := .ref C) rfl hC rfl) (pv 0) (fun _ _ => rfl)))
   (pss_one (ps_ret (pe_callV (k := 2) (pv 3) hr (pa_cons (pv 1) (pa_cons (pv 2) pa_nil)))))), ?_⟩
  rcases kinds5_cases hk with rfl | rfl | rfl | rfl | rfl
  ·exact ⟨_, rfl, C, _, _, f1, rfl, rfl, GD, rfl, _, rfl, f1, _, _, rfl, c1, _, rfl, _, rfl, m, a, ns, rfl, m1, m2, ha, hl, k⟩
  ·exact ⟨_, rfl, C, _, _, f2, rfl, rfl, GD, rfl, _, rfl, f2, _, _, rfl, c2, _, rfl, _, rfl, m, a, ns, rfl, m1, m2, ha, hl, k⟩
  ·exact ⟨_, rfl, C, _, _, f3, rfl, rfl, GD, rfl, _, rfl, f3, _, _, rfl, c3, _, rfl, _, rfl, m, a, ns, rfl, m1, m2, ha, hl, k⟩
  ·exact ⟨_, rfl, C, _, _, f1, rfl, rfl, GD, rfl, _, rfl, f1, _, _, rfl, c1, _, rfl, _, rfl, m, a, ns, rfl, m1, m2, ha, hl, k⟩
  ·exact ⟨_, rfl, C, _, _, f5, rfl, rfl, GD, rfl, _, rfl, f5, _, _, rfl, c5, _, rfl, _, rfl, m, a, ns, rfl, m1, m2, ha, hl, k⟩
theorem ok_steps {f FR : Addr} {fd : FuncData} (F : Fun K "steps" "steps" s_steps f fd) (T : Top mg) (hFR : mg "FIRST_ROW" = some (.ref FR)) (hF : ∀ H, SqT K H FR ([1].map V.int)) (Cnext_row : Cal P w K mg base 3 "next_row" ["kind", "many", "ahead"] (spNext K)) : FnOk P w K mg base CX0 4 f fd ["kind", "many"] (spSteps K) := by
 refine F.ok sc_steps (fun vs H Q E h => ?_) (fun cdv A outer s H vs Q E hr h => ?_)
 ·obtain ⟨kind, m, rfl, _⟩ := h
  rfl
 ·obtain ⟨kind, m, rfl, hk, hm, k⟩ := h
  have hb := bOf_le kind
  refine ⟨_, (pss_cons (ps_set (i := 2) sc_steps.nd rfl (Or.inl rfl) (pe_lst (pa_cons (pe_glob (v := .ref FR) rfl hFR rfl) pa_nil)))
   (pss_cons (ps_for PassesOwn.never rfl (pi_range2 rfl T.n_range (pa_cons pe_int (pa_cons (pe_op op_add (pv 1) pe_int) pa_nil))) (pg_name (i := 3) sc_steps.nd rfl (Or.inl rfl))
    (pss_one (ps_expr (pe_bm PySem.F.plainAttrs_list PySem.F.slot_list_append PySem.F.type_list_append mt_append (pv 2) (pa_cons (pe_cal Cnext_row (hr.mono (by decide)) rfl (pa_cons (pv 0) (pa_cons (pv 3) (pa_cons (pe_ix ix_list (pv 2) (pe_un un_neg pe_int) (fun _ _ => rfl)) pa_nil)))) pa_nil)))))
   (pss_one (ps_ret (pe_callTy call_tuple_of (by rfl) T.n_tuple boot_tuple (pa_cons (pv 2) pa_nil)))))), ?_⟩
  refine ⟨by show 1 <= sizeLine; decide, fun l hl => ?_⟩
  have s1 := same_upd (o := .lst [.ref FR]) hl
  refine ⟨_, rfl, _, _, rfl, rfl, _, _, rfl, ⟨by decide, by decide, by (first | lia | omega), by (first | lia | omega)⟩, ?_⟩
  rw [show ((m : Int) + 1 - 1).toNat = m by (first | lia | omega)]
  refine for_range (fun i σ H2 => ∃ (zs : List Addr) (c3 : Option V), σ = [some (.str kind), some (.int m), some (.ref l), c3] /\ Same H H2 /\ H2 l = some (.lst (zs.map V.ref)) /\ RowsK K H2 zs (rowsZ kind i)) ?_ ?_ ?_
  ·exact ⟨[FR], none, rfl, s1, upd_same, .cons (hF _) .nil⟩
  ·rintro i σ H2 hi ⟨zs, c3, rfl, sm, hl2, R⟩
   have ez : zs.length = i + 1 := by rw [Paired.length R, rowsZ_len]
   obtain ⟨z, hz, hzr⟩ := R.get (i := i) (r := rowZ kind i) (by unfold rowsZ; simp)
   refine ⟨_, rfl, .inl ⟨rfl, _, SqL.of hl2⟩, ?_⟩
   refine ⟨_, rfl, _, rfl, _, rfl, _, rfl, l, _, _, (.ref z), rfl, rfl, SqL.of hl2, ?_, ?_⟩
   ·have hzl : zs.length - 1 = i := by (first | lia | omega)
    show atI (zs.map V.ref) (-1) = some (V.ref z)
    rw [atI_neg1 (by rw [List.length_map]; (first | lia | omega)), List.length_map, hzl, List.getElem?_map, hz]
    rfl
   refine ⟨kind, i + 1, z, rowZ kind i, ?_, hk, by (first | lia | omega), by (first | lia | omega), hzr, Nat.le_trans (rowZ_len (by (first | lia | omega))) (by decide), fun p H3 s3 hp => ?_⟩
   ·rw [show (1 : Int) + (i : Int) = ((i + 1 : Nat) : Int) by (first | lia | omega)]
   refine ⟨l, _, _, rfl, rfl, s3 _ _ hl2, small1 (by rw [List.length_map]; (first | lia | omega)), zs ++ [p], _, rfl, same_updR (sm.trans s3) hl, ?_, ?_⟩
   ·rw [upd_same, List.map_append]
    rfl
   ·rw [rowsZ_succ]
    exact Paired.snoc ((R.same s3).updL (s3 _ _ hl2)) (sqT_updL (SqT.of hp) (s3 _ _ hl2))
  ·rintro σ H2 ⟨zs, c3, rfl, sm, hl2, R⟩
   refine ⟨_, rfl, l, _, rfl, .inl ⟨SqL.of hl2, fun p hp => ?_⟩⟩
   exact k p zs _ (sm.trans (same_upd hp)) upd_same (R.same (same_upd hp))
theorem ok_told {f : Addr} {fd : FuncData} (F : Fun K "told" "told" s_told f fd) (T : Top mg) (Csteps : Cal P w K mg base 4 "steps" ["kind", "many"] (spSteps K)) : FnOk P w K mg base CX0 5 f fd ["kind", "many"] (spTold K) := by
 refine F.ok sc_told (fun vs H Q E h => ?_) (fun cdv A outer s H vs Q E hr h => ?_)
 ·obtain ⟨kind, m, rfl, _⟩ := h
  rfl
 ·obtain ⟨kind, m, rfl, hk, hm, k⟩ := h
  refine ⟨_, (pss_cons (ps_if (pt_cmpR op_eq (pv 0) pe_str (nomark _))
    pss_never
    pss_nil)
   (pss_one (ps_ret (pe_ix ix_tup (pe_cal Csteps (hr.mono (by decide)) rfl (pa_cons (pv 0) (pa_cons (pv 1) pa_nil))) (pv 1) (fun _ _ => rfl))))), ?_⟩
  have hne : ¬ kind = "longest" := by
   rcases kinds5_cases hk with rfl | rfl | rfl | rfl | rfl <;> decide
  refine ⟨_, rfl, rfl, _, rfl, ?_⟩
  rw [decide_eq_false (fun e => hne (V.str.inj e))]
  refine iteF ?_
  refine ⟨_, rfl, _, rfl, kind, m, rfl, hk, hm, fun p zs H' s' hp R => ?_⟩
  obtain ⟨z, hz, hzr⟩ := R.get (i := m) (r := rowZ kind m) (by unfold rowsZ; simp)
  refine ⟨_, rfl, p, _, _, (.ref z), rfl, rfl, SqT.of hp, atI_nat (by rw [List.getElem?_map, hz]; rfl), ?_⟩
  exact k z H' s' hzr
end
end K44
namespace L2
open PySem PySem.Spec PyProof.Rows
noncomputable def spCntB (f : List Int -> Int) : Sp := fun vs H Q _ => ∃ (a : Addr) (ns : List Int) (m kk : Nat), vs = [.ref a] /\ H a = some (.tup (ns.map V.int)) /\ Beg m kk ns /\ m <= 60 /\ ∀ H', Same H H' -> Q (.int (f ns)) H'
theorem cut_to {left : List Int} {k : Nat} (hk : k <= left.length) : cutV (left.map V.int) none (some (k : Int)) = (left.take k).map V.int := by
 unfold cutV
 rw [HT.sIx_none, HT.sIx_nat, mapI_len, Nat.min_eq_left hk, List.drop_zero, Nat.sub_zero, List.map_take]
theorem cut_tail (ns : List Int) : cutV (ns.map V.int) (some 1) none = (ns.drop 1).map V.int := by
 unfold cutV
 rw [show (1 : Int) = ((1 : Nat) : Int) from rfl, HT.sIx_nat, HT.sIx_none, mapI_len]
 cases ns with
 | nil => rfl
 | cons x t =>
  rw [Nat.min_eq_left (by simp), List.map_drop, List.take_of_length_le (by simp)]
theorem piK_tup {X : Cx} {tg l : Expr} {tl : TE} (K : PySem.W.Frag) (hK : X.K = K) (hl : PE X l tl) : PI X tg l (iTup K tl) := hK ▸ pi_tup hl
theorem en2_ones (ns : List Int) : ∀ (k : Nat) (t : List Int), (∀ (j : Nat), t[j]? = ns[k + j]?) -> en2 (fun i _ => (ns.take i).map V.int) qC (.int 1) k (t.map V.int) =
  (List.replicate ((List.range t.length).map fun j => ((ns.take (k + j)).filter fun a => decide (t.getD j 0 < a)).length).sum (1 : Int)).map V.int
 | _, [], _ => rfl
 | k, x :: t, h => by
  show (((ns.take k).map V.int).filter _).map _ ++ en2 _ _ _ (k + 1) (t.map V.int) = _
  rw [en2_ones ns (k + 1) t fun j => by have := h (j + 1); rw [show k + (j + 1) = k + 1 + j by (first | lia | omega)] at this; simpa using this]
  rw [List.length_cons, List.range_succ_eq_map, List.map_cons, List.sum_cons, List.map_map]
  have e : (List.range t.length).map ((fun j => ((ns.take (k + j)).filter fun a => decide ((x :: t).getD j 0 < a)).length) ∘ Nat.succ) = (List.range t.length).map fun j => ((ns.take (k + 1 + j)).filter fun a => decide (t.getD j 0 < a)).length := by
   apply List.map_congr_left
   intro j _
   show ((ns.take (k + (j + 1))).filter fun a => decide ((x :: t).getD (j + 1) 0 < a)).length = _
   rw [show k + (j + 1) = k + 1 + j by (first | lia | omega)]
   rfl
  rw [e, List.filter_map, List.map_map]
  have e2 : ∀ l : List Int, l.map ((fun _ => V.int 1) ∘ V.int) = (List.replicate l.length (1 : Int)).map V.int := fun l => by
   rw [List.map_replicate, List.eq_replicate_iff]
   exact ⟨by simp, fun b hb => by obtain ⟨c, _, rfl⟩ := List.mem_map.mp hb; rfl⟩
  rw [e2, <- List.map_append, List.replicate_append_replicate]
  rfl
theorem sum_cast (n : Nat) (g : Nat -> Nat) : ((((List.range n).map g).sum : Nat) : Int) = sumR n fun k => (g k : Int) := by
 induction n with
 | zero => rfl
 | succ n ih =>
  rw [sumR_succ, <- ih, List.range_succ]
  simp
theorem small_cross {m : Nat} {ns : List Int} (hl : ns.length = m) (hm : m <= 60) : ∀ n, n <= m -> ((List.range n).map fun j => ((ns.take (0 + j)).filter fun a => decide (ns.getD j 0 < a)).length).sum <= n * 60 := by
 intro n
 induction n with
 | zero => intro _; simp
 | succ n ih =>
  intro hn
  have h1 := ih (by (first | lia | omega))
  have h2 : ((ns.take (0 + n)).filter fun a => decide (ns.getD n 0 < a)).length <= 60 := by
   refine Nat.le_trans (List.length_filter_le _ _) ?_
   rw [List.length_take]
   (first | lia | omega)
  rw [List.range_succ, List.map_append, List.sum_append]
  simp only [List.map_cons, List.map_nil, List.sum_cons, List.sum_nil, Nat.add_zero]
  (first | lia | omega)
end L2
namespace K44
open PySem PySem.Spec PyProof.Rows L2
noncomputable abbrev s_stays_in : Stmt := top 9
noncomputable abbrev s_rises_in : Stmt := top 10
noncomputable abbrev s_highs_in : Stmt := top 11
noncomputable abbrev s_crossed_in : Stmt := top 12
section
variable {P : Program} {w : World} {K : PySem.W.Frag} {mg : Str -> Option Value} {base : Heap}
theorem sc_stays_in : FnScope ["order"] ["order"] (defScope s_stays_in) := ⟨rfl, rfl, rfl, by decide +kernel, rfl, by decide +kernel, by decide +kernel⟩
theorem ok_stays_in {f : Addr} {fd : FuncData} (F : Fun K "stays_in" "stays_in" s_stays_in f fd) (T : Top mg) : FnOk P w K mg base CX0 1 f fd ["order"] (spCntB staysO) := by
 refine F.ok sc_stays_in (fun vs H Q E h => ?_) (fun cdv A outer s H vs Q E hr h => ?_)
 ·obtain ⟨a, ns, m, kk, rfl, _⟩ := h
  rfl
 ·obtain ⟨a, ns, m, kk, rfl, ha, ho, hm0, k⟩ := h
  have hm : kk <= 60 := by have := ho.free; (first | lia | omega)
  have ln := ho.len
  refine ⟨_, (pss_one (ps_ret (pe_callB (call_sumL rfl) (by rfl) T.n_sum boot_sum (pa_cons (pe_lc (N' := ["place", "number"]) (n := 2) (ix := []) rfl (CompScope.of (sc := defScope s_stays_in) (N := ["order"]) (by decide +kernel) rfl rfl) (pi_enumT rfl T.n_enumerate (pa_cons (pv 0) pa_nil)) (fun _ _ _ _ _ => ⟨(pg_pairK K (i := 0) (j := 1) rfl rfl (show (["place", "number"] : List Str).Nodup by decide +kernel) rfl rfl (Or.inl rfl) (Or.inl rfl) (Or.inr rfl) (Or.inr rfl)), (pts_one (pt_cmpR op_eq (pv 1) (pv 0) (nomark _))), pe_int⟩)) pa_nil)))), ?_⟩
  refine ⟨_, rfl, a, rfl, ⟨_, SqT.of ha⟩, ?_⟩
  refine lc_enum (xs := ns.map V.int) (fun s' => SqT.of (s' _ _ ha)) (by rw [mapI_len]; (first | lia | omega)) (qN fun i n => decide (V.int n = V.int (i : Int))) (fun _ _ => .int 1) (fun i x hx H' s' Q' q => ?_) (fun i x hx _ H' s' Q' q => ?_) fun acc H' hacc s' hl => ?_
  ·obtain ⟨n, _, rfl⟩ := List.mem_map.mp (List.mem_of_getElem? hx)
   exact ⟨_, rfl, _, rfl, rfl, _, rfl, q⟩
  ·exact q
  ·rw [enF_ones fun i n => decide (V.int n = V.int (i : Int))] at hl
   refine ⟨acc, _, rfl, hl, ?_⟩
   rw [ones_sum, countP_sumR]
   have e : (sumR ns.length fun k => if decide (V.int (ns.getD k 0) = V.int ((0 + k : Nat) : Int)) = true then 1 else 0) = staysO ns := sumR_congr fun j _ => by
    rw [getD_atO, Nat.zero_add, dec_int]
    by_cases h : atO ns (j : Int) = j
    ·rw [if_pos h, if_pos (by simpa using h)]
    ·rw [if_neg h, if_neg (by simpa using h)]
   rw [e]
   exact k H' s'
theorem sc_rises_in : FnScope ["order"] ["order"] (defScope s_rises_in) := ⟨rfl, rfl, rfl, by decide +kernel, rfl, by decide +kernel, by decide +kernel⟩
theorem ok_rises_in {f : Addr} {fd : FuncData} (F : Fun K "rises_in" "rises_in" s_rises_in f fd) (T : Top mg) : FnOk P w K mg base CX0 1 f fd ["order"] (spCntB risesO) := by
 refine F.ok sc_rises_in (fun vs H Q E h => ?_) (fun cdv A outer s H vs Q E hr h => ?_)
 ·obtain ⟨a, ns, m, kk, rfl, _⟩ := h
  rfl
 ·obtain ⟨a, ns, m, kk, rfl, ha, ho, hm0, k⟩ := h
  have hm : kk <= 60 := by have := ho.free; (first | lia | omega)
  have ln := ho.len
  refine ⟨_, (pss_one (ps_ret (pe_callB (call_sumL rfl) (by rfl) T.n_sum boot_sum (pa_cons (pe_lc (N' := ["number", "behind"]) (n := 2) (ix := []) rfl (CompScope.of (sc := defScope s_rises_in) (N := ["order"]) (by decide +kernel) rfl rfl) (pi_zipT rfl T.n_zip (pa_cons (pv 0) (pa_cons (pe_slice sl_tupA (pv 0) (po_some pe_int) po_none) pa_nil))) (fun _ _ _ _ _ => ⟨(pg_pairK K (i := 0) (j := 1) rfl rfl (show (["number", "behind"] : List Str).Nodup by decide +kernel) rfl rfl (Or.inl rfl) (Or.inl rfl) (Or.inr rfl) (Or.inr rfl)), (pts_one (pt_cmpR op_lt (pv 0) (pv 1) (nomark _))), pe_int⟩)) pa_nil)))), ?_⟩
  refine ⟨_, rfl, _, rfl, 1, rfl, a, _, rfl, ha, fun b H1 s1 hb => ⟨a, b, rfl, ⟨_, SqT.of (s1 _ _ ha)⟩, ⟨_, SqT.of hb⟩, ?_⟩⟩
  rw [cut_tail] at hb
  refine lc_zip (xs := ns.map V.int) (ys := (ns.drop 1).map V.int) (fun s' => SqT.of (s' _ _ (s1 _ _ ha))) (fun s' => SqT.of (s' _ _ hb)) (by rw [List.length_zip, mapI_len]; (first | lia | omega)) (qZ fun a b => decide (a < b)) (fun _ => .int 1) (fun xy hxy H' s' Q' q => ?_) (fun xy hxy _ H' s' Q' q => ?_) fun acc H' hacc s' hl => ?_
  ·obtain ⟨x, y⟩ := xy
   obtain ⟨n, _, rfl⟩ := List.mem_map.mp (List.of_mem_zip hxy).1
   obtain ⟨n', _, rfl⟩ := List.mem_map.mp (List.of_mem_zip hxy).2
   exact ⟨_, rfl, _, rfl, _, _, rfl, rfl, _, rfl, q⟩
  ·exact q
  ·rw [zip_ones fun a b => decide (a < b)] at hl
   refine ⟨acc, _, rfl, hl, ?_⟩
   rw [ones_sum, countP_sumR]
   have e : (sumR (ns.length - 1) fun k => if decide (ns.getD k 0 < ns.getD (k + 1) 0) = true then 1 else 0) = risesO ns := sumR_congr fun j _ => by
    rw [getD_atO, getD_atO]
    by_cases h : atO ns (j : Int) < atO ns ((j + 1 : Nat) : Int)
    ·rw [if_pos h, if_pos (by simpa using h)]
    ·rw [if_neg h, if_neg (by simpa using h)]
   rw [e]
   exact k H' (s1.trans s')
theorem sc_highs_in : FnScope ["order", "highs", "highest", "number"] ["order"] (defScope s_highs_in) := ⟨rfl, rfl, rfl, by decide +kernel, rfl, by decide +kernel, by decide +kernel⟩
theorem ok_highs_in {f : Addr} {fd : FuncData} (F : Fun K "highs_in" "highs_in" s_highs_in f fd) : FnOk P w K mg base CX0 1 f fd ["order"] (spCntB highsO) := by
 refine F.ok sc_highs_in (fun vs H Q E h => ?_) (fun cdv A outer s H vs Q E hr h => ?_)
 ·obtain ⟨a, ns, m, kk, rfl, _⟩ := h
  rfl
 ·obtain ⟨a, ns, m, kk, rfl, ha, ho, hm0, k⟩ := h
  have hm : kk <= 60 := by have := ho.free; (first | lia | omega)
  have ln := ho.len
  refine ⟨_, (pss_cons (ps_set (i := 1) sc_highs_in.nd rfl (Or.inl rfl) pe_int)
   (pss_cons (ps_set (i := 2) sc_highs_in.nd rfl (Or.inl rfl) (pe_un un_neg pe_int))
   (pss_cons (ps_for PassesOwn.never rfl (pi_tup (pv 0)) (pg_name (i := 3) sc_highs_in.nd rfl (Or.inl rfl))
    (pss_one (ps_if (pt_cmpR op_gt (pv 3) (pv 2) (nomark _))
     (pss_cons (ps_aug (i := 1) sc_highs_in.nd rfl (Or.inl rfl) pe_int ip_add)
     (pss_one (ps_set (i := 2) sc_highs_in.nd rfl (Or.inl rfl) (pv 3))))
     pss_nil)))
   (pss_one (ps_ret (pv 1)))))), ?_⟩
  refine ⟨1, rfl, ?_⟩
  refine ⟨_, rfl, a, rfl, ⟨_, SqT.of ha⟩, for_tup (K := K) (xs := ns.map V.int) (fun i σ H2 => ∃ (h : Int) (c3 : Option V), σ = [some (.ref a), some (.int (sumR i fun k => if (ns.take (k + 1)).all (fun a => decide (a <= atO ns k)) then 1 else 0)), some (.int h), c3] /\ H2 = H /\ (∀ a ∈ ns.take i, a <= h) /\ (h = -1 ∨ h ∈ ns.take i)) ?_ ?_ ?_ ?_⟩
  ·exact ⟨-1, none, rfl, rfl, by simp, .inl rfl⟩
  ·rintro i σ H2 _ ⟨h, c3, rfl, rfl, _⟩
   exact SqT.of ha
  ·rintro i x σ H2 hx ⟨h, c3, rfl, rfl, hle, hin⟩
   rw [List.getElem?_map] at hx
   obtain ⟨n, hn, rfl⟩ : ∃ n, ns[i]? = some n /\ V.int n = x := by
    cases e : ns[i]? with
    | none => rw [e] at hx; cases hx
    | some n => rw [e] at hx; exact ⟨n, rfl, Option.some.inj hx⟩
   have hnr := ho.rng n (List.mem_of_getElem? hn)
   have hat : atO ns (i : Int) = n := by rw [<- getD_atO, List.getD_eq_getElem?_getD, hn]; rfl
   have htk : ns.take (i + 1) = ns.take i ++ [n] := by rw [List.take_succ, hn]; rfl
   have hnew : n ∉ ns.take i := fun z => by
    obtain ⟨j, hj⟩ := List.getElem?_of_mem z
    rw [List.getElem?_take] at hj
    by_cases hji : j < i
    ·rw [if_pos hji] at hj
     obtain ⟨l1, e1⟩ := List.getElem?_eq_some_iff.mp hn
     obtain ⟨l2, e2⟩ := List.getElem?_eq_some_iff.mp hj
     have q1 := List.Nodup.idxOf_getElem ho.nd i l1
     have q2 := List.Nodup.idxOf_getElem ho.nd j l2
     rw [e1] at q1
     rw [e2] at q2
     (first | lia | omega)
    ·rw [if_neg hji] at hj
     cases hj
   refine ⟨_, rfl, _, rfl, _, _, rfl, rfl, _, rfl, ite2 (fun hc => ?_) (fun hc => ?_)⟩
   ·have hgt : h < n := by simpa using hc
    have e : (ns.take (i + 1)).all (fun a => decide (a <= atO ns i)) = true := by
     rw [hat, htk, List.all_eq_true]
     intro a ha'
     rcases List.mem_append.mp ha' with h1 | h1
     ·have := hle a h1
      simp
      (first | lia | omega)
     ·rw [List.mem_singleton.mp h1]; simp
    refine ⟨_, rfl, _, _, rfl, rfl, ?_⟩
    refine ⟨_, rfl, n, some (.int n), ?_, rfl, ?_, .inr (by rw [htk]; simp)⟩
    ·rw [sumR_succ, e]
     rfl
    ·intro a ha'
     rw [htk] at ha'
     rcases List.mem_append.mp ha' with h1 | h1
     ·have := hle a h1
      (first | lia | omega)
     ·rw [List.mem_singleton.mp h1]; exact Int.le_refl _
   ·have hngt : n <= h := by simpa using hc
    have hmem : h ∈ ns.take i := by
     rcases hin with h1 | h1
     ·(first | lia | omega)
     ·exact h1
    have hlt : n < h := by
     have : n ≠ h := fun z => hnew (z ▸ hmem)
     (first | lia | omega)
    have e : (ns.take (i + 1)).all (fun a => decide (a <= atO ns i)) = false := by
     rw [hat, htk, List.all_eq_false]
     exact ⟨h, List.mem_append_left _ hmem, by simp; (first | lia | omega)⟩
    refine ⟨h, some (.int n), ?_, rfl, ?_, .inr (by rw [htk]; exact List.mem_append_left _ hmem)⟩
    ·rw [sumR_succ, e]
     simp
    ·intro a ha'
     rw [htk] at ha'
     rcases List.mem_append.mp ha' with h1 | h1
     ·exact hle a h1
     ·rw [List.mem_singleton.mp h1]; exact hngt
  ·rintro σ H2 ⟨h, c3, rfl, rfl, _⟩
   rw [mapI_len]
   exact ⟨_, rfl, k _ (Same.refl _)⟩
theorem sc_crossed_in : FnScope ["order"] ["order"] (defScope s_crossed_in) := ⟨rfl, rfl, rfl, by decide +kernel, rfl, by decide +kernel, by decide +kernel⟩
theorem ok_crossed_in {f : Addr} {fd : FuncData} (F : Fun K "crossed_in" "crossed_in" s_crossed_in f fd) (T : Top mg) : FnOk P w K mg base CX0 1 f fd ["order"] (spCntB crossedO) := by
 refine F.ok sc_crossed_in (fun vs H Q E h => ?_) (fun cdv A outer s H vs Q E hr h => ?_)
 ·obtain ⟨a, ns, m, kk, rfl, _⟩ := h
  rfl
 ·obtain ⟨a, ns, m, kk, rfl, ha, ho, hm0, k⟩ := h
  have hm : kk <= 60 := by have := ho.free; (first | lia | omega)
  have ln := ho.len
  refine ⟨_, (pss_one (ps_ret (pe_callB (call_sumL rfl) (by rfl) T.n_sum boot_sum (pa_cons (pe_lc2 (N' := ["place", "number", "ahead", "order"]) (n := 3) (ix := [0]) rfl (CompScope.of (sc := defScope s_crossed_in) (N := ["order"]) (by decide +kernel) rfl rfl) (pi_enumT rfl T.n_enumerate (pa_cons (pv 0) pa_nil))
   (fun _ _ _ _ _ => ⟨(pg_pairK K (i := 0) (j := 1) rfl rfl (show (["place", "number", "ahead", "order"] : List Str).Nodup by decide +kernel) rfl rfl (Or.inl rfl) (Or.inl rfl) (Or.inr rfl) (Or.inr rfl)), pts_nil, (piK_tup K rfl (pe_slice sl_tupA (pv 3) po_none (po_some (pv 0)))), (pg_name (i := 2) (show (["place", "number", "ahead", "order"] : List Str).Nodup by decide +kernel) rfl (Or.inl rfl)), (pts_one (pt_cmpR op_gt (pv 2) (pv 1) (nomark _))), pe_int⟩)) pa_nil)))), ?_⟩
  refine ⟨_, rfl, a, rfl, ⟨_, SqT.of ha⟩, ?_⟩
  have hen := en2_ones ns 0 ns fun j => by rw [Nat.zero_add]
  refine lc2_enum (xs := ns.map V.int) (fun s' => SqT.of (s' _ _ ha)) (fun i _ => (ns.take i).map V.int) qC (.int 1) ?_ (fun i x hx H' s' Rr q => ?_) (fun i x hx y hy H' s' Q' q => ?_) (fun i x hx y hy H' s' Q' q => ?_) fun acc H' hacc s' hl => ?_
  ·rw [hen, mapI_len, List.length_replicate]
   refine Nat.lt_of_le_of_lt (small_cross ln hm ns.length (by (first | lia | omega))) ?_
   rw [ln]
   exact Nat.lt_of_le_of_lt (Nat.mul_le_mul_right 60 hm) (by decide)
  ·have hi : i < ns.length := by
    have := (List.getElem?_eq_some_iff.mp hx).1
    rwa [mapI_len] at this
   refine ⟨_, rfl, _, rfl, _, rfl, a, _, rfl, s' _ _ ha, fun b G sG hb => ⟨b, rfl, ⟨_, SqT.of hb⟩, ?_⟩⟩
   rw [cut_to (by (first | lia | omega))] at hb
   exact q _ _ G sG (yields_tup (K := K) (a := b) (xs := (ns.take i).map V.int)) fun G' st _ => SqT.of (st _ _ hb)
  ·obtain ⟨n, _, rfl⟩ := List.mem_map.mp (List.mem_of_getElem? hx)
   obtain ⟨n', _, rfl⟩ := List.mem_map.mp hy
   exact ⟨_, rfl, _, rfl, _, _, rfl, rfl, _, rfl, q⟩
  ·exact q
  ·rw [hen] at hl
   refine ⟨acc, _, rfl, hl, ?_⟩
   rw [ones_sum, sum_cast]
   have e : (sumR ns.length fun j => (((ns.take (0 + j)).filter fun a => decide (ns.getD j 0 < a)).length : Int)) = crossedO ns := sumR_congr fun j _ => by
    rw [getD_atO, Nat.zero_add]
   rw [e]
   exact k H' s'
end
end K44
namespace L2
open PySem PySem.Spec PyProof.Rows
noncomputable def spPrF : Sp := fun vs H Q _ => ∃ a j : Nat, vs = [.int ((a : Int) + 1), .int ((a : Int) + (j : Int))] /\ a + j <= 60 /\ Q (.int (prF a j)) H
theorem prF_fc : ∀ n, prF 0 n = fcZ n
 | 0 => rfl
 | n + 1 => by
  show prF 0 n * _ = fcZ n * _
  rw [prF_fc n]
  congr 1
  (first | lia | omega)
end L2
namespace K44
open PySem PySem.Spec PyProof.Rows L2
noncomputable abbrev s_product : Stmt := top 26
section
variable {P : Program} {w : World} {K : PySem.W.Frag} {mg : Str -> Option Value} {base : Heap}
theorem sc_product : FnScope ["first", "last", "found", "number"] ["first", "last"] (defScope s_product) := ⟨rfl, rfl, rfl, by decide +kernel, rfl, by decide +kernel, by decide +kernel⟩
theorem ok_product {f : Addr} {fd : FuncData} (F : Fun K "product" "product" s_product f fd) (T : Top mg) : FnOk P w K mg base CX0 1 f fd ["first", "last"] spPrF := by
 refine F.ok sc_product (fun vs H Q E h => ?_) (fun cdv A outer s H vs Q E hr h => ?_)
 ·obtain ⟨a, n, rfl, _⟩ := h
  rfl
 ·obtain ⟨a, n, rfl, hn, k⟩ := h
  refine ⟨_, (pss_cons (ps_set (i := 2) sc_product.nd rfl (Or.inl rfl) pe_int)
   (pss_cons (ps_for PassesOwn.never rfl (pi_range2 rfl T.n_range (pa_cons (pv 0) (pa_cons (pe_op op_add (pv 1) pe_int) pa_nil))) (pg_name (i := 3) sc_product.nd rfl (Or.inl rfl))
    (pss_one (ps_set (i := 2) sc_product.nd rfl (Or.inl rfl) (pe_op op_mul (pv 2) (pv 3)))))
   (pss_one (ps_ret (pv 2))))), ?_⟩
  refine ⟨_, rfl, _, rfl, _, _, rfl, rfl, _, _, rfl, ⟨by (first | lia | omega), by (first | lia | omega), by (first | lia | omega), by (first | lia | omega)⟩, ?_⟩
  rw [show ((a : Int) + (n : Int) + 1 - ((a : Int) + 1)).toNat = n by (first | lia | omega)]
  refine for_range (fun i σ G => G = H /\ ∃ c : Option V, σ = [some (.int ((a : Int) + 1)), some (.int ((a : Int) + (n : Int))), some (.int (prF a i)), c]) ⟨rfl, none, rfl⟩ ?_ ?_
  ·rintro i σ G hi ⟨rfl, c, rfl⟩
   refine ⟨_, rfl, _, rfl, _, _, rfl, rfl, .inr ⟨by (first | lia | omega), by (first | lia | omega)⟩, rfl, some (.int ((a : Int) + 1 + (i : Int))), rfl⟩
  ·rintro σ G ⟨rfl, c, rfl⟩
   exact ⟨_, rfl, k⟩
end
end K44
namespace L2
open PySem PySem.Spec PyProof.Rows
theorem ixN_z {n : Nat} (h : 0 < n) : ixN n 0 = some 0 := by
 unfold ixN
 have := h
 split <;> simp_all
end L2
namespace K44
open PySem PySem.Spec PyProof.Rows L2
noncomputable abbrev s__law_spring_of : Stmt := top 46
noncomputable abbrev s__law_take : Stmt := top 47
section
variable {P : Program} {w : World} {K : PySem.W.Frag} {mg : Str -> Option Value} {base : Heap}
theorem sc__law_take : FnScope ["_law_spring", "_law_many", "_law_digit", "_law_once"] ["_law_spring", "_law_many"] (defScope s__law_take) := ⟨rfl, rfl, rfl, by decide +kernel, rfl, by decide +kernel, by decide +kernel⟩
set_option maxHeartbeats 8000000 in
theorem ok__law_take {f : Addr} {fd : FuncData} (F : Fun K "_law_take" "_law_take" s__law_take f fd) : FnOk P w K mg base CX0 1 f fd ["_law_spring", "_law_many"] spTakeS := by
 refine F.ok sc__law_take (fun vs H Q E h => ?_) (fun cdv A outer s H vs Q E hr h => ?_)
 ·obtain ⟨p, q, m, n, rfl, _⟩ := h
  rfl
 ·obtain ⟨p, q, m, n, rfl, hm0, hm1, hh, hn, k⟩ := h
  have hu : _ := hr.units
  have hu1 := hu_of hr
  refine ⟨_, (pss_cons (ps_while PassesOwn.never (PW.pt (pw_and (pt_cmpR (op_neD hu) (pe_dget hu1 (pv 0) pe_str (fun _ _ => rfl)) (pe_lst pa_nil) (nomark _)) (pw_and1 (pt_cmpR op_eq (pe_ix ix_list (pe_dget hu1 (pv 0) pe_str (fun _ _ => rfl)) pe_int (fun _ _ => rfl)) pe_int (nomark _)))))
    (pss_one (ps_expr (pe_bm PySem.F.plainAttrs_list PySem.F.slot_list_pop PySem.F.type_list_pop mt_popAt (pe_dget hu1 (pv 0) pe_str (fun _ _ => rfl)) (pa_cons pe_int pa_nil)))))
   (pss_cons (ps_if (pt_cmpR (op_neD hu) (pe_dget hu1 (pv 0) pe_str (fun _ _ => rfl)) (pe_lst pa_nil) (nomark _))
    (pss_cons (ps_set (i := 2) sc__law_take.nd rfl (Or.inl rfl) (pe_op op_mod (pe_ix ix_list (pe_dget hu1 (pv 0) pe_str (fun _ _ => rfl)) pe_int (fun _ _ => rfl)) (pv 1)))
    (pss_cons (ps_asg (pe_op op_fdiv (pe_ix ix_list (pe_dget hu1 (pv 0) pe_str (fun _ _ => rfl)) pe_int (fun _ _ => rfl)) (pv 1)) (pg_sub (pe_dget hu1 (pv 0) pe_str (fun _ _ => rfl)) pe_int set_list))
    (pss_one (ps_ret (pv 2)))))
    pss_nil)
   (pss_cons (ps_dput hu1 (pv 0) pe_str (pe_op op_add (pe_dget hu1 (pv 0) pe_str (fun _ _ => rfl)) pe_int) rfl)
   (pss_cons (ps_set (i := 3) sc__law_take.nd rfl (Or.inl rfl) (pe_op op_mod (pe_op op_mul (pe_op op_add (pe_dget hu1 (pv 0) pe_str (fun _ _ => rfl)) (pe_op op_mul (pe_op op_mul pe_int (pe_dget hu1 (pv 0) pe_str (fun _ _ => rfl))) (pe_dget hu1 (pv 0) pe_str (fun _ _ => rfl)))) pe_int) pe_int))
   (pss_cons (ps_set (i := 3) sc__law_take.nd rfl (Or.inl rfl) (pe_op op_mod (pe_op op_mul (pv 3) (pe_op op_add (pe_op op_add (pe_op op_mod (pv 3) pe_int) (pe_op op_mul pe_int (pe_dget hu1 (pv 0) pe_str (fun _ _ => rfl)))) pe_int)) pe_int))
   (pss_one (ps_ret (pe_op op_mod (pe_op op_add (pe_op op_fdiv (pv 3) pe_int) (pe_op op_fdiv (pv 3) pe_int)) (pv 1))))))))), ?_⟩
  refine ⟨fun c σ H1 => ∃ (ns : List Int) (sd t : Int), c = ns.length /\ σ = [some (.ref p), some (.int m), none, none] /\ H1 p = some (.dK (sprD q sd t)) /\ H1 q = some (.lst (ns.map V.int)) /\ (∀ n ∈ ns, 0 <= n) /\ ns.length <= 63 /\ (0 <= sd /\ sd < 2305843009213693951) /\ (0 <= t /\ t <= n) /\ Keep p q H H1, ?_, ?_⟩
  ·obtain ⟨ns, sd, t, h1, h2, h3, h4, h5, h6, h7, h8⟩ := hh
   exact ⟨_, ns, sd, t, rfl, rfl, h1, h2, h3, h4, ⟨h5, h6⟩, ⟨h7, h8⟩, Keep.refl _ _ _⟩
  rintro c σ H1 ⟨ns, sd, t, rfl, rfl, hp, hq, hns, hlen, hsd, ht, kp⟩
  refine ⟨_, rfl, p, .ref q, rfl, spr_own hp, Nat.zero_le _, fun e he => neNilS hq he ⟨_, rfl, ?_⟩⟩
  have hnpq : p ≠ q := ne_of hp hq (by intro z; cases z)
  have se := same_upd (o := .lst []) he
  have hp1 := se _ _ hp
  have hq1 := se _ _ hq
  have kp1 : Keep p q H (upd H1 e (.lst [])) := kp.trans se.keep
  cases ns with
  | nil =>
   refine iteF ?_
   refine iteF ?_
   refine ⟨_, rfl, p, .ref q, rfl, spr_own hp1, Nat.zero_le _, fun e' he' => neNilS hq1 he' ⟨_, rfl, ?_⟩⟩
   have se' := same_upd (o := .lst []) he'
   have hp3 := se' _ _ hp1
   have hq3 := se' _ _ hq1
   have kp3 := kp1.trans (se'.keep (p := p) (q := q))
   refine iteF ?_
   refine ⟨_, rfl, p, .int t, rfl, spr_turn hp3, _, _, rfl, rfl, _, rfl, p, _, rfl, spr_put hp3, ?_⟩
   have hp4 := @upd_same (upd (upd H1 e (.lst [])) e' (.lst [])) p (.dK (sprD q sd (t + 1)))
   have t64 : -(2 ^ 64) < t + 1 /\ t + 1 < 2 ^ 64 := ⟨by (first | lia | omega), by (first | lia | omega)⟩
   refine ⟨_, rfl, p, .int sd, rfl, spr_seed hp4, _, rfl, p, .int (t + 1), rfl, spr_turn hp4, _, _, rfl, rfl, .inl ⟨by decide, by decide⟩, _, rfl, p, .int (t + 1), rfl, spr_turn hp4, _, _, rfl, rfl, .inr t64, _, _, rfl, rfl, _, _, rfl, rfl, .inr ⟨by decide, by decide⟩, _, _, rfl, rfl, (by show (0 : Int) < 2305843009213693907; decide), ?_⟩
   have o0 := Int.emod_nonneg ((sd + 7927 * (t + 1) * (t + 1)) * 48299) (by decide : (2305843009213693907 : Int) ≠ 0)
   have o1 := Int.emod_lt_of_pos ((sd + 7927 * (t + 1) * (t + 1)) * 48299) (by decide : (0 : Int) < 2305843009213693907)
   generalize (sd + 7927 * (t + 1) * (t + 1)) * 48299 % 2305843009213693907 = once at o0 o1
   refine ⟨_, rfl, _, rfl, _, _, rfl, rfl, (by show (0 : Int) < 999979; decide), _, rfl, p, .int (t + 1), rfl, spr_turn hp4, _, _, rfl, rfl, .inl ⟨by decide, by decide⟩, _, _, rfl, rfl, _, _, rfl, rfl, _, _, rfl, rfl, .inl ⟨by (first | lia | omega), by (first | lia | omega)⟩, _, _, rfl, rfl, (by show (0 : Int) < 2305843009213693921; decide), ?_⟩
   refine ⟨_, rfl, _, _, rfl, rfl, ⟨by decide, by decide⟩, _, rfl, _, _, rfl, rfl, ⟨by decide, by decide⟩, _, _, rfl, rfl, _, rfl, _, _, rfl, rfl, hm0, ?_⟩
   refine k _ _ (Int.emod_nonneg _ (by (first | lia | omega))) (Int.emod_lt_of_pos _ hm0) ⟨[], sd, t + 1, hp4, by rw [upd_ne (Ne.symm hnpq)]; exact hq3, hns, by simp, hsd.1, hsd.2, by (first | lia | omega), by (first | lia | omega)⟩ ?_
   exact kp3.trans fun b o hb h1 _ => by rw [upd_ne h1]; exact hb
  | cons x r =>
   refine iteT ?_
   refine ⟨_, rfl, p, .ref q, rfl, spr_own hp1, q, _, 0, _, rfl, rfl, SqL.of hq1, atI_nat (j := 0) rfl, rfl, _, rfl, ?_⟩
   refine ite2 (fun hz => ?_) (fun hz => ?_)
   ·refine ⟨fun σ' H' => ∃ (ns : List Int) (sd t : Int), ns.length < (x :: r).length /\ σ' = [some (.ref p), some (.int m), none, none] /\ H' p = some (.dK (sprD q sd t)) /\ H' q = some (.lst (ns.map V.int)) /\ (∀ n ∈ ns, 0 <= n) /\ ns.length <= 63 /\ (0 <= sd /\ sd < 2305843009213693951) /\ (0 <= t /\ t <= n) /\ Keep p q H H', ?_, ?_⟩
    ·rintro σ' H' ⟨ns', sd', t', hlt, h1, h2, h3, h4, h5, h6, h7, h8⟩
     exact ⟨_, hlt, ns', sd', t', rfl, h1, h2, h3, h4, h5, h6, h7, h8⟩
    ·refine ⟨_, rfl, p, .ref q, rfl, spr_own hp1, .inl ⟨rfl, _, SqL.of hq1⟩, q, _, 0, 0, _, rfl, rfl, hq1, by decide, by decide, (by simp [seqIndex?]), rfl, ?_⟩
     refine ⟨r, sd, t, by simp, rfl, by rw [upd_ne hnpq]; exact hp1, by rw [upd_same]; rfl, fun y hy => hns y (List.mem_cons_of_mem _ hy), by have : (x :: r).length = r.length + 1 := rfl; (first | lia | omega), hsd, ht, ?_⟩
     exact kp1.trans fun b o hb _ h2 => by rw [upd_ne h2]; exact hb
   ·refine ⟨_, rfl, p, .ref q, rfl, spr_own hp1, Nat.zero_le _, fun e' he' => neNilS hq1 he' ⟨_, rfl, ?_⟩⟩
    have se' := same_upd (o := .lst []) he'
    have hp3 := se' _ _ hp1
    have hq3 := se' _ _ hq1
    have kp3 := kp1.trans (se'.keep (p := p) (q := q))
    refine iteT ?_
    have hx0 : 0 <= x := hns x List.mem_cons_self
    refine ⟨_, rfl, p, .ref q, rfl, spr_own hp3, q, _, 0, _, rfl, rfl, SqL.of hq3, atI_nat (j := 0) rfl, _, rfl, _, _, rfl, rfl, hm0, ?_⟩
    refine ⟨_, rfl, p, .ref q, rfl, spr_own hp3, q, _, 0, _, rfl, rfl, SqL.of hq3, atI_nat (j := 0) rfl, _, rfl, _, _, rfl, rfl, ⟨hm0, hm1⟩, _, rfl, p, .ref q, rfl, spr_own hp3, q, _, 0, 0, rfl, rfl, hq3, ixN_z (by simp), ?_⟩
    refine ⟨_, rfl, ?_⟩
    refine k _ _ (Int.emod_nonneg _ (by (first | lia | omega))) (Int.emod_lt_of_pos _ hm0) ⟨(x / m) :: r, sd, t, by rw [upd_ne hnpq]; exact hp3, by rw [upd_same]; rfl, fun y hy => ?_, by simpa using hlen, hsd.1, hsd.2, ht.1, by (first | lia | omega)⟩ ?_
    ·rcases List.mem_cons.mp hy with rfl | hy
     ·exact Int.ediv_nonneg hx0 (by (first | lia | omega))
     ·exact hns y (List.mem_cons_of_mem _ hy)
    ·exact kp3.trans fun b o hb _ h2 => by rw [upd_ne h2]; exact hb
end
end K44
namespace K44
open PySem PySem.Spec PyProof.Rows L2
section
variable {P : Program} {w : World} {K : PySem.W.Frag} {mg : Str -> Option Value} {base : Heap}
theorem sc__law_spring_of : FnScope ["_law_script", "_law_own", "_law_seed", "_law_far", "_law_k", "_law_cell", "_law_part"] ["_law_script"] (defScope s__law_spring_of) := ⟨rfl, rfl, rfl, by decide +kernel, rfl, by decide +kernel, by decide +kernel⟩
set_option maxHeartbeats 8000000 in
theorem ok__law_spring_of {f : Addr} {fd : FuncData} (F : Fun K "_law_spring_of" "_law_spring_of" s__law_spring_of f fd) (T : Top mg) : FnOk P w K mg base CX0 1 f fd ["_law_script"] (spSpring K) := by
 refine F.ok sc__law_spring_of (fun vs H Q E h => ?_) (fun cdv A outer s H vs Q E hr h => ?_)
 ·obtain ⟨a, ns, rfl, _⟩ := h
  rfl
 ·obtain ⟨a, ns, rfl, hS, hl, k⟩ := h
  refine ⟨_, (pss_cons (ps_asg (pe_tup (pa_cons (pe_lst pa_nil) (pa_cons pe_int (pa_cons (pe_op op_pow pe_int pe_int) pa_nil)))) (pg_tup rfl (pgs_cons (pg_name (i := 1) sc__law_spring_of.nd rfl (Or.inl rfl) (Or.inl rfl)) (pgs_cons (pg_name (i := 2) sc__law_spring_of.nd rfl (Or.inl rfl) (Or.inl rfl)) (pgs_cons (pg_name (i := 3) sc__law_spring_of.nd rfl (Or.inr rfl) (Or.inl rfl)) pgs_nil)))))
   (pss_cons (ps_for PassesOwn.never rfl (pi_range1 rfl T.n_range (pa_cons pe_int pa_nil)) (pg_name (i := 4) sc__law_spring_of.nd rfl (Or.inl rfl))
    (pss_one (ps_set (i := 3) sc__law_spring_of.nd rfl (Or.inr rfl) (pe_op op_mulW (pv 3) (pe_op op_pow pe_int pe_int)))))
   (pss_cons (ps_for PassesOwn.never rfl (pi_list (pe_slice sl_list (pv 0) po_none (po_some pe_int))) (pg_name (i := 5) sc__law_spring_of.nd rfl (Or.inl rfl))
    (pss_cons (ps_set (i := 6) sc__law_spring_of.nd rfl (Or.inl rfl) (pe_op op_mod (pv 5) pe_int))
    (pss_one (ps_set (i := 2) sc__law_spring_of.nd rfl (Or.inl rfl) (pe_op op_mod (pe_op op_add (pe_op op_add (pe_op op_add (pe_op op_mul (pv 2) pe_int) (pe_op op_mul (pv 6) (pv 6))) (pv 5)) pe_int) pe_int)))))
   (pss_cons (ps_if (PW.pt (pw_and (pt_cmpR op_gt (pe_callB call_len_seq (by rfl) T.n_len PySem.boot_len (pa_cons (pv 0) pa_nil)) pe_int (nomark _)) (pw_and1 (pt_cmpR op_ge (pe_ix ix_list (pv 0) pe_int (fun _ _ => rfl)) (pe_op op_pow pe_int pe_int) (nomark _)))))
    (pss_one (ps_lcset (i := 1) rfl sc__law_spring_of.nd rfl rfl (N' := ["_law_cell", "_law_far"]) (n := 1) (ix := [3]) rfl (CompScope.of (sc := defScope s__law_spring_of) (N := ["_law_script", "_law_own", "_law_seed", "_law_far", "_law_k", "_law_cell", "_law_part"]) (by decide +kernel) rfl rfl) (pi_list (pe_slice sl_list (pv 0) po_none (po_some pe_int))) (fun _ _ _ _ _ => ⟨(pg_name (i := 0) (show (["_law_cell", "_law_far"] : List Str).Nodup by decide +kernel) rfl (Or.inl rfl)), pts_nil, (pe_op op_mod (pe_callB call_abs (by rfl) T.n_abs boot_abs (pa_cons (pv 0) pa_nil)) (pv 1))⟩)))
    pss_nil)
   (pss_one (ps_ret (pe_dict3 (k1 := "own") (k2 := "seed") (k3 := "turn") (by decide) (by decide) (by decide) pe_str pe_str pe_str (pv 1) (pv 2) pe_int))))))), ?_⟩
  have hcut : ∃ ms : List Int, cutV (ns.map V.int) none (some 63) = ms.map V.int /\ ms.length <= 63 := by
   refine ⟨(ns.drop (HT.sIx (ns.map V.int).length 0 none)).take (HT.sIx (ns.map V.int).length (ns.map V.int).length (some 63) - HT.sIx (ns.map V.int).length 0 none), ?_, ?_⟩
   ·unfold cutV
    rw [List.map_take, List.map_drop]
   ·rw [List.length_take, List.length_drop]; (first | lia | omega)
  obtain ⟨ms, ecut, hms⟩ := hcut
  refine ⟨Nat.zero_le _, fun l hl0 => ⟨_, _, rfl, rfl, ⟨by decide, by decide, by decide⟩, by show 3 <= sizeLine; decide, fun t ht => ?_⟩⟩
  have s1 := same_upd (o := .lst []) hl0
  have s2 := same_upd (o := .tup [.ref l, .int 7411, .int (10 ^ Int.toNat 60)]) ht
  have hl2 := s2 _ _ (@upd_same H l (.lst []))
  refine ⟨t, _, rfl, SqT.of upd_same, rfl, _, _, rfl, _, _, rfl, _, _, rfl, rfl, ?_⟩
  refine ⟨6, rfl, by decide, by decide, ?_⟩
  refine for_range (lo := 0) (n := 6) (fun i σ G => ∃ (c4 : Option V) (far : Int), far = ((10 : Int) ^ (60 : Int).toNat) ^ (i + 1) /\ σ = [some (.ref a), some (.ref l), some (.int 7411), some (.int far), c4, none, none] /\ Same H G /\ G l = some (.lst [])) ?_ ?_ ?_
  ·exact ⟨_, _, by rw [Int.pow_succ, Int.pow_zero, Int.one_mul], rfl, s1.trans s2, hl2⟩
  ·rintro i σ G hi ⟨c4, far, rfl, rfl, sm, hG⟩
   refine ⟨_, rfl, _, _, rfl, rfl, ⟨by decide, by decide, by decide⟩, _, _, rfl, rfl, bits_far (i + 1) (by (first | lia | omega)), ?_⟩
   exact ⟨_, _, by rw [Int.pow_succ _ (i + 1)], rfl, sm, hG⟩
  ·rintro σ G ⟨c4, far, efar, rfl, sm, hG⟩
   have hfar : (0 : Int) < far := by rw [efar]; exact Int.pow_pos (Int.pow_pos (by decide))
   clear efar
   refine ⟨_, rfl, 63, rfl, a, _, rfl, sm.seq hS, fun p hp => ⟨p, rfl, ⟨_, SqL.of upd_same⟩, ?_⟩⟩
   have s3 := same_upd (o := .lst (cutV (ns.map V.int) none (some 63))) hp
   refine for_list (K := K) (a := p) (xs := ms.map V.int) (fun i σ G' => ∃ (seed : Int) (c5 c6 : Option V), σ = [some (.ref a), some (.ref l), some (.int seed), some (.int far), c4, c5, c6] /\ 0 <= seed /\ seed < 2305843009213693951 /\ G' = upd G p (.lst (ms.map V.int))) ⟨7411, none, none, rfl, by decide, by decide, by rw [ecut]⟩ (fun i σ G' _ h => by obtain ⟨_, _, _, _, _, _, rfl⟩ := h; exact SqL.of upd_same) ?_ ?_
   ·rintro i y σ G' hi ⟨seed, c5, c6, rfl, h0, h1, rfl⟩
    obtain ⟨z, _, rfl⟩ := List.mem_map.mp (List.mem_of_getElem? hi)
    refine ⟨_, rfl, _, _, rfl, rfl, (by show (0 : Int) < 1000033; decide), ?_⟩
    have p0 := Int.emod_nonneg z (by decide : (1000033 : Int) ≠ 0)
    have p1 := Int.emod_lt_of_pos z (by decide : (0 : Int) < 1000033)
    refine ⟨_, rfl, _, _, rfl, rfl, .inr ⟨by decide, by decide⟩, _, rfl, _, rfl, _, _, rfl, rfl, .inl ⟨by (first | lia | omega), by (first | lia | omega)⟩, _, _, rfl, rfl, _, rfl, _, _, rfl, rfl, _, _, rfl, rfl, _, _, rfl, rfl, (by show (0 : Int) < 2305843009213693951; decide), ?_⟩
    exact ⟨_, _, _, rfl, Int.emod_nonneg _ (by decide), Int.emod_lt_of_pos _ (by decide), rfl⟩
   ·rintro σ G' ⟨seed, c5, c6, rfl, h0, h1, rfl⟩
    rw [ecut] at s3
    have S3 := sm.trans s3
    have hl3 := s3 _ _ hG
    have fin : ∀ (q : Addr) (ws : List Int) (G5 : Hp), Same H G5 -> G5 q = some (.lst (ws.map V.int)) -> H q = none -> (∀ m ∈ ws, 0 <= m) -> ws.length <= 63 -> ∀ d, G5 d = none -> Q (.ref d) (upd (upd G5 d (.dK [])) d (.dK [(.inr "own", .ref q), (.inr "seed", .int seed), (.inr "turn", .int 0)])) := fun q ws G5 sm5 hq hq0 hws hwl d hd => by
     have s6 := same_upd (o := .dK (sprD q seed 0)) hd
     rw [upd_upd]
     exact k d q _ (sm5.trans s6) ⟨ws, seed, 0, upd_same, s6 _ _ hq, hws, hwl, h0, h1, by decide, by decide⟩ (sm5.free hd) hq0
    refine ⟨_, rfl, a, _, rfl, .inl (S3.seq hS), _, _, rfl, rfl, _, rfl, ?_⟩
    rw [mapI_len]
    by_cases hn : ns.length = 0
    ·rw [decide_eq_false (show ¬((0 : Int) < (ns.length : Int)) by (first | lia | omega))]
     refine iteF (iteF ?_)
     exact fun d hd => ⟨_, rfl, _, rfl, upd_same, fin l [] _ S3 hl3 hl0 (fun _ h => by cases h) (by decide) d hd⟩
    ·rw [decide_eq_true (show ((0 : Int) < (ns.length : Int)) by (first | lia | omega))]
     obtain ⟨x0, r0, rfl⟩ : ∃ x0 r0, ns = x0 :: r0 := by
      cases ns with
      | nil => exact absurd rfl hn
      | cons x r => exact ⟨x, r, rfl⟩
     refine iteT ⟨_, rfl, a, _, 0, .int x0, rfl, rfl, S3.seq hS, atI_nat (j := 0) rfl, _, _, rfl, rfl, ⟨by decide, by decide, by decide⟩, _, _, rfl, rfl, _, rfl, ite2 (fun hb => ?_) (fun hb => ?_)⟩
     ·refine ⟨_, rfl, 63, rfl, a, _, rfl, S3.seq hS, fun p' hp' => ⟨p', rfl, ⟨_, SqL.of upd_same⟩, ?_⟩⟩
      have u1 := same_upd (o := .lst (cutV ((x0 :: r0).map V.int) none (some 63))) hp'
      rw [ecut] at u1 ⊢
      refine lc_pure (yields_list (xs := ms.map V.int)) (small1 (by rw [mapI_len]; (first | lia | omega))) (fun _ => true) (fun v => match v with | .int n => .int ((if n < 0 then -n else n) % far) | v => v) (fun H' s' => SqL.of (s' _ _ upd_same)) (fun _ _ _ _ _ q => q) (fun x hx _ H' s' Q' q => ?_) fun acc hacc => ?_
      ·obtain ⟨n, _, rfl⟩ := List.mem_map.mp hx
       exact ⟨_, rfl, n, rfl, _, rfl, _, _, rfl, rfl, hfar, q⟩
      ·have u2 := same_upd (o := .lst (((ms.map V.int).filter fun _ => true).map fun v => match v with | .int n => .int ((if n < 0 then -n else n) % far) | v => v)) hacc
       refine fun d hd => ⟨_, rfl, _, rfl, upd_same, fin acc (ms.map fun n => (if n < 0 then -n else n) % far) _ (S3.trans (u1.trans u2)) ?_ ((S3.trans u1).free hacc) (fun m hm => ?_) (by rw [List.length_map]; exact hms) d hd⟩
       ·rw [upd_same, filter_true, List.map_map, List.map_map]
        rfl
       ·obtain ⟨c, _, rfl⟩ := List.mem_map.mp hm
        exact Int.emod_nonneg _ (by (first | lia | omega))
     ·exact fun d hd => ⟨_, rfl, _, rfl, upd_same, fin l [] _ S3 hl3 hl0 (fun _ h => by cases h) (by decide) d hd⟩
end
end K44
namespace L2
open PySem PySem.Spec PyProof.Rows
theorem op_notIn_seqK {X : Cx} (K : PySem.W.Frag) (hK : X.K = K) : OpR X (compareOp .NotIn) (rIn K true) := hK ▸ op_notIn_seq
theorem lc_ones {J : It} {Ok : Hp -> Prop} {xs : List V} {tt : TT} {te : TE} {ix : List Nat} {σ : L2.St} {H1 : Hp} {Q : VK} (Y : Yields J Ok xs) (small : xs.length < sizeLine) (p : V -> Bool) (hok : ∀ H, Same H1 H -> Ok H)
  (ht : ∀ x ∈ xs, ∀ H, Same H1 H -> ∀ Q' : Bool -> Hp -> Prop, Q' (p x) H -> tt (some x :: ix.map fun i => σ.getD i none) H Q')
  (he : ∀ x ∈ xs, ∀ H, Same H1 H -> ∀ Q' : VK, Q' (.int 1) H -> te (some x :: ix.map fun i => σ.getD i none) H Q')
  (fin : ∀ acc H', H1 acc = none -> Same H1 H' -> H' acc = some (.lst ((List.replicate (xs.filter p).length (1 : Int)).map V.int)) -> Q (.ref acc) H') :
  LcW J H1 (gName 0) tt te 1 ix σ Q := by
 refine lc_growF Y small p (fun _ v _ => v = .int 1) (fun _ _ _ _ _ h => h) hok ht (fun x hx _ H sm Q' q => he x hx H sm Q' (q _ _ (Same.refl H) rfl)) fun acc ys H' hacc sm hys pr => ?_
 refine fin acc H' hacc sm ?_
 rw [hys]
 congr 2
 have : ∀ {l : List V} {ys : List V}, Paired (fun _ v => v = V.int 1) l ys -> ys = (List.replicate l.length (1 : Int)).map V.int := by
  intro l ys h
  induction h with
  | nil => rfl
  | cons e _ ih => rw [e, ih]; rfl
 exact this pr
noncomputable def spLeft : Sp := fun vs H Q _ => ∃ (m : Nat) (a : Addr) (b : List Int), vs = [.int m, .ref a] /\ H a = some (.tup (b.map V.int)) /\ m <= 60 /\ ∀ p H', Same H H' -> H p = none -> H' p = some (.lst ((freeO m b).map V.int)) -> Q (.ref p) H'
noncomputable def spLeast : Sp := fun vs H Q _ => ∃ (a : Addr) (b : List Int) (f : Nat), vs = [.ref a, .int f] /\ H a = some (.tup (b.map V.int)) /\ f < b.length /\ b.length <= 60 /\ (∀ x ∈ b, 0 <= x) /\ leastS b f b.length (atO b f) = true /\ Q (.bl (leastW b f)) H
theorem paired_self {l ys : List V} (h : Paired (fun x v => v = x) l ys) : ys = l := by
 induction h with
 | nil => rfl
 | cons e _ ih => rw [e, ih]
theorem free_filter (m : Nat) (r : List Int) : ((rangeV 0 m).filter fun v => match v with | .int k => !inV (.int k) (r.map V.int) | _ => false) = (freeO m r).map V.int := by
 rw [rangeV_num0, List.filter_map]
 unfold freeO
 congr 1
 refine List.filter_congr fun k _ => ?_
 show (!inV (.int k) (r.map V.int)) = _
 rw [inV_ints]
 by_cases c : k ∈ r
 ·rw [decide_eq_true c, decide_eq_false (fun z => z c)]; rfl
 ·rw [decide_eq_false c, decide_eq_true c]; rfl
theorem at_atO {b : List Int} {n : Int} (h0 : 0 <= n) (h1 : n < (b.length : Int)) : atI (b.map V.int) n = some (.int (atO b n)) := by
 obtain ⟨j, rfl⟩ : ∃ j : Nat, n = (j : Int) := ⟨n.toNat, by (first | lia | omega)⟩
 have hj : j < b.length := by (first | lia | omega)
 refine atI_nat ?_
 rw [List.getElem?_map, List.getElem?_eq_getElem hj]
 unfold atO
 rw [Int.toNat_natCast, List.getD_eq_getElem?_getD, List.getElem?_eq_getElem hj]
 rfl
end L2
namespace K44
open PySem PySem.Spec PyProof.Rows L2
noncomputable abbrev s_numbers_left : Stmt := top 1
noncomputable abbrev s_is_round_least : Stmt := top 35
noncomputable abbrev s_greatest_put_in : Stmt := top 38
noncomputable abbrev s_least_put_in : Stmt := top 39
section
variable {P : Program} {w : World} {K : PySem.W.Frag} {mg : Str -> Option Value} {base : Heap}
theorem sc_numbers_left : FnScope ["many", "begun"] ["many", "begun"] (defScope s_numbers_left) := ⟨rfl, rfl, rfl, by decide +kernel, rfl, by decide +kernel, by decide +kernel⟩
theorem ok_numbers_left {f : Addr} {fd : FuncData} (F : Fun K "numbers_left" "numbers_left" s_numbers_left f fd) (T : Top mg) : FnOk P w K mg base CX0 1 f fd ["many", "begun"] spLeft := by
 refine F.ok sc_numbers_left (fun vs H Q E h => ?_) (fun cdv A outer s H vs Q E hr h => ?_)
 ·obtain ⟨m, a, b, rfl, _⟩ := h
  rfl
 ·obtain ⟨m, a, b, rfl, ha, hm, k⟩ := h
  refine ⟨_, (pss_one (ps_ret (pe_lc (N' := ["number", "begun"]) (n := 1) (ix := [1]) rfl (CompScope.of (sc := defScope s_numbers_left) (N := ["many", "begun"]) (by decide +kernel) rfl rfl) (pi_range1 rfl T.n_range (pa_cons (pv 0) pa_nil)) (fun _ _ _ _ _ => ⟨(pg_name (i := 0) (show (["number", "begun"] : List Str).Nodup by decide +kernel) rfl (Or.inl rfl)), (pts_one (pt_cmpR (op_notIn_seqK K rfl) (pv 0) (pv 1) (by rfl))), (pv 0)⟩)))), ?_⟩
  refine ⟨_, rfl, _, rfl, by (first | lia | omega), by (first | lia | omega), ?_⟩
  rw [Int.toNat_natCast]
  refine lc_growF (yields_range (lo := 0) (n := m)) (small1 (by rw [rangeV_len]; (first | lia | omega))) (fun v => match v with | .int k => !inV (.int k) (b.map V.int) | _ => false) (fun x v _ => v = x) (fun _ _ _ _ _ h => h) (fun _ _ => trivial) (fun x hx G s' Q' q' => ?_) (fun x hx _ G s' Q' q' => ?_) fun acc ys G hacc s' hys pr => ?_
  ·obtain ⟨n, rfl, n0, n1⟩ := mem_rangeV hx
   exact ⟨_, rfl, _, rfl, a, _, rfl, .inr (SqT.of (s' _ _ ha)), rfl, by rw [List.all_map]; simp [flatV], _, rfl, q'⟩
  ·exact ⟨_, rfl, q' _ _ (Same.refl G) rfl⟩
  ·rw [free_filter] at pr
   rw [paired_self pr] at hys
   exact k acc G s' hacc hys
theorem sc_is_round_least : FnScope ["begun", "first", "number"] ["begun", "first"] (defScope s_is_round_least) := ⟨rfl, rfl, rfl, by decide +kernel, rfl, by decide +kernel, by decide +kernel⟩
theorem ok_is_round_least {f : Addr} {fd : FuncData} (F : Fun K "is_round_least" "is_round_least" s_is_round_least f fd) (T : Top mg) : FnOk P w K mg base CX0 1 f fd ["begun", "first"] spLeast := by
 refine F.ok sc_is_round_least (fun vs H Q E h => ?_) (fun cdv A outer s H vs Q E hr h => ?_)
 ·obtain ⟨a, b, n, rfl, _⟩ := h
  rfl
 ·obtain ⟨a, b, n, rfl, ha, hn, hl, hb, hS, k⟩ := h
  refine ⟨_, (pss_cons (ps_set (i := 2) sc_is_round_least.nd rfl (Or.inl rfl) (pe_ix ix_tup (pv 0) (pv 1) (fun _ _ => rfl)))
   (pss_cons (ps_while PassesOwn.never (pt_chain op_lt op_lt (pv 1) (pv 2) (pe_callB call_len_seq (by rfl) T.n_len PySem.boot_len (pa_cons (pv 0) pa_nil)))
    (pss_one (ps_set (i := 2) sc_is_round_least.nd rfl (Or.inl rfl) (pe_ix ix_tup (pv 0) (pv 2) (fun _ _ => rfl)))))
   (pss_one (ps_ret (pe_cmpR op_eq (pv 2) (pv 1) (nomark _)))))), ?_⟩
  refine ⟨_, rfl, _, rfl, a, _, _, _, rfl, rfl, SqT.of ha, at_atO (by (first | lia | omega)) (by (first | lia | omega)), ?_⟩
  refine ⟨fun u σ G => ∃ c : Int, σ = [some (.ref a), some (.int n), some (.int c)] /\ G = H /\ leastS b n u c = true /\ leastW b n = decide (leastG b n u c = n), ⟨b.length, _, rfl, rfl, hS, rfl⟩, ?_⟩
  rintro u σ G ⟨c, rfl, rfl, hu, hB⟩
  refine ⟨_, rfl, _, rfl, _, _, rfl, rfl, _, rfl, ?_⟩
  by_cases c1 : (n : Int) < c
  ·rw [decide_eq_true c1]
   refine iteT ⟨_, rfl, a, _, rfl, .inr (SqT.of ha), _, _, rfl, rfl, _, rfl, ?_⟩
   rw [mapI_len]
   by_cases c2 : c < (b.length : Int)
   ·rw [decide_eq_true c2]
    cases u with
    | zero =>
     unfold leastS at hu
     rw [decide_eq_true c1, decide_eq_true c2] at hu
     cases hu
    | succ u =>
     unfold leastS at hu
     rw [if_pos ⟨c1, c2⟩] at hu
     unfold leastG at hB
     rw [if_pos ⟨c1, c2⟩] at hB
     refine iteT ⟨fun σ' H' => ∃ c : Int, σ' = [some (.ref a), some (.int n), some (.int c)] /\ H' = G /\ leastS b n u c = true /\ leastW b n = decide (leastG b n u c = n), fun σ' H' h => ⟨u, by (first | lia | omega), h⟩, ?_⟩
     refine ⟨_, rfl, _, rfl, a, _, _, _, rfl, rfl, SqT.of ha, at_atO (by (first | lia | omega)) c2, ?_⟩
     exact ⟨_, rfl, rfl, hu, hB⟩
   ·rw [decide_eq_false c2]
    refine iteF ⟨_, rfl, _, rfl, rfl, ?_⟩
    have e : leastG b n u c = c := by
     cases u with
     | zero => rfl
     | succ u => unfold leastG; rw [if_neg (fun z => c2 z.2)]
    rw [e] at hB
    rw [dec_int, show (c == (n : Int)) = leastW b n by rw [hB]; rfl]
    exact k
  ·rw [decide_eq_false c1]
   refine iteF ?_
   refine ⟨_, rfl, ?_⟩
   refine iteF ⟨_, rfl, _, rfl, rfl, ?_⟩
   have e : leastG b n u c = c := by
    cases u with
    | zero => rfl
    | succ u => unfold leastG; rw [if_neg (fun z => c1 z.1)]
   rw [e] at hB
   rw [dec_int, show (c == (n : Int)) = leastW b n by rw [hB]; rfl]
   exact k
theorem sc_greatest_put_in : FnScope ["size", "row"] ["size", "row"] (defScope s_greatest_put_in) := ⟨rfl, rfl, rfl, by decide +kernel, rfl, by decide +kernel, by decide +kernel⟩
theorem ok_greatest_put_in {f : Addr} {fd : FuncData} (F : Fun K "greatest_put_in" "greatest_put_in" s_greatest_put_in f fd) (T : Top mg) (Cnumber_at : Cal P w K mg base 1 "number_at" ["row", "place"] (spNumAt K)) : FnOk P w K mg base CX0 2 f fd ["size", "row"] (spRow K 60 gput) := by
 refine F.ok sc_greatest_put_in (fun vs H Q E h => ?_) (fun cdv A outer s H vs Q E hr h => ?_)
 ·obtain ⟨m, a, ns, rfl, _⟩ := h
  rfl
 ·obtain ⟨m, a, ns, rfl, m1, m2, ha, hl, k⟩ := h
  refine ⟨_, (pss_one (ps_ret (pe_callTy call_tuple_of (by rfl) T.n_tuple boot_tuple (pa_cons (pe_lc (N' := ["k", "row", "size"]) (n := 1) (ix := [1, 0]) rfl (CompScope.of (sc := defScope s_greatest_put_in) (N := ["size", "row"]) (by decide +kernel) rfl rfl) (pi_range1 rfl T.n_range (pa_cons (pe_op op_add (pv 0) pe_int) pa_nil)) (fun _ _ _ _ _ => ⟨(pg_name (i := 0) (show (["k", "row", "size"] : List Str).Nodup by decide +kernel) rfl (Or.inl rfl)), pts_nil, (pe_op op_add (pe_op op_mul (pv 0) (pe_cal Cnumber_at (hr.mono (by decide)) rfl (pa_cons (pv 1) (pa_cons (pv 0) pa_nil)))) (pe_op op_mul (pe_op op_add (pe_op op_sub (pv 2) (pv 0)) pe_int) (pe_cal Cnumber_at (hr.mono (by decide)) rfl (pa_cons (pv 1) (pa_cons (pe_op op_sub (pv 0) pe_int) pa_nil)))))⟩)) pa_nil)))), ?_⟩
  refine ⟨_, rfl, _, _, rfl, rfl, _, rfl, by (first | lia | omega), by (first | lia | omega), ?_⟩
  rw [show ((m : Int) + 1).toNat = m + 1 by (first | lia | omega)]
  refine lc_tab (n := m + 1) (fun k => k * atZ ns k + ((m : Int) - k + 1) * atZ ns (k - 1)) (by (first | lia | omega)) (fun k k0 k1 H' s' Q' q => ?_) fun acc hacc => ?_
  ·refine ⟨_, rfl, _, rfl, _, rfl, a, ns, _, rfl, s'.seqT ha, _, _, rfl, rfl, cmul_small (by (first | lia | omega)) (by (first | lia | omega)), ?_⟩
   exact ⟨_, rfl, _, rfl, _, _, rfl, rfl, _, _, rfl, rfl, _, rfl, _, rfl, _, _, rfl, rfl, a, ns, _, rfl, s'.seqT ha, _, _, rfl, rfl, cmul_small (by (first | lia | omega)) (by (first | lia | omega)), _, _, rfl, rfl, q⟩
  ·refine ⟨acc, _, rfl, .inl ⟨SqL.of upd_same, fun p hp => ?_⟩⟩
   exact k p _ ((same_upd hacc).trans (same_upd hp)) upd_same
theorem sc_least_put_in : FnScope ["size", "row"] ["size", "row"] (defScope s_least_put_in) := ⟨rfl, rfl, rfl, by decide +kernel, rfl, by decide +kernel, by decide +kernel⟩
theorem ok_least_put_in {f : Addr} {fd : FuncData} (F : Fun K "least_put_in" "least_put_in" s_least_put_in f fd) (T : Top mg) (Cnumber_at : Cal P w K mg base 1 "number_at" ["row", "place"] (spNumAt K)) : FnOk P w K mg base CX0 2 f fd ["size", "row"] (spRow K 60 lput) := by
 refine F.ok sc_least_put_in (fun vs H Q E h => ?_) (fun cdv A outer s H vs Q E hr h => ?_)
 ·obtain ⟨m, a, ns, rfl, _⟩ := h
  rfl
 ·obtain ⟨m, a, ns, rfl, m1, m2, ha, hl, k⟩ := h
  refine ⟨_, (pss_one (ps_ret (pe_callTy call_tuple_of (by rfl) T.n_tuple boot_tuple (pa_cons (pe_lc (N' := ["k", "row", "size"]) (n := 1) (ix := [1, 0]) rfl (CompScope.of (sc := defScope s_least_put_in) (N := ["size", "row"]) (by decide +kernel) rfl rfl) (pi_range1 rfl T.n_range (pa_cons (pe_op op_add (pv 0) pe_int) pa_nil)) (fun _ _ _ _ _ => ⟨(pg_name (i := 0) (show (["k", "row", "size"] : List Str).Nodup by decide +kernel) rfl (Or.inl rfl)), pts_nil, (pe_op op_add (pe_op op_mul (pe_op op_add (pv 0) pe_int) (pe_cal Cnumber_at (hr.mono (by decide)) rfl (pa_cons (pv 1) (pa_cons (pv 0) pa_nil)))) (pe_op op_mul (pe_op op_sub (pv 2) (pv 0)) (pe_cal Cnumber_at (hr.mono (by decide)) rfl (pa_cons (pv 1) (pa_cons (pe_op op_sub (pv 0) pe_int) pa_nil)))))⟩)) pa_nil)))), ?_⟩
  refine ⟨_, rfl, _, _, rfl, rfl, _, rfl, by (first | lia | omega), by (first | lia | omega), ?_⟩
  rw [show ((m : Int) + 1).toNat = m + 1 by (first | lia | omega)]
  refine lc_tab (n := m + 1) (fun k => (k + 1) * atZ ns k + ((m : Int) - k) * atZ ns (k - 1)) (by (first | lia | omega)) (fun k k0 k1 H' s' Q' q => ?_) fun acc hacc => ?_
  ·refine ⟨_, rfl, _, _, rfl, rfl, _, rfl, _, rfl, a, ns, _, rfl, s'.seqT ha, _, _, rfl, rfl, cmul_small (by (first | lia | omega)) (by (first | lia | omega)), ?_⟩
   exact ⟨_, rfl, _, rfl, _, _, rfl, rfl, _, rfl, _, rfl, _, _, rfl, rfl, a, ns, _, rfl, s'.seqT ha, _, _, rfl, rfl, cmul_small (by (first | lia | omega)) (by (first | lia | omega)), _, _, rfl, rfl, q⟩
  ·refine ⟨acc, _, rfl, .inl ⟨SqL.of upd_same, fun p hp => ?_⟩⟩
   exact k p _ ((same_upd hacc).trans (same_upd hp)) upd_same
end
end K44
namespace L2
open PySem PySem.Spec PyProof.Rows
noncomputable def SameA (d : Addr) (H H' : Hp) : Prop := ∀ b o, H b = some o -> b ≠ d -> H' b = some o
theorem pe_callLK {X : Cx} {k : Nat} {x : Str} {p pos : Pos} {e : Expr} {es : List Expr} {t : TA} {tf : TE} {P : Program} {w : World} {K : PySem.W.Frag} {mg : Str -> Option Value} {base : Heap} (hX : X.prog = P /\ X.w = w /\ X.K = K /\ X.mg = mg /\ X.base = base)
  (hf : PE X (.Name x p) tf) (hr : Room k X.A) (ha : PA X (e :: es) t) (he : starEach (e :: es) X.env = (false, eval e X.env) :: starEach es X.env := by rfl)
  (hpl : (backTo pos (starEach es X.env)).any (·.1) = false := by rfl) : PE X (.Call (.Name x p) (e :: es) [] pos) (tCallL P w K mg base k tf t) := by
 obtain ⟨rfl, rfl, rfl, rfl, rfl⟩ := hX
 exact pe_callL hf hr ha he hpl
theorem lc2_growA {J : It} {Ok : Hp -> Prop} {xs : List V} {wi2 : TI} {tt2 : TT} {te : TE} {ix : List Nat} {σ : L2.St} {H1 : Hp} {Q : VK} (Y : Yields J Ok xs) (ys : V -> List V) (p : V -> V -> Bool) (R : V × V -> V -> Hp -> Prop)
  (small : (pairs2 xs ys p).length < sizeLine) (hR : ∀ xy v H H', SameT H H' -> R xy v H -> R xy v H') (hok : ∀ H, Same H1 H -> Ok H)
  (hin : ∀ x ∈ xs, ∀ (acc : Addr) H, (∃ us, H acc = some (.lst us)) -> Same H1 H -> ∀ Rr : It -> Hp -> Prop, (∀ J2 Ok2 H', Same H H' -> Yields J2 Ok2 (ys x) -> (∀ G, SameA acc H' G -> Same H1 G -> Ok2 G) -> Rr J2 H') -> wi2 (some x :: none :: ix.map fun i => σ.getD i none) H Rr)
  (ht : ∀ x ∈ xs, ∀ y ∈ ys x, ∀ H, Same H1 H -> ∀ Q' : Bool -> Hp -> Prop, Q' (p x y) H -> tt2 (some x :: some y :: ix.map fun i => σ.getD i none) H Q')
  (he : ∀ x ∈ xs, ∀ y ∈ ys x, p x y = true -> ∀ H, Same H1 H -> ∀ Q' : VK, (∀ v H', Same H H' -> R (x, y) v H' -> Q' v H') -> te (some x :: some y :: ix.map fun i => σ.getD i none) H Q')
  (fin : ∀ acc vs H', H1 acc = none -> Same H1 H' -> H' acc = some (.lst vs) -> Paired (fun xy v => R xy v H') (pairs2 xs ys p) vs -> Q (.ref acc) H') :
  LcW2 J H1 (gName 0) tNoTest wi2 (gName 1) tt2 te 2 ix σ Q := by
 intro acc ha
 refine ⟨fun i m H => m = xs.length - i /\ i <= xs.length /\ Same H1 H /\ ∃ vs, H acc = some (.lst vs) /\ Paired (fun xy v => R xy v H) (pairs2 (xs.take i) ys p) vs, ⟨xs.length, by simp, Nat.zero_le _, same_upd ha, [], upd_same, .nil⟩, ?_⟩
 rintro i m H ⟨rfl, hi, sm, vs, hacc, pr⟩
 have o := hok _ sm
 by_cases hlt : i < xs.length
 ·refine .inr ⟨Y.go i _ o hlt, fun x H' y => ?_⟩
  obtain ⟨rfl, hx⟩ := Y.yld i _ x H' o hlt y
  have hmem : x ∈ xs := List.mem_of_getElem? hx
  have htk : pairs2 (xs.take (i + 1)) ys p = pairs2 (xs.take i) ys p ++ ((ys x).filter (p x)).map fun y => (x, y) := by
   unfold pairs2
   rw [List.take_succ, hx]
   simp
  have hle : (pairs2 (xs.take (i + 1)) ys p).length <= (pairs2 xs ys p).length := by
   have e : pairs2 xs ys p = pairs2 (xs.take (i + 1)) ys p ++ pairs2 (xs.drop (i + 1)) ys p := by
    unfold pairs2
    conv => lhs; rw [<- List.take_append_drop (i + 1) xs]
    rw [List.flatMap_append]
   rw [e, List.length_append]
   (first | lia | omega)
  refine ⟨⟨rfl, fun j v e => ?_⟩, ?_⟩
  ·cases j with
   | zero => cases e
   | succ j => exact e
  ·unfold tNoTest
   dsimp only
   rw [if_pos rfl]
   refine hin x hmem acc _ ⟨vs, hacc⟩ sm _ fun J2 Ok2 H4 s4 Y2 hok2 => ?_
   refine ⟨fun j m2 G => m2 = (ys x).length - j /\ j <= (ys x).length /\ SameA acc H4 G /\ Same H1 G /\ ∃ us, G acc = some (.lst us) /\ Paired (fun xy v => R xy v G) (pairs2 (xs.take i) ys p ++ (((ys x).take j).filter (p x)).map fun y => (x, y)) us,
    ⟨(ys x).length, by simp, Nat.zero_le _, fun _ _ e _ => e, sm.trans s4, vs, s4 _ _ hacc, by simpa using Paired.mapP pr fun xy v r => hR xy v _ _ s4.t r⟩, ?_⟩
   rintro j m2 G ⟨rfl, hj, st, sm5, us, hus, pr5⟩
   have o2 := hok2 G st sm5
   by_cases hjl : j < (ys x).length
   ·refine .inr ⟨Y2.go j _ o2 hjl, fun y G' yy => ?_⟩
    obtain ⟨rfl, hy⟩ := Y2.yld j _ y G' o2 hjl yy
    have hymem : y ∈ ys x := List.mem_of_getElem? hy
    have htk2 : (ys x).take (j + 1) = (ys x).take j ++ [y] := by rw [List.take_succ, hy]; rfl
    refine ⟨⟨rfl, fun k v e => ?_⟩, ?_⟩
    ·cases k with
     | zero => exact e
     | succ k =>
      cases k with
      | zero => cases e
      | succ k => exact e
    ·refine ht x hmem y hymem _ sm5 _ ?_
     cases hp : p x y with
     | false =>
      rw [if_neg Bool.false_ne_true]
      refine ⟨(ys x).length - (j + 1), by (first | lia | omega), rfl, hjl, st, sm5, us, hus, ?_⟩
      rw [htk2, List.filter_append]
      simpa [hp] using pr5
     | true =>
      rw [if_pos rfl]
      refine he x hmem y hymem hp _ sm5 _ fun v G4 t4 r4 => ?_
      have hus4 : G4 acc = some (.lst us) := t4 _ _ hus
      have st6 : SameT G4 (upd G4 acc (.lst (us ++ [v]))) := sameT_lst hus4
      have hlen : us.length < sizeLine := by
       have e1 := Paired.length pr5
       rw [List.length_append, List.length_map] at e1
       have e2 : (((ys x).take j).filter (p x)).length <= ((ys x).filter (p x)).length := by
        conv => rhs; rw [<- List.take_append_drop j (ys x), List.filter_append, List.length_append]
        (first | lia | omega)
       rw [htk, List.length_append, List.length_map] at hle
       (first | lia | omega)
      refine ⟨us, hus4, hlen, (ys x).length - (j + 1), by (first | lia | omega), rfl, hjl, (fun b o e n => by rw [upd_ne n]; exact t4 _ _ (st b o e n)), same_updR (sm5.trans t4) ha, us ++ [v], upd_same, ?_⟩
      rw [htk2, List.filter_append, List.map_append, <- List.append_assoc]
      simp only [List.filter_cons, hp, if_true, List.filter_nil, List.map_cons, List.map_nil]
      exact Paired.snoc (Paired.mapP pr5 fun xy v r => hR xy v _ _ (t4.t.trans st6) r) (hR _ _ _ _ st6 r4)
   ·have e : j = (ys x).length := by (first | lia | omega)
    subst e
    refine .inl ⟨Y2.stop _ o2, xs.length - (i + 1), by (first | lia | omega), rfl, hlt, sm5, us, hus, ?_⟩
    rw [List.take_length] at pr5
    rw [htk]
    exact pr5
 ·have e : i = xs.length := by (first | lia | omega)
  subst e
  refine .inl ⟨Y.stop _ o, ?_⟩
  rw [List.take_length] at pr
  exact fin acc vs H ha sm hacc pr
end L2
namespace L2
open PySem PySem.Spec PyProof.Rows
theorem pi_listB {X : Cx} {tg l : Expr} {tl : TE} (K : PySem.W.Frag) (hK : X.K = K) (hl : PE X l tl) : PI X tg l (iList K tl) := hK ▸ pi_list hl
theorem cutN (ns : List Int) (k : Nat) (h : k <= ns.length) : cutV (ns.map V.int) none (some (k : Int)) = (ns.take k).map V.int := by
 unfold cutV
 rw [HT.sIx_nat, HT.sIx_none, List.drop_zero, Nat.sub_zero, mapI_len, Nat.min_eq_left h, List.map_take]
noncomputable def ysPl (o : List Int) : V -> List V
 | .int p => (freeO (o.getD p.toNat 0).toNat (o.take p.toNat)).map V.int
 | _ => []
theorem plS_sum (W : List Int -> Int) (o : List Int) (R : V × V -> V -> Prop) (hR : ∀ (p x : Int) (v : V), R (.int p, .int x) v -> v = .int (W (o.take p.toNat ++ [x]))) : ∀ (n : Nat) (vs : List V), Paired R (pairs2 (rangeV 0 n) (ysPl o) fun _ _ => true) vs -> ∃ ns : List Int, vs = ns.map V.int /\ ns.sum = ((List.range n).map fun i => plS W o i).sum := by
 have row : ∀ (p : Int) (xs : List Int) (vs : List V), Paired R ((xs.map V.int).map fun y => (V.int p, y)) vs -> ∃ ns : List Int, vs = ns.map V.int /\ ns.sum = (xs.map fun x => W (o.take p.toNat ++ [x])).sum := by
  intro p xs
  induction xs with
  | nil => intro vs h; cases h; exact ⟨[], rfl, rfl⟩
  | cons x xs ih =>
   intro vs h
   cases h with
   | cons h1 h2 =>
    obtain ⟨ns, rfl, hs⟩ := ih _ h2
    have := hR p x _ h1
    subst this
    exact ⟨W (o.take p.toNat ++ [x]) :: ns, rfl, by rw [List.sum_cons, List.map_cons, List.sum_cons, hs]⟩
 intro n
 induction n with
 | zero =>
  intro vs h
  cases h
  exact ⟨[], rfl, rfl⟩
 | succ n ih =>
  intro vs h
  have e : pairs2 (rangeV 0 (n + 1)) (ysPl o) (fun _ _ => true) = pairs2 (rangeV 0 n) (ysPl o) (fun _ _ => true) ++ ((freeO (o.getD n 0).toNat (o.take n)).map V.int).map fun y => (V.int (n : Int), y) := by
   have er : rangeV 0 (n + 1) = rangeV 0 n ++ [.int (n : Int)] := by
    rw [rangeV_num0, rangeV_num0]
    unfold num0
    rw [List.range_succ, List.map_append, List.map_append]
    rfl
   unfold pairs2
   rw [er, List.flatMap_append]
   congr 1
   show ((ysPl o (.int (n : Int))).filter (fun _ => true)).map _ ++ [] = _
   rw [List.append_nil, List.filter_eq_self.mpr fun _ _ => rfl]
   rfl
  rw [e] at h
  have split : ∀ {α β : Type} {R : α -> β -> Prop} (a b : List α) (vs : List β), Paired R (a ++ b) vs -> ∃ v1 v2, vs = v1 ++ v2 /\ Paired R a v1 /\ Paired R b v2 := fun {α β R} a => by
   induction a with
   | nil => intro b vs h; exact ⟨[], vs, rfl, .nil, h⟩
   | cons x a iha =>
    intro b vs h
    cases h with
    | cons h1 h2 =>
     obtain ⟨v1, v2, rfl, g1, g2⟩ := iha b _ h2
     exact ⟨_ :: v1, v2, rfl, .cons h1 g1, g2⟩
  obtain ⟨v1, v2, rfl, g1, g2⟩ := split _ _ _ h
  obtain ⟨n1, rfl, h1⟩ := ih v1 g1
  obtain ⟨n2, rfl, h2⟩ := row _ _ v2 g2
  refine ⟨n1 ++ n2, by rw [List.map_append], ?_⟩
  rw [List.sum_append, h1, h2, List.range_succ, List.map_append, List.sum_append]
  show _ = _ + (plS W o n + 0)
  rw [Int.add_zero]
  rfl
theorem pairs2_len {B : Nat} (ys : V -> List V) (p : V -> V -> Bool) : ∀ xs : List V, (∀ x ∈ xs, (ys x).length <= B) -> (pairs2 xs ys p).length <= xs.length * B
 | [], _ => Nat.zero_le _
 | x :: xs, h => by
  have ih := pairs2_len ys p xs fun y hy => h y (List.mem_cons_of_mem _ hy)
  have h1 := h x List.mem_cons_self
  have h2 := List.length_filter_le (p x) (ys x)
  show (((ys x).filter (p x)).map _ ++ pairs2 xs ys p).length <= (xs.length + 1) * B
  rw [List.length_append, List.length_map, Nat.add_mul, Nat.one_mul]
  (first | lia | omega)
theorem free_len (m : Nat) (b : List Int) : (freeO m b).length <= m := by
 unfold freeO
 refine Nat.le_trans (List.length_filter_le _ _) ?_
 unfold num0
 rw [List.length_map, List.length_range]
 exact Nat.le_refl _
end L2
namespace K44
open PySem PySem.Spec PyProof.Rows L2
noncomputable abbrev s_place_by : Stmt := top 2
section
variable {P : Program} {w : World} {K : PySem.W.Frag} {mg : Str -> Option Value} {base : Heap}
theorem sc_place_by : FnScope ["ways", "order"] ["ways", "order"] (defScope s_place_by) := ⟨rfl, rfl, rfl, by decide +kernel, rfl, by decide +kernel, by decide +kernel⟩
set_option maxHeartbeats 4000000 in
theorem ok_place_by {f : Addr} {fd : FuncData} (F : Fun K "place_by" "place_by" s_place_by f fd) (T : Top mg) (Cnumbers_left : Cal P w K mg base 1 "numbers_left" ["many", "begun"] spLeft) : FnOk P w K mg base CX0 9 f fd ["ways", "order"] (spPlaceBy P w K mg base) := by
 refine F.ok sc_place_by (fun vs H Q E h => ?_) (fun cdv A outer s H vs Q E hr h => ?_)
 ·obtain ⟨f, c, a, q, m, o, W, G, rfl, _⟩ := h
  rfl
 ·obtain ⟨f, c, a, q, m, o, W, Gd, rfl, C, hGd, hm, ha, ho, hc, k⟩ := h
  refine ⟨_, (pss_one (ps_ret (pe_callB (call_sumL rfl) (by rfl) T.n_sum boot_sum (pa_cons (pe_lc2 (N' := ["place", "number", "ways", "order"]) (n := 2) (ix := [0, 1]) rfl (CompScope.of (sc := defScope s_place_by) (N := ["ways", "order"]) (by decide +kernel) rfl rfl) (pi_range1 rfl T.n_range (pa_cons (pe_callB call_len_seq (by rfl) T.n_len PySem.boot_len (pa_cons (pv 1) pa_nil)) pa_nil))
   (fun _ _ _ _ _ => ⟨(pg_name (i := 0) (show (["place", "number", "ways", "order"] : List Str).Nodup by decide +kernel) rfl (Or.inl rfl)), pts_nil,
    (pi_listB K rfl (pe_cal Cnumbers_left (hr.mono (by decide)) rfl (pa_cons (pe_ix (ix_tupK K rfl) (pv 3) (pv 0) (fun _ _ => rfl)) (pa_cons (pe_slice sl_tupA (pv 3) po_none (po_some (pv 0))) pa_nil)))),
    (pg_name (i := 1) (show (["place", "number", "ways", "order"] : List Str).Nodup by decide +kernel) rfl (Or.inl rfl)), pts_nil,
    (pe_callLK (P := P) (w := w) (K := K) (mg := mg) (base := base) (k := 8) ⟨rfl, rfl, rfl, rfl, rfl⟩ (pv 2) hr (pa_cons (pe_op op_cat2 (pe_slice sl_tupA (pv 3) po_none (po_some (pv 0))) (pe_tup (pa_cons (pv 1) pa_nil))) pa_nil))⟩)) pa_nil)))), ?_⟩
  have hl := iter_lenX ho
  refine ⟨_, rfl, a, _, rfl, .inr (SqT.of ha), ?_⟩
  rw [mapI_len, hl]
  refine ⟨_, rfl, by (first | lia | omega), by (first | lia | omega), ?_⟩
  rw [Int.toNat_natCast]
  have at_ : ∀ n : Nat, n < m -> o.getD n 0 ∈ freeO m (o.take n) /\ 0 <= o.getD n 0 /\ o.getD n 0 < (m : Int) := fun n hn => by
   have h := ((iter_take ho n (by (first | lia | omega))).2 hn).2
   refine ⟨h, ?_⟩
   obtain ⟨j, hj, e⟩ := List.mem_map.mp (List.mem_filter.mp h).1
   have := List.mem_range.mp hj
   (first | lia | omega)
  refine lc2_growA (yields_range (lo := 0) (n := m)) (ysPl o) (fun _ _ => true) (fun xy v _ => ∀ p x : Int, xy = (V.int p, V.int x) -> v = V.int (W (o.take p.toNat ++ [x]))) ?_ (fun _ _ _ _ _ h => h) (fun _ _ => trivial) (fun x hx acc H' hacc s' Rr q => ?_) (fun x hx y hy G' s' Q' q' => q') (fun x hx y hy _ G' s' Q' q' => ?_) fun acc vs H' hacc sm hys pr => ?_
  ·refine Nat.lt_of_le_of_lt (pairs2_len (B := 24) (ysPl o) (fun _ _ => true) (rangeV 0 m) fun x hx => ?_) ?_
   ·obtain ⟨n, rfl, n0, n1⟩ := mem_rangeV hx
    show ((freeO (o.getD n.toNat 0).toNat (o.take n.toNat)).map V.int).length <= 24
    have := at_ n.toNat (by (first | lia | omega))
    have h2 := free_len (o.getD n.toNat 0).toNat (o.take n.toNat)
    rw [List.length_map]
    (first | lia | omega)
   ·rw [rangeV_len]
    exact Nat.lt_of_le_of_lt (Nat.mul_le_mul_right 24 hm) (by decide)
  ·obtain ⟨n, rfl, n0, n1⟩ := mem_rangeV hx
   obtain ⟨j, rfl⟩ : ∃ j : Nat, n = (j : Int) := ⟨n.toNat, by (first | lia | omega)⟩
   have hj : j < m := by (first | lia | omega)
   obtain ⟨h1, h2, h3⟩ := at_ j hj
   have ha' := s' _ _ ha
   obtain ⟨us, hus⟩ := hacc
   have ea : atI (o.map V.int) (j : Int) = some (.int (o.getD j 0)) := atI_nat (by rw [List.getElem?_map, List.getD_eq_getElem?_getD, List.getElem?_eq_getElem (by (first | lia | omega))]; rfl)
   refine ⟨_, rfl, _, rfl, a, _, _, _, rfl, rfl, SqT.of ha', ea, _, rfl, _, rfl, _, rfl, a, _, rfl, ha', fun q1 G1 g1 hq1 => ?_⟩
   rw [cutN _ _ (by (first | lia | omega))] at hq1
   refine ⟨(o.getD j 0).toNat, q1, o.take j, ?_, hq1, by (first | lia | omega), fun l G2 g2 hl0 hl' => ⟨l, rfl, ⟨_, SqL.of hl'⟩, ?_⟩⟩
   ·rw [Int.toNat_of_nonneg h2]
   ·have hne : l ≠ acc := fun z => by
     rw [z, g1 _ _ hus] at hl0
     cases hl0
    have hl2 : G2 l = some (.lst (ysPl o (.int (j : Int)))) := hl'
    exact q _ _ G2 (g1.trans g2) (yields_list (K := K) (xs := ysPl o (.int (j : Int)))) fun G sA _ => SqL.of (sA _ _ hl2 hne)
  ·obtain ⟨n, rfl, n0, n1⟩ := mem_rangeV hx
   obtain ⟨j, rfl⟩ : ∃ j : Nat, n = (j : Int) := ⟨n.toNat, by (first | lia | omega)⟩
   have hj : j < m := by (first | lia | omega)
   obtain ⟨h1, h2, h3⟩ := at_ j hj
   obtain ⟨z, hz, rfl⟩ := List.mem_map.mp (show y ∈ (freeO (o.getD j 0).toNat (o.take j)).map V.int from hy)
   obtain ⟨zs, ez, _⟩ := free_part h1
   have hzm : z ∈ freeO m (o.take j) := by rw [ez]; exact List.mem_append_left _ hz
   have ha' := s' _ _ ha
   refine ⟨_, rfl, f, _, _, rfl, C, _, rfl, _, rfl, _, rfl, a, _, rfl, ha', fun q1 G1 g1 hq1 => ?_⟩
   rw [cutN _ _ (by (first | lia | omega))] at hq1
   refine ⟨_, rfl, by show 1 <= sizeLine; decide, fun t1 ht1 => ?_⟩
   have u1 := same_upd (o := .tup [.int z]) ht1
   refine ⟨q1, t1, _, _, rfl, rfl, u1 _ _ hq1, upd_same, ?_, fun t2 G2 g2 ht2 => ?_⟩
   ·rw [mapI_len, List.length_take]
    exact Nat.le_trans (by show min j o.length + 1 <= 100; (first | lia | omega)) (by decide)
   have e2 : (o.take j).map V.int ++ [V.int z] = (o.take j ++ [z]).map V.int := by rw [List.map_append]; rfl
   rw [e2] at ht2
   refine ⟨j + 1, t2, o.take j ++ [z], rfl, ht2, by (first | lia | omega), iter_more (iter_take ho j (by (first | lia | omega))).1 hzm, g2 _ _ (u1 _ _ (g1 _ _ (s' _ _ hc))), hGd _ (((s'.trans g1).trans u1).trans g2), fun G3 g3 => q' _ G3 (((g1.trans u1).trans g2).trans g3) fun p x e => ?_⟩
   cases e
   rfl
  ·obtain ⟨ns, rfl, hs⟩ := plS_sum W o (fun xy v => ∀ p x : Int, xy = (V.int p, V.int x) -> v = V.int (W (o.take p.toNat ++ [x]))) (fun p x v h => h p x rfl) m vs pr
   refine ⟨acc, ns, rfl, hys, ?_⟩
   rw [hs]
   exact k _ sm
end
end K44
namespace K44
open PySem PySem.Spec PyProof.Rows L2
noncomputable abbrev s_rounds_of : Stmt := top 4
noncomputable abbrev s_rounds_met : Stmt := top 5
noncomputable abbrev s_round_from : Stmt := top 6
section
variable {P : Program} {w : World} {K : PySem.W.Frag} {mg : Str -> Option Value} {base : Heap}
theorem sc_round_from : FnScope ["order", "first", "numbers", "number"] ["order", "first"] (defScope s_round_from) := ⟨rfl, rfl, rfl, by decide +kernel, rfl, by decide +kernel, by decide +kernel⟩
theorem ok_round_from {f : Addr} {fd : FuncData} (F : Fun K "round_from" "round_from" s_round_from f fd) (T : Top mg) : FnOk P w K mg base CX0 1 f fd ["order", "first"] spRoundFrom := by
 refine F.ok sc_round_from (fun vs H Q E h => ?_) (fun cdv A outer s H vs Q E hr h => ?_)
 ·obtain ⟨a, ns, m, x, rfl, _⟩ := h
  rfl
 ·obtain ⟨a, ns, m, x, rfl, ha, ho, hm, h0, h1, k⟩ := h
  have ln := ho.len
  refine ⟨_, (pss_cons (ps_set (i := 2) sc_round_from.nd rfl (Or.inl rfl) (pe_lst (pa_cons (pv 1) pa_nil)))
   (pss_cons (ps_set (i := 3) sc_round_from.nd rfl (Or.inl rfl) (pe_ix ix_tup (pv 0) (pv 1) (fun _ _ => rfl)))
   (pss_cons (ps_while PassesOwn.never (pt_cmpR op_ne (pv 3) (pv 1) (nomark _))
    (pss_cons (ps_expr (pe_bm PySem.F.plainAttrs_list PySem.F.slot_list_append PySem.F.type_list_append mt_append (pv 2) (pa_cons (pv 3) pa_nil)))
    (pss_one (ps_set (i := 3) sc_round_from.nd rfl (Or.inl rfl) (pe_ix ix_tup (pv 0) (pv 3) (fun _ _ => rfl))))))
   (pss_one (ps_ret (pe_callTy call_tuple_of (by rfl) T.n_tuple boot_tuple (pa_cons (pv 2) pa_nil))))))), ?_⟩
  refine ⟨_, rfl, by show 1 <= sizeLine; decide, fun p hp => ?_⟩
  have s1 := same_upd (o := .lst [.int x]) hp
  refine ⟨_, rfl, _, rfl, a, _, x, _, rfl, rfl, SqT.of (s1 _ _ ha), at_getD h0 (by (first | lia | omega)), ?_⟩
  refine ⟨fun n σ H1 => ∃ j, n = m - j /\ σ = [some (.ref a), some (.int x), some (.ref p), some (.int (itO ns x (j + 1)))] /\ Same H H1 /\ H1 p = some (.lst ((orbO ns x (j + 1)).map V.int)) /\ (orbO ns x (j + 1)).Nodup, ⟨m, 0, rfl, rfl, s1, upd_same, by simp [orbO]⟩, ?_⟩
  rintro n σ H1 ⟨j, rfl, rfl, sm, hp1, nd⟩
  have bd := orb_bound ho ⟨h0, h1⟩ nd
  refine ⟨_, rfl, _, rfl, rfl, _, rfl, ite2 (fun hc => ?_) (fun hc => ?_)⟩
  ·have hne : itO ns x (j + 1) ≠ x := by simpa using hc
   have nd2 := orb_more ho ⟨h0, h1⟩ nd hne
   have bd2 := orb_bound ho ⟨h0, h1⟩ nd2
   have hrg := it_rng ho ⟨h0, h1⟩ (j + 1)
   refine ⟨_, fun σ' H' h => h, ?_⟩
   refine ⟨_, rfl, .inl ⟨rfl, _, SqL.of hp1⟩, _, rfl, p, _, _, rfl, rfl, hp1, small1 (by rw [mapI_len, orb_len]; (first | lia | omega)), ?_⟩
   have sm2 : Same H (upd H1 p (.lst ((orbO ns x (j + 1)).map V.int ++ [.int (itO ns x (j + 1))]))) := same_updR sm hp
   refine ⟨_, rfl, _, rfl, a, _, _, _, rfl, rfl, SqT.of (sm2 _ _ ha), at_getD hrg.1 (by (first | lia | omega)), ?_⟩
   refine ⟨m - (j + 1), by (first | lia | omega), j + 1, rfl, rfl, sm2, ?_, nd2⟩
   rw [upd_same, orb_succ ns x (j + 1), List.map_append]
   rfl
  ·have he : itO ns x (j + 1) = x := by simpa using hc
   refine ⟨_, rfl, p, _, rfl, .inl ⟨SqL.of hp1, fun l hl => ?_⟩⟩
   have e := row_eq ho ⟨h0, h1⟩ ⟨⟨j, rfl, he⟩, nd⟩
   refine k l _ (sm.trans (same_upd hl)) ?_
   rw [upd_same, e]
theorem sc_rounds_met : FnScope ["order", "firsts", "rounds", "met", "first", "found", "number"] ["order", "firsts"] (defScope s_rounds_met) := ⟨rfl, rfl, rfl, by decide +kernel, rfl, by decide +kernel, by decide +kernel⟩
theorem ok_rounds_met {f : Addr} {fd : FuncData} (F : Fun K "rounds_met" "rounds_met" s_rounds_met f fd) (T : Top mg) (Cround_from : Cal P w K mg base 1 "round_from" ["order", "first"] spRoundFrom) : FnOk P w K mg base CX0 2 f fd ["order", "firsts"] spRoundsMet := by
 refine F.ok sc_rounds_met (fun vs H Q E h => ?_) (fun cdv A outer s H vs Q E hr h => ?_)
 ·obtain ⟨a, l, ns, fs, m, rfl, _⟩ := h
  rfl
 ·obtain ⟨a, l, ns, fs, m, rfl, ha, hl, ho, hm, hf, k⟩ := h
  have ln := ho.len
  refine ⟨_, (pss_cons (ps_set (i := 2) sc_rounds_met.nd rfl (Or.inl rfl) (pe_lst pa_nil))
   (pss_cons (ps_set (i := 3) sc_rounds_met.nd rfl (Or.inl rfl) (pe_op op_rep (pe_lst (pa_cons pe_bl pa_nil)) (pe_callB call_len_seq (by rfl) T.n_len PySem.boot_len (pa_cons (pv 0) pa_nil))))
   (pss_cons (ps_for PassesOwn.never rfl (pi_list (pv 1)) (pg_name (i := 4) sc_rounds_met.nd rfl (Or.inl rfl))
    (pss_one (ps_if (pt_not (pt_val (pe_ix ix_list (pv 3) (pv 4) (fun _ _ => rfl))))
     (pss_cons (ps_set (i := 5) sc_rounds_met.nd rfl (Or.inl rfl) (pe_cal Cround_from (hr.mono (by decide)) rfl (pa_cons (pv 0) (pa_cons (pv 4) pa_nil))))
     (pss_cons (ps_for PassesOwn.never rfl (pi_tup (pv 5)) (pg_name (i := 6) sc_rounds_met.nd rfl (Or.inl rfl))
      (pss_one (ps_asg pe_bl (pg_sub (pv 3) (pv 6) set_list))))
     (pss_one (ps_expr (pe_bm PySem.F.plainAttrs_list PySem.F.slot_list_append PySem.F.type_list_append mt_append (pv 2) (pa_cons (pv 5) pa_nil))))))
     pss_nil)))
   (pss_one (ps_ret (pv 2)))))), ?_⟩
  refine ⟨Nat.zero_le _, fun p hp => ?_⟩
  have s1 := same_upd (o := .lst []) hp
  refine ⟨by show 1 <= sizeLine; decide, fun o1 ho1 => ?_⟩
  have s2 := same_upd (o := .lst [.bl false]) ho1
  refine ⟨_, rfl, a, _, rfl, .inr (SqT.of (s2 _ _ (s1 _ _ ha))), o1, _, _, rfl, rfl, upd_same, by (first | lia | omega), by rw [mapI_len]; (first | lia | omega), ?_, fun q hq => ?_⟩
  ·simp only [mapI_len, Int.toNat_natCast, List.length_cons, List.length_nil]
   exact Nat.le_trans (by (first | lia | omega) : (0 + 1) * ns.length <= 1000) (by decide)
  have s3 := same_upd (o := .lst (List.replicate ((ns.map V.int).length : Int).toNat [V.bl false]).flatten) hq
  have hq0 : H q = none := s1.free (s2.free hq)
  have hpq : p ≠ q := fun z => by
   subst z
   have := s2 _ _ (upd_same (H := H) (a := p) (o := .lst []))
   rw [hq] at this
   cases this
  have hrep : (List.replicate ((ns.map V.int).length : Int).toNat [V.bl false]).flatten = (List.replicate m false).map V.bl := by
   rw [mapI_len, Int.toNat_natCast, rep_one, ln, List.map_replicate]
  refine ⟨_, rfl, l, rfl, ⟨_, SqL.of (s3 _ _ (s2 _ _ (s1 _ _ hl)))⟩, for_list (K := K) (xs := fs.map V.int) (fun i σ H2 => ∃ (zs : List Addr) (bs : List Bool) (c4 c5 c6 : Option V), σ = [some (.ref a), some (.ref l), some (.ref p), some (.ref q), c4, c5, c6] /\ Same H H2 /\
   H2 p = some (.lst (zs.map V.ref)) /\ H2 q = some (.lst (bs.map V.bl)) /\ RowsAt H2 zs (walkO ns (fs.take i)) /\ MetO ns m (walkO ns (fs.take i)) /\ Bits bs m (walkO ns (fs.take i)).flatten) ?_ ?_ ?_ ?_⟩
  ·refine ⟨[], List.replicate m false, none, none, none, rfl, (s1.trans s2).trans s3, ?_, by rw [upd_same, hrep], .nil, met_nil, bits0 m⟩
   rw [upd_ne hpq]
   exact s2 _ _ upd_same
  ·rintro i σ H2 _ ⟨zs, bs, c4, c5, c6, rfl, sm, _⟩
   exact SqL.of (sm _ _ hl)
  ·rintro i x σ H2 hx ⟨zs, bs, c4, c5, c6, rfl, sm, hp2, hq2, R, M, B⟩
   rw [List.getElem?_map] at hx
   obtain ⟨n, hn, rfl⟩ : ∃ n, fs[i]? = some n /\ V.int n = x := by
    cases e : fs[i]? with
    | none => rw [e] at hx; cases hx
    | some n => rw [e] at hx; exact ⟨n, rfl, Option.some.inj hx⟩
   have hnr := hf n (List.mem_of_getElem? hn)
   have htk : walkO ns (fs.take (i + 1)) = stepO ns (walkO ns (fs.take i)) n := by
    rw [List.take_succ, hn]
    exact walk_snoc ns (fs.take i) n
   have M' := M.step ho hnr
   have lens := M.lens ho
   have hbit := B.bit n.toNat (by (first | lia | omega))
   rw [show ((n.toNat : Nat) : Int) = n by (first | lia | omega)] at hbit
   have hat : atI (bs.map V.bl) n = some (.bl (decide (n ∈ (walkO ns (fs.take i)).flatten))) := by
    have := atI_nat (xs := bs.map V.bl) (j := n.toNat) (v := .bl (decide (n ∈ (walkO ns (fs.take i)).flatten))) (by rw [List.getElem?_map, hbit]; rfl)
    rwa [show ((n.toNat : Nat) : Int) = n by (first | lia | omega)] at this
   refine ⟨_, rfl, _, rfl, q, _, n, _, rfl, rfl, SqL.of hq2, hat, _, rfl, ite2 (fun hc => ?_) (fun hc => ?_)⟩
   ·have hnm : n ∉ (walkO ns (fs.take i)).flatten := by simpa using hc
    have hst : stepO ns (walkO ns (fs.take i)) n = walkO ns (fs.take i) ++ [rowO ns n] := by unfold stepO; rw [if_neg hnm]
    refine ⟨_, rfl, _, rfl, a, ns, m, n, rfl, sm _ _ ha, ho, hm, hnr.1, hnr.2, fun r H3 s3' hr3 => ?_⟩
    have rl := row_len ho hnr
    refine ⟨_, rfl, r, rfl, ⟨_, SqT.of hr3⟩, for_tup (K := K) (xs := (rowO ns n).map V.int) (fun j σ H4 => ∃ (bs : List Bool) (c6 : Option V), σ = [some (.ref a), some (.ref l), some (.ref p), some (.ref q), some (.int n), some (.ref r), c6] /\ Same H H4 /\
     H4 p = some (.lst (zs.map V.ref)) /\ H4 q = some (.lst (bs.map V.bl)) /\ RowsAt H4 zs (walkO ns (fs.take i)) /\ H4 r = some (.tup ((rowO ns n).map V.int)) /\ Bits bs m ((walkO ns (fs.take i)).flatten ++ (rowO ns n).take j)) ?_ ?_ ?_ ?_⟩
    ·exact ⟨bs, c6, rfl, sm.trans s3', s3' _ _ hp2, s3' _ _ hq2, R.same s3', hr3, by rw [List.take_zero, List.append_nil]; exact B⟩
    ·rintro j σ H4 _ ⟨bs, c6, rfl, _, _, _, _, hr4, _⟩
     exact SqT.of hr4
    ·rintro j y σ H4 hy ⟨bs, c6, rfl, sm4, hp4, hq4, R4, hr4, B4⟩
     rw [List.getElem?_map] at hy
     obtain ⟨z, hz, rfl⟩ : ∃ z, (rowO ns n)[j]? = some z /\ V.int z = y := by
      cases e : (rowO ns n)[j]? with
      | none => rw [e] at hy; cases hy
      | some n => rw [e] at hy; exact ⟨n, rfl, Option.some.inj hy⟩
     have hzr := row_mem ho hnr z (List.mem_of_getElem? hz)
     have hix : ixN (bs.map V.bl).length z = some z.toNat := by
      unfold ixN
      rw [List.length_map, B4.len, if_pos hzr.1, if_pos (by (first | lia | omega))]
     refine ⟨_, rfl, _, rfl, q, _, z, _, rfl, rfl, hq4, hix, ?_⟩
     have st : SameT H4 (upd H4 q (.lst ((bs.map V.bl).set z.toNat (.bl true)))) := sameT_lst hq4
     refine ⟨bs.set z.toNat true, _, rfl, same_updR sm4 hq0, ?_, ?_, R4.sameT st, st _ _ hr4, ?_⟩
     ·rw [upd_ne hpq]; exact hp4
     ·rw [upd_same, List.map_set]
     ·rw [List.take_succ, hz]
      have := B4.set hzr.1 hzr.2
      rwa [List.append_assoc] at this
    ·rintro σ H4 ⟨bs, c6, rfl, sm4, hp4, hq4, R4, hr4, B4⟩
     refine ⟨_, rfl, .inl ⟨rfl, _, SqL.of hp4⟩, _, rfl, p, _, _, rfl, rfl, hp4, small1 (by rw [mapR_len, Paired.length R4]; (first | lia | omega)), ?_⟩
     have st : SameT H4 (upd H4 p (.lst (zs.map V.ref ++ [.ref r]))) := sameT_lst hp4
     refine ⟨zs ++ [r], bs, _, _, _, rfl, same_updR sm4 hp, by rw [upd_same, List.map_append]; rfl, by rw [upd_ne (Ne.symm hpq)]; exact hq4, ?_, ?_, ?_⟩
     ·rw [htk, hst]
      exact Paired.snoc (R4.sameT st) (st _ _ hr4)
     ·rw [htk]; exact M'
     ·rw [htk, hst]
      rw [mapI_len, List.take_length] at B4
      simpa using B4
   ·have hnm : n ∈ (walkO ns (fs.take i)).flatten := by simpa using hc
    have hst : stepO ns (walkO ns (fs.take i)) n = walkO ns (fs.take i) := by unfold stepO; rw [if_pos hnm]
    exact ⟨zs, bs, _, _, _, rfl, sm, hp2, hq2, by rw [htk, hst]; exact R, by rw [htk, hst]; exact M, by rw [htk, hst]; exact B⟩
  ·rintro σ H2 ⟨zs, bs, c4, c5, c6, rfl, sm, hp2, hq2, R, M, B⟩
   rw [mapI_len, List.take_length] at R
   exact ⟨_, rfl, k p zs H2 sm hp2 R⟩
theorem sc_rounds_of : FnScope ["order"] ["order"] (defScope s_rounds_of) := ⟨rfl, rfl, rfl, by decide +kernel, rfl, by decide +kernel, by decide +kernel⟩
theorem ok_rounds_of {f : Addr} {fd : FuncData} (F : Fun K "rounds_of" "rounds_of" s_rounds_of f fd) (T : Top mg) (Crounds_met : Cal P w K mg base 2 "rounds_met" ["order", "firsts"] spRoundsMet) : FnOk P w K mg base CX0 3 f fd ["order"] spRounds := by
 refine F.ok sc_rounds_of (fun vs H Q E h => ?_) (fun cdv A outer s H vs Q E hr h => ?_)
 ·obtain ⟨a, ns, m, rfl, _⟩ := h
  rfl
 ·obtain ⟨a, ns, m, rfl, ha, ho, hm, k⟩ := h
  have ln := ho.len
  refine ⟨_, (pss_one (ps_ret (pe_callTy call_tuple_of (by rfl) T.n_tuple boot_tuple (pa_cons (pe_cal Crounds_met (hr.mono (by decide)) rfl (pa_cons (pv 0) (pa_cons (pe_callTy (call_list_rng rfl) (by rfl) T.n_list boot_list (pa_cons (pe_callTy call_range1 (by rfl) T.n_range boot_range (pa_cons (pe_callB call_len_seq (by rfl) T.n_len PySem.boot_len (pa_cons (pv 0) pa_nil)) pa_nil)) pa_nil)) pa_nil))) pa_nil)))), ?_⟩
  refine ⟨_, rfl, _, rfl, a, _, rfl, .inr (SqT.of ha), _, rfl, fun r hr' => ⟨r, _, rfl, upd_same, by (first | lia | omega), by rw [mapI_len]; (first | lia | omega), fun l hl => ?_⟩⟩
  have s2 := (same_upd (o := .rng 0 ((ns.map V.int).length : Int)) hr').trans (same_upd (o := .lst (rangeV 0 ((ns.map V.int).length : Int).toNat)) hl)
  refine ⟨a, l, ns, num0 ns.length, m, rfl, s2 _ _ ha, by rw [upd_same, mapI_len, Int.toNat_natCast, rangeV_num0], ho, hm, by rw [ln]; exact fun f hf => num0_mem hf, fun p zs H' s' hp R => ?_⟩
  refine ⟨p, _, rfl, .inl ⟨SqL.of hp, fun t ht => ?_⟩⟩
  exact k t zs _ ((s2.trans s').trans (same_upd ht)) upd_same (R.same (same_upd ht))
end
end K44
namespace L2
open PySem PySem.Spec PyProof.Rows
noncomputable def spRnd : Sp := fun vs H Q _ => ∃ (a : Addr) (ns : List Int) (m : Nat), vs = [.ref a] /\ H a = some (.tup (ns.map V.int)) /\ Ord m ns /\ m <= 60 /\ ∀ H', Same H H' -> Q (.int ((roundsO ns).length : Int)) H'
end L2
namespace K44
open PySem PySem.Spec PyProof.Rows L2
noncomputable abbrev s_rounds_in : Stmt := top 8
section
variable {P : Program} {w : World} {K : PySem.W.Frag} {mg : Str -> Option Value} {base : Heap}
theorem sc_rounds_in : FnScope ["order"] ["order"] (defScope s_rounds_in) := ⟨rfl, rfl, rfl, by decide +kernel, rfl, by decide +kernel, by decide +kernel⟩
theorem ok_rounds_in {f : Addr} {fd : FuncData} (F : Fun K "rounds_in" "rounds_in" s_rounds_in f fd) (T : Top mg) (Crounds_of : Cal P w K mg base 3 "rounds_of" ["order"] spRounds) : FnOk P w K mg base CX0 4 f fd ["order"] spRnd := by
 refine F.ok sc_rounds_in (fun vs H Q E h => ?_) (fun cdv A outer s H vs Q E hr h => ?_)
 ·obtain ⟨a, ns, m, rfl, _⟩ := h
  rfl
 ·obtain ⟨a, ns, m, rfl, ha, ho, hm, k⟩ := h
  refine ⟨_, (pss_one (ps_ret (pe_callB call_len_seq (by rfl) T.n_len PySem.boot_len (pa_cons (pe_cal Crounds_of (hr.mono (by decide)) rfl (pa_cons (pv 0) pa_nil)) pa_nil)))), ?_⟩
  refine ⟨_, rfl, a, ns, m, rfl, ha, ho, by (first | lia | omega), fun p zs H' s' hp R => ⟨p, _, rfl, .inr (SqT.of hp), ?_⟩⟩
  rw [mapR_len, Paired.length R]
  exact k H' s'
end
end K44
namespace L2
open PySem PySem.Spec PyProof.Rows
noncomputable def spCountV : Sp := fun vs H Q _ => ∃ (kd : Str) (a : Addr) (o : List Int) (m : Nat), vs = [.str kd, .ref a] /\ kd ∈ kinds5 /\ H a = some (.tup (o.map V.int)) /\ Ord m o /\ m <= 24 /\ ∀ H', Same H H' -> Q (.int (sureW kd m o)) H'
theorem Ord.begW {m : Nat} {o : List Int} (h : Ord m o) : Beg m m o := by
 have := h.beg (Nat.le_refl m)
 rwa [List.take_of_length_le (by rw [h.len]; exact Nat.le_refl _)] at this
end L2
namespace K44
open PySem PySem.Spec PyProof.Rows L2
noncomputable abbrev s_count : Stmt := top 15
section
variable {P : Program} {w : World} {K : PySem.W.Frag} {mg : Str -> Option Value} {base : Heap}
theorem sc_count : FnScope ["kind", "order", "counter"] ["kind", "order"] (defScope s_count) := ⟨rfl, rfl, rfl, by decide +kernel, rfl, by decide +kernel, by decide +kernel⟩
theorem ok_count {f C f1 f2 f3 f4 f5 f6 : Addr} {fd : FuncData} (F : Fun K "count" "count" s_count f fd) (hC : mg "COUNTERS" = some (.ref C)) (GD : GDict K w.params C [("rounds", f1), ("stays", f2), ("rises", f3), ("highs", f4), ("crossed", f5), ("longest", f6)])
  (c1 : CalF P w K mg base 4 f1 ["order"] spRnd) (c2 : CalF P w K mg base 4 f2 ["order"] (spCntB staysO)) (c3 : CalF P w K mg base 4 f3 ["order"] (spCntB risesO)) (c4 : CalF P w K mg base 4 f4 ["order"] (spCntB highsO))
  (c5 : CalF P w K mg base 4 f5 ["order"] (spCntB crossedO)) : FnOk P w K mg base CX0 5 f fd ["kind", "order"] spCountV := by
 refine F.ok sc_count (fun vs H Q E h => ?_) (fun cdv A outer s H vs Q E hr h => ?_)
 ·obtain ⟨kind, a, ns, m, rfl, _⟩ := h
  rfl
 ·obtain ⟨kind, a, ns, m, rfl, hk, ha, ho, hm, k⟩ := h
  have hO : Ord m ns := ho
  have B := hO.begW
  have e1 := rounds_sure hO
  have e2 : staysO ns = sureW "stays" m ns := own_sure (kind := "stays") (by decide) hO
  have e3 : risesO ns = sureW "rises" m ns := own_sure (kind := "rises") (by decide) hO
  have e4 : highsO ns = sureW "highs" m ns := own_sure (kind := "highs") (by decide) hO
  have e5 : crossedO ns = sureW "crossed" m ns := own_sure (kind := "crossed") (by decide) hO
  refine ⟨_, (pss_cons (ps_set (i := 2) sc_count.nd rfl (Or.inl rfl) (pe_ix ix_gd (pe_glob (v := .ref C) rfl hC rfl) (pv 0) (fun _ _ => rfl)))
   (pss_one (ps_ret (pe_callV (k := 4) (pv 2) hr (pa_cons (pv 1) pa_nil))))), ?_⟩
  rcases kinds5_cases hk with rfl | rfl | rfl | rfl | rfl
  ·exact ⟨_, rfl, C, _, _, f1, rfl, rfl, GD, rfl, _, rfl, f1, _, _, rfl, c1, _, rfl, a, ns, m, rfl, ha, hO, by (first | lia | omega), fun H' s' => by rw [e1]; exact k H' s'⟩
  ·exact ⟨_, rfl, C, _, _, f2, rfl, rfl, GD, rfl, _, rfl, f2, _, _, rfl, c2, _, rfl, a, ns, m, m, rfl, ha, B, by (first | lia | omega), fun H' s' => by rw [e2]; exact k H' s'⟩
  ·exact ⟨_, rfl, C, _, _, f3, rfl, rfl, GD, rfl, _, rfl, f3, _, _, rfl, c3, _, rfl, a, ns, m, m, rfl, ha, B, by (first | lia | omega), fun H' s' => by rw [e3]; exact k H' s'⟩
  ·exact ⟨_, rfl, C, _, _, f4, rfl, rfl, GD, rfl, _, rfl, f4, _, _, rfl, c4, _, rfl, a, ns, m, m, rfl, ha, B, by (first | lia | omega), fun H' s' => by rw [e4]; exact k H' s'⟩
  ·exact ⟨_, rfl, C, _, _, f5, rfl, rfl, GD, rfl, _, rfl, f5, _, _, rfl, c5, _, rfl, a, ns, m, m, rfl, ha, B, by (first | lia | omega), fun H' s' => by rw [e5]; exact k H' s'⟩
end
end K44
namespace L2
open PySem PySem.Spec PyProof.Rows
theorem call_len_seqW {X : Cx} (K : PySem.W.Frag) (hK : X.K = K) : CallR X (.builtin "len") (fun xs H Q => ∃ p ys, xs = [.ref p] /\ (SqL K H p ys ∨ SqT K H p ys) /\ Q (.int ys.length) H) := hK ▸ call_len_seq
noncomputable def spEnd (K : PySem.W.Frag) (kind : Str) : Sp := fun vs H Q _ => ∃ (m k : Nat) (a : Addr) (b : List Int), vs = [.int m, .ref a] /\ H a = some (.tup (b.map V.int)) /\ m <= 24 /\ (kind = "crossed" -> m <= 12) /\ Beg m k b /\ k <= m /\ ∀ p r H', Same H H' -> H' p = some (.tup [.int (sureW kind m b), .ref r]) -> SqT K H' r ((wayR kind m b).map V.int) -> Q (.ref p) H'
theorem leastS_no (b : List Int) (f : Int) : ∀ (u : Nat) (v : Int), leastS b f u v = false -> ∀ j, j <= u -> f < itB b j v /\ itB b j v < (b.length : Int)
 | 0, v, h, j, hj => by
  have : j = 0 := by (first | lia | omega)
  subst this
  have h : (!(decide (f < v) && decide (v < (b.length : Int)))) = false := h
  show f < v /\ v < (b.length : Int)
  simpa using h
 | u + 1, v, h, j, hj => by
  have h : (if f < v /\ v < (b.length : Int) then leastS b f u (atO b v) else true) = false := h
  by_cases c : f < v /\ v < (b.length : Int)
  ·rw [if_pos c] at h
   cases j with
   | zero => exact c
   | succ j => rw [itB_succ]; exact leastS_no b f u (atO b v) h j (by (first | lia | omega))
  ·rw [if_neg c] at h
   cases h
theorem least_end {m k : Nat} {b : List Int} (B : Beg m k b) {f : Nat} (hf : f < k) : leastS b f b.length (atO b f) = true := by
 cases e : leastS b f b.length (atO b f) with
 | true => rfl
 | false =>
  exfalso
  have h := leastS_no b f b.length (atO b f) e
  have h' : ∀ j, j < b.length + 1 -> (f : Int) < itB b (j + 1) f /\ itB b (j + 1) f < (b.length : Int) := fun j hj => by rw [itB_succ]; exact h j (by (first | lia | omega))
  have hl := B.len
  have := low_card (b := b) (s := b.length + 1) (fun j => itB b (j + 1) (f : Int)) (by (first | lia | omega)) h' (ls_dist B.nd (by (first | lia | omega)) (by (first | lia | omega)) h')
  (first | lia | omega)
theorem ones_int {xs : List V} {p : V -> Bool} {q : Int -> Bool} {l : List Int} (hx : xs = l.map V.int) (h : ∀ n, p (.int n) = q n) : ((List.replicate (xs.filter p).length (1 : Int)).sum) = ((l.filter q).length : Int) := by
 rw [ones_sum, hx, List.filter_map, List.length_map]
 congr 2
 exact List.filter_congr fun n _ => h n
end L2
namespace K44
open PySem PySem.Spec PyProof.Rows L2
noncomputable abbrev s_rounds_ending : Stmt := top 34
noncomputable abbrev s_stays_ending : Stmt := top 36
noncomputable abbrev s_rises_ending : Stmt := top 37
section
variable {P : Program} {w : World} {K : PySem.W.Frag} {mg : Str -> Option Value} {base : Heap}
theorem sc_rounds_ending : FnScope ["many", "begun", "closed"] ["many", "begun"] (defScope s_rounds_ending) := ⟨rfl, rfl, rfl, by decide +kernel, rfl, by decide +kernel, by decide +kernel⟩
theorem ok_rounds_ending {f : Addr} {fd : FuncData} (F : Fun K "rounds_ending" "rounds_ending" s_rounds_ending f fd) (T : Top mg) (Cis_round_least : Cal P w K mg base 1 "is_round_least" ["begun", "first"] spLeast) (Ctold : Cal P w K mg base 5 "told" ["kind", "many"] (spTold K)) : FnOk P w K mg base CX0 6 f fd ["many", "begun"] (spEnd K "rounds") := by
 refine F.ok sc_rounds_ending (fun vs H Q E h => ?_) (fun cdv A outer s H vs Q E hr h => ?_)
 ·obtain ⟨m, k, a, b, rfl, _⟩ := h
  rfl
 ·obtain ⟨m, k, a, b, rfl, ha, hm, hcr, B, hk, kk⟩ := h
  have ln := B.len
  refine ⟨_, (pss_cons (ps_set (i := 2) sc_rounds_ending.nd rfl (Or.inl rfl) (pe_callB (call_sumL rfl) (by rfl) T.n_sum boot_sum (pa_cons (pe_lc (N' := ["first", "begun"]) (n := 1) (ix := [1]) rfl (CompScope.of (sc := defScope s_rounds_ending) (N := ["many", "begun", "closed"]) (by decide +kernel) rfl rfl) (pi_range1 rfl T.n_range (pa_cons (pe_callB call_len_seq (by rfl) T.n_len PySem.boot_len (pa_cons (pv 1) pa_nil)) pa_nil)) (fun _ _ _ _ _ => ⟨(pg_name (i := 0) (show (["first", "begun"] : List Str).Nodup by decide +kernel) rfl (Or.inl rfl)), (pts_one (pt_val (pe_cal Cis_round_least (hr.mono (by decide)) rfl (pa_cons (pv 1) (pa_cons (pv 0) pa_nil))))), pe_int⟩)) pa_nil)))
   (pss_one (ps_ret (pe_tup (pa_cons (pv 2) (pa_cons (pe_cal Ctold (hr.mono (by decide)) rfl (pa_cons pe_str (pa_cons (pe_op op_sub (pv 0) (pe_callB call_len_seq (by rfl) T.n_len PySem.boot_len (pa_cons (pv 1) pa_nil))) pa_nil))) pa_nil)))))), ?_⟩
  refine ⟨_, rfl, a, _, rfl, .inr (SqT.of ha), _, rfl, ?_⟩
  rw [mapI_len]
  refine ⟨by (first | lia | omega), by (first | lia | omega), ?_⟩
  rw [Int.toNat_natCast]
  refine lc_ones (yields_range (lo := 0) (n := b.length)) (small1 (by rw [rangeV_len]; (first | lia | omega))) (fun v => match v with | .int n => leastW b n | _ => false) (fun _ _ => trivial) (fun x hx G s' Q' q' => ?_) (fun x hx G s' Q' q' => q') fun acc G hacc s' hys => ?_
  ·obtain ⟨n, rfl, n0, n1⟩ := mem_rangeV hx
   obtain ⟨j, rfl⟩ : ∃ j : Nat, n = (j : Int) := ⟨n.toNat, by (first | lia | omega)⟩
   exact ⟨_, rfl, _, rfl, a, b, j, rfl, s' _ _ ha, by (first | lia | omega), by (first | lia | omega), fun x hx => (B.rng x hx).1, least_end B (by (first | lia | omega)), _, rfl, q'⟩
  ·refine ⟨acc, _, rfl, hys, ?_⟩
   rw [ones_int (q := leastW b) (l := num0 b.length) (rangeV_num0 _) (fun _ => rfl)]
   refine ⟨_, rfl, _, rfl, _, rfl, a, _, rfl, .inr (SqT.of (s' _ _ ha)), _, _, rfl, rfl, "rounds", m - k, ?_, by decide, ?_, fun r G2 s2 hr2 => ⟨by show 2 <= sizeLine; decide, fun t ht => ?_⟩⟩
   ·rw [mapI_len, ln]
    show [V.str "rounds", V.int ((m : Int) - (k : Int))] = _
    rw [show (m : Int) - (k : Int) = ((m - k : Nat) : Int) by (first | lia | omega)]
   ·show m - k <= 60
    (first | lia | omega)
   refine kk t r _ (s'.trans (s2.trans (same_upd ht))) upd_same ?_
   have e : wayR "rounds" m b = rowZ "rounds" (m - k) := by
    unfold wayR endR
    rw [if_pos rfl, ln]
   rw [e]
   exact (same_upd ht).seqT hr2
theorem sc_stays_ending : FnScope ["many", "begun", "left", "able", "row", "size"] ["many", "begun"] (defScope s_stays_ending) := ⟨rfl, rfl, rfl, by decide +kernel, rfl, by decide +kernel, by decide +kernel⟩
theorem ok_stays_ending {f : Addr} {fd : FuncData} (F : Fun K "stays_ending" "stays_ending" s_stays_ending f fd) (T : Top mg) (Cnumbers_left : Cal P w K mg base 1 "numbers_left" ["many", "begun"] spLeft) (Cproduct : Cal P w K mg base 1 "product" ["first", "last"] spPrF) (Cnext_row : Cal P w K mg base 3 "next_row" ["kind", "many", "ahead"] (spNext K)) (Cstays_in : Cal P w K mg base 1 "stays_in" ["order"] (spCntB staysO)) : FnOk P w K mg base CX0 6 f fd ["many", "begun"] (spEnd K "stays") := by
 refine F.ok sc_stays_ending (fun vs H Q E h => ?_) (fun cdv A outer s H vs Q E hr h => ?_)
 ·obtain ⟨m, k, a, b, rfl, _⟩ := h
  rfl
 ·obtain ⟨m, k, a, b, rfl, ha, hm, hcr, B, hk, kk⟩ := h
  have ln := B.len
  have lf := B.free
  refine ⟨_, (pss_cons (ps_set (i := 2) sc_stays_ending.nd rfl (Or.inl rfl) (pe_cal Cnumbers_left (hr.mono (by decide)) rfl (pa_cons (pv 0) (pa_cons (pv 1) pa_nil))))
   (pss_cons (ps_set (i := 3) sc_stays_ending.nd rfl (Or.inl rfl) (pe_callB (call_sumL rfl) (by rfl) T.n_sum boot_sum (pa_cons (pe_lc (N' := ["number", "begun"]) (n := 1) (ix := [1]) rfl (CompScope.of (sc := defScope s_stays_ending) (N := ["many", "begun", "left", "able", "row", "size"]) (by decide +kernel) rfl rfl) (pi_list (pv 2)) (fun _ _ _ _ _ => ⟨(pg_name (i := 0) (show (["number", "begun"] : List Str).Nodup by decide +kernel) rfl (Or.inl rfl)), (pts_one (pt_cmpR op_ge (pv 0) (pe_callB (call_len_seqW K rfl) (by rfl) T.n_len PySem.boot_len (pa_cons (pv 1) pa_nil)) (nomark _))), pe_int⟩)) pa_nil)))
   (pss_cons (ps_set (i := 4) sc_stays_ending.nd rfl (Or.inl rfl) (pe_tup (pa_cons (pe_cal Cproduct (hr.mono (by decide)) rfl (pa_cons pe_int (pa_cons (pe_op op_sub (pe_callB call_len_seq (by rfl) T.n_len PySem.boot_len (pa_cons (pv 2) pa_nil)) (pv 3)) pa_nil))) pa_nil)))
   (pss_cons (ps_for PassesOwn.never rfl (pi_range2 rfl T.n_range (pa_cons (pe_op op_add (pe_op op_sub (pe_callB call_len_seq (by rfl) T.n_len PySem.boot_len (pa_cons (pv 2) pa_nil)) (pv 3)) pe_int) (pa_cons (pe_op op_add (pe_callB call_len_seq (by rfl) T.n_len PySem.boot_len (pa_cons (pv 2) pa_nil)) pe_int) pa_nil))) (pg_name (i := 5) sc_stays_ending.nd rfl (Or.inl rfl))
    (pss_one (ps_set (i := 4) sc_stays_ending.nd rfl (Or.inl rfl) (pe_cal Cnext_row (hr.mono (by decide)) rfl (pa_cons pe_str (pa_cons (pv 5) (pa_cons (pv 4) pa_nil)))))))
   (pss_one (ps_ret (pe_tup (pa_cons (pe_cal Cstays_in (hr.mono (by decide)) rfl (pa_cons (pv 1) pa_nil)) (pa_cons (pv 4) pa_nil))))))))), ?_⟩
  refine ⟨_, rfl, _, rfl, m, a, b, rfl, ha, by (first | lia | omega), fun l G1 s1 hl0 hl => ?_⟩
  refine ⟨_, rfl, l, rfl, ⟨_, SqL.of hl⟩, ?_⟩
  refine lc_ones (yields_list (K := K) (a := l) (xs := (freeO m b).map V.int)) (small1 (by rw [mapI_len]; (first | lia | omega))) (fun v => match v with | .int n => decide (n ≥ (b.length : Int)) | _ => false) (fun G sm => SqL.of (sm _ _ hl)) (fun x hx G s' Q' q' => ?_) (fun x hx G s' Q' q' => q') fun acc G2 hacc s2 hys => ?_
  ·obtain ⟨n, hn, rfl⟩ := List.mem_map.mp hx
   refine ⟨_, rfl, _, rfl, a, _, rfl, .inr (SqT.of (s' _ _ (s1 _ _ ha))), _, _, rfl, rfl, _, rfl, ?_⟩
   rw [mapI_len]
   exact q'
  refine ⟨acc, _, rfl, hys, ?_⟩
  have eab : ((List.replicate ((((freeO m b).map V.int).filter fun v => match v with | .int n => decide (n ≥ (b.length : Int)) | _ => false)).length (1 : Int)).sum) = (ableZ "stays" m b : Int) := ones_int (q := fun x => decide ((b.length : Int) <= x)) (l := freeO m b) rfl (fun _ => rfl)
  rw [eab]
  have hab : ableZ "stays" m b <= m - k := by
   refine Nat.le_trans (List.length_filter_le _ _) ?_
   (first | lia | omega)
  generalize hA : ableZ "stays" m b = ab at hab ⊢
  have ha2 := s2 _ _ (s1 _ _ ha)
  have hl2 := s2 _ _ hl
  have lf2 : (freeO m b).length = m - k := by (first | lia | omega)
  refine ⟨_, rfl, l, _, rfl, .inl (SqL.of hl2), _, rfl, _, _, rfl, rfl, 0, m - k - ab, ?_, by (first | lia | omega), by show 1 <= sizeLine; decide, fun t ht => ?_⟩
  ·rw [mapI_len, lf2]
   show [V.int 1, V.int (((m - k : Nat) : Int) - (ab : Int))] = [V.int (((0 : Nat) : Int) + 1), V.int (((0 : Nat) : Int) + ((m - k - ab : Nat) : Int))]
   congr 2
   ·congr 1; (first | lia | omega)
  rw [prF_fc]
  have s3 := same_upd (o := .tup [.int (fcZ (m - k - ab))]) ht
  have S3 := s1.trans (s2.trans s3)
  refine ⟨_, rfl, l, _, rfl, .inl (SqL.of (s3 _ _ hl2)), _, rfl, _, _, rfl, rfl, _, _, rfl, rfl, _, rfl, l, _, rfl, .inl (SqL.of (s3 _ _ hl2)), _, _, rfl, rfl, _, _, rfl, ?_, ?_⟩
  ·rw [mapI_len, lf2]
   exact ⟨by (first | lia | omega), by (first | lia | omega), by (first | lia | omega), by (first | lia | omega)⟩
  rw [mapI_len, lf2, show ((((m - k : Nat) : Int) + 1) - (((m - k : Nat) : Int) - (ab : Int) + 1)).toNat = ab by (first | lia | omega)]
  refine for_range (n := ab) (fun j σ G => ∃ (r : Addr) (c5 : Option V), σ = [some (.int m), some (.ref a), some (.ref l), some (.int ab), some (.ref r), c5] /\ Same H G /\ SqT K G r ((stR (m - k - ab) j).map V.int) /\ (stR (m - k - ab) j).length <= 25) ⟨t, none, rfl, S3, SqT.of upd_same, by show 1 <= 25; decide⟩ ?_ ?_
  ·rintro j σ G hj ⟨r, c5, rfl, SG, hr1, hlen⟩
   refine ⟨_, rfl, _, rfl, "stays", (m - k - ab) + j + 1, r, _, ?_, by decide, by (first | lia | omega), ?_, hr1, by (first | lia | omega), fun r2 G2 s4 hr2 => ?_⟩
   ·rw [show ((m - k : Nat) : Int) - (ab : Int) + 1 + (j : Int) = ((m - k - ab + j + 1 : Nat) : Int) by (first | lia | omega)]
   ·show (m - k - ab) + j + 1 <= 60
    (first | lia | omega)
   refine ⟨r2, _, rfl, SG.trans s4, SqT.of hr2, ?_⟩
   show ((num0 _).map _).length <= 25
   rw [List.length_map]
   unfold num0
   rw [List.length_map, List.length_range]
   (first | lia | omega)
  ·rintro σ G ⟨r, c5, rfl, SG, hr1, _⟩
   refine ⟨_, rfl, a, b, m, k, rfl, SG _ _ ha, B, by (first | lia | omega), fun G2 s4 => ⟨_, rfl, by show 2 <= sizeLine; decide, fun p hp => ?_⟩⟩
   refine kk p r _ (SG.trans (s4.trans (same_upd hp))) upd_same ?_
   have e : wayR "stays" m b = stR (m - k - ab) ab := by
    unfold wayR
    rw [hA, ln]
    rfl
   rw [e]
   exact (s4.trans (same_upd hp)).seqT hr1
end
end K44
namespace L2
open PySem PySem.Spec PyProof.Rows
theorem piK_list {X : Cx} {tg l : Expr} {tl : TE} (K : PySem.W.Frag) (hK : X.K = K) (hl : PE X l tl) : PI X tg l (iList K tl) := hK ▸ pi_list hl
theorem at_lastO {b : List Int} (h : b ≠ []) : atI (b.map V.int) (-1) = some (.int (atO b ((b.length : Int) - 1))) := by
 have hl : 0 < b.length := List.length_pos_iff.mpr h
 rw [atI_neg1 (by rw [mapI_len]; exact hl), mapI_len, List.getElem?_map, List.getElem?_eq_getElem (by (first | lia | omega))]
 unfold atO
 rw [show ((b.length : Int) - 1).toNat = b.length - 1 by (first | lia | omega), List.getD_eq_getElem?_getD, List.getElem?_eq_getElem (by (first | lia | omega))]
 rfl
theorem gr_len : ∀ j, (grR j).length = j + 1
 | 0 => rfl
 | j + 1 => by
  show ((num0 _).map _).length = _
  rw [List.length_map]
  unfold num0
  rw [List.length_map, List.length_range]
theorem ri_len (g : Nat) : ∀ j, (riR g j).length = g + j + 1
 | 0 => gr_len g
 | j + 1 => by
  show ((num0 _).map _).length = _
  rw [List.length_map]
  unfold num0
  rw [List.length_map, List.length_range]
  (first | lia | omega)
theorem pairs_ones {m : Nat} {b : List Int} : ∀ l : List Int, ((pairs2 (l.map V.int) (fun _ => (freeO m b).map V.int) fun x y => match x, y with | .int a, .int n => decide (n < a) | _, _ => false).length : Int) = (l.map fun a => (cntI (fun x => decide (x < a)) (freeO m b) : Int)).sum
 | [] => rfl
 | a :: l => by
  have ih := pairs_ones (m := m) (b := b) l
  unfold pairs2 at ih ⊢
  rw [List.map_cons, List.flatMap_cons, List.length_append, List.map_cons, List.sum_cons, <- ih, List.length_map]
  push_cast
  congr 1
  unfold cntI
  rw [List.filter_map, List.length_map]
  rfl
theorem pairs_le {Y : List V} {p : V -> V -> Bool} : ∀ xs : List V, (pairs2 xs (fun _ => Y) p).length <= xs.length * Y.length
 | [] => Nat.zero_le _
 | x :: xs => by
  have ih := pairs_le (Y := Y) (p := p) xs
  have h1 : (List.filter (p x) ((fun _ => Y) x)).length <= Y.length := List.length_filter_le _ _
  unfold pairs2 at ih ⊢
  rw [List.flatMap_cons, List.length_append, List.length_map, List.length_cons, Nat.succ_mul]
  (first | lia | omega)
end L2
namespace K44
open PySem PySem.Spec PyProof.Rows L2
noncomputable abbrev s_crossed_ending : Stmt := top 41
section
variable {P : Program} {w : World} {K : PySem.W.Frag} {mg : Str -> Option Value} {base : Heap}
theorem sc_rises_ending : FnScope ["many", "begun", "left", "lesser", "row", "size"] ["many", "begun"] (defScope s_rises_ending) := ⟨rfl, rfl, rfl, by decide +kernel, rfl, by decide +kernel, by decide +kernel⟩
set_option maxHeartbeats 4000000 in
theorem ok_rises_ending {f : Addr} {fd : FuncData} (F : Fun K "rises_ending" "rises_ending" s_rises_ending f fd) (T : Top mg) (Ctold : Cal P w K mg base 5 "told" ["kind", "many"] (spTold K)) (Cnumbers_left : Cal P w K mg base 1 "numbers_left" ["many", "begun"] spLeft) (Cgreatest_put_in : Cal P w K mg base 2 "greatest_put_in" ["size", "row"] (spRow K 60 gput)) (Cleast_put_in : Cal P w K mg base 2 "least_put_in" ["size", "row"] (spRow K 60 lput)) (Crises_in : Cal P w K mg base 1 "rises_in" ["order"] (spCntB risesO)) : FnOk P w K mg base CX0 6 f fd ["many", "begun"] (spEnd K "rises") := by
 refine F.ok sc_rises_ending (fun vs H Q E h => ?_) (fun cdv A outer s H vs Q E hr h => ?_)
 ·obtain ⟨m, k, a, b, rfl, _⟩ := h
  rfl
 ·obtain ⟨m, k, a, b, rfl, ha, hm, hcr, B, hk, kk⟩ := h
  have ln := B.len
  have lf := B.free
  refine ⟨_, (pss_cons (ps_if (pt_not (pt_truth (pv 1) (fun _ => rfl)))
    (pss_one (ps_ret (pe_tup (pa_cons pe_int (pa_cons (pe_cal Ctold (hr.mono (by decide)) rfl (pa_cons pe_str (pa_cons (pv 0) pa_nil))) pa_nil)))))
    pss_nil)
   (pss_cons (ps_set (i := 2) sc_rises_ending.nd rfl (Or.inl rfl) (pe_cal Cnumbers_left (hr.mono (by decide)) rfl (pa_cons (pv 0) (pa_cons (pv 1) pa_nil))))
   (pss_cons (ps_set (i := 3) sc_rises_ending.nd rfl (Or.inl rfl) (pe_callB (call_sumL rfl) (by rfl) T.n_sum boot_sum (pa_cons (pe_lc (N' := ["number", "begun"]) (n := 1) (ix := [1]) rfl (CompScope.of (sc := defScope s_rises_ending) (N := ["many", "begun", "left", "lesser", "row", "size"]) (by decide +kernel) rfl rfl) (pi_list (pv 2)) (fun _ _ _ _ _ => ⟨(pg_name (i := 0) (show (["number", "begun"] : List Str).Nodup by decide +kernel) rfl (Or.inl rfl)), (pts_one (pt_cmpR op_lt (pv 0) (pe_ix (ix_tupK K rfl) (pv 1) (pe_un un_neg pe_int) (fun _ _ => rfl)) (nomark _))), pe_int⟩)) pa_nil)))
   (pss_cons (ps_set (i := 4) sc_rises_ending.nd rfl (Or.inl rfl) (pe_tup (pa_cons pe_int pa_nil)))
   (pss_cons (ps_for PassesOwn.never rfl (pi_range2 rfl T.n_range (pa_cons pe_int (pa_cons (pe_op op_add (pe_op op_sub (pe_callB call_len_seq (by rfl) T.n_len PySem.boot_len (pa_cons (pv 2) pa_nil)) (pv 3)) pe_int) pa_nil))) (pg_name (i := 5) sc_rises_ending.nd rfl (Or.inl rfl))
    (pss_one (ps_set (i := 4) sc_rises_ending.nd rfl (Or.inl rfl) (pe_cal Cgreatest_put_in (hr.mono (by decide)) rfl (pa_cons (pv 5) (pa_cons (pv 4) pa_nil))))))
   (pss_cons (ps_for PassesOwn.never rfl (pi_range2 rfl T.n_range (pa_cons (pe_op op_add (pe_op op_sub (pe_callB call_len_seq (by rfl) T.n_len PySem.boot_len (pa_cons (pv 2) pa_nil)) (pv 3)) pe_int) (pa_cons (pe_op op_add (pe_callB call_len_seq (by rfl) T.n_len PySem.boot_len (pa_cons (pv 2) pa_nil)) pe_int) pa_nil))) (pg_name (i := 5) sc_rises_ending.nd rfl (Or.inl rfl))
    (pss_one (ps_set (i := 4) sc_rises_ending.nd rfl (Or.inl rfl) (pe_cal Cleast_put_in (hr.mono (by decide)) rfl (pa_cons (pv 5) (pa_cons (pv 4) pa_nil))))))
   (pss_one (ps_ret (pe_tup (pa_cons (pe_cal Crises_in (hr.mono (by decide)) rfl (pa_cons (pv 1) pa_nil)) (pa_cons (pv 4) pa_nil))))))))))), ?_⟩
  refine ⟨_, rfl, !(b.map V.int).isEmpty, .inr (.inl ⟨_, SqT.of ha, rfl⟩), ?_⟩
  by_cases hb0 : b = []
  ·subst hb0
   refine iteT ⟨_, rfl, "rises", m, rfl, by decide, ?_, fun r G2 s2 hr2 => ⟨by show 2 <= sizeLine; decide, fun t ht => ?_⟩⟩
   ·show m <= 60
    (first | lia | omega)
   refine kk t r _ (s2.trans (same_upd ht)) upd_same ?_
   have e : wayR "rises" m [] = rowZ "rises" m := rfl
   rw [e]
   exact (same_upd ht).seqT hr2
  have hbe : (b.map V.int).isEmpty = false := by
   cases b with
   | nil => exact absurd rfl hb0
   | cons _ _ => rfl
  rw [hbe]
  refine iteF ⟨_, rfl, _, rfl, m, a, b, rfl, ha, by (first | lia | omega), fun l G1 s1 hl0 hl => ?_⟩
  refine ⟨_, rfl, l, rfl, ⟨_, SqL.of hl⟩, ?_⟩
  refine lc_ones (yields_list (K := K) (a := l) (xs := (freeO m b).map V.int)) (small1 (by rw [mapI_len]; (first | lia | omega))) (fun v => match v with | .int n => decide (n < atO b ((b.length : Int) - 1)) | _ => false) (fun G sm => SqL.of (sm _ _ hl)) (fun x hx G s' Q' q' => ?_) (fun x hx G s' Q' q' => q') fun acc G2 hacc s2 hys => ?_
  ·obtain ⟨n, hn, rfl⟩ := List.mem_map.mp hx
   exact ⟨_, rfl, _, rfl, _, rfl, a, _, _, _, rfl, rfl, SqT.of (s' _ _ (s1 _ _ ha)), at_lastO hb0, _, _, rfl, rfl, _, rfl, q'⟩
  refine ⟨acc, _, rfl, hys, ?_⟩
  have eA : ableZ "rises" m b = cntI (fun x => decide (x < atO b ((b.length : Int) - 1))) (freeO m b) := by
   show (if b = [] then 0 else _) = _
   rw [if_neg hb0]
  have eab : ((List.replicate ((((freeO m b).map V.int).filter fun v => match v with | .int n => decide (n < atO b ((b.length : Int) - 1)) | _ => false)).length (1 : Int)).sum) = (ableZ "rises" m b : Int) := by
   rw [eA]
   exact ones_int (q := fun x => decide (x < atO b ((b.length : Int) - 1))) (l := freeO m b) rfl (fun _ => rfl)
  rw [eab]
  have hab : ableZ "rises" m b <= m - k := by
   rw [eA]
   refine Nat.le_trans (List.length_filter_le _ _) ?_
   (first | lia | omega)
  generalize hA : ableZ "rises" m b = ab at hab ⊢
  have ha2 := s2 _ _ (s1 _ _ ha)
  have hl2 := s2 _ _ hl
  have lf2 : (freeO m b).length = m - k := by (first | lia | omega)
  refine ⟨by show 1 <= sizeLine; decide, fun t ht => ?_⟩
  have s3 := same_upd (o := .tup [.int 1]) ht
  have S3 := s1.trans (s2.trans s3)
  have S13 := s2.trans s3
  refine ⟨_, rfl, l, _, rfl, .inl (SqL.of (s3 _ _ hl2)), _, rfl, _, _, rfl, rfl, _, _, rfl, rfl, _, _, rfl, ?_, ?_⟩
  ·rw [mapI_len, lf2]
   exact ⟨by (first | lia | omega), by (first | lia | omega), by (first | lia | omega), by (first | lia | omega)⟩
  rw [mapI_len, lf2, show ((((m - k : Nat) : Int) - (ab : Int) + 1) - 1).toNat = m - k - ab by (first | lia | omega)]
  refine for_range (n := m - k - ab) (fun j σ G => ∃ (r : Addr) (c5 : Option V), σ = [some (.int m), some (.ref a), some (.ref l), some (.int ab), some (.ref r), c5] /\ Same G1 G /\ SqT K G r ((grR j).map V.int)) ⟨t, none, rfl, S13, SqT.of upd_same⟩ ?_ ?_
  ·rintro j σ G hj ⟨r, c5, rfl, SG, hr1⟩
   refine ⟨_, rfl, _, rfl, j + 1, r, _, ?_, by (first | lia | omega), by (first | lia | omega), hr1, by rw [gr_len]; (first | lia | omega), fun r2 G3 s4 hr2 => ?_⟩
   ·rw [show (1 : Int) + (j : Int) = ((j + 1 : Nat) : Int) by (first | lia | omega)]
   exact ⟨r2, _, rfl, SG.trans s4, SqT.of hr2⟩
  ·rintro σ G ⟨r, c5, rfl, SG, hr1⟩
   refine ⟨_, rfl, l, _, rfl, .inl (SqL.of (SG _ _ hl)), _, rfl, _, _, rfl, rfl, _, _, rfl, rfl, _, rfl, l, _, rfl, .inl (SqL.of (SG _ _ hl)), _, _, rfl, rfl, _, _, rfl, ?_, ?_⟩
   ·rw [mapI_len, lf2]
    exact ⟨by (first | lia | omega), by (first | lia | omega), by (first | lia | omega), by (first | lia | omega)⟩
   rw [mapI_len, lf2, show ((((m - k : Nat) : Int) + 1) - (((m - k : Nat) : Int) - (ab : Int) + 1)).toNat = ab by (first | lia | omega)]
   refine for_range (n := ab) (fun j σ G => ∃ (r : Addr) (c5 : Option V), σ = [some (.int m), some (.ref a), some (.ref l), some (.int ab), some (.ref r), c5] /\ Same G1 G /\ SqT K G r ((riR (m - k - ab) j).map V.int)) ⟨r, c5, rfl, SG, hr1⟩ ?_ ?_
   ·rintro j σ G hj ⟨r, c5, rfl, SG, hr1⟩
    refine ⟨_, rfl, _, rfl, (m - k - ab) + j + 1, r, _, ?_, by (first | lia | omega), by (first | lia | omega), hr1, by rw [ri_len]; (first | lia | omega), fun r2 G3 s4 hr2 => ?_⟩
    ·rw [show ((m - k : Nat) : Int) - (ab : Int) + 1 + (j : Int) = ((m - k - ab + j + 1 : Nat) : Int) by (first | lia | omega)]
    exact ⟨r2, _, rfl, SG.trans s4, SqT.of hr2⟩
   ·rintro σ G ⟨r, c5, rfl, SG, hr1⟩
    refine ⟨_, rfl, a, b, m, k, rfl, SG _ _ (s1 _ _ ha), B, by (first | lia | omega), fun G2 s4 => ⟨_, rfl, by show 2 <= sizeLine; decide, fun p hp => ?_⟩⟩
    refine kk p r _ (s1.trans (SG.trans (s4.trans (same_upd hp)))) upd_same ?_
    have e : wayR "rises" m b = riR (m - k - ab) ab := by
     unfold wayR
     rw [hA, ln]
     have : b.isEmpty = false := by
      cases b with
      | nil => exact absurd rfl hb0
      | cons _ _ => rfl
     rw [this]
     rfl
    rw [e]
    exact (s4.trans (same_upd hp)).seqT hr1
theorem sc_crossed_ending : FnScope ["many", "begun", "left", "behind"] ["many", "begun"] (defScope s_crossed_ending) := ⟨rfl, rfl, rfl, by decide +kernel, rfl, by decide +kernel, by decide +kernel⟩
theorem ok_crossed_ending {f : Addr} {fd : FuncData} (F : Fun K "crossed_ending" "crossed_ending" s_crossed_ending f fd) (T : Top mg) (Ctold : Cal P w K mg base 5 "told" ["kind", "many"] (spTold K)) (Cnumbers_left : Cal P w K mg base 1 "numbers_left" ["many", "begun"] spLeft) (Ccrossed_in : Cal P w K mg base 1 "crossed_in" ["order"] (spCntB crossedO)) : FnOk P w K mg base CX0 6 f fd ["many", "begun"] (spEnd K "crossed") := by
 refine F.ok sc_crossed_ending (fun vs H Q E h => ?_) (fun cdv A outer s H vs Q E hr h => ?_)
 ·obtain ⟨m, k, a, b, rfl, _⟩ := h
  rfl
 ·obtain ⟨m, k, a, b, rfl, ha, hm, hcr, B, hk, kk⟩ := h
  have ln := B.len
  have lf := B.free
  refine ⟨_, (pss_cons (ps_set (i := 2) sc_crossed_ending.nd rfl (Or.inr rfl) (pe_cal Cnumbers_left (hr.mono (by decide)) rfl (pa_cons (pv 0) (pa_cons (pv 1) pa_nil))))
   (pss_cons (ps_set (i := 3) sc_crossed_ending.nd rfl (Or.inl rfl) (pe_callB (call_sumL rfl) (by rfl) T.n_sum boot_sum (pa_cons (pe_lc2 (N' := ["ahead", "number", "left"]) (n := 2) (ix := [2]) rfl (CompScope.of (sc := defScope s_crossed_ending) (N := ["many", "begun", "left", "behind"]) (by decide +kernel) rfl rfl) (pi_tup (pv 1)) (fun _ _ _ _ _ => ⟨(pg_name (i := 0) (show (["ahead", "number", "left"] : List Str).Nodup by decide +kernel) rfl (Or.inl rfl)), pts_nil, (piK_list K rfl (pv 2)), (pg_name (i := 1) (show (["ahead", "number", "left"] : List Str).Nodup by decide +kernel) rfl (Or.inl rfl)), (pts_one (pt_cmpR op_lt (pv 1) (pv 0) (nomark _))), pe_int⟩)) pa_nil)))
   (pss_one (ps_ret (pe_tup (pa_cons (pe_op op_add (pe_cal Ccrossed_in (hr.mono (by decide)) rfl (pa_cons (pv 1) pa_nil)) (pv 3)) (pa_cons (pe_cal Ctold (hr.mono (by decide)) rfl (pa_cons pe_str (pa_cons (pe_callB call_len_seq (by rfl) T.n_len PySem.boot_len (pa_cons (pv 2) pa_nil)) pa_nil))) pa_nil))))))), ?_⟩
  refine ⟨_, rfl, _, rfl, m, a, b, rfl, ha, by (first | lia | omega), fun l G1 s1 hl0 hl => ?_⟩
  refine ⟨_, rfl, a, rfl, ⟨_, SqT.of (s1 _ _ ha)⟩, ?_⟩
  have ep := pairs_ones (m := m) (b := b) b
  refine lc2_grow (yields_tup (K := K) (a := a) (xs := b.map V.int)) (fun _ => (freeO m b).map V.int) (fun x y => match x, y with | .int a, .int n => decide (n < a) | _, _ => false) (fun _ v _ => v = .int 1) ?_ (fun _ _ _ _ _ h => h) (fun G sm => SqT.of (sm _ _ (s1 _ _ ha))) (fun x hx G s' Rr q => ?_) (fun x hx y hy G s' Q' q' => ?_) (fun x hx y hy _ G s' Q' q' => q' _ _ (Same.refl G) rfl) fun acc vs G2 hacc s2 hys pr => ?_
  ·refine Nat.lt_of_le_of_lt (pairs_le _) ?_
   rw [mapI_len, mapI_len]
   exact Nat.lt_of_le_of_lt (Nat.mul_le_mul (show b.length <= 24 by (first | lia | omega)) (show (freeO m b).length <= 24 by (first | lia | omega))) (by decide)
  ·exact ⟨_, rfl, l, rfl, ⟨_, SqL.of (s' _ _ hl)⟩, q _ _ G (Same.refl G) (yields_list (K := K) (a := l) (xs := (freeO m b).map V.int)) fun G' _ st => SqL.of (st _ _ hl)⟩
  ·obtain ⟨n, _, rfl⟩ := List.mem_map.mp hx
   obtain ⟨n', _, rfl⟩ := List.mem_map.mp hy
   exact ⟨_, rfl, _, rfl, _, _, rfl, rfl, _, rfl, q'⟩
  ·have ev : vs = (List.replicate (pairs2 (b.map V.int) (fun _ => (freeO m b).map V.int) (fun x y => match x, y with | .int a, .int n => decide (n < a) | _, _ => false)).length (1 : Int)).map V.int := by
    generalize pairs2 (b.map V.int) (fun _ => (freeO m b).map V.int) (fun x y => match x, y with | .int a, .int n => decide (n < a) | _, _ => false) = L at pr
    clear ep hys
    induction pr with
    | nil => rfl
    | cons e _ ih => rw [e, ih]; rfl
   rw [ev] at hys
   refine ⟨acc, _, rfl, hys, ?_⟩
   rw [ones_sum, ep]
   refine ⟨_, rfl, a, b, m, k, rfl, s2 _ _ (s1 _ _ ha), B, by (first | lia | omega), fun G3 s3 => ?_⟩
   refine ⟨_, rfl, _, _, rfl, rfl, _, rfl, l, _, rfl, .inl (SqL.of (s3 _ _ (s2 _ _ hl))), "crossed", m - k, ?_, by decide, ?_, fun r G4 s4 hr4 => ⟨by show 2 <= sizeLine; decide, fun t ht => ?_⟩⟩
   ·rw [mapI_len, show (freeO m b).length = m - k by (first | lia | omega)]
   ·show m - k <= 24
    (first | lia | omega)
   refine kk t r _ (s1.trans (s2.trans (s3.trans (s4.trans (same_upd ht))))) upd_same ?_
   have e : wayR "crossed" m b = rowZ "crossed" (m - k) := by
    unfold wayR
    rw [ln]
    rfl
   rw [e]
   exact (same_upd ht).seqT hr4
end
end K44
namespace L2
open PySem PySem.Spec PyProof.Rows
noncomputable def spWays : Sp := fun vs H Q _ => ∃ (kind : Str) (m k : Nat) (a : Addr) (b : List Int) (n : Int), vs = [.str kind, .int m, .ref a, .int n] /\ kind ∈ kinds5 /\ H a = some (.tup (b.map V.int)) /\ m <= 24 /\ (kind = "crossed" -> m <= 12) /\ Beg m k b /\ k <= m /\ ∀ H', Same H H' -> Q (.int (wayW kind m b n)) H'
noncomputable def spOfW : Sp := fun vs H Q _ => ∃ (p q l : Addr) (n : Nat) (xs : List V), vs = [.ref p, .ref l] /\ Spring H p q n /\ n < 1000 /\ H l = some (.lst xs) /\ l ≠ q /\ 0 < xs.length /\ xs.length <= 1000 /\ ∀ x H', x ∈ xs -> Spring H' p q (n + 1) -> Keep p q H H' -> Q x H'
noncomputable def spKindsL : Sp := fun vs H Q _ => vs = [] /\ ∀ l H', Same H H' -> H l = none -> H' l = some (.lst (kinds5.map V.str)) -> Q (.ref l) H'
noncomputable def spDrawO : Sp := fun vs H Q _ => ∃ (p q : Addr) (m n : Nat), vs = [.ref p, .int m] /\ m <= 60 /\ Spring H p q n /\ n < 1000 /\ ∀ (t : Addr) (ys : List Int) H', ys.Perm (num0 m) -> H' t = some (.tup (ys.map V.int)) -> Spring H' p q (n + m) -> Keep p q H H' -> Q (.ref t) H'
theorem Spring.lset {H : Hp} {p q l : Addr} {n : Nat} {o : HO} (h : Spring H p q n) (h1 : l ≠ p) (h2 : l ≠ q) : Spring (upd H l o) p q n := by
 obtain ⟨ns, s, t, e1, e2, r⟩ := h
 exact ⟨ns, s, t, by rw [upd_ne (Ne.symm h1)]; exact e1, by rw [upd_ne (Ne.symm h2)]; exact e2, r⟩
theorem atI_anyW {xs : List V} {d : Int} (h0 : 0 <= d) (h1 : d < (xs.length : Int)) : ∃ x, xs[d.toNat]? = some x /\ atI xs d = some x := by
 obtain ⟨j, rfl⟩ : ∃ j : Nat, d = (j : Int) := ⟨d.toNat, by (first | lia | omega)⟩
 have hj : j < xs.length := by (first | lia | omega)
 exact ⟨_, List.getElem?_eq_getElem (by simpa using hj), atI_nat (by rw [List.getElem?_eq_getElem hj]; rfl)⟩
theorem perm_insW {ys : List Int} {i : Nat} (h : ys.Perm (num0 i)) (d : Nat) : (ys.take d ++ (i : Int) :: ys.drop d).Perm (num0 (i + 1)) := by
 have e : num0 (i + 1) = num0 i ++ [(i : Int)] := by
  unfold num0
  rw [List.range_succ, List.map_append]
  rfl
 rw [e]
 refine List.perm_middle.trans ?_
 rw [List.take_append_drop]
 refine (List.Perm.cons _ h).trans ?_
 exact (List.perm_append_singleton _ _).symm
end L2
namespace K44
open PySem PySem.Spec PyProof.Rows L2
noncomputable abbrev s_ways_on : Stmt := top 43
noncomputable abbrev s__law_of : Stmt := top 48
noncomputable abbrev s__law_kinds : Stmt := top 49
noncomputable abbrev s__law_drawn_order : Stmt := top 51
section
variable {P : Program} {w : World} {K : PySem.W.Frag} {mg : Str -> Option Value} {base : Heap}
theorem sc_ways_on : FnScope ["kind", "many", "begun", "number", "ending", "sure", "row"] ["kind", "many", "begun", "number"] (defScope s_ways_on) := ⟨rfl, rfl, rfl, by decide +kernel, rfl, by decide +kernel, by decide +kernel⟩
theorem ok_ways_on {f C f1 f2 f3 f4 f5 : Addr} {fd : FuncData} (F : Fun K "ways_on" "ways_on" s_ways_on f fd) (hC : mg "ENDINGS" = some (.ref C)) (GD : GDict K w.params C [("rounds", f1), ("stays", f2), ("rises", f3), ("highs", f4), ("crossed", f5)])
  (c1 : CalF P w K mg base 6 f1 ["many", "begun"] (spEnd K "rounds")) (c2 : CalF P w K mg base 6 f2 ["many", "begun"] (spEnd K "stays")) (c3 : CalF P w K mg base 6 f3 ["many", "begun"] (spEnd K "rises")) (c4 : CalF P w K mg base 6 f4 ["many", "begun"] (spEnd K "highs")) (c5 : CalF P w K mg base 6 f5 ["many", "begun"] (spEnd K "crossed")) (Cnumber_at : Cal P w K mg base 1 "number_at" ["row", "place"] (spNumAt K)) : FnOk P w K mg base CX0 7 f fd ["kind", "many", "begun", "number"] spWays := by
 refine F.ok sc_ways_on (fun vs H Q E h => ?_) (fun cdv A outer s H vs Q E hr h => ?_)
 ·obtain ⟨kd, m, k, a, b, n, rfl, _⟩ := h
  rfl
 ·obtain ⟨kd, m, k, a, b, n, rfl, hkd, ha, hm, hcr, B, hk, kk⟩ := h
  refine ⟨_, (pss_cons (ps_set (i := 4) sc_ways_on.nd rfl (Or.inl rfl) (pe_ix ix_gd (pe_glob (v := .ref C) rfl hC rfl) (pv 0) (fun _ _ => rfl)))
   (pss_cons (ps_asg (pe_callV (k := 6) (pv 4) hr (pa_cons (pv 1) (pa_cons (pv 2) pa_nil))) (pg_pair (i := 5) (j := 6) rfl sc_ways_on.nd rfl rfl (Or.inl rfl) (Or.inl rfl) (Or.inl rfl) (Or.inl rfl)))
   (pss_one (ps_ret (pe_cal Cnumber_at (hr.mono (by decide)) rfl (pa_cons (pv 6) (pa_cons (pe_op op_sub (pv 3) (pv 5)) pa_nil))))))), ?_⟩
  rcases kinds5_cases hkd with rfl | rfl | rfl | rfl | rfl
  ·exact ⟨_, rfl, C, _, _, f1, rfl, rfl, GD, rfl, _, rfl, f1, _, _, rfl, c1, _, rfl, _, rfl, m, k, a, b, rfl, ha, hm, hcr, B, hk, fun p r H' s' hp hr' => ⟨p, _, rfl, SqT.of hp, rfl, _, _, rfl, _, _, rfl, rfl, _, rfl, _, rfl, _, rfl, _, _, rfl, rfl, r, _, _, rfl, hr', kk H' s'⟩⟩
  ·exact ⟨_, rfl, C, _, _, f2, rfl, rfl, GD, rfl, _, rfl, f2, _, _, rfl, c2, _, rfl, _, rfl, m, k, a, b, rfl, ha, hm, hcr, B, hk, fun p r H' s' hp hr' => ⟨p, _, rfl, SqT.of hp, rfl, _, _, rfl, _, _, rfl, rfl, _, rfl, _, rfl, _, rfl, _, _, rfl, rfl, r, _, _, rfl, hr', kk H' s'⟩⟩
  ·exact ⟨_, rfl, C, _, _, f3, rfl, rfl, GD, rfl, _, rfl, f3, _, _, rfl, c3, _, rfl, _, rfl, m, k, a, b, rfl, ha, hm, hcr, B, hk, fun p r H' s' hp hr' => ⟨p, _, rfl, SqT.of hp, rfl, _, _, rfl, _, _, rfl, rfl, _, rfl, _, rfl, _, rfl, _, _, rfl, rfl, r, _, _, rfl, hr', kk H' s'⟩⟩
  ·exact ⟨_, rfl, C, _, _, f4, rfl, rfl, GD, rfl, _, rfl, f4, _, _, rfl, c4, _, rfl, _, rfl, m, k, a, b, rfl, ha, hm, hcr, B, hk, fun p r H' s' hp hr' => ⟨p, _, rfl, SqT.of hp, rfl, _, _, rfl, _, _, rfl, rfl, _, rfl, _, rfl, _, rfl, _, _, rfl, rfl, r, _, _, rfl, hr', kk H' s'⟩⟩
  ·exact ⟨_, rfl, C, _, _, f5, rfl, rfl, GD, rfl, _, rfl, f5, _, _, rfl, c5, _, rfl, _, rfl, m, k, a, b, rfl, ha, hm, hcr, B, hk, fun p r H' s' hp hr' => ⟨p, _, rfl, SqT.of hp, rfl, _, _, rfl, _, _, rfl, rfl, _, rfl, _, rfl, _, rfl, _, _, rfl, rfl, r, _, _, rfl, hr', kk H' s'⟩⟩
theorem sc__law_of : FnScope ["_law_spring", "_law_some"] ["_law_spring", "_law_some"] (defScope s__law_of) := ⟨rfl, rfl, rfl, by decide +kernel, rfl, by decide +kernel, by decide +kernel⟩
theorem ok__law_of {f : Addr} {fd : FuncData} (F : Fun K "_law_of" "_law_of" s__law_of f fd) (T : Top mg) (C_law_take : Cal P w K mg base 1 "_law_take" ["_law_spring", "_law_many"] spTakeS) : FnOk P w K mg base CX0 2 f fd ["_law_spring", "_law_some"] spOfW := by
 refine F.ok sc__law_of (fun vs H Q E h => ?_) (fun cdv A outer s H vs Q E hr h => ?_)
 ·obtain ⟨p, q, l, n, xs, rfl, _⟩ := h
  rfl
 ·obtain ⟨p, q, l, n, xs, rfl, sp, hn, hl, hlq, x0, x1, k⟩ := h
  refine ⟨_, (pss_one (ps_ret (pe_ix ix_list (pv 1) (pe_cal C_law_take (hr.mono (by decide)) rfl (pa_cons (pv 0) (pa_cons (pe_callB call_len_seq (by rfl) T.n_len PySem.boot_len (pa_cons (pv 1) pa_nil)) pa_nil))) (fun _ _ => rfl)))), ?_⟩
  have hlp : l ≠ p := by
   obtain ⟨ns, s', t, h1, h2, _⟩ := id sp
   exact ne_of hl h1 (by intro z; cases z)
  refine ⟨_, rfl, _, rfl, _, rfl, l, _, rfl, .inl (SqL.of hl), p, q, _, n, rfl, by (first | lia | omega), by (first | lia | omega), sp, by (first | lia | omega), fun d G d0 d1 sp' g => ?_⟩
  obtain ⟨x, hx, ex⟩ := atI_anyW (xs := xs) d0 d1
  exact ⟨l, _, _, _, rfl, rfl, SqL.of (g l _ hl hlp hlq), ex, k x G (List.mem_of_getElem? hx) sp' g⟩
theorem sc__law_kinds : FnScope [] [] (defScope s__law_kinds) := ⟨rfl, rfl, rfl, by decide +kernel, rfl, by decide +kernel, by decide +kernel⟩
theorem ok__law_kinds {f : Addr} {fd : FuncData} (F : Fun K "_law_kinds" "_law_kinds" s__law_kinds f fd) : FnOk P w K mg base CX0 1 f fd [] spKindsL := by
 refine F.ok sc__law_kinds (fun vs H Q E h => ?_) (fun cdv A outer s H vs Q E hr h => ?_)
 ·obtain ⟨rfl, _⟩ := h
  rfl
 ·obtain ⟨rfl, k⟩ := h
  refine ⟨_, (pss_one (ps_ret (pe_lst (pa_cons pe_str (pa_cons pe_str (pa_cons pe_str (pa_cons pe_str (pa_cons pe_str pa_nil)))))))), ?_⟩
  exact ⟨by show 5 <= sizeLine; decide, fun l hl => k l _ (same_upd hl) hl upd_same⟩
theorem sc__law_drawn_order : FnScope ["_law_spring", "_law_many", "_law_found", "_law_one"] ["_law_spring", "_law_many"] (defScope s__law_drawn_order) := ⟨rfl, rfl, rfl, by decide +kernel, rfl, by decide +kernel, by decide +kernel⟩
theorem ok__law_drawn_order {f : Addr} {fd : FuncData} (F : Fun K "_law_drawn_order" "_law_drawn_order" s__law_drawn_order f fd) (T : Top mg) (C_law_take : Cal P w K mg base 1 "_law_take" ["_law_spring", "_law_many"] spTakeS) : FnOk P w K mg base CX0 2 f fd ["_law_spring", "_law_many"] spDrawO := by
 refine F.ok sc__law_drawn_order (fun vs H Q E h => ?_) (fun cdv A outer s H vs Q E hr h => ?_)
 ·obtain ⟨p, q, m, n, rfl, _⟩ := h
  rfl
 ·obtain ⟨p, q, m, n, rfl, hm, sp, hn, k⟩ := h
  refine ⟨_, (pss_cons (ps_set (i := 2) sc__law_drawn_order.nd rfl (Or.inl rfl) (pe_lst pa_nil))
   (pss_cons (ps_for PassesOwn.never rfl (pi_range1 rfl T.n_range (pa_cons (pv 1) pa_nil)) (pg_name (i := 3) sc__law_drawn_order.nd rfl (Or.inl rfl))
    (pss_one (ps_expr (pe_bm PySem.F.plainAttrs_list PySem.F.slot_list_insert PySem.F.type_list_insert mt_insert (pv 2) (pa_cons (pe_cal C_law_take (hr.mono (by decide)) rfl (pa_cons (pv 0) (pa_cons (pe_op op_add (pv 3) pe_int) pa_nil))) (pa_cons (pv 3) pa_nil))))))
   (pss_one (ps_ret (pe_callTy call_tuple_of (by rfl) T.n_tuple boot_tuple (pa_cons (pv 2) pa_nil)))))), ?_⟩
  refine ⟨Nat.zero_le _, fun l hl => ?_⟩
  have hlp := sp.new hl
  refine ⟨_, rfl, (m : Int), rfl, by (first | lia | omega), by (first | lia | omega), ?_⟩
  rw [Int.toNat_natCast]
  refine for_range (n := m) (fun i σ H2 => ∃ (ys : List Int) (c : Option V), σ = [some (.ref p), some (.int m), some (.ref l), c] /\ ys.Perm (num0 i) /\ H2 l = some (.lst (ys.map V.int)) /\ Spring H2 p q (n + i) /\ Keep p q H H2) ⟨[], none, rfl, List.Perm.refl _, upd_same, sp.same (same_upd hl), (same_upd hl).keep⟩ ?_ ?_
  ·rintro i σ H2 hi ⟨ys, c, rfl, hp, hl2, sp2, k2⟩
   have hlen : ys.length = i := by rw [hp.length_eq, num0_len']
   refine ⟨_, rfl, .inl ⟨rfl, _, SqL.of hl2⟩, _, rfl, _, rfl, _, _, rfl, rfl, p, q, _, n + i, rfl, by (first | lia | omega), by (first | lia | omega), sp2, by (first | lia | omega), fun d H3 h0 h1 sp3 k3 => ?_⟩
   have hl3 : H3 l = some (.lst (ys.map V.int)) := k3 _ _ hl2 hlp.1 hlp.2
   refine ⟨_, rfl, l, _, d, _, rfl, rfl, hl3, h0, by rw [mapI_len]; (first | lia | omega), small1 (by rw [mapI_len]; (first | lia | omega)), ?_⟩
   refine ⟨ys.take d.toNat ++ (i : Int) :: ys.drop d.toNat, _, rfl, perm_insW hp _, ?_, sp3.lset hlp.1 hlp.2, fun b o hb h1 h2 => by rw [upd_ne (ne_of_none hb hl)]; exact (k2.trans k3) b o hb h1 h2⟩
   rw [upd_same, List.map_append, List.map_cons, List.map_take, List.map_drop, Int.zero_add]
  ·rintro σ H2 ⟨ys, c, rfl, hp, hl2, sp2, k2⟩
   refine ⟨_, rfl, l, _, rfl, .inl ⟨SqL.of hl2, fun t ht => ?_⟩⟩
   exact k t ys _ hp upd_same (sp2.same (same_upd ht)) (k2.trans (same_upd ht).keep)
end
end K44
namespace L2
open PySem PySem.Spec PyProof.Rows
noncomputable def lamOf : Expr -> Option (Arguments × Scope)
 | .Call _ (.Lambda p _ sc _ :: _) _ _ => some (p, sc)
 | _ => none
noncomputable def lamIn (st : Stmt) : Option (Arguments × Scope) := match (defBody st).getLast? with
 | some (.Return (some e) _) => lamOf e
 | _ => none
noncomputable def lamBody (st : Stmt) : Expr := match (defBody st).getLast? with
 | some (.Return (some (.Call _ (.Lambda _ b _ _ :: _) _ _)) _) => b
 | _ => .Name "" ⟨0, 0, 0, 0⟩
noncomputable def lamScope (st : Stmt) : Scope := match lamIn st with
 | some (_, sc) => sc
 | none => defScope st
noncomputable def lamPars (st : Stmt) : Arguments := match lamIn st with
 | some (p, _) => p
 | none => defArgs st
structure FunL (K : PySem.W.Frag) (x qual : Str) (st : Stmt) (f : Addr) (fd : FuncData) (c T : Addr) : Prop where
 ex : ∃ (oc : Value) (od : Option Addr) (kV doc pm : Value) (an : Option Addr) (ct : Value) (osl : Array (Option Value)),
  fd = PySem.W.fnOf x qual (defArgs st) (defBody st) (defScope st) .none kV doc pm an (.ref c) ct /\ K.lookup f = some ⟨oc, od, .func fd, osl⟩ /\ PySem.W.codeIn K (.ref c) qual = true
 kp : PySem.W.keepIn K (.ref f) = true
 cd : ∃ (od : Option Addr) (vs : Array Value) (osl : Array (Option Value)) (file : Str) (tf : Tok) (flags : Int) (tg : Tok) (inF : Bool) (text : Int) (tt : Tok),
  K.lookup c = some ⟨.type "code", od, .fields vs, osl⟩ /\ vs[11]? = some (.ref T) /\ vs.getD 11 .none = .ref T /\ vs.getD 18 .none = .str file tf /\ vs.getD 7 .none = .int flags tg /\ vs.getD 9 .none = .bool inF /\ vs.getD 10 .none = .int text tt /\ c ≠ T
theorem FunL.code {K : PySem.W.Frag} {x qual : Str} {st : Stmt} {f : Addr} {fd : FuncData} {c T : Addr} (F : FunL K x qual st f fd c T) : ∀ h : Heap, K.In h -> PySem.W.CodeHd h c T := fun h hk => by
 obtain ⟨od, vs, osl, file, tf, flags, tg, inF, text, tt, e, r⟩ := F.cd
 exact ⟨_, vs, file, tf, flags, tg, inF, text, tt, hk _ _ e, rfl, rfl, r⟩
section
variable {P : Program} {w : World} {K : PySem.W.Frag} {mg : Str -> Option Value} {base : Heap}
theorem FunL.ok {x qual : Str} {st : Stmt} {f : Addr} {fd : FuncData} {c T : Addr} {N ps : List Str} {k : Nat} {sp : Sp} (F : FunL K x qual st f fd c T) (S : FnScope N ps (defScope st)) (len : ∀ vs H Q E, sp vs H Q E -> vs.length = ps.length)
  (hbody : ∀ (A : Around) (outer : List Env) (s : Shared) (H : Hp) (vs : List V) (Q : VK) (E : XK), Room k (A.deeper (envOfC qual (defScope st) s.heap.objs.size f (.ref c))) -> sp vs H Q E ->
   ∃ t, PSs (cxOf CX0 P w K mg base N qual (defScope st) f (.ref c) A outer s H E).nox (defBody st) t /\ t { nx := fun _ H' => Q .non H', rt := Q } (start N vs) H) : FnOk P w K mg base CX0 (k + 1) f fd ps sp := by
 obtain ⟨oc, od, kV, doc, pm, an, ct, osl, rfl, lk, hcd⟩ := F.ex
 refine fn_of lk hcd S len fun A outer s H vs Q E hr hsp => ?_
 obtain ⟨t, h, q⟩ := hbody A outer s H vs Q E hr hsp
 exact ⟨t, h.nox, q⟩
end
noncomputable def SameB (T : Addr) (H H' : Hp) : Prop := ∀ b o, H b = some o -> b ≠ T -> H' b = some o
theorem TbOk.same {H H' : Hp} {T : Addr} {q : Str} {ps : Array Value} (h : TbOk H T q ps) (s : Same H H') : TbOk H' T q ps := ⟨s _ _ h.at_, h.tri, fun pos cv e => by obtain ⟨c, h1, h2⟩ := h.hit pos cv e; exact ⟨c, h1, s _ _ h2⟩⟩
theorem TbOk.start {H : Hp} {T : Addr} {q : Str} (h : H T = some (.tbl #[])) : TbOk H T q #[] := ⟨h, by show TriplesOk []; rw [TriplesOk.eq_1]; trivial, fun pos cv e => by
 rw [codeAmong.eq_2 pos [] (fun _ _ _ _ _ _ z => by cases z)] at e
 cases e⟩
end L2
namespace L2
open PySem PySem.Spec PyProof.Rows
noncomputable def spPlaceA (T : Addr) (q : Str) : Sp := fun vs H Q _ => ∃ (kd : Str) (a : Addr) (o : List Int) (m : Nat) (ps : Array Value), vs = [.str kd, .ref a] /\ kd ∈ kinds5 /\ m <= 24 /\ (kd = "crossed" -> m <= 12) /\ H a = some (.tup (o.map V.int)) /\ Ord m o /\ TbOk H T q ps /\
 ∀ ps' H', SameB T H H' -> TbOk H' T q ps' -> Q (.int ((List.range m).map fun i => plS (fun b => wayW kd m b (sureW kd m o)) o i).sum) H'
end L2
namespace K44
open PySem PySem.Spec PyProof.Rows L2
noncomputable abbrev s_place_among : Stmt := top 44
section
variable {P : Program} {w : World} {K : PySem.W.Frag} {mg : Str -> Option Value} {base : Heap}
noncomputable def qPlace : Str := "place_among" ++ ".<locals>." ++ "<lambda>"
theorem sc_place_among : FnScope ["kind", "order", "number"] ["kind", "order"] (defScope s_place_among) := ⟨rfl, rfl, rfl, by decide +kernel, rfl, by decide +kernel, by decide +kernel⟩
set_option maxHeartbeats 4000000 in
theorem ok_place_among {f c T : Addr} {fd : FuncData} (F : FunL K "place_among" "place_among" s_place_among f fd c T) (hB : base.BuiltinsAt mg T) (hT : mainGlobals ≠ T) (Tp : Top mg)
  (Ccount : Cal P w K mg base 5 "count" ["kind", "order"] spCountV)
  (CN : ∀ base', K.In base' -> base'.Ns mainGlobals mg -> Cal P w K mg base' 9 "place_by" ["ways", "order"] (spPlaceBy P w K mg base')) (CW : ∀ base', K.In base' -> base'.Ns mainGlobals mg -> Cal P w K mg base' 7 "ways_on" ["kind", "many", "begun", "number"] spWays) :
  FnOk P w K mg base CX0 10 f fd ["kind", "order"] (spPlaceA T qPlace) := by
 refine F.ok sc_place_among (fun vs H Q E h => ?_) (fun A outer s H vs Q E hr h => ?_)
 ·obtain ⟨kd, a, o, m, ps, rfl, _⟩ := h
  rfl
 ·obtain ⟨kd, a, o, m, ps, rfl, hkd, hm, hc, ha, ho, hTb, kk⟩ := h
  have hl := ho.len
  have hit : o ∈ iterA m [[]] m := by
   have := beg_iter ho m (Nat.le_refl m)
   rwa [List.take_of_length_le (by (first | lia | omega))] at this
  refine ⟨_, (pss_cons (ps_set (i := 2) sc_place_among.nd rfl (Or.inr rfl) (pe_cal Ccount (hr.mono (by decide)) rfl (pa_cons (pv 0) (pa_cons (pv 1) pa_nil))))
   (pss_one (ps_ret (pe_calN (kL := 7) (psL := ["begun"]) (fr := ["kind", "order", "number"]) (q := qPlace) (scope := lamScope s_place_among) (sc := defScope s_place_among) (params := lamPars s_place_among) (body := lamBody s_place_among) CN hr rfl ⟨by decide +kernel, rfl, by decide +kernel, by decide +kernel, by decide +kernel, rfl, rfl⟩ rfl (by decide +kernel) (fun _ => rfl) (fun clos pm c ct => binds1 fun _ => rfl)
   (pa_cons (pe_lam (q := qPlace) (scope := lamScope s_place_among) (params := lamPars s_place_among) (body := lamBody s_place_among) (sc := defScope s_place_among) rfl rfl rfl (by decide +kernel) rfl F.code hB hT) (pa_cons (pv 1) pa_nil)))))), ?_⟩
  refine ⟨_, rfl, _, rfl, kd, a, o, m, rfl, hkd, ha, ho, hm, fun Hc sc => ?_⟩
  have haC := sc _ _ ha
  have hTc := hTb.same sc
  refine ⟨ps, hTc, fun g c' clos ps' H1 hg0 hgT hgc hTb1 hg hc' old g1 g2 => ?_⟩
  have haT : a ≠ T := fun z => by rw [z, hTb.at_] at ha; cases ha
  have hag : a ≠ g := fun z => by rw [z, hg0] at haC; cases haC
  have ha1 : unt H1 g a = some (.tup (o.map V.int)) := by rw [unt_ne hag]; exact old _ _ haC haT
  refine ⟨_, rfl, ?_⟩
  refine ⟨g, c', clos, [.str kd, .ref a, .int (sureW kd m o)], spWy m (fun b => wayW kd m b (sureW kd m o)) c' qPlace (fun H => H a = some (.tup (o.map V.int))), hg, g1, g2, rfl, fun i x v h1 h2 => ?_, fun vs H Q E h => ?_, fun base' hk hnn A outer s H vs Q E hr' hsp => ?_, fun base' CL => ?_⟩
  ·exact fr3 ⟨0, rfl, rfl⟩ ⟨1, rfl, rfl⟩ ⟨2, rfl, rfl⟩ i x v h1 h2
  ·obtain ⟨k, a, b, rfl, _, _, _, hc, _, _⟩ := h
   exact ⟨rfl, hc⟩
  ·obtain ⟨k, b0, b, rfl, hb0, hkm, hb, hcd, haH, q'⟩ := hsp
   refine ⟨_, (pe_cal (CW base' hk hnn) hr' rfl (pa_cons (pv 1) (pa_cons (pe_callB call_len_seq (by rfl) Tp.n_len PySem.boot_len (pa_cons (pv 2) pa_nil)) (pa_cons (pv 0) (pa_cons (pv 3) pa_nil))))), ?_⟩
   refine ⟨_, rfl, _, rfl, a, _, rfl, .inr (SqT.of haH), ?_⟩
   rw [mapI_len, hl]
   exact ⟨_, rfl, _, rfl, kd, m, k, b0, b, _, rfl, hkd, hb0, hm, hc, (iter_beg m k).1 b hb, hkm, q'⟩
  ·have hcu : unt H1 g c' = some (cdP c' qPlace) := by rw [unt_ne (Ne.symm hgc)]; exact hc'
   have sB : ∀ {H' : Hp}, Same (unt H1 g) H' -> SameB T H H' := fun {H'} s' b o e n => s' b o (by rw [unt_ne fun z => by have e2 := sc _ _ e; rw [z, hg0] at e2; cases e2]; exact old b o (sc _ _ e) n)
   exact ⟨g, c', a, qPlace, m, o, fun b => wayW kd m b (sureW kd m o), fun H => H a = some (.tup (o.map V.int)), rfl, CL, fun H' s' => s' _ _ ha1, by (first | lia | omega), ha1, hit, hcu, fun H' s' => kk ps' H' (sB s') (hTb1.same s')⟩
end
end K44
namespace L2
open PySem PySem.Spec PyProof.Rows
noncomputable def spOwnC : Sp := fun vs H Q _ => ∃ (kind : Str) (a : Addr) (o : List Int) (m : Nat), vs = [.str kind, .ref a] /\ kind ∈ kinds5 /\ H a = some (.tup (o.map V.int)) /\ Ord m o /\ m <= 24 /\ ∀ H', Same H H' -> Q (.int (ownZ kind o)) H'
end L2
namespace L2
open PySem PySem.Spec PyProof.Rows
theorem lc_growTF {J : It} {Ok : Hp -> Prop} {xs : List V} {tt : TT} {te : TE} {ix : List Nat} {σ : L2.St} {H1 : Hp} {Q : VK} (Y : Yields J Ok xs) (small : xs.length < sizeLine) (p : V -> Bool) (R : V -> V -> Hp -> Prop) (hR : ∀ x v H H', SameT H H' -> R x v H -> R x v H') (hok : ∀ H, Same H1 H -> Ok H)
  (ht : ∀ x ∈ xs, ∀ H, Same H1 H -> ∀ Q' : Bool -> Hp -> Prop, (∀ H', Same H H' -> Q' (p x) H') -> tt (some x :: ix.map fun i => σ.getD i none) H Q')
  (he : ∀ x ∈ xs, p x = true -> ∀ H, Same H1 H -> ∀ Q' : VK, (∀ v H', Same H H' -> R x v H' -> Q' v H') -> te (some x :: ix.map fun i => σ.getD i none) H Q')
  (fin : ∀ acc ys H', H1 acc = none -> Same H1 H' -> H' acc = some (.lst ys) -> Paired (fun x v => R x v H') (xs.filter p) ys -> Q (.ref acc) H') :
  LcW J H1 (gName 0) tt te 1 ix σ Q := by
 intro acc ha
 refine ⟨fun i m H => m = xs.length - i /\ i <= xs.length /\ Same H1 H /\ ∃ ys, H acc = some (.lst ys) /\ Paired (fun x v => R x v H) ((xs.take i).filter p) ys, ⟨xs.length, by simp, Nat.zero_le _, same_upd ha, [], upd_same, .nil⟩, ?_⟩
 rintro i m H ⟨rfl, hi, sm, ys, hacc, pr⟩
 have o := hok _ sm
 have hlen : ys.length <= i := by
  rw [<- Paired.length pr]
  exact Nat.le_trans (List.length_filter_le _ _) (by rw [List.length_take]; (first | lia | omega))
 by_cases hlt : i < xs.length
 ·refine .inr ⟨Y.go i _ o hlt, fun x H' y => ?_⟩
  obtain ⟨rfl, hx⟩ := Y.yld i _ x H' o hlt y
  have hmem : x ∈ xs := List.mem_of_getElem? hx
  have htk : xs.take (i + 1) = xs.take i ++ [x] := by
   rw [List.take_succ, hx]; rfl
  refine ⟨⟨rfl, fun j v e => ?_⟩, ?_⟩
  ·cases j with
   | zero => cases e
   | succ j => exact e
  ·refine ht x hmem _ sm _ fun H3 s3 => ?_
   have sm := sm.trans s3
   have hacc := s3 _ _ hacc
   have pr := Paired.mapP pr fun x' v' r' => hR _ _ _ _ s3.t r'
   cases hp : p x with
   | false =>
    rw [if_neg Bool.false_ne_true]
    refine ⟨xs.length - (i + 1), by (first | lia | omega), rfl, hlt, sm, ys, hacc, ?_⟩
    rw [htk, List.filter_append]
    simpa [hp] using pr
   | true =>
    rw [if_pos rfl]
    refine he x hmem hp _ sm _ fun v H4 s4 r4 => ?_
    have h4 : H4 acc = some (.lst ys) := s4 _ _ hacc
    refine ⟨ys, h4, by (first | lia | omega), xs.length - (i + 1), by (first | lia | omega), rfl, hlt, same_updR (sm.trans s4) ha, ys ++ [v], upd_same, ?_⟩
    have st : SameT H4 (upd H4 acc (.lst (ys ++ [v]))) := sameT_lst h4
    rw [htk, List.filter_append, show [x].filter p = [x] by simp [hp]]
    exact Paired.snoc (Paired.mapP pr fun x' v' r' => hR _ _ _ _ (s4.t.trans st) r') (hR _ _ _ _ st r4)
 ·have e : i = xs.length := by (first | lia | omega)
  subst e
  refine .inl ⟨Y.stop _ o, ?_⟩
  rw [List.take_length] at pr
  exact fin acc ys H ha sm hacc pr
end L2
namespace L2
open PySem PySem.Spec PyProof.Rows
noncomputable def zscopeW (sc : Scope) (N : List Str) (scope : Scope) (N' : List Str) (n : Nat) (ix : List Nat) (z : Str) : Bool :=
 scope.kind == .function && scope.names.all (fun y => y.2 != .cell || y.1 == z) && scope.names.all (fun y => y.2 != .free || y.1 != z) && scope.names.all (fun y => y.2 != .local || scope.names.lookup y.1 == some .local) &&
 scope.names.all (fun y => y.2 != .free || (sc.names.lookup y.1 == some .cell || sc.names.lookup y.1 == some .free)) && scope.names.all (fun y => y.2 != .free || scope.names.lookup y.1 != some .local) &&
 N'.length == n + ix.length && (List.range ix.length).all fun j => match ix[j]?, N'[n + j]? with
  | some i, some x => N[i]? == some x && scope.names.contains (x, .free)
  | _, _ => false
theorem CompScopeZ.ofW {X : Cx} {sc : Scope} {N : List Str} {scope : Scope} {N' : List Str} {n : Nat} {ix : List Nat} {z : Str} (h : zscopeW sc N scope N' n ix z = true) (hs : X.env.scope = sc) (hN : X.N = N) (hcf : ∀ (a : Addr) (cl : List (Str × Addr)), cellsFrom a scope.names cl = (z, a) :: cl)
  (hpc : ∀ h : Heap, pushCells h scope.names = h.push { cls := .type "cell", data := .cell none }) : CompScopeZ X scope N' n ix z := by
 unfold zscopeW at h
 simp only [Bool.and_eq_true, List.all_eq_true] at h
 obtain ⟨⟨⟨⟨⟨⟨⟨h1, h2⟩, h2'⟩, h3⟩, h4⟩, h5⟩, h6⟩, h7⟩ := h
 subst hs hN
 refine ⟨eq_of_beq h1, fun y hy hc => ?_, fun y hy => ?_, hcf, hpc, fun y hy hl => ?_, fun y hy hf => ?_, fun y hy hl => ?_, eq_of_beq h6, fun j i e => ?_⟩
 ·have := h2 y hy
  rw [hc] at this
  simpa using this
 ·have := h2' _ hy
  simpa using this
 ·have := h3 y hy
  rw [hl] at this
  simpa using this
 ·have := h4 y hy
  rw [hf] at this
  simpa using this
 ·have := h5 _ hy
  rw [hl] at this
  simp at this
 ·have hj : j < ix.length := (List.getElem?_eq_some_iff.mp e).1
  have := h7 j (List.mem_range.mpr hj)
  rw [e] at this
  cases hx : N'[n + j]? with
  | none => rw [hx] at this; simp at this
  | some x =>
   rw [hx] at this
   simp only [Bool.and_eq_true] at this
   exact ⟨x, rfl, eq_of_beq this.1, by simpa using this.2⟩
theorem num0_succW (m : Nat) : num0 (m + 1) = num0 m ++ [(m : Int)] := by
 unfold num0
 rw [List.range_succ, List.map_append]
 rfl
theorem cnt_sumR (p : Int -> Bool) : ∀ m : Nat, (((num0 m).filter p).length : Int) = sumR m fun k => if p (k : Int) = true then 1 else 0
 | 0 => rfl
 | m + 1 => by
  rw [num0_succW, List.filter_append, List.length_append, sumR_succ, <- cnt_sumR p m]
  push_cast
  congr 1
  by_cases h : p (m : Int) = true
  ·rw [if_pos h, List.filter_cons_of_pos h]; rfl
  ·rw [if_neg h, List.filter_cons_of_neg h]; rfl
theorem flenI {zs : List Int} {p : V -> Bool} {q : Int -> Bool} (h : ∀ n, p (.int n) = q n) : ((((zs.map V.int).filter p).map id).length : Int) = ((zs.filter q).length : Int) := by
 rw [List.map_id, List.filter_map, List.length_map]
 congr 2
 exact List.filter_congr fun n _ => h n
theorem num0_drop1 (m : Nat) : (num0 m).drop 1 = (num0 (m - 1)).map (· + 1) := by
 unfold num0
 cases m with
 | zero => rfl
 | succ m =>
  rw [List.range_succ_eq_map, List.map_cons, List.drop_succ_cons, List.drop_zero, List.map_map, List.map_map]
  rfl
theorem take_num0 {o : List Int} {k : Nat} (h : k <= o.length) : o.take k = (num0 k).map (atO o) := by
 refine List.ext_getElem ?_ fun j h1 h2 => ?_
 ·rw [List.length_take, List.length_map]
  unfold num0
  rw [List.length_map, List.length_range]
  (first | lia | omega)
 ·rw [List.getElem_take, List.getElem_map]
  unfold num0 atO
  rw [List.getElem_map, List.getElem_range, Int.toNat_natCast, List.getD_eq_getElem?_getD, List.getElem?_eq_getElem]
  rfl
noncomputable def lvO : Option Int -> V
 | none => .non
 | some x => .int x
noncomputable def somes (l : List (Option Int)) : Nat := (l.filter fun x => x.isSome).length
noncomputable def Inl (m : Nat) (l : List (Option Int)) : Prop := l.length = m /\ ∀ (j : Nat) (x : Int), l[j]? = some (some x) -> 0 <= x /\ x < (m : Int)
theorem Inl.set {m : Nat} {l : List (Option Int)} (h : Inl m l) (j : Nat) : Inl m (l.set j none) := by
 refine ⟨by rw [List.length_set]; exact h.1, fun i x e => ?_⟩
 by_cases c : j = i
 ·subst c
  by_cases hj : j < l.length
  ·rw [List.getElem?_set_self hj] at e
   cases e
  ·rw [List.getElem?_eq_none (by rw [List.length_set]; (first | lia | omega))] at e
   cases e
 ·rw [List.getElem?_set_ne c] at e
  exact h.2 i x e
theorem somes_set : ∀ {l : List (Option Int)} {j : Nat} {x : Int}, l[j]? = some (some x) -> somes (l.set j none) + 1 = somes l
 | [], _, _, h => by simp at h
 | a :: t, 0, x, h => by
  cases (show a = some x by simpa using h)
  rfl
 | a :: t, j + 1, x, h => by
  have ih := somes_set (l := t) (j := j) (x := x) (by simpa using h)
  rw [List.set_cons_succ]
  unfold somes at ih ⊢
  cases a with
  | none => exact ih
  | some y =>
   rw [List.filter_cons_of_pos rfl, List.filter_cons_of_pos rfl, List.length_cons, List.length_cons, <- ih]
theorem lv_at {l : List (Option Int)} {h : Int} (h0 : 0 <= h) (h1 : h < (l.length : Int)) : atI (l.map lvO) h = some (lvO (l.getD h.toNat none)) := by
 obtain ⟨j, rfl⟩ : ∃ j : Nat, h = (j : Int) := ⟨h.toNat, by (first | lia | omega)⟩
 have hj : j < l.length := by (first | lia | omega)
 refine atI_nat ?_
 rw [List.getElem?_map, List.getElem?_eq_getElem hj, Int.toNat_natCast, List.getD_eq_getElem?_getD, List.getElem?_eq_getElem hj]
 rfl
theorem lv_set {l : List (Option Int)} (j : Nat) : (l.map lvO).set j .non = (l.set j none).map lvO := by
 rw [List.map_set]
 rfl
theorem lv_non {x : Option Int} : decide (lvO x = V.non) = !x.isSome := by
 cases x <;> rfl
theorem getD_some {l : List (Option Int)} {j : Nat} {x : Int} (h : l.getD j none = some x) : l[j]? = some (some x) := by
 rw [List.getD_eq_getElem?_getD] at h
 cases e : l[j]? with
 | none => rw [e] at h; cases h
 | some y => rw [e] at h; cases h; rfl
theorem rnd_none {l : List (Option Int)} {c : Int} {u k : Nat} (h : l.getD k none = none) : rndG l c (u + 1) k = rndG l c u (k + 1) := by
 conv => lhs; unfold rndG
 rw [h]
theorem rnd_some {l : List (Option Int)} {c : Int} {u k : Nat} {x : Int} (h : l.getD k none = some x) : rndG l c (u + 1) k = rndG (visG l (l.length + 1) (k : Int)) (c + 1) u (k + 1) := by
 conv => lhs; unfold rndG
 rw [h]
theorem vis_none {l : List (Option Int)} {u : Nat} {h : Int} (e : l.getD h.toNat none = none) : visG l (u + 1) h = l := by
 unfold visG
 rw [e]
theorem vis_some {l : List (Option Int)} {u : Nat} {h x : Int} (e : l.getD h.toNat none = some x) : visG l (u + 1) h = visG (l.set h.toNat none) u x := by
 conv => lhs; unfold visG
 rw [e]
theorem no_strW {a b : Str} {A : Prop} (hc : decide (V.str a = V.str b) = true) (h : a ≠ b) : A := by
 have := of_decide_eq_true hc
 injection this with z
 exact absurd z h
end L2
namespace K44
open PySem PySem.Spec PyProof.Rows L2
noncomputable abbrev s__law_own_count : Stmt := top 50
section
variable {P : Program} {w : World} {K : PySem.W.Frag} {mg : Str -> Option Value} {base : Heap}
theorem sc__law_own_count : FnScope ["_law_kind", "_law_order", "_law_places", "_law_left", "_law_many", "_law_k", "_law_here"] ["_law_kind", "_law_order"] (defScope s__law_own_count) := ⟨rfl, rfl, rfl, by decide +kernel, rfl, by decide +kernel, by decide +kernel⟩
set_option maxHeartbeats 8000000 in
theorem ok__law_own_count {f : Addr} {fd : FuncData} (F : Fun K "_law_own_count" "_law_own_count" s__law_own_count f fd) (T : Top mg) : FnOk P w K mg base CX0 2 f fd ["_law_kind", "_law_order"] spOwnC := by
 refine F.ok sc__law_own_count (fun vs H Q E h => ?_) (fun cdv A outer s H vs Q E hr h => ?_)
 ·obtain ⟨kind, a, o, m, rfl, _⟩ := h
  rfl
 ·obtain ⟨kind, a, o, m, rfl, hkd, ha, hO, hm, kk⟩ := h
  have ln := hO.len
  refine ⟨_, (pss_cons (ps_set (i := 2) sc__law_own_count.nd rfl (Or.inl rfl) (pe_callTy (call_list_rng rfl) (by rfl) T.n_list boot_list (pa_cons (pe_callTy call_range1 (by rfl) T.n_range boot_range (pa_cons (pe_callB call_len_seq (by rfl) T.n_len PySem.boot_len (pa_cons (pv 1) pa_nil)) pa_nil)) pa_nil)))
   (pss_cons (ps_if (pt_cmpR op_eq (pv 0) pe_str (nomark _))
    (pss_one (ps_ret (pe_callB call_len_seq (by rfl) T.n_len PySem.boot_len (pa_cons (pe_lc (N' := ["_law_k", "_law_order"]) (n := 1) (ix := [1]) rfl (CompScope.of (sc := defScope s__law_own_count) (N := ["_law_kind", "_law_order", "_law_places", "_law_left", "_law_many", "_law_k", "_law_here"]) (by decide +kernel) rfl rfl) (pi_list (pv 2)) (fun _ _ _ _ _ => ⟨(pg_name (i := 0) (show (["_law_k", "_law_order"] : List Str).Nodup by decide +kernel) rfl (Or.inl rfl)), (pts_one (pt_cmpR op_eq (pe_ix (ix_tupK K rfl) (pv 1) (pv 0) (fun _ _ => rfl)) (pv 0) (nomark _))), (pv 0)⟩)) pa_nil))))
    pss_nil)
   (pss_cons (ps_if (pt_cmpR op_eq (pv 0) pe_str (nomark _))
    (pss_one (ps_ret (pe_callB call_len_seq (by rfl) T.n_len PySem.boot_len (pa_cons (pe_lc (N' := ["_law_k", "_law_order"]) (n := 1) (ix := [1]) rfl (CompScope.of (sc := defScope s__law_own_count) (N := ["_law_kind", "_law_order", "_law_places", "_law_left", "_law_many", "_law_k", "_law_here"]) (by decide +kernel) rfl rfl) (pi_list (pe_slice sl_list (pv 2) (po_some pe_int) po_none)) (fun _ _ _ _ _ => ⟨(pg_name (i := 0) (show (["_law_k", "_law_order"] : List Str).Nodup by decide +kernel) rfl (Or.inl rfl)), (pts_one (pt_cmpR op_lt (pe_ix (ix_tupK K rfl) (pv 1) (pe_op op_sub (pv 0) pe_int) (fun _ _ => rfl)) (pe_ix (ix_tupK K rfl) (pv 1) (pv 0) (fun _ _ => rfl)) (nomark _))), (pv 0)⟩)) pa_nil))))
    pss_nil)
   (pss_cons (ps_if (pt_cmpR op_eq (pv 0) pe_str (nomark _))
    (pss_one (ps_ret (pe_callB call_len_seq (by rfl) T.n_len PySem.boot_len (pa_cons (pe_lc (N' := ["_law_k", "_law_order"]) (n := 1) (ix := [1]) rfl (CompScope.of (sc := defScope s__law_own_count) (N := ["_law_kind", "_law_order", "_law_places", "_law_left", "_law_many", "_law_k", "_law_here"]) (by decide +kernel) rfl rfl) (pi_list (pv 2)) (fun _ _ _ _ _ => ⟨(pg_name (i := 0) (show (["_law_k", "_law_order"] : List Str).Nodup by decide +kernel) rfl (Or.inl rfl)), (pts_one (pt_cmpR op_eq (pe_ix (ix_tupK K rfl) (pv 1) (pv 0) (fun _ _ => rfl)) (pe_callB (call_maxT rfl) (by rfl) T.n_max boot_max (pa_cons (pe_slice sl_tupA (pv 1) po_none (po_some (pe_op op_add (pv 0) pe_int))) pa_nil)) (nomark _))), (pv 0)⟩)) pa_nil))))
    pss_nil)
   (pss_cons (ps_if (pt_cmpR op_eq (pv 0) pe_str (nomark _))
    (pss_one (ps_ret (pe_callB (call_sumL rfl) (by rfl) T.n_sum boot_sum (pa_cons (pe_lcZ (z := "_law_k") (N' := ["_law_k", "_law_order"]) (n := 1) (ix := [1]) rfl (CompScopeZ.ofW (sc := defScope s__law_own_count) (N := ["_law_kind", "_law_order", "_law_places", "_law_left", "_law_many", "_law_k", "_law_here"]) (by decide +kernel) rfl rfl (fun _ _ => rfl) (fun _ => rfl)) (pi_list (pv 2)) (fun _ _ _ _ _ _ => ⟨(pg_name (i := 0) (show (["_law_k", "_law_order"] : List Str).Nodup by decide +kernel) rfl (Or.inr rfl) (Or.inl rfl)), pts_nil, (pe_callB (call_len_seqW K rfl) (by rfl) T.n_len PySem.boot_len (pa_cons (pe_lc (N' := ["_law_j", "_law_order", "_law_k"]) (n := 1) (ix := [1, 0]) rfl (CompScope.of (N := ["_law_k", "_law_order"]) rfl rfl rfl) (pi_range1 rfl T.n_range (pa_cons (pv 0) pa_nil)) (fun _ _ _ _ _ => ⟨(pg_name (i := 0) (show (["_law_j", "_law_order", "_law_k"] : List Str).Nodup by decide +kernel) rfl (Or.inl rfl)), (pts_one (pt_cmpR op_gt (pe_ix (ix_tupK K rfl) (pv 1) (pv 0) (fun _ _ => rfl)) (pe_ix (ix_tupK K rfl) (pv 1) (pv 2) (fun _ _ => rfl)) (nomark _))), (pv 0)⟩)) pa_nil))⟩)) pa_nil))))
    pss_nil)
   (pss_cons (ps_par (i := 3) (j := 4) rfl sc__law_own_count.nd rfl rfl (by decide) rfl rfl (pa_cons (pe_callTy call_list_of (by rfl) T.n_list boot_list (pa_cons (pv 1) pa_nil)) (pa_cons pe_int pa_nil)) rfl)
   (pss_cons (ps_for PassesOwn.never rfl (pi_list (pv 2)) (pg_name (i := 5) sc__law_own_count.nd rfl (Or.inl rfl))
    (pss_one (ps_if (pt_cmpR op_notN (pe_ix ix_list (pv 3) (pv 5) (fun _ _ => rfl)) pe_non (nomark _))
     (pss_cons (ps_par (i := 4) (j := 6) rfl sc__law_own_count.nd rfl rfl (by decide) rfl rfl (pa_cons (pe_op op_add (pv 4) pe_int) (pa_cons (pv 5) pa_nil)) rfl)
     (pss_one (ps_while PassesOwn.never (pt_cmpR op_notN (pe_ix ix_list (pv 3) (pv 6) (fun _ _ => rfl)) pe_non (nomark _))
      (pss_one (ps_asg (pe_tup (pa_cons pe_non (pa_cons (pe_ix ix_list (pv 3) (pv 6) (fun _ _ => rfl)) pa_nil))) (pg_tup rfl (pgs_cons (pg_sub (pv 3) (pv 6) set_list) (pgs_cons (pg_name (i := 6) sc__law_own_count.nd rfl (Or.inl rfl) (Or.inl rfl)) pgs_nil))))))))
     pss_nil)))
   (pss_one (ps_ret (pv 4)))))))))), ?_⟩
  refine ⟨_, rfl, a, _, rfl, .inr (SqT.of ha), _, rfl, fun q hq => ⟨q, _, rfl, upd_same, by (first | lia | omega), by rw [mapI_len]; (first | lia | omega), fun L hL => ?_⟩⟩
  rw [mapI_len, ln] at hL
  rw [mapI_len, ln, Int.toNat_natCast, rangeV_num0]
  have s1 := (same_upd (o := .rng 0 (m : Int)) hq).trans (same_upd (o := .lst ((num0 m).map V.int)) hL)
  have hL1 := @upd_same (upd H q (.rng 0 (m : Int))) L (.lst ((num0 m).map V.int))
  have ha1 := s1 _ _ ha
  generalize upd (upd H q (.rng 0 (m : Int))) L (.lst ((num0 m).map V.int)) = G at s1 hL1 ha1 ⊢
  clear hL hq
  have ln0 : (num0 m).length = m := by unfold num0; rw [List.length_map, List.length_range]
  have mem0 : ∀ {n : Int}, n ∈ num0 m -> 0 <= n /\ n < (m : Int) := fun {n} hn => by
   obtain ⟨j, hj, rfl⟩ := List.mem_map.mp hn
   have := List.mem_range.mp hj
   (first | lia | omega)
  have step : ∀ {b : Str} {A B : Prop}, (kind = b -> A) -> (kind ≠ b -> B) -> if decide (V.str kind = V.str b) = true then A else B := fun {b A B} h1 h2 => by
   by_cases e : kind = b
   ·rw [if_pos (by rw [e]; exact decide_eq_true rfl)]
    exact h1 e
   ·rw [if_neg fun z => no_strW z e]
    exact h2 e
  have fin : ∀ {b : Str} {c : Int}, kind = b -> ownZ b o = c -> ∀ H', Same G H' -> Q (.int c) H' := fun {b c} e ec H' s' => by
   rw [<- ec, <- e]
   exact kk H' (s1.trans s')
  refine ⟨_, rfl, rfl, _, rfl, step (fun e => ?_) fun n1 => ?_⟩
  ·-- stays
   refine ⟨_, rfl, L, rfl, ⟨_, SqL.of hL1⟩, ?_⟩
   refine lc_pure (yields_list (K := K) (a := L) (xs := (num0 m).map V.int)) (small1 (by rw [mapI_len]; (first | lia | omega))) (fun v => match v with | .int n => decide (atO o n = n) | _ => false) id (fun G' sm => SqL.of (sm _ _ hL1)) (fun x hx G' s' Q' q' => ?_) (fun x hx _ G' s' Q' q' => ⟨_, rfl, q'⟩) fun acc hacc => ?_
   ·obtain ⟨n, hn, rfl⟩ := List.mem_map.mp hx
    obtain ⟨n0, n1⟩ := mem0 hn
    refine ⟨_, rfl, _, rfl, a, _, _, _, rfl, rfl, SqT.of (s' _ _ ha1), at_getD n0 (by (first | lia | omega)), _, rfl, rfl, _, rfl, ?_⟩
    rw [dec_int]
    have : (o.getD n.toNat 0 == n) = decide (atO o n = n) := by
     unfold atO
     by_cases c : o.getD n.toNat 0 = n
     ·rw [decide_eq_true c]; exact beq_iff_eq.mpr c
     ·rw [decide_eq_false c]; exact beq_eq_false_iff_ne.mpr c
    rw [this]
    exact q'
   ·refine ⟨acc, _, rfl, .inl (SqL.of upd_same), ?_⟩
    rw [flenI (q := fun n => decide (atO o n = n)) fun _ => rfl, cnt_sumR]
    refine fin e ?_ _ (same_upd hacc)
    show staysO o = _
    unfold staysO
    rw [ln]
    congr 1
    funext k
    by_cases c : atO o k = k
    ·rw [if_pos c, if_pos (decide_eq_true c)]
    ·rw [if_neg c, if_neg fun z => c (of_decide_eq_true z)]
  refine ⟨_, rfl, rfl, _, rfl, step (fun e => ?_) fun n2 => ?_⟩
  ·-- rises
   refine ⟨_, rfl, _, rfl, L, _, rfl, SqL.of hL1, fun L2 hL2 => ?_⟩
   rw [cut_tail, num0_drop1]
   have s2 := same_upd (o := .lst (((num0 (m - 1)).map (· + 1)).map V.int)) hL2
   have h2 := @upd_same G L2 (.lst (((num0 (m - 1)).map (· + 1)).map V.int))
   generalize upd G L2 (.lst (((num0 (m - 1)).map (· + 1)).map V.int)) = G2 at s2 h2 ⊢
   have ln2 : (num0 (m - 1)).length = m - 1 := by unfold num0; rw [List.length_map, List.length_range]
   refine ⟨L2, rfl, ⟨_, SqL.of h2⟩, ?_⟩
   refine lc_pure (yields_list (K := K) (a := L2) (xs := ((num0 (m - 1)).map (· + 1)).map V.int)) (small1 (by rw [mapI_len, List.length_map]; (first | lia | omega))) (fun v => match v with | .int n => decide (atO o (n - 1) < atO o n) | _ => false) id (fun G' sm => SqL.of (sm _ _ h2)) (fun x hx G' s' Q' q' => ?_) (fun x hx _ G' s' Q' q' => ⟨_, rfl, q'⟩) fun acc hacc => ?_
   ·obtain ⟨n, hn, rfl⟩ := List.mem_map.mp hx
    obtain ⟨n', hn', rfl⟩ := List.mem_map.mp hn
    obtain ⟨j, hj, rfl⟩ := List.mem_map.mp hn'
    have hj' := List.mem_range.mp hj
    exact ⟨_, rfl, _, rfl, _, _, rfl, rfl, a, _, _, _, rfl, rfl, SqT.of (s' _ _ (s2 _ _ ha1)), at_getD (by (first | lia | omega)) (by (first | lia | omega)), _, rfl, _, rfl, a, _, _, _, rfl, rfl, SqT.of (s' _ _ (s2 _ _ ha1)), at_getD (by (first | lia | omega)) (by (first | lia | omega)), _, _, rfl, rfl, _, rfl, q'⟩
   ·refine ⟨acc, _, rfl, .inl (SqL.of upd_same), ?_⟩
    rw [flenI (q := fun n => decide (atO o (n - 1) < atO o n)) fun _ => rfl, List.filter_map, List.length_map, cnt_sumR]
    refine fin e ?_ _ (s2.trans (same_upd hacc))
    show risesO o = _
    unfold risesO
    rw [ln]
    congr 1
    funext k
    show _ = if decide (atO o ((k : Int) + 1 - 1) < atO o ((k : Int) + 1)) = true then 1 else 0
    rw [show (k : Int) + 1 - 1 = (k : Int) by (first | lia | omega), show (k : Int) + 1 = ((k + 1 : Nat) : Int) by (first | lia | omega)]
    by_cases c : atO o k < atO o ((k + 1 : Nat) : Int)
    ·rw [if_pos c, if_pos (decide_eq_true c)]
    ·rw [if_neg c, if_neg fun z => c (of_decide_eq_true z)]
  refine ⟨_, rfl, rfl, _, rfl, step (fun e => ?_) fun n3 => ?_⟩
  ·-- highs
   refine ⟨_, rfl, L, rfl, ⟨_, SqL.of hL1⟩, ?_⟩
   refine lc_growTF (yields_list (K := K) (a := L) (xs := (num0 m).map V.int)) (small1 (by rw [mapI_len]; (first | lia | omega))) (fun v => match v with | .int z => (o.take (z.toNat + 1)).all (fun b => decide (b <= atO o z)) | _ => false) (fun x v _ => v = x) (fun _ _ _ _ _ h => h) (fun G' sm => SqL.of (sm _ _ hL1)) (fun x hx G' s' Q' q' => ?_) (fun x hx _ G' s' Q' q' => ⟨_, rfl, q' _ _ (Same.refl G') rfl⟩) fun acc ys G2 hacc s2 hys pr => ?_
   ·obtain ⟨z, hz, rfl⟩ := List.mem_map.mp hx
    obtain ⟨z0, z1⟩ := mem0 hz
    refine ⟨_, rfl, _, rfl, a, _, _, _, rfl, rfl, SqT.of (s' _ _ ha1), at_getD z0 (by (first | lia | omega)), _, rfl, _, rfl, _, _, rfl, rfl, _, rfl, a, _, rfl, s' _ _ ha1, fun b G3 s3 hb => ?_⟩
    have ez : z + 1 = ((z.toNat + 1 : Nat) : Int) := by (first | lia | omega)
    rw [ez, cut_to (by (first | lia | omega))] at hb
    have hat : atO o z ∈ o.take (z.toNat + 1) := by
     rw [List.mem_take_iff_getElem]
     refine ⟨z.toNat, by (first | lia | omega), ?_⟩
     unfold atO
     rw [List.getD_eq_getElem?_getD, List.getElem?_eq_getElem (by (first | lia | omega))]
     rfl
    refine ⟨b, _, rfl, hb, List.ne_nil_of_mem hat, fun M hM1 hM2 => ⟨rfl, _, rfl, ?_⟩⟩
    have e2 : decide (V.int (o.getD z.toNat 0) = V.int M) = (o.take (z.toNat + 1)).all (fun b => decide (b <= atO o z)) := by
     rw [dec_int]
     by_cases h : atO o z = M
     ·rw [show (o.getD z.toNat 0 == M) = true from beq_iff_eq.mpr h]
      symm
      rw [List.all_eq_true]
      intro c hc
      have := hM2 c hc
      simp
      (first | lia | omega)
     ·rw [show (o.getD z.toNat 0 == M) = false from beq_eq_false_iff_ne.mpr h]
      symm
      rw [List.all_eq_false]
      refine ⟨M, hM1, ?_⟩
      have h2 := hM2 _ hat
      simp
      (first | lia | omega)
    rw [e2]
    exact q' G3 s3
   ·rw [paired_self pr] at hys
    refine ⟨acc, _, rfl, .inl (SqL.of hys), ?_⟩
    have eL : ((((num0 m).map V.int).filter fun v => match v with | .int z => (o.take (z.toNat + 1)).all (fun b => decide (b <= atO o z)) | _ => false).length : Int) = highsO o := by
     have := flenI (zs := num0 m) (p := fun v => match v with | .int z => (o.take (z.toNat + 1)).all (fun b => decide (b <= atO o z)) | _ => false) (q := fun z => (o.take (z.toNat + 1)).all (fun b => decide (b <= atO o z))) fun _ => rfl
     rw [List.map_id] at this
     rw [this, cnt_sumR]
     unfold highsO
     rw [ln]
     rfl
    rw [eL]
    exact fin e rfl _ s2
  refine ⟨_, rfl, rfl, _, rfl, step (fun e => ?_) fun n4 => ?_⟩
  ·-- crossed
   refine ⟨_, rfl, L, rfl, ⟨_, SqL.of hL1⟩, ?_⟩
   refine lc_grow (yields_list (K := K) (a := L) (xs := (num0 m).map V.int)) (small1 (by rw [mapI_len]; (first | lia | omega))) (fun x v _ => ∃ z : Int, x = .int z /\ v = .int (((o.take z.toNat).filter fun b => decide (atO o z < b)).length : Int)) (fun _ _ _ _ _ h => h) (fun G' sm => SqL.of (sm _ _ hL1)) (fun x hx G' s' Q' q' => ?_) fun acc ys G2 hacc s2 hys pr => ?_
   ·obtain ⟨z, hz, rfl⟩ := List.mem_map.mp hx
    obtain ⟨z0, z1⟩ := mem0 hz
    refine ⟨_, rfl, _, rfl, by (first | lia | omega), by (first | lia | omega), ?_⟩
    refine lc_pure (yields_range (lo := 0) (n := z.toNat)) (small1 (by rw [rangeV_len]; (first | lia | omega))) (fun v => match v with | .int c => decide (atO o z < atO o c) | _ => false) id (fun _ _ => trivial) (fun y hy G2 s2 Q2 q2 => ?_) (fun y hy _ G2 s2 Q2 q2 => ⟨_, rfl, q2⟩) fun acc hacc => ?_
    ·obtain ⟨c, rfl, c0, c1⟩ := mem_rangeV hy
     exact ⟨_, rfl, _, rfl, a, _, _, _, rfl, rfl, SqT.of (s2 _ _ (s' _ _ ha1)), at_getD c0 (by (first | lia | omega)), _, rfl, _, rfl, a, _, _, _, rfl, rfl, SqT.of (s2 _ _ (s' _ _ ha1)), at_getD z0 (by (first | lia | omega)), _, _, rfl, rfl, _, rfl, q2⟩
    ·refine ⟨acc, _, rfl, .inl (SqL.of upd_same), ?_⟩
     rw [rangeV_num0, flenI (q := fun c => decide (atO o z < atO o c)) fun _ => rfl]
     refine q' _ _ (same_upd hacc) ⟨z, rfl, ?_⟩
     rw [take_num0 (show z.toNat <= o.length by (first | lia | omega)), List.filter_map, List.length_map]
     rfl
   ·have key : ∀ {zs : List Int} {ys : List V}, Paired (fun x v => ∃ z : Int, x = V.int z /\ v = V.int (((o.take z.toNat).filter fun b => decide (atO o z < b)).length : Int)) (zs.map V.int) ys -> ys = (zs.map fun z => (((o.take z.toNat).filter fun b => decide (atO o z < b)).length : Int)).map V.int := fun {zs} => by
     induction zs with
     | nil => intro ys h; cases h; rfl
     | cons z t ih =>
      intro ys h
      cases h with
      | cons r t' =>
       obtain ⟨z', e1, rfl⟩ := r
       cases e1
       rw [ih t']
       rfl
    rw [key pr] at hys
    refine ⟨acc, _, rfl, hys, ?_⟩
    rw [sumR_num0]
    refine fin e ?_ _ s2
    show crossedO o = _
    unfold crossedO
    rw [ln]
    rfl
  have eR : kind = "rounds" := by
   rcases kinds5_cases hkd with h | h | h | h | h
   ·exact h
   ·exact absurd h n1
   ·exact absurd h n2
   ·exact absurd h n3
   ·exact absurd h n4
  refine ⟨_, rfl, a, _, rfl, .inr (SqT.of ha1), fun M hM => ?_⟩
  have e0 : o.map V.int = (o.map some).map lvO := by rw [List.map_map]; rfl
  rw [e0]
  have s2 := same_upd (o := .lst ((o.map some).map lvO)) hM
  have hM2 := @upd_same G M (.lst ((o.map some).map lvO))
  generalize upd G M (.lst ((o.map some).map lvO)) = G2 at s2 hM2 ⊢
  have hLM : L ≠ M := fun e => by rw [<- e, hL1] at hM; cases hM
  have I0 : Inl m (o.map some) := by
   refine ⟨by rw [List.length_map]; exact ln, fun j x e => ?_⟩
   rw [List.getElem?_map] at e
   cases e1 : o[j]? with
   | none => rw [e1] at e; cases e
   | some y =>
    rw [e1] at e
    cases e
    exact (hO.mem.mp (List.mem_of_getElem? e1))
  refine ⟨_, _, rfl, ?_⟩
  refine ⟨_, rfl, L, rfl, ⟨_, SqL.of (s2 _ _ hL1)⟩, ?_⟩
  refine for_list (K := K) (a := L) (xs := (num0 m).map V.int) (fun i σ G' => ∃ (l : List (Option Int)) (c : Int) (c5 c6 : Option V), σ = [some (.str kind), some (.ref a), some (.ref L), some (.ref M), some (.int c), c5, c6] /\ Inl m l /\ G' M = some (.lst (l.map lvO)) /\ rndG (o.map some) 0 m 0 = rndG l c (m - i) i /\ (∀ b ob, G b = some ob -> G' b = some ob)) ?_ ?_ ?_ ?_
  ·exact ⟨o.map some, 0, none, none, rfl, I0, hM2, rfl, s2⟩
  ·rintro i σ G' hi ⟨l, c, c5, c6, rfl, Il, hM', er, sm⟩
   exact SqL.of (sm _ _ hL1)
  ·rintro i x σ G' hx ⟨l, c, c5, c6, rfl, Il, hM', er, sm⟩
   have hi : i < m := by
    have := (List.getElem?_eq_some_iff.mp hx).1
    rw [mapI_len, ln0] at this
    exact this
   have ex : x = .int (i : Int) := by
    unfold num0 at hx
    rw [List.map_map, List.getElem?_map, List.getElem?_range hi] at hx
    cases hx
    rfl
   subst ex
   have li := Il.1
   refine ⟨_, rfl, _, rfl, M, _, _, _, rfl, rfl, SqL.of hM', lv_at (by (first | lia | omega)) (by (first | lia | omega)), rfl, _, rfl, ?_⟩
   rw [lv_non, Bool.not_not, Int.toNat_natCast]
   have em : m - i = (m - (i + 1)) + 1 := by (first | lia | omega)
   cases eg : l.getD i none with
   | none =>
    refine iteF ⟨l, c, _, _, rfl, Il, hM', ?_, sm⟩
    rw [er, em, rnd_none eg]
   | some x0 =>
    refine iteT ⟨_, rfl, _, _, rfl, rfl, _, rfl, _, _, rfl, ?_⟩
    have er2 : rndG (o.map some) 0 m 0 = rndG (visG l (m + 1) (i : Int)) (c + 1) (m - (i + 1)) (i + 1) := by
     rw [er, em, rnd_some eg, li]
    refine ⟨fun u σ G'' => ∃ (l' : List (Option Int)) (h : Int), σ = [some (.str kind), some (.ref a), some (.ref L), some (.ref M), some (.int (c + 1)), some (.int (i : Int)), some (.int h)] /\ Inl m l' /\ 0 <= h /\ h < (m : Int) /\ somes l' < u /\ visG l (m + 1) (i : Int) = visG l' u h /\ G'' M = some (.lst (l'.map lvO)) /\ (∀ b ob, G b = some ob -> G'' b = some ob), ⟨m + 1, l, i, rfl, Il, by (first | lia | omega), by (first | lia | omega), ?_, rfl, hM', sm⟩, ?_⟩
    ·have : somes l <= l.length := List.length_filter_le _ _
     (first | lia | omega)
    rintro u σ G'' ⟨l', h, rfl, Il', h0, h1, hu, ev, hM'', sm'⟩
    have li' := Il'.1
    refine ⟨_, rfl, _, rfl, M, _, _, _, rfl, rfl, SqL.of hM'', lv_at (by (first | lia | omega)) (by (first | lia | omega)), rfl, _, rfl, ?_⟩
    rw [lv_non, Bool.not_not]
    obtain ⟨u', rfl⟩ : ∃ u', u = u' + 1 := ⟨u - 1, by (first | lia | omega)⟩
    cases eh : l'.getD h.toNat none with
    | none =>
     refine iteF ⟨l', c + 1, _, _, rfl, Il', hM'', ?_, sm'⟩
     rw [er2, ev, vis_none eh]
    | some x1 =>
     have gx := getD_some eh
     have rx := Il'.2 _ _ gx
     have hs := somes_set gx
     refine iteT ⟨fun σ' H' => ∃ (l' : List (Option Int)) (h : Int), σ' = [some (.str kind), some (.ref a), some (.ref L), some (.ref M), some (.int (c + 1)), some (.int (i : Int)), some (.int h)] /\ Inl m l' /\ 0 <= h /\ h < (m : Int) /\ somes l' < u' /\ visG l (m + 1) (i : Int) = visG l' u' h /\ H' M = some (.lst (l'.map lvO)) /\ (∀ b ob, G b = some ob -> H' b = some ob), fun σ' H' h => ⟨u', by (first | lia | omega), h⟩, ?_⟩
     refine ⟨_, rfl, _, rfl, M, _, _, _, rfl, rfl, SqL.of hM'', lv_at (by (first | lia | omega)) (by (first | lia | omega)), by show 2 <= sizeLine; decide, fun t ht => ?_⟩
     rw [eh]
     refine ⟨t, _, rfl, SqT.of upd_same, rfl, _, _, rfl, _, rfl, _, rfl, M, _, _, h.toNat, rfl, rfl, (same_upd ht) _ _ hM'', ?_, _, _, rfl, rfl, ?_⟩
     ·unfold ixN
      rw [if_pos h0, if_pos (by rw [List.length_map]; (first | lia | omega))]
     refine ⟨l'.set h.toNat none, x1, rfl, Il'.set _, rx.1, rx.2, by (first | lia | omega), ?_, ?_, fun b ob e => ?_⟩
     ·rw [ev, vis_some eh]
     ·rw [upd_same, lv_set]
     ·have hbM : b ≠ M := fun e2 => by rw [e2, hM] at e; cases e
      rw [upd_ne hbM]
      exact (same_upd ht) _ _ (sm' _ _ e)
  ·rintro σ G' ⟨l, c, c5, c6, rfl, Il, hM', er, sm⟩
   refine ⟨_, rfl, ?_⟩
   refine fin eR ?_ _ sm
   show rndG (o.map some) 0 o.length 0 = c
   rw [ln, er, mapI_len, ln0, Nat.sub_self]
   rfl
end
end K44
namespace L2
open PySem PySem.Spec PyProof.Rows
noncomputable def spDueOf : Sp := fun vs H Q _ => ∃ (kd : Str) (a : Addr) (o : List Int) (m : Nat), vs = [.str kd, .ref a] /\ kd ∈ kinds5 /\ m <= 24 /\ (kd = "crossed" -> m <= 12) /\ H a = some (.tup (o.map V.int)) /\ Ord m o /\
 ∀ H', Same H H' -> Q (.int ((List.range m).map fun i => plS (fun b => wayW kd m b (sureW kd m o)) o i).sum) H'
theorem num0_sucW (m : Nat) : num0 (m + 1) = num0 m ++ [(m : Int)] := by
 unfold num0
 rw [List.range_succ, List.map_append]
 rfl
theorem free_sucW (j : Nat) (b : List Int) : freeO (j + 1) b = if (j : Int) ∈ b then freeO j b else freeO j b ++ [(j : Int)] := by
 unfold freeO
 rw [num0_sucW, List.filter_append, List.filter_cons]
 by_cases c : (j : Int) ∈ b
 ·rw [if_pos c, decide_eq_false (by simpa using c), if_neg (by simp)]
  simp
 ·rw [if_neg c, decide_eq_true c, if_pos rfl]
  rfl
theorem flat_intsW (b : List Int) : (b.map V.int).all flatV = true := by
 rw [List.all_map]
 exact List.all_eq_true.mpr fun x _ => rfl
end L2
namespace K44
open PySem PySem.Spec PyProof.Rows L2
noncomputable abbrev s__law_due_of : Stmt := top 52
section
variable {P : Program} {w : World} {K : PySem.W.Frag} {mg : Str -> Option Value} {base : Heap}
theorem sc__law_due_of : FnScope ["_law_kind", "_law_order", "_law_number", "_law_total", "_law_place", "_law_one"] ["_law_kind", "_law_order"] (defScope s__law_due_of) := ⟨rfl, rfl, rfl, by decide +kernel, rfl, by decide +kernel, by decide +kernel⟩
set_option maxHeartbeats 4000000 in
theorem ok__law_due_of {f : Addr} {fd : FuncData} (F : Fun K "_law_due_of" "_law_due_of" s__law_due_of f fd) (T : Top mg) (C_law_own_count : Cal P w K mg base 2 "_law_own_count" ["_law_kind", "_law_order"] spOwnC) (Cways_on : Cal P w K mg base 7 "ways_on" ["kind", "many", "begun", "number"] spWays) : FnOk P w K mg base CX0 8 f fd ["_law_kind", "_law_order"] spDueOf := by
 refine F.ok sc__law_due_of (fun vs H Q E h => ?_) (fun cdv A outer s H vs Q E hr h => ?_)
 ·obtain ⟨kd, a, o, m, rfl, _⟩ := h
  rfl
 ·obtain ⟨kd, a, o, m, rfl, hkd, hm, hc, ha, ho, k⟩ := h
  have hl := ho.len
  refine ⟨_, (pss_cons (ps_par (i := 2) (j := 3) rfl sc__law_due_of.nd rfl rfl (by decide) rfl rfl (pa_cons (pe_cal C_law_own_count (hr.mono (by decide)) rfl (pa_cons (pv 0) (pa_cons (pv 1) pa_nil))) (pa_cons pe_int pa_nil)) rfl)
   (pss_cons (ps_for PassesOwn.never rfl (pi_range1 rfl T.n_range (pa_cons (pe_callB call_len_seq (by rfl) T.n_len PySem.boot_len (pa_cons (pv 1) pa_nil)) pa_nil)) (pg_name (i := 4) sc__law_due_of.nd rfl (Or.inl rfl))
    (pss_one (ps_for PassesOwn.never rfl (pi_range1 rfl T.n_range (pa_cons (pe_ix ix_tup (pv 1) (pv 4) (fun _ _ => rfl)) pa_nil)) (pg_name (i := 5) sc__law_due_of.nd rfl (Or.inl rfl))
     (pss_one (ps_if (pt_cmpR (op_notIn_seqK K rfl) (pv 5) (pe_slice sl_tupA (pv 1) po_none (po_some (pv 4))) (by rfl))
      (pss_one (ps_set (i := 3) sc__law_due_of.nd rfl (Or.inl rfl) (pe_op op_add (pv 3) (pe_cal Cways_on (hr.mono (by decide)) rfl (pa_cons (pv 0) (pa_cons (pe_callB call_len_seq (by rfl) T.n_len PySem.boot_len (pa_cons (pv 1) pa_nil)) (pa_cons (pe_op op_cat2 (pe_slice sl_tupA (pv 1) po_none (po_some (pv 4))) (pe_tup (pa_cons (pv 5) pa_nil))) (pa_cons (pv 2) pa_nil))))))))
      pss_nil)))))
   (pss_one (ps_ret (pv 3))))), ?_⟩
  refine ⟨_, rfl, _, rfl, kd, a, o, m, rfl, hkd, ha, ho, hm, fun H1 s1 => ?_⟩
  rw [own_sure hkd ho]
  have ha1 := s1 _ _ ha
  refine ⟨_, _, rfl, _, rfl, a, _, rfl, .inr (SqT.of ha1), ?_⟩
  rw [mapI_len, hl]
  refine ⟨_, rfl, by (first | lia | omega), by (first | lia | omega), ?_⟩
  rw [Int.toNat_natCast]
  refine for_range (n := m) (fun i σ G => ∃ c4 c5 : Option V, σ = [some (.str kd), some (.ref a), some (.int (sureW kd m o)), some (.int ((List.range i).map fun i => plS (fun b => wayW kd m b (sureW kd m o)) o i).sum), c4, c5] /\ Same H1 G) ⟨_, _, rfl, Same.refl _⟩ ?_ ?_
  ·rintro i σ G hi ⟨c4, c5, rfl, sm⟩
   obtain ⟨B, e1, hy⟩ := ord_at ho hi
   have hr := (mem_free.mp hy).1
   have haG := sm _ _ ha1
   have ea : atI (o.map V.int) (0 + (i : Int)) = some (.int (o.getD i 0)) := by
    rw [Int.zero_add]
    exact atI_nat (by rw [List.getElem?_map, List.getD_eq_getElem?_getD, List.getElem?_eq_getElem (by (first | lia | omega))]; rfl)
   refine ⟨_, rfl, _, rfl, a, _, _, _, rfl, rfl, SqT.of haG, ea, ?_⟩
   obtain ⟨c, hcc⟩ : ∃ c : Nat, o.getD i 0 = (c : Int) := ⟨(o.getD i 0).toNat, by (first | lia | omega)⟩
   rw [hcc]
   refine ⟨_, rfl, by (first | lia | omega), by (first | lia | omega), ?_⟩
   rw [Int.toNat_natCast]
   refine for_range (n := c) (fun j σ G => ∃ c5 : Option V, σ = [some (.str kd), some (.ref a), some (.int (sureW kd m o)), some (.int (((List.range i).map fun i => plS (fun b => wayW kd m b (sureW kd m o)) o i).sum + ((freeO j (o.take i)).map fun x => wayW kd m (o.take i ++ [x]) (sureW kd m o)).sum)), some (.int (0 + (i : Int))), c5] /\ Same H1 G) ⟨c5, by rw [show freeO 0 (o.take i) = [] from rfl]; simp, sm⟩ ?_ ?_
   ·rintro j σ G' hj ⟨c5', rfl, sm'⟩
    have haG' := sm' _ _ ha1
    have hjl : j < m := by (first | lia | omega)
    have hnx : ((freeO (j + 1) (o.take i)).map fun x => wayW kd m (o.take i ++ [x]) (sureW kd m o)).sum = ((freeO j (o.take i)).map fun x => wayW kd m (o.take i ++ [x]) (sureW kd m o)).sum + if (j : Int) ∈ o.take i then 0 else wayW kd m (o.take i ++ [(j : Int)]) (sureW kd m o) := by
     rw [free_sucW]
     by_cases d : (j : Int) ∈ o.take i
     ·rw [if_pos d, if_pos d, Int.add_zero]
     ·rw [if_neg d, if_neg d, List.map_append, List.sum_append]
      simp
    refine ⟨_, rfl, _, rfl, _, rfl, _, rfl, a, _, rfl, haG', fun q1 G1 g1 hq1 => ?_⟩
    rw [Int.zero_add, cutN _ _ (by (first | lia | omega))] at hq1
    refine ⟨q1, _, rfl, .inr (SqT.of hq1), rfl, flat_intsW _, _, rfl, ?_⟩
    rw [show inV (V.int (0 + (j : Int))) ((o.take i).map V.int) = decide ((j : Int) ∈ o.take i) by rw [Int.zero_add]; exact inV_ints _ _]
    refine ite2 (fun hin => ?_) (fun hin => ?_)
    ·have hin' : ¬ (j : Int) ∈ o.take i := by simpa using hin
     have sm1 := sm'.trans g1
     refine ⟨_, rfl, _, rfl, _, rfl, a, _, rfl, .inr (SqT.of (sm1 _ _ ha1)), _, rfl, _, rfl, _, rfl, a, _, rfl, sm1 _ _ ha1, fun q2 G2 g2 hq2 => ?_⟩
     rw [Int.zero_add, cutN _ _ (by (first | lia | omega))] at hq2
     refine ⟨_, rfl, by show 1 <= sizeLine; decide, fun t1 ht1 => ?_⟩
     have u1 := same_upd (o := .tup [.int (0 + (j : Int))]) ht1
     refine ⟨q2, t1, _, _, rfl, rfl, u1 _ _ hq2, upd_same, ?_, fun t2 G3 g3 ht2 => ?_⟩
     ·rw [mapI_len, List.length_take]
      exact Nat.le_trans (by show min i o.length + 1 <= 100; (first | lia | omega)) (by decide)
     have e2 : (o.take i).map V.int ++ [V.int (0 + (j : Int))] = (o.take i ++ [(j : Int)]).map V.int := by rw [List.map_append, Int.zero_add]; rfl
     rw [e2] at ht2
     have hjm : (j : Int) ∈ freeO m (o.take i) := mem_free.mpr ⟨by (first | lia | omega), hin'⟩
     refine ⟨_, rfl, kd, m, i + 1, t2, _, _, by rw [mapI_len, hl], hkd, ht2, hm, hc, B.more hjm, by (first | lia | omega), fun G4 g4 => ?_⟩
     refine ⟨_, _, rfl, rfl, some (.int (0 + (j : Int))), ?_, (((sm1.trans g2).trans u1).trans g3).trans g4⟩
     rw [hnx, if_neg hin', <- Int.add_assoc]
     rfl
    ·have hin' : (j : Int) ∈ o.take i := by simpa using hin
     refine ⟨some (.int (0 + (j : Int))), ?_, sm'.trans g1⟩
     rw [hnx, if_pos hin', Int.add_zero]
     rfl
   ·rintro σ G' ⟨c5', rfl, sm'⟩
    refine ⟨some (.int (0 + (i : Int))), c5', ?_, sm'⟩
    rw [List.range_succ, List.map_append, List.sum_append]
    have : plS (fun b => wayW kd m b (sureW kd m o)) o i = ((freeO c (o.take i)).map fun x => wayW kd m (o.take i ++ [x]) (sureW kd m o)).sum := by
     unfold plS
     rw [hcc, Int.toNat_natCast]
    rw [List.map_cons, List.map_nil, List.sum_cons, List.sum_nil, this, Int.add_zero]
  ·rintro σ G ⟨c4, c5, rfl, sm⟩
   exact ⟨_, rfl, k _ (s1.trans sm)⟩
end
end K44
namespace L2
open PySem PySem.Spec PyProof.Rows PySem.SeqAt
noncomputable def tD2 (k1 k2 : Str) (t1 t2 : TE) : TE := fun σ H Q => ∀ d, H d = none -> t1 σ (upd H d (.dK [])) fun v1 H1 => t2 σ H1 fun v2 H2 => H2 d = some (.dK []) /\ Q (.ref d) (upd H2 d (.dK [(.inr k1, v1), (.inr k2, v2)]))
theorem pe_dict2 {X : Cx} {pos : Pos} {k1 k2 : Str} {a1 a2 b1 b2 : Expr} {t1 t2 : TE} (n12 : k1 ≠ k2) (q1 : PE X a1 (tC (.str k1))) (q2 : PE X a2 (tC (.str k2))) (p1 : PE X b1 t1) (p2 : PE X b2 t2) : PE X (.Dict [some a1, some a2] [b1, b2] pos) (tD2 k1 k2 t1 t2) := by
 intro pins s σ H Q I h
 have hd0 : H s.heap.objs.size = none := I.hok.fresh (Nat.le_refl _)
 have h := h _ hd0
 refine wpAny_Dict_walk (knd := mixKind X.prog X.w) rfl rfl (by simp) (by show 2 <= 15; decide) ?_
 have I0 : Inv X pins σ (upd H s.heap.objs.size (.dK [])) { s with heap := s.heap.push { cls := .type "dict", data := .dict #[] } } := I.laid (a := s.heap.objs.size) (o := .dK []) (t' := s.toks) (fun _ _ q => Heap.get?_push_of_some _ q) (Nat.le_refl _) (dk_empty s.heap I.big)
 refine evalPairs_cons (thn (q1 pins _ σ _ (fun x H' => x = .str k1 /\ H' = upd H s.heap.objs.size (.dK [])) I0 ⟨rfl, rfl⟩) fun u1 s1 zq => ?_)
 obtain ⟨x1, H1, I1, r1, e1, e1'⟩ := zq
 subst e1 e1'
 refine wpAny_bind (thn (p1 pins s1 σ _ _ I1 h) fun w1 s2 ⟨v1, H2, I2, rv1, h⟩ => wpAny_bind (wpAny_standAt (wpAny_pure ?_)))
 refine evalPairs_cons (thn (q2 pins s2 σ _ (fun x H' => x = .str k2 /\ H' = H2) I2 ⟨rfl, rfl⟩) fun u2 s3 zq => ?_)
 obtain ⟨x2, H3, I3, r2, e2, e2'⟩ := zq
 subst e2 e2'
 refine wpAny_bind (thn (p2 pins s3 σ _ _ I3 h) fun w2 s4 ⟨v2, H6, I6, rv2, hd6, h⟩ => wpAny_bind (wpAny_standAt (wpAny_pure (evalPairs_nil ?_))))
 refine ⟨[(.inr k1, w1), (.inr k2, w2)], ⟨kV_is (k := .inr k1) r1, rfl, kV_is (k := .inr k2) r2, rfl, trivial⟩, ?_, fun h' dd' hs => ?_⟩
 ·obtain ⟨z, hd, vs, rel, dd⟩ := dk_of I6.hok hd6
  cases rel
  exact dd
 ·have em : merged [] [((Sum.inr k1 : Key), w1), (.inr k2, w2)] = [(.inr k1, w1), (.inr k2, w2)] := by
   unfold merged stored
   simp [n12]
  rw [em] at dd'
  obtain ⟨z, hd, vs, rel, dd⟩ := dk_of I6.hok hd6
  have he : ∃ q, h'.get? s.heap.objs.size = some q := let ⟨q, _, _, hq, _⟩ := dd'; ⟨q, hq⟩
  refine ⟨.ref s.heap.objs.size, _, d_write I6 (by rw [hd6]; exact True.intro) hs he (dk_new (by show 2 <= sizeLine; decide) hd (.cons ⟨rfl, rv1⟩ (.cons ⟨rfl, rv2⟩ .nil)) dd'), rfl, h⟩
end L2
namespace L2
open PySem PySem.Spec PyProof.Rows
theorem nm_maxloop : (toString "max" ++ toString ".loop" : String) = "max.loop" := by decide
theorem args_maxD (a v : Value) : argsOk "max" ⟨[a], [(Str.ofString "default", v)]⟩ := by unfold argsOk; kernel_rfl
section
variable {prog : Program} {w : World} {A : Around} {R : Result -> Shared -> Prop} {I : Addr} {fp wr : List Addr} {n : Nat} {Pv : Nat -> Value -> Prop} {St : Nat -> Heap -> Prop}
theorem maxD_on (W : Walks prog w A.in1 I fp wr n Pv St) (bt : Nat -> Nat -> Bool) (hcmp : CmpOf prog w A.in1 .Gt Pv bt) (B : Addr) (hB : B ∉ fp) (kw : List (Str × Value)) :
  ∀ (k j : Nat) (s : Shared) (best : Value) (c : Nat), n - (j + 1) = k -> j + 1 <= n -> St (j + 1) s.heap -> Pv (argBest bt j) best ->
   s.heap.get? B = some { cls := .type "list", dict := none, data := .seq #[best, best] c, slots := #[] } ->
   (∀ v h' tk, Pv (argBest bt (n - 1)) v -> (∀ b o, b ∉ wr -> b ≠ B -> s.heap.get? b = some o -> h'.get? b = some o) -> R (.ok (.ret v)) { s with heap := h', toks := tk }) ->
   codeAny (model prog w) A (.builtin "max.loop" ⟨[.ref I, .none, .ref B], kw⟩) R s := by
 have hBw : B ∉ wr := fun h => hB (W.sub _ h)
 intro k
 induction k with
 | zero =>
  intro j s best c hk hj hst hP0 hat out
  have hin : j + 1 = n := by (first | lia | omega)
  refine codeAny_builtin PySem.F.entry_max_loop ?_
  rw [Around.under_plainId PySem.F.plain_max_loop _]
  show wpAny _ A.in1 (seqItems? (.ref B) >>= _) _ _ s
  refine wpAny_bind (wpAny_seqItems hat rfl ?_)
  show wpAny _ A.in1 (tryCatch (pyNext (.ref I)) _ >>= _) _ _ s
  refine wpAny_bind (wpAny_tryCatch (W.done s _ _ (hin ▸ hst) fun h1 tk kp => ?_))
  have hat1 := kp B _ hBw hat
  show wpAny _ A.in1 (updateSeq B (fun _ => #[]) >>= _) _ _ _
  refine wpAny_bind ?_
  refine wpAny_updateSeq hat1 rfl (wpAny_bind (wpAny_letGo (wpAny_pure ?_)))
  exact out best _ tk (by rw [<- hin]; exact hP0) fun b o h2 h3 e => (Heap.get?_update_other _ _ (Ne.symm h3)).trans (kp b o h2 e)
 | succ k ih =>
  intro j s best c hk hj hst hP0 hat out
  have hlt : j + 1 < n := by (first | lia | omega)
  refine codeAny_builtin PySem.F.entry_max_loop ?_
  rw [Around.under_plainId PySem.F.plain_max_loop _]
  show wpAny _ A.in1 (seqItems? (.ref B) >>= _) _ _ s
  refine wpAny_bind (wpAny_seqItems hat rfl ?_)
  show wpAny _ A.in1 (tryCatch (pyNext (.ref I)) _ >>= _) _ _ s
  refine wpAny_bind (wpAny_tryCatch (W.item (j + 1) s _ _ hlt hst fun v h1 tk hP hst1 kp => ?_))
  have hat1 := kp B _ hBw hat
  show wpAny _ A.in1 (tryCatch (holding [v, v] (richCompare .Gt v best >>= _)) _ >>= _) _ _ _
  refine wpAny_bind (wpAny_tryCatch (wpAny_holding (wpAny_bind (hcmp (j + 1) (argBest bt j) v best _ _ _ hP hP0 ?_))))
  refine wpAny_bind (wpAny_holding (wpAny_truthy_bool ?_))
  refine wpAny_bind (wpAny_letGo (wpAny_pure ?_))
  cases hb : bt (j + 1) (argBest bt j) with
  | true =>
   simp only [if_true]
   refine wpAny_bind ?_
   refine wpAny_updateSeq hat1 rfl (wpAny_bind (wpAny_letGo ?_))
   rw [nm_maxloop]
   refine wpAny_pure ⟨plainId_quiet PySem.F.plain_max_loop _, ih (j + 1) _ v _ (by (first | lia | omega)) hlt (W.frame _ _ _ hst1 fun b hbf o e => ?_) (by simp only [argBest, hb, if_true]; exact hP) (Heap.get?_update_self _ hat1 rfl) fun v2 h2 tk2 hP2 kp2 => ?_⟩
   ·exact (Heap.get?_update_other _ _ (fun h : B = b => hB (by rw [h]; exact hbf))).trans e
   ·exact out v2 h2 tk2 hP2 fun b o h3 h4 e => kp2 b o h3 h4 ((Heap.get?_update_other _ _ (Ne.symm h4)).trans (kp b o h3 e))
  | false =>
   simp only [Bool.false_eq_true, if_false]
   refine wpAny_bind (wpAny_letGo ?_)
   rw [nm_maxloop]
   refine wpAny_pure ⟨plainId_quiet PySem.F.plain_max_loop _, ih (j + 1) _ best c (by (first | lia | omega)) hlt hst1 (by simp only [argBest, hb, Bool.false_eq_true, if_false]; exact hP0) hat1 fun v2 h2 tk2 hP2 kp2 => ?_⟩
   exact out v2 h2 tk2 hP2 fun b o h3 h4 e => kp2 b o h3 h4 (kp b o h3 e)
theorem maxD_first (W : Walks prog w A.in1 I fp wr n Pv St) (bt : Nat -> Nat -> Bool) (hcmp : CmpOf prog w A.in1 .Gt Pv bt) (B : Addr) (hB : B ∉ fp) (nm : Str) (d : Value) {s : Shared} {c : Nat} (hst : St 0 s.heap)
  (hat : s.heap.get? B = some { cls := .type "list", dict := none, data := .seq #[] c, slots := #[] })
  (out : ∀ v h' tk, (if n = 0 then v = d else Pv (argBest bt (n - 1)) v) -> (∀ b o, b ∉ wr -> b ≠ B -> s.heap.get? b = some o -> h'.get? b = some o) -> R (.ok (.ret v)) { s with heap := h', toks := tk }) :
  codeAny (model prog w) A (.builtin "max.loop" ⟨[.ref I, .none, .ref B], [(nm, d)]⟩) R s := by
 have hBw : B ∉ wr := fun h => hB (W.sub _ h)
 refine codeAny_builtin PySem.F.entry_max_loop ?_
 rw [Around.under_plainId PySem.F.plain_max_loop _]
 show wpAny _ A.in1 (seqItems? (.ref B) >>= _) _ _ s
 refine wpAny_bind (wpAny_seqItems hat rfl ?_)
 show wpAny _ A.in1 (tryCatch (pyNext (.ref I)) _ >>= _) _ _ s
 by_cases hn : n = 0
 ·subst hn
  refine wpAny_bind (wpAny_tryCatch (W.done s _ _ hst fun h1 tk kp => ?_))
  show wpAny _ A.in1 (rule _ >>= _) _ _ _
  refine wpAny_bind (wpAny_rule ?_)
  refine wpAny_pure ?_
  exact out d h1 tk (by rw [if_pos rfl]) fun b o h2 _ e => kp b o h2 e
 ·refine wpAny_bind (wpAny_tryCatch (W.item 0 s _ _ (by (first | lia | omega)) hst fun v h1 tk hP hst1 kp => ?_))
  have hat1 := kp B _ hBw hat
  show wpAny _ A.in1 (updateSeq B (fun _ => #[v, v]) >>= _) _ _ _
  refine wpAny_bind ?_
  refine wpAny_updateSeq hat1 rfl ?_
  rw [nm_maxloop]
  refine wpAny_pure ⟨plainId_quiet PySem.F.plain_max_loop _, maxD_on W bt hcmp B hB _ _ 0 _ v _ rfl (by (first | lia | omega)) (W.frame _ _ _ hst1 fun b hbf o e => ?_) hP (Heap.get?_update_self _ hat1 rfl) fun v2 h2 tk2 hP2 kp2 => ?_⟩
  ·exact (Heap.get?_update_other _ _ (fun h : B = b => hB (by rw [h]; exact hbf))).trans e
  ·exact out v2 h2 tk2 (by rw [if_neg hn]; exact hP2) fun b o h3 h4 e => kp2 b o h3 h4 ((Heap.get?_update_other _ _ (Ne.symm h4)).trans (kp b o h3 e))
end
section
variable {prog : Program} {w : World} {A : Around} {E : Value -> Shared -> Prop} {s : Shared}
theorem maxD_walk {x d : Value} {Q : Value -> Shared -> Prop}
  (h : wpAny (model prog w) A.in1 (pyIter x) (fun it s2 => ∃ I fp wr n Pv St bt, it = .ref I /\ Walks prog w A.in1 I fp wr n Pv St /\ St 0 s2.heap /\ (∀ b ∈ fp, b < s2.heap.objs.size) /\ CmpOf prog w A.in1 .Gt Pv bt /\
   ∀ v h' tk, (if n = 0 then v = d else Pv (argBest bt (n - 1)) v) -> (∀ b o, b ∉ wr -> s2.heap.get? b = some o -> h'.get? b = some o) -> Q v { s2 with heap := h', toks := tk }) E s) :
  wpAny (model prog w) A (call (.builtin "max") [x] [(Str.ofString "default", d)]) Q E s := by
 refine kmk_tree PySem.F.kind_max PySem.F.plain_max PySem.F.entry_max (args_maxD x d) ?_
 show wpAny _ A.in1 (Builtin.Builtins.bindParams "max" ["key", "default"] 0 ⟨[], [(Str.ofString "default", d)]⟩ >>= _) _ _ s
 refine wpAny_bind (wpAny_of_eq (show Builtin.Builtins.bindParams "max" ["key", "default"] 0 ⟨[], [(Str.ofString "default", d)]⟩ = pure [none, some d] from by kernel_rfl) ?_)
 refine wpAny_bind (wpAny_pure ?_)
 refine wpAny_bind (wpAny_mono h (fun it s2 h2 => ?_) fun _ _ e => e)
 obtain ⟨I, fp, wr, n, Pv, St, bt, rfl, W, hst, hfp, hcmp, hQ⟩ := h2
 refine wpAny_bind (wpAny_newObj_type ?_)
 have hB : s2.heap.objs.size ∉ fp := fun hm => Nat.lt_irrefl _ (hfp _ hm)
 rw [nm_maxloop]
 refine wpAny_pure ⟨plainId_quiet PySem.F.plain_max_loop _, maxD_first W bt hcmp s2.heap.objs.size hB _ d (W.frame _ _ _ hst fun b _ o e => Heap.get?_push_of_some _ e) (Heap.get?_push_size _ rfl) fun v h' tk hP hk => ?_⟩
 exact hQ v h' tk hP fun b o hbw e => hk b o hbw (Nat.ne_of_lt (Heap.lt_size e)) (Heap.get?_push_of_some _ e)
end
end L2
namespace L2
open PySem PySem.Spec PyProof.Rows
section
variable {X : Cx}
noncomputable def rMaxD (x y : V) (H : Hp) (Q : VK) : Prop := ∃ (l : Addr) (ns : List Int), x = .ref l /\ H l = some (.tup (ns.map V.int)) /\ (ns = [] -> Q y H) /\ (ns ≠ [] -> ∀ M, M ∈ ns -> (∀ a ∈ ns, a <= M) -> Q (.int M) H)
theorem call_maxD (hc : X.calm = true) {pins : List (Addr × Obj)} {s : Shared} {σ : L2.St} {H : Hp} {x y : V} {u d : Value} {Q : VK} (I : Inv X pins σ H s) (ru : RelV x u) (rd : RelV y d) (h : rMaxD x y H Q) :
  wpAny (model X.prog X.w) X.A (call (.builtin "max") [u] [(Str.ofString "default", d)]) (EP X pins σ Q) X.xe s := by
 obtain ⟨l, ns, rfl, hH, q0, q⟩ := h
 cases (show u = Value.ref l from ru)
 obtain ⟨its, r, ht, hz⟩ := I.tuple (SqT.of (K := X.K) hH)
 have hI := intsAre_of r
 obtain ⟨xs, hxs⟩ := hI.allInts.items
 have hnum : xs.toList.map (·.1) = ns := by rw [<- nums_intItems, <- hxs]; exact hI.numsOf
 have hln : ns.length = xs.size := by rw [<- hnum, List.length_map, Array.length_toList]
 have hT : s.heap.IsTuple l (intItems xs) := by rw [<- hxs]; exact ht
 have hlt : l < s.heap.objs.size := by obtain ⟨_, e, _⟩ := hT; exact Heap.lt_size e
 have hT2 : (s.heap.push { cls := .type "tuple_iterator", data := .fields #[.ref l, .int 0 0] }).IsTuple l (intItems xs) := by
  obtain ⟨o, e, r⟩ := hT
  exact ⟨o, Heap.get?_push_of_some _ e, r⟩
 have hh : X.A.handled = none := I.ok.hd hc
 refine maxD_walk (wpAny_pyIter_tuple hT ?_)
 refine ⟨_, _, _, _, _, _, _, rfl, Walks.tuple (A := X.A.in1) hh s.heap.objs.size l (Nat.ne_of_lt hlt) (intItems xs), ⟨⟨_, Heap.get?_push_size _ rfl, rfl, rfl⟩, hT2⟩, fun b hb => ?_, CmpOf.ints_gt (numAt xs) (fun _ _ => intItems_at), fun v h' tk hP hk => ?_⟩
 ·show b < (s.heap.push _).objs.size
  rw [Heap.size_push]
  rcases List.mem_cons.mp hb with rfl | hb
  ·exact Nat.lt_succ_self _
  ·rw [List.mem_singleton.mp hb]
   exact Nat.lt_succ_of_lt hlt
 ·have J := I.kept (t' := tk) (h' := h') (fun b o e => hk b o (fun hm => by
   rw [List.mem_singleton.mp hm] at e
   exact absurd (Heap.lt_size e) (Nat.lt_irrefl _)) (Heap.get?_push_of_some _ e))
  have ez : (intItems xs).size = xs.size := by simp [intItems]
  by_cases h0 : xs.size = 0
  ·rw [ez, if_pos h0] at hP
   subst hP
   exact ⟨y, H, J, rd, q0 (List.length_eq_zero_iff.mp (by (first | lia | omega)))⟩
  ·rw [ez, if_neg h0] at hP
   have hv : (intItems xs)[argBest (fun i j => decide (numAt xs i > numAt xs j)) (xs.size - 1)]? = some v := by simpa [intItems] using hP
   obtain ⟨t, rfl⟩ := intItems_at hv
   obtain ⟨b1, b2⟩ := max_of_best hnum (by (first | lia | omega))
   exact ⟨.int _, H, J, ⟨_, rfl⟩, q (fun e => h0 (by rw [<- hln, e]; rfl)) _ b1 b2⟩
noncomputable def tMaxD (ta td : TE) : TE := fun σ H Q => ta σ H fun x H1 => td σ H1 fun y H2 => rMaxD x y H2 Q
theorem pe_maxD (hc : X.calm = true) {x nm : Str} {p pos kp : Pos} {e d : Expr} {ta td : TE} (hg : Gl X x) (hm : X.mg x = none) (hv : bootBuiltins x = some (.builtin "max")) (ha : PE X e ta) (hd : PE X d td) (hnm : nm = Str.ofString "default" := by rfl) (hn : x ≠ "__name__" := by decide) (hdb : (x == ("__debug__" : Str)) = false := by decide)
  (he : starEach [e] X.env = (false, eval e X.env) :: starEach [] X.env := by rfl) : PE X (.Call (.Name x p) [e] [⟨some nm, d, kp⟩] pos) (tMaxD ta td) := by
 intro pins s σ H Q I h
 subst hnm
 refine wpAny_Call_Name_kw (ld_blt I hg hm hv ?_ hn hdb)
 have PA1 : PA X [e] (tCons ta tNil) := pa_cons ha pa_nil he
 refine callWith_kw (e := e) (rest := []) ?_ (he := by rw [he]; rfl) (hplain := by rw [he]; rfl)
 refine thn (PA1 pos pins s σ H (fun vs H1 => match vs with | [x] => td σ H1 fun y H2 => rMaxD x y H2 Q | _ => False) I h) fun us s1 zq => ?_
 obtain ⟨vs, H1, I1, r1, q1⟩ := zq
 match vs, r1, q1 with
 | [x], r1, q1 =>
  obtain ⟨u, rfl, ru⟩ := vals1 r1
  refine kws_cons (thn (hd pins s1 σ H1 _ I1 q1) fun dv s2 ⟨y, H2, I2, rd, q2⟩ => kws_nil ?_)
  exact call_maxD hc I2 ru rd q2
end
end L2
namespace L2
open PySem PySem.Spec PyProof.Rows
theorem mx_fold : ∀ (b : List Int) (x : Int), x <= b.foldl (fun x y => if x < y then y else x) x /\ (∀ a ∈ b, a <= b.foldl (fun x y => if x < y then y else x) x) /\ (b.foldl (fun x y => if x < y then y else x) x = x ∨ b.foldl (fun x y => if x < y then y else x) x ∈ b)
 | [], x => ⟨Int.le_refl _, (fun _ h => by cases h), .inl rfl⟩
 | y :: b, x => by
  obtain ⟨h1, h2, h3⟩ := mx_fold b (if x < y then y else x)
  rw [List.foldl_cons]
  generalize b.foldl (fun x y => if x < y then y else x) (if x < y then y else x) = M at h1 h2 h3 ⊢
  by_cases c : x < y
  ·rw [if_pos c] at h1 h3
   refine ⟨by (first | lia | omega), fun a ha => ?_, ?_⟩
   ·rcases List.mem_cons.mp ha with rfl | ha
    ·exact h1
    ·exact h2 a ha
   ·rcases h3 with e | e
    ·exact .inr (by rw [e]; exact List.mem_cons_self ..)
    ·exact .inr (List.mem_cons_of_mem _ e)
  ·rw [if_neg c] at h1 h3
   refine ⟨h1, fun a ha => ?_, ?_⟩
   ·rcases List.mem_cons.mp ha with rfl | ha
    ·(first | lia | omega)
    ·exact h2 a ha
   ·rcases h3 with e | e
    ·exact .inl e
    ·exact .inr (List.mem_cons_of_mem _ e)
theorem mxD_of {b : List Int} {M : Int} (h0 : ∀ a ∈ b, 0 <= a) (hM : M ∈ b) (hb : ∀ a ∈ b, a <= M) : mxD b = M := by
 obtain ⟨_, h2, h3⟩ := mx_fold b (-1)
 unfold mxD
 have g1 := h2 M hM
 rcases h3 with e | e
 ·have := h0 M hM
  (first | lia | omega)
 ·have := hb _ e
  (first | lia | omega)
theorem prF_small : ∀ a < 25, ∀ j < 25 - a, (-2 ^ 64 < prF a j /\ prF a j < 2 ^ 64) ∨ ∀ y ∈ rowZ "highs" a, -2 ^ 64 < y /\ y < 2 ^ 64 := by decide +kernel
end L2
namespace K44
open PySem PySem.Spec PyProof.Rows L2
noncomputable abbrev s_highs_ending : Stmt := top 40
section
variable {P : Program} {w : World} {K : PySem.W.Frag} {mg : Str -> Option Value} {base : Heap}
theorem sc_highs_ending : FnScope ["many", "begun", "left", "able", "ways"] ["many", "begun"] (defScope s_highs_ending) := ⟨rfl, rfl, rfl, by decide +kernel, rfl, by decide +kernel, by decide +kernel⟩
set_option maxHeartbeats 4000000 in
theorem ok_highs_ending {f : Addr} {fd : FuncData} (F : Fun K "highs_ending" "highs_ending" s_highs_ending f fd) (T : Top mg) (Ctold : Cal P w K mg base 5 "told" ["kind", "many"] (spTold K)) (Cnumbers_left : Cal P w K mg base 1 "numbers_left" ["many", "begun"] spLeft) (Cproduct : Cal P w K mg base 1 "product" ["first", "last"] spPrF) (Chighs_in : Cal P w K mg base 1 "highs_in" ["order"] (spCntB highsO)) : FnOk P w K mg base CX0 6 f fd ["many", "begun"] (spEnd K "highs") := by
 refine F.ok sc_highs_ending (fun vs H Q E h => ?_) (fun cdv A outer s H vs Q E hr h => ?_)
 ·obtain ⟨m, k, a, b, rfl, _⟩ := h
  rfl
 ·obtain ⟨m, k, a, b, rfl, ha, hm, hcr, B, hk, kk⟩ := h
  have ln := B.len
  have lf := B.free
  refine ⟨_, (pss_cons (ps_set (i := 2) sc_highs_ending.nd rfl (Or.inl rfl) (pe_cal Cnumbers_left (hr.mono (by decide)) rfl (pa_cons (pv 0) (pa_cons (pv 1) pa_nil))))
   (pss_cons (ps_set (i := 3) sc_highs_ending.nd rfl (Or.inl rfl) (pe_callB (call_sumL rfl) (by rfl) T.n_sum boot_sum (pa_cons (pe_lc (N' := ["number", "begun"]) (n := 1) (ix := [1]) rfl (CompScope.of (sc := defScope s_highs_ending) (N := ["many", "begun", "left", "able", "ways"]) (by decide +kernel) rfl rfl) (pi_list (pv 2)) (fun _ _ _ _ _ => ⟨(pg_name (i := 0) (show (["number", "begun"] : List Str).Nodup by decide +kernel) rfl (Or.inl rfl)), (pts_one (pt_cmpR op_gt (pv 0) (pe_maxD rfl (by rfl) T.n_max boot_max (pv 1) (pe_un un_neg pe_int)) (nomark _))), pe_int⟩)) pa_nil)))
   (pss_cons (ps_set (i := 4) sc_highs_ending.nd rfl (Or.inr rfl) (pe_cal Cproduct (hr.mono (by decide)) rfl (pa_cons (pe_op op_add (pv 3) pe_int) (pa_cons (pe_callB call_len_seq (by rfl) T.n_len PySem.boot_len (pa_cons (pv 2) pa_nil)) pa_nil))))
   (pss_one (ps_ret (pe_tup (pa_cons (pe_cal Chighs_in (hr.mono (by decide)) rfl (pa_cons (pv 1) pa_nil)) (pa_cons (pe_callTy call_tuple_of (by rfl) T.n_tuple boot_tuple (pa_cons (pe_lc (N' := ["orders", "ways"]) (n := 1) (ix := [4]) rfl (CompScope.of (sc := defScope s_highs_ending) (N := ["many", "begun", "left", "able", "ways"]) (by decide +kernel) rfl rfl) (pi_tup (pe_cal Ctold (hr.mono (by decide)) rfl (pa_cons pe_str (pa_cons (pv 3) pa_nil)))) (fun _ _ _ _ _ => ⟨(pg_name (i := 0) (show (["orders", "ways"] : List Str).Nodup by decide +kernel) rfl (Or.inl rfl)), pts_nil, (pe_op op_mul (pv 1) (pv 0))⟩)) pa_nil)) pa_nil)))))))), ?_⟩
  refine ⟨_, rfl, _, rfl, m, a, b, rfl, ha, by (first | lia | omega), fun l G1 s1 hl0 hl => ?_⟩
  refine ⟨_, rfl, l, rfl, ⟨_, SqL.of hl⟩, ?_⟩
  refine lc_ones (yields_list (K := K) (a := l) (xs := (freeO m b).map V.int)) (small1 (by rw [mapI_len]; (first | lia | omega))) (fun v => match v with | .int n => decide (n > mxD b) | _ => false) (fun G sm => SqL.of (sm _ _ hl)) (fun x hx G s' Q' q' => ?_) (fun x hx G s' Q' q' => q') fun acc G2 hacc s2 hys => ?_
  ·obtain ⟨n, hn, rfl⟩ := List.mem_map.mp hx
   have ha' := s' _ _ (s1 _ _ ha)
   refine ⟨_, rfl, _, rfl, _, rfl, a, b, rfl, ha', fun hb0 => ?_, fun hb0 M hM hle => ?_⟩
   ·subst hb0
    exact ⟨_, _, rfl, rfl, _, rfl, q'⟩
   ·refine ⟨_, _, rfl, rfl, _, rfl, ?_⟩
    rw [<- mxD_of (fun a ha => (B.rng a ha).1) hM hle]
    exact q'
  refine ⟨acc, _, rfl, hys, ?_⟩
  have eab : ((List.replicate ((((freeO m b).map V.int).filter fun v => match v with | .int n => decide (n > mxD b) | _ => false)).length (1 : Int)).sum) = (ableZ "highs" m b : Int) := ones_int (q := fun x => decide (mxD b < x)) (l := freeO m b) rfl (fun _ => rfl)
  rw [eab]
  have hab : ableZ "highs" m b <= m - k := by
   refine Nat.le_trans (List.length_filter_le _ _) ?_
   (first | lia | omega)
  generalize hA : ableZ "highs" m b = ab at hab ⊢
  have ha2 := s2 _ _ (s1 _ _ ha)
  have hl2 := s2 _ _ hl
  have lf2 : (freeO m b).length = m - k := by (first | lia | omega)
  refine ⟨_, rfl, _, _, rfl, rfl, _, rfl, l, _, rfl, .inl (SqL.of hl2), ab, m - k - ab, ?_, by (first | lia | omega), ?_⟩
  ·rw [mapI_len, lf2]
   congr 3
   (first | lia | omega)
  refine ⟨_, rfl, a, b, m, k, rfl, ha2, B, by (first | lia | omega), fun G3 s3 => ?_⟩
  refine ⟨_, rfl, "highs", ab, rfl, by decide, by show ab <= 60; (first | lia | omega), fun r G4 s4 hr4 => ?_⟩
  refine ⟨r, rfl, ⟨_, hr4⟩, ?_⟩
  have psm := prF_small ab (by (first | lia | omega)) (m - k - ab) (by (first | lia | omega))
  have lr : (rowZ "highs" ab).length <= 100 := by
   have : ∀ a < 25, (rowZ "highs" a).length <= 100 := by decide +kernel
   exact this ab (by (first | lia | omega))
  refine lc_pure (yields_tup (K := K) (a := r) (xs := (rowZ "highs" ab).map V.int)) (small1 (by rw [mapI_len]; (first | lia | omega))) (fun _ => true) (fun v => match v with | .int n => .int (prF ab (m - k - ab) * n) | v => v) (fun G sm => sm.seqT hr4) (fun x hx G s' Q' q' => q') (fun x hx _ G s' Q' q' => ?_) fun acc2 hacc2 => ?_
  ·obtain ⟨n, hn, rfl⟩ := List.mem_map.mp hx
   exact ⟨_, rfl, _, rfl, _, _, rfl, rfl, psm.elim .inl fun h => .inr (h n hn), q'⟩
  refine ⟨acc2, _, rfl, .inl ⟨SqL.of upd_same, fun t ht => ?_⟩⟩
  refine ⟨by show 2 <= sizeLine; decide, fun t2 ht2 => ?_⟩
  refine kk t2 t _ (s1.trans (s2.trans (s3.trans (s4.trans ((same_upd hacc2).trans ((same_upd ht).trans (same_upd ht2))))))) upd_same ?_
  have e : wayR "highs" m b = (rowZ "highs" ab).map (prF ab (m - k - ab) * ·) := by
   unfold wayR
   rw [hA, ln]
   rfl
  rw [e]
  refine SqT.of ((same_upd ht2) _ _ ?_)
  rw [upd_same, List.filter_eq_self.mpr (fun _ _ => rfl), List.map_map, List.map_map]
  rfl
end
end K44
namespace L2
open PySem PySem.Spec PyProof.Rows
noncomputable def SameN (H H' : Hp) : Prop := ∀ b o, H b = some o -> (∀ ps, o ≠ .tbl ps) -> H' b = some o
theorem SameN.trans {H H' H'' : Hp} (a : SameN H H') (b : SameN H' H'') : SameN H H'' := fun x o e n => b x o (a x o e n) n
theorem Same.n {H H' : Hp} (s : Same H H') : SameN H H' := fun b o e _ => s b o e
theorem SameB.n {T : Addr} {H H' : Hp} {ps : Array Value} (h : H T = some (.tbl ps)) (s : SameB T H H') : SameN H H' := fun b o e n => s b o e fun z => by
 subst z
 rw [h] at e
 cases e
 exact n _ rfl
theorem SameN.tup {H H' : Hp} (s : SameN H H') {a : Addr} {xs : List V} (h : H a = some (.tup xs)) : H' a = some (.tup xs) := s _ _ h fun _ z => by cases z
theorem SameN.lst {H H' : Hp} (s : SameN H H') {a : Addr} {xs : List V} (h : H a = some (.lst xs)) : H' a = some (.lst xs) := s _ _ h fun _ z => by cases z
theorem SameN.spring {H H' : Hp} (s : SameN H H') {p q : Addr} {n : Nat} (h : Spring H p q n) : Spring H' p q n := by
 obtain ⟨ns, a, t, h1, h2, h3⟩ := h
 exact ⟨ns, a, t, s _ _ h1 (fun _ z => by cases z), s _ _ h2 (fun _ z => by cases z), h3⟩
theorem TbOk.keep {H H' : Hp} {T p q : Addr} {qn : Str} {ps : Array Value} {n : Nat} (h : TbOk H T qn ps) (sp : Spring H p q n) (k : Keep p q H H') : TbOk H' T qn ps := by
 obtain ⟨ns, s, t, h1, h2, _⟩ := sp
 have no : ∀ (b : Addr) (o : HO), H b = some o -> (∀ d, o ≠ .dK d) -> (∀ xs, o ≠ .lst xs) -> H' b = some o := fun b o e n1 n2 => k b o e (fun z => by
  subst z
  rw [h1] at e
  cases e
  exact n1 _ rfl) (fun z => by
  subst z
  rw [h2] at e
  cases e
  exact n2 _ rfl)
 refine ⟨no _ _ h.at_ (fun _ z => by cases z) (fun _ z => by cases z), h.tri, fun pos cv e => ?_⟩
 obtain ⟨c, e1, e2⟩ := h.hit pos cv e
 exact ⟨c, e1, no _ _ e2 (fun _ z => by unfold cdP at z; cases z) (fun _ z => by unfold cdP at z; cases z)⟩
theorem Spring.tupS {p q : Addr} {n : Nat} {H H' : Hp} (hp : Spring H p q n) (k : Keep p q H H') : SameT H H' := fun a xs e => k a _ e (hp.tup_ne e).1 (hp.tup_ne e).2
theorem ifS {b : Bool} {A B : Prop} (hb : b = false) (h : B) : if b = true then A else B := by
 subst hb
 exact iteF h
theorem neq_self (x : V) : (!decide (x = x)) = false := by simp
end L2
namespace L2
open PySem PySem.Spec PyProof.Rows
theorem pe_cal0 {X : Cx} {k : Nat} {sp : Sp} {x : Str} {p pos : Pos} (C : Cal X.prog X.w X.K X.mg X.base k x [] sp) (hr : Room k X.A) (hg : Gl X x) (hdb : (x == ("__debug__" : Str)) = false := by decide) : PE X (.Call (.Name x p) [] [] pos) (fun _ H Q => sp [] H Q E0) := by
 obtain ⟨f, fd, F, hm, hk, hb⟩ := C.ex
 exact (pe_call0 F hr hg hm hk hb .nil pass0 hdb).mono fun σ H Q q => q
theorem PS.wordN {X : Cx} {st : Stmt} {t t' : TS} (h : PS X st t) (m : ∀ D σ H, t' D σ H -> t D σ H) : PS X st t' := fun pins s σ H D I q => h pins s σ H D I (m D σ H q)
noncomputable def othT : TS := fun D σ H => ∃ (p q a b a0 : Addr) (m n : Nat) (o o' : List Int) (c2 c3 c4 c8 c9 c10 : Option V), σ = [some (.ref a0), some (.ref p), c2, c3, c4, some (.int m), some (.ref a), some (.ref b), c8, c9, c10] /\ H a = some (.tup (o.map V.int)) /\ H b = some (.tup (o'.map V.int)) /\ Ord m o /\ Ord m o' /\ 1 <= m /\ m <= 24 /\
 Spring H p q n /\ n < 900 /\ ∀ (b' : Addr) (o'' : List Int) (c8' c9' : Option V) H', H' b' = some (.tup (o''.map V.int)) -> Ord m o'' -> Spring H' p q (n + 3) -> Keep p q H H' -> D.nx [some (.ref a0), some (.ref p), c2, c3, c4, some (.int m), some (.ref a), some (.ref b'), c8', c9', c10] H'
noncomputable def swI (i j k : Int) : Int := if k = i then j else if k = j then i else k
theorem sw_ord {m : Nat} {o : List Int} (h : Ord m o) {i j : Int} (hi : 0 <= i /\ i < (m : Int)) (hj : 0 <= j /\ j < (m : Int)) : Ord m ((num0 m).map fun k => atO o (swI i j k)) := by
 have rng : ∀ k : Int, 0 <= k /\ k < (m : Int) -> 0 <= swI i j k /\ swI i j k < (m : Int) := fun k hk => by
  unfold swI
  split
  ·exact hj
  ·split
   ·exact hi
   ·exact hk
 have inv : ∀ k : Int, swI i j (swI i j k) = k := fun k => by
  unfold swI
  by_cases c : k = i
  ·subst c
   rw [if_pos rfl]
   by_cases d : j = k
   ·rw [if_pos d, d]
   ·rw [if_neg d, if_pos rfl]
  ·rw [if_neg c]
   by_cases d : k = j
   ·subst d
    rw [if_pos rfl, if_pos rfl]
   ·rw [if_neg d, if_neg c, if_neg d]
 have hl := h.len
 refine perm_of_nd ?_ (num0_nodup' m) fun y => ⟨fun hy => ?_, fun hy => ?_⟩
 ·rw [List.nodup_iff_pairwise_ne, List.pairwise_map]
  refine List.Pairwise.imp_of_mem (fun {a b} ha hb hne e => hne ?_) (List.nodup_iff_pairwise_ne.mp (num0_nodup' m))
  have := atO_inj h (rng a (num0_mem ha)) (rng b (num0_mem hb)) e
  rw [<- inv a, this, inv b]
 ·obtain ⟨k, hk, rfl⟩ := List.mem_map.mp hy
  have hr := rng k (num0_mem hk)
  exact mem_num0.mpr (h.rng _ (atO_mem hr.1 (by rw [hl]; exact hr.2)))
 ·have hyo : y ∈ o := h.mem_iff.mpr hy
  obtain ⟨x, hx, e⟩ := List.getElem_of_mem hyo
  refine List.mem_map.mpr ⟨swI i j (x : Int), mem_num0.mpr (rng _ (by (first | lia | omega))), ?_⟩
  show atO o (swI i j (swI i j (x : Int))) = y
  rw [inv]
  unfold atO
  rw [Int.toNat_natCast, List.getD_eq_getElem?_getD, List.getElem?_eq_getElem hx]
  exact e
theorem oth_ok {K : PySem.W.Frag} (D : Ends) (σ : L2.St) (H : Hp) (h : othT D σ H) :
  tIfS (tTest (tOp rEq (fun σ H Q => tCons (tVar 1) (tCons (tC (V.int 2)) tNil) σ H fun vs H1 => spTakeS vs H1 Q E0) (tC (V.int 0))))
   (tSeq (tAsg (tTup (tCons (fun σ H Q => tCons (tVar 1) (tCons (tVar 5) tNil) σ H fun vs H1 => spTakeS vs H1 Q E0) (tCons (fun σ H Q => tCons (tVar 1) (tCons (tVar 5) tNil) σ H fun vs H1 => spTakeS vs H1 Q E0) tNil))) (gTup K 2 (gCons (gName 8) (gCons (gName 9) gNil))))
    (tAsg (tCB (fun xs H Q => ∃ p ys, xs = [V.ref p] /\ ((SqL K H p ys /\ ∀ (l : Addr), H l = none -> Q (V.ref l) (upd H l (HO.tup ys))) ∨ SqT K H p ys /\ Q (V.ref p) H))
     (tCons (tLc (iRng1 (tCons (tVar 5) tNil)) (gName 0) tNoTest (tIf (tTest (tOp rEq (tVar 0) (tVar 1))) (tOp (rIxT K) (tVar 2) (tVar 3)) (tIf (tTest (tOp rEq (tVar 0) (tVar 3))) (tOp (rIxT K) (tVar 2) (tVar 1)) (tOp (rIxT K) (tVar 2) (tVar 0)))) 1 [8, 6, 9]) tNil)) (gName 7)))
   tNext D σ H := by
 obtain ⟨p, q, a, b, a0, m, n, o, o', c2, c3, c4, c8, c9, c10, rfl, ha, hb, ho, ho', hm0, hm, sp, hn, kk⟩ := h
 refine ⟨_, rfl, p, q, 2, n, rfl, by decide, by decide, sp, by (first | lia | omega), fun d G d0 d1 sp1 k1 => ⟨rfl, _, rfl, ?_⟩⟩
 refine ite2 (fun _ => ?_) (fun _ => ?_)
 ·refine ⟨_, rfl, _, rfl, p, q, m, n + 1, rfl, by (first | lia | omega), by (first | lia | omega), sp1, by (first | lia | omega), fun i G1 i0 i1 sp2 k2 => ?_⟩
  refine ⟨_, rfl, _, rfl, p, q, m, n + 2, rfl, by (first | lia | omega), by (first | lia | omega), sp2, by (first | lia | omega), fun j G2 j0 j1 sp3 k3 => ?_⟩
  refine ⟨by show 2 <= sizeLine; decide, fun t1 ht1 => ⟨t1, _, rfl, SqT.of upd_same, rfl, _, _, rfl, _, _, rfl, rfl, ?_⟩⟩
  have kA := (k1.trans k2).trans (k3.trans (same_upd (o := .tup [V.int i, .int j]) ht1).keep)
  have spA := sp3.same (same_upd (o := .tup [V.int i, .int j]) ht1)
  generalize upd G2 t1 (.tup [V.int i, .int j]) = G3 at kA spA ⊢
  have ha3 := sp.tupS kA _ _ ha
  refine ⟨_, rfl, (m : Int), rfl, by (first | lia | omega), by (first | lia | omega), ?_⟩
  rw [Int.toNat_natCast]
  refine lc_tabG (fun k => atO o (swI i j k)) (by (first | lia | omega)) (fun k k0 k1 G4 g4 Q' q' => ?_) fun acc G4 hacc g4 hl => ?_
  ·have ha4 := g4 _ _ ha3
   have at_ : ∀ x : Int, 0 <= x -> x < (m : Int) -> atI (o.map V.int) x = some (.int (atO o x)) := fun x x0 x1 => at_atO x0 (by rw [ho.len]; exact x1)
   refine ⟨_, rfl, _, rfl, rfl, _, rfl, ?_⟩
   have dV : ∀ x y : Int, decide (V.int x = V.int y) = decide (x = y) := fun x y => decide_eq_decide.mpr ⟨fun z => V.int.inj z, fun z => congrArg V.int z⟩
   rw [dV]
   unfold swI at q'
   refine ite2 (fun c => ?_) (fun c => ?_)
   ·rw [if_pos (of_decide_eq_true c)] at q'
    exact ⟨_, rfl, _, rfl, a, _, _, _, rfl, rfl, SqT.of ha4, at_ _ j0 j1, q' G4 (Same.refl _)⟩
   ·rw [if_neg (fun z => c (decide_eq_true z))] at q'
    refine ⟨_, rfl, _, rfl, rfl, _, rfl, ?_⟩
    rw [dV]
    refine ite2 (fun c2 => ?_) (fun c2 => ?_)
    ·rw [if_pos (of_decide_eq_true c2)] at q'
     exact ⟨_, rfl, _, rfl, a, _, _, _, rfl, rfl, SqT.of ha4, at_ _ i0 i1, q' G4 (Same.refl _)⟩
    ·rw [if_neg (fun z => c2 (decide_eq_true z))] at q'
     exact ⟨_, rfl, _, rfl, a, _, _, _, rfl, rfl, SqT.of ha4, at_ _ k0 k1, q' G4 (Same.refl _)⟩
  ·refine ⟨acc, _, rfl, .inl ⟨SqL.of hl, fun t ht => ?_⟩⟩
   have sA := g4.trans (same_upd (o := .tup (((num0 m).map fun k => atO o (swI i j k)).map V.int)) ht)
   exact kk t _ _ _ _ upd_same (sw_ord ho ⟨i0, i1⟩ ⟨j0, j1⟩) (spA.same sA) (kA.trans sA.keep)
 ·exact kk b o' c8 c9 G (sp.tupS k1 _ _ hb) ho' (sp1.more (by (first | lia | omega))) k1
end L2
namespace K44
open PySem PySem.Spec PyProof.Rows L2
noncomputable def spLaw (K : PySem.W.Frag) (T1 : Addr) : Sp := fun vs H Q _ => ∃ (a : Addr) (ns : List Int), vs = [.ref a] /\ SqL K H a (ns.map V.int) /\ ns.length <= 63 /\ H T1 = some (.tbl #[]) /\ ∀ H', Q (.bl true) H'
noncomputable abbrev s_law : Stmt := top 53
section
variable {P : Program} {w : World} {K : PySem.W.Frag} {mg : Str -> Option Value} {base : Heap}
theorem sc_law : FnScope ["_law_script", "_law_spring", "_law_turn", "_law_kind", "_law_top", "_law_many", "_law_one", "_law_other", "_law_i", "_law_j", "_law_places"] ["_law_script"] (defScope s_law) := ⟨rfl, rfl, rfl, by decide +kernel, rfl, by decide +kernel, by decide +kernel⟩
set_option maxHeartbeats 8000000 in
noncomputable def lawT {f T1 : Addr} {q1 : Str} {cdv : Value} {A : Around} {outer : List Env} {s : Shared} {H : Hp} {E : XK} (hr : Room 10 (A.deeper (envOfC "law" (defScope s_law) s.heap.objs.size f cdv))) (T : Top mg) (C_law_spring_of : Cal P w K mg base 1 "_law_spring_of" ["_law_script"] (spSpring K)) (C_law_take : Cal P w K mg base 1 "_law_take" ["_law_spring", "_law_many"] spTakeS) (C_law_of : Cal P w K mg base 2 "_law_of" ["_law_spring", "_law_some"] spOfW) (C_law_kinds : Cal P w K mg base 1 "_law_kinds" [] spKindsL) (C_law_own_count : Cal P w K mg base 2 "_law_own_count" ["_law_kind", "_law_order"] spOwnC) (C_law_drawn_order : Cal P w K mg base 2 "_law_drawn_order" ["_law_spring", "_law_many"] spDrawO) (C_law_due_of : Cal P w K mg base 8 "_law_due_of" ["_law_kind", "_law_order"] spDueOf) (Cplace_among : Cal P w K mg base 10 "place_among" ["kind", "order"] (spPlaceA T1 q1)) : {t : TS // PSs (cxOf CX0 P w K mg base ["_law_script", "_law_spring", "_law_turn", "_law_kind", "_law_top", "_law_many", "_law_one", "_law_other", "_law_i", "_law_j", "_law_places"] "law" (defScope s_law) f cdv A outer s H E).nox (defBody s_law) t} :=
 have hu : _ := hr.units
 have hu1 : _ := hu_of hr
 ⟨_, (pss_cons (ps_set (i := 1) sc_law.nd rfl (Or.inl rfl) (pe_cal C_law_spring_of (hr.mono (by decide)) rfl (pa_cons (pv 0) pa_nil)))
   (pss_cons (ps_for PassesOwn.never rfl (pi_range1 rfl T.n_range (pa_cons pe_int pa_nil)) (pg_name (i := 2) sc_law.nd rfl (Or.inl rfl))
    (pss_cons (ps_set (i := 3) sc_law.nd rfl (Or.inl rfl) (pe_cal C_law_of (hr.mono (by decide)) rfl (pa_cons (pv 1) (pa_cons (pe_cal0 C_law_kinds (hr.mono (by decide)) rfl) pa_nil))))
    (pss_cons (ps_set (i := 4) sc_law.nd rfl (Or.inl rfl) (pe_dget2 hu1 (pe_dict2 (by decide) pe_str pe_str pe_int pe_int) (pv 3) pe_int ⟨rfl, rfl, rfl, rfl⟩))
    (pss_cons (ps_set (i := 5) sc_law.nd rfl (Or.inl rfl) (pe_ix ix_list (pe_lst (pa_cons pe_int (pa_cons (pe_op op_add pe_int (pe_cal C_law_take (hr.mono (by decide)) rfl (pa_cons (pv 1) (pa_cons (pv 4) pa_nil)))) (pa_cons (pv 4) pa_nil)))) (pe_cal C_law_take (hr.mono (by decide)) rfl (pa_cons (pv 1) (pa_cons pe_int pa_nil))) (fun _ _ => rfl)))
    (pss_cons (ps_set (i := 6) sc_law.nd rfl (Or.inr rfl) (pe_cal C_law_drawn_order (hr.mono (by decide)) rfl (pa_cons (pv 1) (pa_cons (pv 5) pa_nil))))
    (pss_cons (ps_set (i := 7) sc_law.nd rfl (Or.inl rfl) (pe_cal C_law_drawn_order (hr.mono (by decide)) rfl (pa_cons (pv 1) (pa_cons (pv 5) pa_nil))))
    (pss_cons (PS.wordN (t' := othT) (ps_if (pt_cmpR op_eq (pe_cal C_law_take (hr.mono (by decide)) rfl (pa_cons (pv 1) (pa_cons pe_int pa_nil))) pe_int (nomark _))
     (pss_cons (ps_asg (pe_tup (pa_cons (pe_cal C_law_take (hr.mono (by decide)) rfl (pa_cons (pv 1) (pa_cons (pv 5) pa_nil))) (pa_cons (pe_cal C_law_take (hr.mono (by decide)) rfl (pa_cons (pv 1) (pa_cons (pv 5) pa_nil))) pa_nil))) (pg_pair (i := 8) (j := 9) rfl sc_law.nd rfl rfl (Or.inr rfl) (Or.inr rfl) (Or.inl rfl) (Or.inl rfl)))
     (pss_one (ps_set (i := 7) sc_law.nd rfl (Or.inl rfl) (pe_callTy call_tuple_of (by rfl) T.n_tuple boot_tuple (pa_cons (pe_lc (N' := ["_law_k", "_law_i", "_law_one", "_law_j"]) (n := 1) (ix := [8, 6, 9]) rfl (CompScope.of (sc := defScope s_law) (N := ["_law_script", "_law_spring", "_law_turn", "_law_kind", "_law_top", "_law_many", "_law_one", "_law_other", "_law_i", "_law_j", "_law_places"]) (by decide +kernel) rfl rfl) (pi_range1 rfl T.n_range (pa_cons (pv 5) pa_nil)) (fun _ _ _ _ _ => ⟨(pg_name (i := 0) (show (["_law_k", "_law_i", "_law_one", "_law_j"] : List Str).Nodup by decide +kernel) rfl (Or.inl rfl)), pts_nil, (pe_ifExp (pt_cmpR op_eq (pv 0) (pv 1) (nomark _)) (pe_ix (ix_tupK K rfl) (pv 2) (pv 3) (fun _ _ => rfl)) (pe_ifExp (pt_cmpR op_eq (pv 0) (pv 3) (nomark _)) (pe_ix (ix_tupK K rfl) (pv 2) (pv 1) (fun _ _ => rfl)) (pe_ix (ix_tupK K rfl) (pv 2) (pv 0) (fun _ _ => rfl))))⟩)) pa_nil)))))
     pss_nil) (fun D σ H h => oth_ok D σ H h))
    (pss_cons (ps_set (i := 10) sc_law.nd rfl (Or.inl rfl) (pe_lst (pa_cons (pe_cal Cplace_among (hr.mono (by decide)) rfl (pa_cons (pv 3) (pa_cons (pv 6) pa_nil))) (pa_cons (pe_cal Cplace_among (hr.mono (by decide)) rfl (pa_cons (pv 3) (pa_cons (pv 7) pa_nil))) pa_nil))))
    (pss_cons (ps_if (PW.pt (pw_or (pt_cmpR op_ne (pe_ix ix_list (pv 10) pe_int (fun _ _ => rfl)) (pe_cal C_law_due_of (hr.mono (by decide)) rfl (pa_cons (pv 3) (pa_cons (pv 6) pa_nil))) (nomark _)) (pw_or1 (pt_cmpR op_ne (pe_cal Cplace_among (hr.mono (by decide)) rfl (pa_cons (pv 3) (pa_cons (pv 6) pa_nil))) (pe_ix ix_list (pv 10) pe_int (fun _ _ => rfl)) (nomark _)))))
     (pss_one (ps_ret pe_bl))
     pss_nil)
    (pss_one (ps_if (PW.pt (pw_and (pt_cmpR op_eq (pe_cal C_law_own_count (hr.mono (by decide)) rfl (pa_cons (pv 3) (pa_cons (pv 6) pa_nil))) (pe_cal C_law_own_count (hr.mono (by decide)) rfl (pa_cons (pv 3) (pa_cons (pv 7) pa_nil))) (nomark _)) (pw_and1 (pt_cmpR op_ne (pe_cmpR op_lt (pe_ix ix_list (pv 10) pe_int (fun _ _ => rfl)) (pe_ix ix_list (pv 10) pe_int (fun _ _ => rfl)) (nomark _)) (pe_cmpR (op_ltT (Nat.lt_of_le_of_lt (Nat.le_add_right _ _) hu)) (pv 6) (pv 7) (nomark _)) (nomark _)))))
     (pss_one (ps_ret pe_bl))
     pss_nil)))))))))))
   (pss_one (ps_ret pe_bl))))⟩
end
end K44
namespace L2
open PySem PySem.Spec PyProof.Rows
theorem top_of {kd : Str} (h : kd ∈ kinds5) : ∃ top : Nat, (valV [((.inr "crossed" : Key), V.int 12), (.inr "rises", V.int 16)] (.inr kd)).getD (.int 24) = .int (top : Int) /\ 1 <= top /\ top <= 24 /\ (kd = "crossed" -> top <= 12) := by
 rcases kinds5_cases h with rfl | rfl | rfl | rfl | rfl
 ·exact ⟨24, by rfl, by decide, by decide, fun z => absurd z (by decide)⟩
 ·exact ⟨24, by rfl, by decide, by decide, fun z => absurd z (by decide)⟩
 ·exact ⟨16, by rfl, by decide, by decide, fun z => absurd z (by decide)⟩
 ·exact ⟨24, by rfl, by decide, by decide, fun z => absurd z (by decide)⟩
 ·exact ⟨12, by rfl, by decide, by decide, fun _ => by decide⟩
theorem many_of {kd : Str} {top : Nat} {d e : Int} (t0 : 1 <= top) (t1 : top <= 24) (tc : kd = "crossed" -> top <= 12) (d0 : 0 <= d) (d1 : d < (top : Int)) (e0 : 0 <= e) (e1 : e < 3) :
  ∃ m : Nat, atI [V.int 9, .int (1 + d), .int (top : Int)] e = some (.int (m : Int)) /\ 1 <= m /\ m <= 24 /\ (kd = "crossed" -> m <= 12) := by
 have : e = 0 ∨ e = 1 ∨ e = 2 := by (first | lia | omega)
 rcases this with rfl | rfl | rfl
 ·exact ⟨9, rfl, by decide, by decide, fun _ => by decide⟩
 ·refine ⟨(1 + d).toNat, ?_, by (first | lia | omega), by (first | lia | omega), fun z => by have := tc z; (first | lia | omega)⟩
  show some (V.int (1 + d)) = _
  rw [Int.toNat_of_nonneg (by (first | lia | omega))]
 ·exact ⟨top, rfl, t0, t1, tc⟩
theorem way_one {m : Nat} {o : List Int} {kd : Str} (hkd : kd ∈ kinds5) (ho : Ord m o) : wayW kd m o (sureW kd m o) = 1 := by
 rw [way_whole hkd ho.begW, if_pos rfl]
end L2
namespace K44
open PySem PySem.Spec PyProof.Rows L2
section
variable {P : Program} {w : World} {K : PySem.W.Frag} {mg : Str -> Option Value} {base : Heap}
set_option maxHeartbeats 8000000 in
theorem ok_law {f T1 : Addr} {fd : FuncData} (F : Fun K "law" "law" s_law f fd) (Ck : Cks) (T : Top mg) (C_law_spring_of : Cal P w K mg base 1 "_law_spring_of" ["_law_script"] (spSpring K)) (C_law_take : Cal P w K mg base 1 "_law_take" ["_law_spring", "_law_many"] spTakeS) (C_law_of : Cal P w K mg base 2 "_law_of" ["_law_spring", "_law_some"] spOfW) (C_law_kinds : Cal P w K mg base 1 "_law_kinds" [] spKindsL) (C_law_own_count : Cal P w K mg base 2 "_law_own_count" ["_law_kind", "_law_order"] spOwnC) (C_law_drawn_order : Cal P w K mg base 2 "_law_drawn_order" ["_law_spring", "_law_many"] spDrawO) (C_law_due_of : Cal P w K mg base 8 "_law_due_of" ["_law_kind", "_law_order"] spDueOf) (Cplace_among : Cal P w K mg base 10 "place_among" ["kind", "order"] (spPlaceA T1 qPlace)) : FnOk P w K mg base CX0 11 f fd ["_law_script"] (spLaw K T1) := by
 refine F.ok sc_law (fun vs H Q E h => ?_) (fun cdv A outer s H vs Q E hr h => ?_)
 ·obtain ⟨a, ns, rfl, _⟩ := h
  rfl
 ·obtain ⟨a, ns, rfl, hS, hl, ht1, k⟩ := h
  have hTb0 : ∃ ps, TbOk H T1 qPlace ps := ⟨_, .start ht1⟩
  have hT := (lawT (P := P) (w := w) (base := base) (E := E) (outer := outer) (s := s) (H := H) (f := f) (cdv := cdv) (A := A) hr T C_law_spring_of C_law_take C_law_of C_law_kinds C_law_own_count C_law_drawn_order C_law_due_of Cplace_among).2
  refine ⟨(lawT (P := P) (w := w) (base := base) (E := E) (outer := outer) (s := s) (H := H) (f := f) (cdv := cdv) (A := A) hr T C_law_spring_of C_law_take C_law_of C_law_kinds C_law_own_count C_law_drawn_order C_law_due_of Cplace_among).1, by assumption, ?_⟩
  clear hT
  refine ⟨_, rfl, a, ns, rfl, hS, hl, fun p q H1 s1 hsp _ _ => ?_⟩
  have tb1 : ∃ ps, TbOk H1 T1 qPlace ps := let ⟨ps, h⟩ := hTb0; ⟨ps, h.same s1⟩
  refine ⟨_, rfl, by decide, by decide, ?_⟩
  refine for_range (lo := 0) (n := 2) (fun i σ G => ∃ (c2 c3 c4 c5 c6 c7 c8 c9 c10 : Option V), σ = [some (.ref a), some (.ref p), c2, c3, c4, c5, c6, c7, c8, c9, c10] /\ Spring G p q (i * 60) /\ ∃ ps, TbOk G T1 qPlace ps) ⟨_, _, _, _, _, _, _, _, _, rfl, hsp, tb1⟩ ?_ ?_
  ·rintro i σ G hi ⟨c2, c3, c4, c5, c6, c7, c8, c9, c10, rfl, sp0, ps0, tb0⟩
   refine ⟨_, rfl, rfl, fun l G1 s1 hl0 hl1 => ?_⟩
   have sp1 := sp0.same s1
   refine ⟨p, q, l, i * 60, _, rfl, sp1, by (first | lia | omega), hl1, (sp0.new hl0).2, by decide, by decide, fun x G2 hx sp2 k2 => ?_⟩
   obtain ⟨kd, hkd, rfl⟩ := List.mem_map.mp hx
   have tb2 := (tb0.same s1).keep sp1 k2
   clear hx k2 sp1 s1 hl1 hl0 tb0 sp0
   refine fun d hd => ⟨upd_same, d, rfl, .inl ⟨_, .inl upd_same⟩, _, rfl, _, DGet.k (k := Sum.inr kd) upd_same, ?_⟩
   obtain ⟨top, etop, t0, t1, tc⟩ := top_of hkd
   rw [etop]
   have u3 : Same G2 (upd (upd G2 d (.dK [])) d (.dK [((.inr "crossed" : Key), V.int 12), (.inr "rises", V.int 16)])) := fun b o e => by
    have hb : b ≠ d := ne_of_none e hd
    rw [upd_ne hb, upd_ne hb]
    exact e
   have sp3 := sp2.same u3
   have tb3 := tb2.same u3
   generalize upd (upd G2 d (.dK [])) d (.dK [((.inr "crossed" : Key), V.int 12), (.inr "rises", V.int 16)]) = G3 at sp3 tb3 ⊢
   clear u3 hd etop sp2 tb2
   refine ⟨_, rfl, _, rfl, p, q, top, i * 60 + 1, rfl, by (first | lia | omega), by (first | lia | omega), sp3, by (first | lia | omega), fun d1 G4 d10 d11 sp4 k4 => ?_⟩
   have tb4 := tb3.keep sp3 k4
   refine ⟨_, _, rfl, rfl, _, rfl, by show 3 <= sizeLine; decide, fun l3 hl3 => ?_⟩
   have sp5 := sp4.same (same_upd (o := .lst [.int 9, .int (1 + d1), .int (top : Int)]) hl3)
   have tb5 := tb4.same (same_upd (o := .lst [.int 9, .int (1 + d1), .int (top : Int)]) hl3)
   have l3p := sp4.new hl3
   refine ⟨_, rfl, p, q, 3, i * 60 + 2, rfl, by decide, by decide, sp5, by (first | lia | omega), fun e2 G6 e20 e21 sp6 k6 => ?_⟩
   obtain ⟨m, hat, hm0, hm1, hmc⟩ := many_of t0 t1 tc d10 d11 e20 e21
   have tb6 := tb5.keep sp5 k6
   refine ⟨l3, _, e2, _, rfl, rfl, SqL.of (k6 _ _ upd_same l3p.1 l3p.2), hat, ?_⟩
   clear k6 l3p tb5 sp5 hl3 tb4 k4 sp4 tb3 sp3 d10 d11 e20 e21 hat
   refine ⟨_, rfl, _, rfl, p, q, m, i * 60 + 3, rfl, by (first | lia | omega), sp6, by (first | lia | omega), fun ta o1 G7 ho1 h1 sp7 k7 => ?_⟩
   have ho1 : Ord m o1 := ho1
   have tb7 := tb6.keep sp6 k7
   refine ⟨_, rfl, _, rfl, p, q, m, i * 60 + 3 + m, rfl, by (first | lia | omega), sp7, by (first | lia | omega), fun tb' o2 G8 ho2 h2 sp8 k8 => ?_⟩
   have ho2 : Ord m o2 := ho2
   have tb8 := tb7.keep sp7 k8
   have h18 := sp7.tupS k8 _ _ h1
   refine ⟨p, q, ta, tb', a, m, i * 60 + 3 + m + m, o1, o2, _, _, _, _, _, _, rfl, h18, h2, ho1, ho2, hm0, hm1, sp8, by (first | lia | omega), fun tc' o3 c8' c9' G9 h3 ho3 sp9 k9 => ?_⟩
   have tb9 := tb8.keep sp8 k9
   have h19 := sp8.tupS k9 _ _ h18
   clear k9 h18 tb8 k8 h2 ho2 tb7 k7 h1 tb6 sp8 sp7 sp6
   refine ⟨_, rfl, _, rfl, kd, ta, o1, m, _, rfl, hkd, hm1, hmc, h19, ho1, tb9, fun psA GA sA tbA => ?_⟩
   have nA := sA.n tb9.at_
   refine ⟨_, rfl, _, rfl, kd, tc', o3, m, _, rfl, hkd, hm1, hmc, nA.tup h3, ho3, tbA, fun psB GB sB tbB => ?_⟩
   have nB := nA.trans (sB.n tbA.at_)
   refine ⟨by show 2 <= sizeLine; decide, fun lp hlp => ?_⟩
   have W1 := wz_way Ck hkd hm1 hmc (sureW kd m o1)
   generalize hp1 : ((List.range m).map fun i => plS (fun b => wayW kd m b (sureW kd m o1)) o1 i).sum = p1
   generalize hp3 : ((List.range m).map fun i => plS (fun b => wayW kd m b (sureW kd m o3)) o3 i).sum = p3
   have uC := @upd_same GB lp (.lst [.int p1, .int p3])
   have sC := same_upd (o := .lst [.int p1, .int p3]) hlp
   have nC := nB.trans sC.n
   have tbC := tbB.same sC
   generalize upd GB lp (.lst [.int p1, .int p3]) = GC at uC nC tbC ⊢
   clear sC hlp tbB
   refine ⟨_, rfl, lp, _, _, _, rfl, rfl, SqL.of uC, rfl, _, rfl, _, rfl, kd, ta, o1, m, rfl, hkd, hm1, hmc, nC.tup h19, ho1, fun GD sD => ?_⟩
   rw [hp1]
   refine ⟨rfl, _, rfl, ifS (neq_self _) ?_⟩
   have nD := nC.trans sD.n
   have tbD := tbC.same sD
   refine ⟨_, rfl, _, rfl, kd, ta, o1, m, _, rfl, hkd, hm1, hmc, nD.tup h19, ho1, tbD, fun psE GE sE tbE => ?_⟩
   rw [hp1]
   have nE := nD.trans (sE.n tbD.at_)
   have uE := ((sD.n).trans (sE.n tbD.at_)).lst uC
   refine ⟨_, rfl, lp, _, _, _, rfl, rfl, SqL.of uE, rfl, rfl, _, rfl, ifS (neq_self _) ?_⟩
   clear tbD nD sE sD tbC uC nB nA tbA sB sA
   refine ⟨_, rfl, _, rfl, kd, ta, o1, m, rfl, hkd, nE.tup h19, ho1, hm1, fun GF sF => ?_⟩
   refine ⟨_, rfl, _, rfl, kd, tc', o3, m, rfl, hkd, (nE.trans sF.n).tup h3, ho3, hm1, fun GH sH => ⟨rfl, _, rfl, ?_⟩⟩
   have nH := (nE.trans sF.n).trans sH.n
   have tbH := (tbE.same sF).same sH
   have uH := sH _ _ (sF _ _ uE)
   have spH := (nH.spring sp9).more (show _ <= (i + 1) * 60 by (first | lia | omega))
   rw [own_sure hkd ho1, own_sure hkd ho3]
   refine ite2 (fun heq => ?_) (fun _ => ⟨_, _, _, _, _, _, _, _, _, rfl, spH, _, tbH⟩)
   have heq : sureW kd m o1 = sureW kd m o3 := V.int.inj (of_decide_eq_true heq)
   have hb := W1.both ho1 ho3 (way_one hkd ho1) (by rw [heq]; exact way_one hkd ho3)
   rw [hp1] at hb
   rw [heq, hp3] at hb
   refine ⟨_, rfl, lp, _, _, _, rfl, rfl, SqL.of uH, rfl, _, rfl, lp, _, _, _, rfl, rfl, SqL.of uH, rfl, _, _, rfl, rfl, ?_⟩
   refine ⟨_, rfl, _, rfl, ta, tc', o1, o3, rfl, rfl, SqT.of (nH.tup h19), SqT.of (nH.tup h3), ?_⟩
   exact ⟨rfl, _, rfl, ifS (by show (!decide (V.bl (decide (p1 < p3)) = V.bl (HT.lexLt o1 o3))) = false; rw [hb]; exact neq_self _) ⟨_, _, _, _, _, _, _, _, _, rfl, spH, _, tbH⟩⟩
  ·rintro σ G ⟨c2, c3, c4, c5, c6, c7, c8, c9, c10, rfl, _⟩
   exact k _
end
end K44
namespace L2
open PySem PySem.Spec PyProof.Rows
theorem ckRi0_t : ckRi0 24 = true := by decide +kernel
end L2
namespace L2
open PySem PySem.Spec PyProof.Rows
noncomputable def gRis (L : Nat) : Bool := (List.range (L + 2)).all fun A => eqL (sumL (fun r => shZ (if A <= r then 1 else 0) (riR (L - r) r)) (L + 1)) (riR (L + 1 - A) A)
theorem gRis_lo : ((List.range 12).all gRis) = true := by decide +kernel
theorem gRis_12 : gRis 12 = true := by decide +kernel
theorem gRis_13 : gRis 13 = true := by decide +kernel
theorem gRis_14 : gRis 14 = true := by decide +kernel
theorem gRis_15 : gRis 15 = true := by decide +kernel
theorem gRis_16 : gRis 16 = true := by decide +kernel
theorem gRis_17 : gRis 17 = true := by decide +kernel
theorem gRis_18 : gRis 18 = true := by decide +kernel
theorem gRis_19 : gRis 19 = true := by decide +kernel
theorem gRis_20 : gRis 20 = true := by decide +kernel
theorem gRis_21 : gRis 21 = true := by decide +kernel
theorem gRis_22 : gRis 22 = true := by decide +kernel
theorem gRis_23 : gRis 23 = true := by decide +kernel
theorem ckRis_t : ckRis 24 = true := by
 refine List.all_eq_true.mpr fun L hL => ?_
 have h := List.mem_range.mp hL
 show gRis L = true
 by_cases c : L < 12
 ·exact List.all_eq_true.mp gRis_lo L (List.mem_range.mpr c)
 ·have h2 : L = 12 ∨ L = 13 ∨ L = 14 ∨ L = 15 ∨ L = 16 ∨ L = 17 ∨ L = 18 ∨ L = 19 ∨ L = 20 ∨ L = 21 ∨ L = 22 ∨ L = 23 := by (first | lia | omega)
  rcases h2 with rfl | rfl | rfl | rfl | rfl | rfl | rfl | rfl | rfl | rfl | rfl | rfl
  ·exact gRis_12
  ·exact gRis_13
  ·exact gRis_14
  ·exact gRis_15
  ·exact gRis_16
  ·exact gRis_17
  ·exact gRis_18
  ·exact gRis_19
  ·exact gRis_20
  ·exact gRis_21
  ·exact gRis_22
  ·exact gRis_23
end L2
namespace L2
open PySem PySem.Spec PyProof.Rows
noncomputable def gSt1 (L : Nat) : Bool := (List.range (L + 1)).all fun a => eqL (sumL (fun r => if r < L - a then stR (L - a) a else if r = L - a then shZ 1 (stR (L - a) a) else stR (L - (a - 1)) (a - 1)) (L + 1)) (stR (L - a) (a + 1))
theorem gSt1_lo : ((List.range 12).all gSt1) = true := by decide +kernel
theorem gSt1_12 : gSt1 12 = true := by decide +kernel
theorem gSt1_13 : gSt1 13 = true := by decide +kernel
theorem gSt1_14 : gSt1 14 = true := by decide +kernel
theorem gSt1_15 : gSt1 15 = true := by decide +kernel
theorem gSt1_16 : gSt1 16 = true := by decide +kernel
theorem gSt1_17 : gSt1 17 = true := by decide +kernel
theorem gSt1_18 : gSt1 18 = true := by decide +kernel
theorem gSt1_19 : gSt1 19 = true := by decide +kernel
theorem gSt1_20 : gSt1 20 = true := by decide +kernel
theorem gSt1_21 : gSt1 21 = true := by decide +kernel
theorem gSt1_22 : gSt1 22 = true := by decide +kernel
theorem gSt1_23 : gSt1 23 = true := by decide +kernel
theorem ckSt1_t : ckSt1 24 = true := by
 refine List.all_eq_true.mpr fun L hL => ?_
 have h := List.mem_range.mp hL
 show gSt1 L = true
 by_cases c : L < 12
 ·exact List.all_eq_true.mp gSt1_lo L (List.mem_range.mpr c)
 ·have h2 : L = 12 ∨ L = 13 ∨ L = 14 ∨ L = 15 ∨ L = 16 ∨ L = 17 ∨ L = 18 ∨ L = 19 ∨ L = 20 ∨ L = 21 ∨ L = 22 ∨ L = 23 := by (first | lia | omega)
  rcases h2 with rfl | rfl | rfl | rfl | rfl | rfl | rfl | rfl | rfl | rfl | rfl | rfl
  ·exact gSt1_12
  ·exact gSt1_13
  ·exact gSt1_14
  ·exact gSt1_15
  ·exact gSt1_16
  ·exact gSt1_17
  ·exact gSt1_18
  ·exact gSt1_19
  ·exact gSt1_20
  ·exact gSt1_21
  ·exact gSt1_22
  ·exact gSt1_23
end L2
namespace L2
open PySem PySem.Spec PyProof.Rows
noncomputable def gSt2 (L : Nat) : Bool := (List.range (L + 1)).all fun A => eqL (sumL (fun r => if r < L + 1 - A then stR (L - A) A else stR (L - (A - 1)) (A - 1)) (L + 1)) (stR (L + 1 - A) A)
theorem gSt2_lo : ((List.range 12).all gSt2) = true := by decide +kernel
theorem gSt2_12 : gSt2 12 = true := by decide +kernel
theorem gSt2_13 : gSt2 13 = true := by decide +kernel
theorem gSt2_14 : gSt2 14 = true := by decide +kernel
theorem gSt2_15 : gSt2 15 = true := by decide +kernel
theorem gSt2_16 : gSt2 16 = true := by decide +kernel
theorem gSt2_17 : gSt2 17 = true := by decide +kernel
theorem gSt2_18 : gSt2 18 = true := by decide +kernel
theorem gSt2_19 : gSt2 19 = true := by decide +kernel
theorem gSt2_20 : gSt2 20 = true := by decide +kernel
theorem gSt2_21 : gSt2 21 = true := by decide +kernel
theorem gSt2_22 : gSt2 22 = true := by decide +kernel
theorem gSt2_23 : gSt2 23 = true := by decide +kernel
theorem ckSt2_t : ckSt2 24 = true := by
 refine List.all_eq_true.mpr fun L hL => ?_
 have h := List.mem_range.mp hL
 show gSt2 L = true
 by_cases c : L < 12
 ·exact List.all_eq_true.mp gSt2_lo L (List.mem_range.mpr c)
 ·have h2 : L = 12 ∨ L = 13 ∨ L = 14 ∨ L = 15 ∨ L = 16 ∨ L = 17 ∨ L = 18 ∨ L = 19 ∨ L = 20 ∨ L = 21 ∨ L = 22 ∨ L = 23 := by (first | lia | omega)
  rcases h2 with rfl | rfl | rfl | rfl | rfl | rfl | rfl | rfl | rfl | rfl | rfl | rfl
  ·exact gSt2_12
  ·exact gSt2_13
  ·exact gSt2_14
  ·exact gSt2_15
  ·exact gSt2_16
  ·exact gSt2_17
  ·exact gSt2_18
  ·exact gSt2_19
  ·exact gSt2_20
  ·exact gSt2_21
  ·exact gSt2_22
  ·exact gSt2_23
end L2
namespace L2
open PySem PySem.Spec PyProof.Rows
theorem cksAll : Cks := ⟨ckRi0_t, ckRis_t, ckHig_t, ckSt1_t, ckSt2_t⟩
end L2
namespace L2
open PySem PySem.Spec PyProof.Rows
structure CodeV (vs : Array Value) (c T : Addr) : Prop where
 ex : ∃ (file : Str) (tf : Tok) (flags : Int) (tg : Tok) (inF : Bool) (text : Int) (tt : Tok),
  vs[11]? = some (.ref T) /\ vs.getD 11 .none = .ref T /\ vs.getD 18 .none = .str file tf /\ vs.getD 7 .none = .int flags tg /\ vs.getD 9 .none = .bool inF /\ vs.getD 10 .none = .int text tt /\ c ≠ T
structure DefL (K : PySem.W.Frag) (x : Str) (st : Stmt) (c T : Addr) : Prop where
 ex : ∃ (f : Addr) (oc : Value) (od an : Option Addr) (kV doc pm ct : Value) (osl : Array (Option Value)), PySem.W.nsIn K mainGlobals x = some (some (.ref f)) /\
  K.lookup f = some ⟨oc, od, .func (PySem.W.fnOf x x (defArgs st) (defBody st) (defScope st) .none kV doc pm an (.ref c) ct), osl⟩ /\ PySem.W.codeIn K (.ref c) x = true /\ PySem.W.keepIn K (.ref f) = true
 cd : ∃ (od : Option Addr) (vs : Array Value) (osl : Array (Option Value)), K.lookup c = some ⟨.type "code", od, .fields vs, osl⟩ /\ CodeV vs c T
section
variable {K : PySem.W.Frag} {h : Heap} {mg : Str -> Option Value} {x : Str} {st : Stmt} {c T : Addr}
theorem DefL.of {f : Addr} {oc : Value} {od an : Option Addr} {kV doc pm ct : Value} {osl : Array (Option Value)} {od2 : Option Addr} {vs : Array Value} {osl2 : Array (Option Value)} (a : PySem.W.nsIn K mainGlobals x = some (some (.ref f)))
  (l : K.lookup f = some ⟨oc, od, .func (PySem.W.fnOf x x (defArgs st) (defBody st) (defScope st) .none kV doc pm an (.ref c) ct), osl⟩) (c1 : PySem.W.codeIn K (.ref c) x = true) (k : PySem.W.keepIn K (.ref f) = true)
  (l2 : K.lookup c = some ⟨.type "code", od2, .fields vs, osl2⟩) (v : CodeV vs c T) : DefL K x st c T :=
 ⟨⟨f, oc, od, an, kV, doc, pm, ct, osl, a, l, c1, k⟩, od2, vs, osl2, l2, v⟩
theorem DefL.fn (D : DefL K x st c T) (X : K.In h) (G : h.Ns mainGlobals mg) : ∃ f fd, FunL K x x st f fd c T /\ Fun K x x st f fd /\ mg x = some (.ref f) := by
 obtain ⟨f, oc, od, an, kV, doc, pm, ct, osl, a, l, c1, k⟩ := D.ex
 obtain ⟨od2, vs, osl2, l2, ⟨file, tf, flags, tg, inF, text, tt, v⟩⟩ := D.cd
 exact ⟨f, _, ⟨⟨oc, od, kV, doc, pm, an, ct, osl, rfl, l, c1⟩, k, ⟨od2, vs, osl2, file, tf, flags, tg, inF, text, tt, l2, v⟩⟩, fun_mk (st := st) l c1 k, PySem.W.mg_of X G a⟩
theorem DefL.tab {h' : Heap} (D : DefL K x st c T) (X : K.In h') : isCodeTable h' T := by
 obtain ⟨od2, vs, osl2, l2, ⟨file, tf, flags, tg, inF, text, tt, v⟩⟩ := D.cd
 exact ⟨c, _, vs, X _ _ l2, rfl, rfl, v.1⟩
end
end L2
namespace K44
open PySem PySem.Spec PyProof.Rows L2
set_option maxHeartbeats 8000000 in
theorem all_mk {l : PySem.W.OpenLaw} {w : World} {K : PySem.W.Frag} {h : Heap} {mg : Str -> Option Value} {fa C_ROWS C_ENDINGS C_COUNTERS T_FIRST_ROW g_rounds_row g_stays_row g_rises_row g_crossed_row g_rounds_ending g_stays_ending g_rises_ending g_highs_ending g_crossed_ending g_rounds_in g_stays_in g_rises_in g_highs_in g_crossed_in g_longest_in c1 T1 : Addr} (X : K.In h) (G : h.Ns mainGlobals mg) (hfa : mg "law" = some (.ref fa)) (TK : TopK K) (a_ROWS : PySem.W.nsIn K mainGlobals "ROWS" = some (some (.ref C_ROWS))) (GD_ROWS : GDict K w.params C_ROWS [("rounds", g_rounds_row), ("stays", g_stays_row), ("rises", g_rises_row), ("highs", g_rounds_row), ("crossed", g_crossed_row)]) (a_ENDINGS : PySem.W.nsIn K mainGlobals "ENDINGS" = some (some (.ref C_ENDINGS))) (GD_ENDINGS : GDict K w.params C_ENDINGS [("rounds", g_rounds_ending), ("stays", g_stays_ending), ("rises", g_rises_ending), ("highs", g_highs_ending), ("crossed", g_crossed_ending)]) (a_COUNTERS : PySem.W.nsIn K mainGlobals "COUNTERS" = some (some (.ref C_COUNTERS))) (GD_COUNTERS : GDict K w.params C_COUNTERS [("rounds", g_rounds_in), ("stays", g_stays_in), ("rises", g_rises_in), ("highs", g_highs_in), ("crossed", g_crossed_in), ("longest", g_longest_in)]) (a_FIRST_ROW : PySem.W.nsIn K mainGlobals "FIRST_ROW" = some (some (.ref T_FIRST_ROW))) (h_FIRST_ROW : ∀ H, SqT K H T_FIRST_ROW ([1].map V.int)) (n_rounds_row : PySem.W.nsIn K mainGlobals "rounds_row" = some (some (.ref g_rounds_row))) (n_stays_row : PySem.W.nsIn K mainGlobals "stays_row" = some (some (.ref g_stays_row))) (n_rises_row : PySem.W.nsIn K mainGlobals "rises_row" = some (some (.ref g_rises_row))) (n_crossed_row : PySem.W.nsIn K mainGlobals "crossed_row" = some (some (.ref g_crossed_row))) (n_rounds_ending : PySem.W.nsIn K mainGlobals "rounds_ending" = some (some (.ref g_rounds_ending))) (n_stays_ending : PySem.W.nsIn K mainGlobals "stays_ending" = some (some (.ref g_stays_ending))) (n_rises_ending : PySem.W.nsIn K mainGlobals "rises_ending" = some (some (.ref g_rises_ending))) (n_highs_ending : PySem.W.nsIn K mainGlobals "highs_ending" = some (some (.ref g_highs_ending))) (n_crossed_ending : PySem.W.nsIn K mainGlobals "crossed_ending" = some (some (.ref g_crossed_ending))) (n_rounds_in : PySem.W.nsIn K mainGlobals "rounds_in" = some (some (.ref g_rounds_in))) (n_stays_in : PySem.W.nsIn K mainGlobals "stays_in" = some (some (.ref g_stays_in))) (n_rises_in : PySem.W.nsIn K mainGlobals "rises_in" = some (some (.ref g_rises_in))) (n_highs_in : PySem.W.nsIn K mainGlobals "highs_in" = some (some (.ref g_highs_in))) (n_crossed_in : PySem.W.nsIn K mainGlobals "crossed_in" = some (some (.ref g_crossed_in))) (n_longest_in : PySem.W.nsIn K mainGlobals "longest_in" = some (some (.ref g_longest_in))) (mT1 : mainGlobals ≠ T1)
  (d_number_at : Def K "number_at" s_number_at) (d_rounds_row : Def K "rounds_row" s_rounds_row) (d_stays_row : Def K "stays_row" s_stays_row) (d_rises_row : Def K "rises_row" s_rises_row) (d_crossed_row : Def K "crossed_row" s_crossed_row) (d_next_row : Def K "next_row" s_next_row) (d_steps : Def K "steps" s_steps) (d_told : Def K "told" s_told) (d_stays_in : Def K "stays_in" s_stays_in) (d_rises_in : Def K "rises_in" s_rises_in) (d_highs_in : Def K "highs_in" s_highs_in) (d_crossed_in : Def K "crossed_in" s_crossed_in) (d_product : Def K "product" s_product) (d_numbers_left : Def K "numbers_left" s_numbers_left) (d_is_round_least : Def K "is_round_least" s_is_round_least) (d_greatest_put_in : Def K "greatest_put_in" s_greatest_put_in) (d_least_put_in : Def K "least_put_in" s_least_put_in) (d_rounds_ending : Def K "rounds_ending" s_rounds_ending) (d_stays_ending : Def K "stays_ending" s_stays_ending) (d_rises_ending : Def K "rises_ending" s_rises_ending) (d_highs_ending : Def K "highs_ending" s_highs_ending) (d_crossed_ending : Def K "crossed_ending" s_crossed_ending) (d_ways_on : Def K "ways_on" s_ways_on) (d_round_from : Def K "round_from" s_round_from) (d_rounds_met : Def K "rounds_met" s_rounds_met) (d_rounds_of : Def K "rounds_of" s_rounds_of) (d_rounds_in : Def K "rounds_in" s_rounds_in) (d_count : Def K "count" s_count) (d_place_by : Def K "place_by" s_place_by) (d__law_spring_of : Def K "_law_spring_of" s__law_spring_of) (d__law_take : Def K "_law_take" s__law_take) (d__law_of : Def K "_law_of" s__law_of) (d__law_kinds : Def K "_law_kinds" s__law_kinds) (d__law_own_count : Def K "_law_own_count" s__law_own_count) (d__law_drawn_order : Def K "_law_drawn_order" s__law_drawn_order) (d__law_due_of : Def K "_law_due_of" s__law_due_of) (d_place_among : DefL K "place_among" s_place_among c1 T1) (d_law : Def K "law" s_law) :
  ∃ fd : FuncData, (∀ (s : Shared) (v : Value), BindsTo s fd ⟨[v], []⟩ [("_law_script", v)]) /\ ∀ base : Heap, K.In base -> base.Ns mainGlobals mg -> (∀ T ∈ [T1], base.BuiltinsAt mg T) -> FnOk l.prog w K mg base CX0 11 fa fd ["_law_script"] (spLaw K T1) := by
 have T : Top mg := TK.top X G
 obtain ⟨f_number_at, e_number_at, F_number_at, m_number_at⟩ := d_number_at.fn X G
 obtain ⟨f_rounds_row, e_rounds_row, F_rounds_row, m_rounds_row⟩ := d_rounds_row.fn X G
 obtain ⟨f_stays_row, e_stays_row, F_stays_row, m_stays_row⟩ := d_stays_row.fn X G
 obtain ⟨f_rises_row, e_rises_row, F_rises_row, m_rises_row⟩ := d_rises_row.fn X G
 obtain ⟨f_crossed_row, e_crossed_row, F_crossed_row, m_crossed_row⟩ := d_crossed_row.fn X G
 obtain ⟨f_next_row, e_next_row, F_next_row, m_next_row⟩ := d_next_row.fn X G
 obtain ⟨f_steps, e_steps, F_steps, m_steps⟩ := d_steps.fn X G
 obtain ⟨f_told, e_told, F_told, m_told⟩ := d_told.fn X G
 obtain ⟨f_stays_in, e_stays_in, F_stays_in, m_stays_in⟩ := d_stays_in.fn X G
 obtain ⟨f_rises_in, e_rises_in, F_rises_in, m_rises_in⟩ := d_rises_in.fn X G
 obtain ⟨f_highs_in, e_highs_in, F_highs_in, m_highs_in⟩ := d_highs_in.fn X G
 obtain ⟨f_crossed_in, e_crossed_in, F_crossed_in, m_crossed_in⟩ := d_crossed_in.fn X G
 obtain ⟨f_product, e_product, F_product, m_product⟩ := d_product.fn X G
 obtain ⟨f_numbers_left, e_numbers_left, F_numbers_left, m_numbers_left⟩ := d_numbers_left.fn X G
 obtain ⟨f_is_round_least, e_is_round_least, F_is_round_least, m_is_round_least⟩ := d_is_round_least.fn X G
 obtain ⟨f_greatest_put_in, e_greatest_put_in, F_greatest_put_in, m_greatest_put_in⟩ := d_greatest_put_in.fn X G
 obtain ⟨f_least_put_in, e_least_put_in, F_least_put_in, m_least_put_in⟩ := d_least_put_in.fn X G
 obtain ⟨f_rounds_ending, e_rounds_ending, F_rounds_ending, m_rounds_ending⟩ := d_rounds_ending.fn X G
 obtain ⟨f_stays_ending, e_stays_ending, F_stays_ending, m_stays_ending⟩ := d_stays_ending.fn X G
 obtain ⟨f_rises_ending, e_rises_ending, F_rises_ending, m_rises_ending⟩ := d_rises_ending.fn X G
 obtain ⟨f_highs_ending, e_highs_ending, F_highs_ending, m_highs_ending⟩ := d_highs_ending.fn X G
 obtain ⟨f_crossed_ending, e_crossed_ending, F_crossed_ending, m_crossed_ending⟩ := d_crossed_ending.fn X G
 obtain ⟨f_ways_on, e_ways_on, F_ways_on, m_ways_on⟩ := d_ways_on.fn X G
 obtain ⟨f_round_from, e_round_from, F_round_from, m_round_from⟩ := d_round_from.fn X G
 obtain ⟨f_rounds_met, e_rounds_met, F_rounds_met, m_rounds_met⟩ := d_rounds_met.fn X G
 obtain ⟨f_rounds_of, e_rounds_of, F_rounds_of, m_rounds_of⟩ := d_rounds_of.fn X G
 obtain ⟨f_rounds_in, e_rounds_in, F_rounds_in, m_rounds_in⟩ := d_rounds_in.fn X G
 obtain ⟨f_count, e_count, F_count, m_count⟩ := d_count.fn X G
 obtain ⟨f_place_by, e_place_by, F_place_by, m_place_by⟩ := d_place_by.fn X G
 obtain ⟨f__law_spring_of, e__law_spring_of, F__law_spring_of, m__law_spring_of⟩ := d__law_spring_of.fn X G
 obtain ⟨f__law_take, e__law_take, F__law_take, m__law_take⟩ := d__law_take.fn X G
 obtain ⟨f__law_of, e__law_of, F__law_of, m__law_of⟩ := d__law_of.fn X G
 obtain ⟨f__law_kinds, e__law_kinds, F__law_kinds, m__law_kinds⟩ := d__law_kinds.fn X G
 obtain ⟨f__law_own_count, e__law_own_count, F__law_own_count, m__law_own_count⟩ := d__law_own_count.fn X G
 obtain ⟨f__law_drawn_order, e__law_drawn_order, F__law_drawn_order, m__law_drawn_order⟩ := d__law_drawn_order.fn X G
 obtain ⟨f__law_due_of, e__law_due_of, F__law_due_of, m__law_due_of⟩ := d__law_due_of.fn X G
 obtain ⟨f_place_among, e_place_among, FL_place_among, F_place_among, m_place_among⟩ := d_place_among.fn X G
 obtain ⟨f_law, e_law, F_law, m_law⟩ := d_law.fn X G
 have b_number_at : Binds K _ ["row", "place"] [] := F_number_at.b2 fun _ _ _ _ _ _ _ _ => rfl
 have b_rounds_row : Binds K _ ["many", "ahead"] [] := F_rounds_row.b2 fun _ _ _ _ _ _ _ _ => rfl
 have b_stays_row : Binds K _ ["many", "ahead"] [] := F_stays_row.b2 fun _ _ _ _ _ _ _ _ => rfl
 have b_rises_row : Binds K _ ["many", "ahead"] [] := F_rises_row.b2 fun _ _ _ _ _ _ _ _ => rfl
 have b_crossed_row : Binds K _ ["many", "ahead"] [] := F_crossed_row.b2 fun _ _ _ _ _ _ _ _ => rfl
 have b_next_row : Binds K _ ["kind", "many", "ahead"] [] := F_next_row.b3 fun _ _ _ _ _ _ _ _ _ => rfl
 have b_steps : Binds K _ ["kind", "many"] [] := F_steps.b2 fun _ _ _ _ _ _ _ _ => rfl
 have b_told : Binds K _ ["kind", "many"] [] := F_told.b2 fun _ _ _ _ _ _ _ _ => rfl
 have b_stays_in : Binds K _ ["order"] [] := F_stays_in.b1 fun _ _ _ _ _ _ _ => rfl
 have b_rises_in : Binds K _ ["order"] [] := F_rises_in.b1 fun _ _ _ _ _ _ _ => rfl
 have b_highs_in : Binds K _ ["order"] [] := F_highs_in.b1 fun _ _ _ _ _ _ _ => rfl
 have b_crossed_in : Binds K _ ["order"] [] := F_crossed_in.b1 fun _ _ _ _ _ _ _ => rfl
 have b_product : Binds K _ ["first", "last"] [] := F_product.b2 fun _ _ _ _ _ _ _ _ => rfl
 have b_numbers_left : Binds K _ ["many", "begun"] [] := F_numbers_left.b2 fun _ _ _ _ _ _ _ _ => rfl
 have b_is_round_least : Binds K _ ["begun", "first"] [] := F_is_round_least.b2 fun _ _ _ _ _ _ _ _ => rfl
 have b_greatest_put_in : Binds K _ ["size", "row"] [] := F_greatest_put_in.b2 fun _ _ _ _ _ _ _ _ => rfl
 have b_least_put_in : Binds K _ ["size", "row"] [] := F_least_put_in.b2 fun _ _ _ _ _ _ _ _ => rfl
 have b_rounds_ending : Binds K _ ["many", "begun"] [] := F_rounds_ending.b2 fun _ _ _ _ _ _ _ _ => rfl
 have b_stays_ending : Binds K _ ["many", "begun"] [] := F_stays_ending.b2 fun _ _ _ _ _ _ _ _ => rfl
 have b_rises_ending : Binds K _ ["many", "begun"] [] := F_rises_ending.b2 fun _ _ _ _ _ _ _ _ => rfl
 have b_highs_ending : Binds K _ ["many", "begun"] [] := F_highs_ending.b2 fun _ _ _ _ _ _ _ _ => rfl
 have b_crossed_ending : Binds K _ ["many", "begun"] [] := F_crossed_ending.b2 fun _ _ _ _ _ _ _ _ => rfl
 have b_ways_on : Binds K _ ["kind", "many", "begun", "number"] [] := F_ways_on.b4 fun _ _ _ _ _ _ _ _ _ _ => rfl
 have b_round_from : Binds K _ ["order", "first"] [] := F_round_from.b2 fun _ _ _ _ _ _ _ _ => rfl
 have b_rounds_met : Binds K _ ["order", "firsts"] [] := F_rounds_met.b2 fun _ _ _ _ _ _ _ _ => rfl
 have b_rounds_of : Binds K _ ["order"] [] := F_rounds_of.b1 fun _ _ _ _ _ _ _ => rfl
 have b_rounds_in : Binds K _ ["order"] [] := F_rounds_in.b1 fun _ _ _ _ _ _ _ => rfl
 have b_count : Binds K _ ["kind", "order"] [] := F_count.b2 fun _ _ _ _ _ _ _ _ => rfl
 have b_place_by : Binds K _ ["ways", "order"] [] := F_place_by.b2 fun _ _ _ _ _ _ _ _ => rfl
 have b__law_spring_of : Binds K _ ["_law_script"] [] := F__law_spring_of.b1 fun _ _ _ _ _ _ _ => rfl
 have b__law_take : Binds K _ ["_law_spring", "_law_many"] [] := F__law_take.b2 fun _ _ _ _ _ _ _ _ => rfl
 have b__law_of : Binds K _ ["_law_spring", "_law_some"] [] := F__law_of.b2 fun _ _ _ _ _ _ _ _ => rfl
 have b__law_kinds : Binds K _ [] [] := F__law_kinds.b0 fun _ _ _ _ _ _ => rfl
 have b__law_own_count : Binds K _ ["_law_kind", "_law_order"] [] := F__law_own_count.b2 fun _ _ _ _ _ _ _ _ => rfl
 have b__law_drawn_order : Binds K _ ["_law_spring", "_law_many"] [] := F__law_drawn_order.b2 fun _ _ _ _ _ _ _ _ => rfl
 have b__law_due_of : Binds K _ ["_law_kind", "_law_order"] [] := F__law_due_of.b2 fun _ _ _ _ _ _ _ _ => rfl
 have b_place_among : Binds K _ ["kind", "order"] [] := F_place_among.b2 fun _ _ _ _ _ _ _ _ => rfl
 have e : fa = f_law := by
  have q := hfa.symm.trans m_law
  cases q
  rfl
 subst e
 obtain ⟨oc, od, kV, doc, pm, an, cdv, ct, osl, rfl, lk, hcd⟩ := F_law.ex
 have all : ∀ base : Heap, K.In base -> base.Ns mainGlobals mg -> (Cal l.prog w K mg base 7 "ways_on" ["kind", "many", "begun", "number"] (spWays)) /\ (Cal l.prog w K mg base 9 "place_by" ["ways", "order"] (spPlaceBy l.prog w K mg base)) /\ (Cal l.prog w K mg base 5 "count" ["kind", "order"] (spCountV)) := by
  intro base _ _
  have Cnumber_at : Cal l.prog w K mg base 1 "number_at" ["row", "place"] (spNumAt K) := ⟨f_number_at, e_number_at, ok_number_at F_number_at T, m_number_at, F_number_at.kp, b_number_at⟩
  have Crounds_row : Cal l.prog w K mg base 2 "rounds_row" ["many", "ahead"] (spRow K 60 roundsRow) := ⟨f_rounds_row, e_rounds_row, ok_rounds_row F_rounds_row T Cnumber_at, m_rounds_row, F_rounds_row.kp, b_rounds_row⟩
  have Cstays_row : Cal l.prog w K mg base 2 "stays_row" ["many", "ahead"] (spRow K 60 staysRow) := ⟨f_stays_row, e_stays_row, ok_stays_row F_stays_row T Cnumber_at, m_stays_row, F_stays_row.kp, b_stays_row⟩
  have Crises_row : Cal l.prog w K mg base 2 "rises_row" ["many", "ahead"] (spRow K 60 risesRow) := ⟨f_rises_row, e_rises_row, ok_rises_row F_rises_row T Cnumber_at, m_rises_row, F_rises_row.kp, b_rises_row⟩
  have Ccrossed_row : Cal l.prog w K mg base 2 "crossed_row" ["many", "ahead"] (spRow K 24 crossedRow) := ⟨f_crossed_row, e_crossed_row, ok_crossed_row F_crossed_row T, m_crossed_row, F_crossed_row.kp, b_crossed_row⟩
  have Cnext_row : Cal l.prog w K mg base 3 "next_row" ["kind", "many", "ahead"] (spNext K) := ⟨f_next_row, e_next_row, ok_next_row F_next_row (PySem.W.mg_of X G a_ROWS) GD_ROWS (CalF.of Crounds_row (PySem.W.mg_of X G n_rounds_row) (by decide)) (CalF.of Cstays_row (PySem.W.mg_of X G n_stays_row) (by decide)) (CalF.of Crises_row (PySem.W.mg_of X G n_rises_row) (by decide)) (CalF.of Ccrossed_row (PySem.W.mg_of X G n_crossed_row) (by decide)), m_next_row, F_next_row.kp, b_next_row⟩
  have Csteps : Cal l.prog w K mg base 4 "steps" ["kind", "many"] (spSteps K) := ⟨f_steps, e_steps, ok_steps F_steps T (PySem.W.mg_of X G a_FIRST_ROW) h_FIRST_ROW Cnext_row, m_steps, F_steps.kp, b_steps⟩
  have Ctold : Cal l.prog w K mg base 5 "told" ["kind", "many"] (spTold K) := ⟨f_told, e_told, ok_told F_told T Csteps, m_told, F_told.kp, b_told⟩
  have Cstays_in : Cal l.prog w K mg base 1 "stays_in" ["order"] (spCntB staysO) := ⟨f_stays_in, e_stays_in, ok_stays_in F_stays_in T, m_stays_in, F_stays_in.kp, b_stays_in⟩
  have Crises_in : Cal l.prog w K mg base 1 "rises_in" ["order"] (spCntB risesO) := ⟨f_rises_in, e_rises_in, ok_rises_in F_rises_in T, m_rises_in, F_rises_in.kp, b_rises_in⟩
  have Chighs_in : Cal l.prog w K mg base 1 "highs_in" ["order"] (spCntB highsO) := ⟨f_highs_in, e_highs_in, ok_highs_in F_highs_in , m_highs_in, F_highs_in.kp, b_highs_in⟩
  have Ccrossed_in : Cal l.prog w K mg base 1 "crossed_in" ["order"] (spCntB crossedO) := ⟨f_crossed_in, e_crossed_in, ok_crossed_in F_crossed_in T, m_crossed_in, F_crossed_in.kp, b_crossed_in⟩
  have Cproduct : Cal l.prog w K mg base 1 "product" ["first", "last"] (spPrF) := ⟨f_product, e_product, ok_product F_product T, m_product, F_product.kp, b_product⟩
  have Cnumbers_left : Cal l.prog w K mg base 1 "numbers_left" ["many", "begun"] (spLeft) := ⟨f_numbers_left, e_numbers_left, ok_numbers_left F_numbers_left T, m_numbers_left, F_numbers_left.kp, b_numbers_left⟩
  have Cis_round_least : Cal l.prog w K mg base 1 "is_round_least" ["begun", "first"] (spLeast) := ⟨f_is_round_least, e_is_round_least, ok_is_round_least F_is_round_least T, m_is_round_least, F_is_round_least.kp, b_is_round_least⟩
  have Cgreatest_put_in : Cal l.prog w K mg base 2 "greatest_put_in" ["size", "row"] (spRow K 60 gput) := ⟨f_greatest_put_in, e_greatest_put_in, ok_greatest_put_in F_greatest_put_in T Cnumber_at, m_greatest_put_in, F_greatest_put_in.kp, b_greatest_put_in⟩
  have Cleast_put_in : Cal l.prog w K mg base 2 "least_put_in" ["size", "row"] (spRow K 60 lput) := ⟨f_least_put_in, e_least_put_in, ok_least_put_in F_least_put_in T Cnumber_at, m_least_put_in, F_least_put_in.kp, b_least_put_in⟩
  have Crounds_ending : Cal l.prog w K mg base 6 "rounds_ending" ["many", "begun"] (spEnd K "rounds") := ⟨f_rounds_ending, e_rounds_ending, ok_rounds_ending F_rounds_ending T Cis_round_least Ctold, m_rounds_ending, F_rounds_ending.kp, b_rounds_ending⟩
  have Cstays_ending : Cal l.prog w K mg base 6 "stays_ending" ["many", "begun"] (spEnd K "stays") := ⟨f_stays_ending, e_stays_ending, ok_stays_ending F_stays_ending T Cnumbers_left Cproduct Cnext_row Cstays_in, m_stays_ending, F_stays_ending.kp, b_stays_ending⟩
  have Crises_ending : Cal l.prog w K mg base 6 "rises_ending" ["many", "begun"] (spEnd K "rises") := ⟨f_rises_ending, e_rises_ending, ok_rises_ending F_rises_ending T Ctold Cnumbers_left Cgreatest_put_in Cleast_put_in Crises_in, m_rises_ending, F_rises_ending.kp, b_rises_ending⟩
  have Chighs_ending : Cal l.prog w K mg base 6 "highs_ending" ["many", "begun"] (spEnd K "highs") := ⟨f_highs_ending, e_highs_ending, ok_highs_ending F_highs_ending T Ctold Cnumbers_left Cproduct Chighs_in, m_highs_ending, F_highs_ending.kp, b_highs_ending⟩
  have Ccrossed_ending : Cal l.prog w K mg base 6 "crossed_ending" ["many", "begun"] (spEnd K "crossed") := ⟨f_crossed_ending, e_crossed_ending, ok_crossed_ending F_crossed_ending T Ctold Cnumbers_left Ccrossed_in, m_crossed_ending, F_crossed_ending.kp, b_crossed_ending⟩
  have Cways_on : Cal l.prog w K mg base 7 "ways_on" ["kind", "many", "begun", "number"] (spWays) := ⟨f_ways_on, e_ways_on, ok_ways_on F_ways_on (PySem.W.mg_of X G a_ENDINGS) GD_ENDINGS (CalF.of Crounds_ending (PySem.W.mg_of X G n_rounds_ending) (by decide)) (CalF.of Cstays_ending (PySem.W.mg_of X G n_stays_ending) (by decide)) (CalF.of Crises_ending (PySem.W.mg_of X G n_rises_ending) (by decide)) (CalF.of Chighs_ending (PySem.W.mg_of X G n_highs_ending) (by decide)) (CalF.of Ccrossed_ending (PySem.W.mg_of X G n_crossed_ending) (by decide)) Cnumber_at, m_ways_on, F_ways_on.kp, b_ways_on⟩
  have Cround_from : Cal l.prog w K mg base 1 "round_from" ["order", "first"] (spRoundFrom) := ⟨f_round_from, e_round_from, ok_round_from F_round_from T, m_round_from, F_round_from.kp, b_round_from⟩
  have Crounds_met : Cal l.prog w K mg base 2 "rounds_met" ["order", "firsts"] (spRoundsMet) := ⟨f_rounds_met, e_rounds_met, ok_rounds_met F_rounds_met T Cround_from, m_rounds_met, F_rounds_met.kp, b_rounds_met⟩
  have Crounds_of : Cal l.prog w K mg base 3 "rounds_of" ["order"] (spRounds) := ⟨f_rounds_of, e_rounds_of, ok_rounds_of F_rounds_of T Crounds_met, m_rounds_of, F_rounds_of.kp, b_rounds_of⟩
  have Crounds_in : Cal l.prog w K mg base 4 "rounds_in" ["order"] (spRnd) := ⟨f_rounds_in, e_rounds_in, ok_rounds_in F_rounds_in T Crounds_of, m_rounds_in, F_rounds_in.kp, b_rounds_in⟩
  have Ccount : Cal l.prog w K mg base 5 "count" ["kind", "order"] (spCountV) := ⟨f_count, e_count, ok_count F_count (PySem.W.mg_of X G a_COUNTERS) GD_COUNTERS (CalF.of Crounds_in (PySem.W.mg_of X G n_rounds_in) (by decide)) (CalF.of Cstays_in (PySem.W.mg_of X G n_stays_in) (by decide)) (CalF.of Crises_in (PySem.W.mg_of X G n_rises_in) (by decide)) (CalF.of Chighs_in (PySem.W.mg_of X G n_highs_in) (by decide)) (CalF.of Ccrossed_in (PySem.W.mg_of X G n_crossed_in) (by decide)), m_count, F_count.kp, b_count⟩
  have Cplace_by : Cal l.prog w K mg base 9 "place_by" ["ways", "order"] (spPlaceBy l.prog w K mg base) := ⟨f_place_by, e_place_by, ok_place_by F_place_by T Cnumbers_left, m_place_by, F_place_by.kp, b_place_by⟩
  exact ⟨Cways_on, Cplace_by, Ccount⟩
 refine ⟨PySem.W.fnOf "law" "law" (defArgs s_law) (defBody s_law) (defScope s_law) .none kV doc pm an cdv ct, fun s v => .of_eq rfl, fun base hk hn hBs => ?_⟩
 obtain ⟨Cways_on, Cplace_by, Ccount⟩ := all base hk hn
 have C_law_spring_of : Cal l.prog w K mg base 1 "_law_spring_of" ["_law_script"] (spSpring K) := ⟨f__law_spring_of, e__law_spring_of, ok__law_spring_of F__law_spring_of T, m__law_spring_of, F__law_spring_of.kp, b__law_spring_of⟩
 have C_law_take : Cal l.prog w K mg base 1 "_law_take" ["_law_spring", "_law_many"] (spTakeS) := ⟨f__law_take, e__law_take, ok__law_take F__law_take , m__law_take, F__law_take.kp, b__law_take⟩
 have C_law_of : Cal l.prog w K mg base 2 "_law_of" ["_law_spring", "_law_some"] (spOfW) := ⟨f__law_of, e__law_of, ok__law_of F__law_of T C_law_take, m__law_of, F__law_of.kp, b__law_of⟩
 have C_law_kinds : Cal l.prog w K mg base 1 "_law_kinds" [] (spKindsL) := ⟨f__law_kinds, e__law_kinds, ok__law_kinds F__law_kinds , m__law_kinds, F__law_kinds.kp, b__law_kinds⟩
 have C_law_own_count : Cal l.prog w K mg base 2 "_law_own_count" ["_law_kind", "_law_order"] (spOwnC) := ⟨f__law_own_count, e__law_own_count, ok__law_own_count F__law_own_count T, m__law_own_count, F__law_own_count.kp, b__law_own_count⟩
 have C_law_drawn_order : Cal l.prog w K mg base 2 "_law_drawn_order" ["_law_spring", "_law_many"] (spDrawO) := ⟨f__law_drawn_order, e__law_drawn_order, ok__law_drawn_order F__law_drawn_order T C_law_take, m__law_drawn_order, F__law_drawn_order.kp, b__law_drawn_order⟩
 have C_law_due_of : Cal l.prog w K mg base 8 "_law_due_of" ["_law_kind", "_law_order"] (spDueOf) := ⟨f__law_due_of, e__law_due_of, ok__law_due_of F__law_due_of T C_law_own_count Cways_on, m__law_due_of, F__law_due_of.kp, b__law_due_of⟩
 have Cplace_among : Cal l.prog w K mg base 10 "place_among" ["kind", "order"] (spPlaceA T1 qPlace) := ⟨f_place_among, e_place_among, ok_place_among FL_place_among (hBs T1 (by simp)) mT1 T Ccount (fun b k n => (all b k n).2.1) (fun b k n => (all b k n).1), m_place_among, F_place_among.kp, b_place_among⟩
 exact ok_law F_law cksAll T C_law_spring_of C_law_take C_law_of C_law_kinds C_law_own_count C_law_drawn_order C_law_due_of Cplace_among
theorem walk {l : PySem.W.OpenLaw} {q : Program} {loose : List Str} {XP : (Str -> Option Value) -> Heap -> Prop} {YP : World -> Heap -> Prop} {d : DefRec} {K : Params -> PySem.W.Frag} {T1 : Addr} (hn : l.most = some 63) (hdf : d.params.defaults = [])
  (hY : ∀ (w : World) (h : Heap), YP w h -> (K w.params).In h /\ ∀ T ∈ [T1], h.get? T = some (PySem.W.tabObj #[]) /\ isCodeTable h T /\ (K w.params).lookup T = none)
  (F : ∀ (w : World) (mg : Str -> Option Value) (fa : Addr) (h : Heap), (K w.params).In h -> h.Ns mainGlobals mg -> mg d.name = some (.ref fa) ->
   ∃ fd : FuncData, (∀ (s : Shared) (u : Value), BindsTo s fd ⟨[u], []⟩ [("_law_script", u)]) /\ ∀ base : Heap, (K w.params).In base -> base.Ns mainGlobals mg -> (∀ T ∈ [T1], base.BuiltinsAt mg T) -> FnOk l.prog w (K w.params) mg base CX0 11 fa fd ["_law_script"] (spLaw (K w.params) T1)) :
  PySem.W.WalkO q loose XP YP l.row.toRowW d [] (fun f vs => PySem.call f vs) :=
 L2.walk_ofT (n := 63) (k := 11) (x := "_law_script") (Ts := [T1]) (sp := fun w => spLaw (K w.params) T1) hn (by decide) hdf ⟨rfl, by decide, by decide, rfl⟩ hY F fun _ _ a ns hl hT hS => ⟨a, ns, rfl, hS, hl, hT T1 (by simp), fun _ => rfl⟩
end K44
end
namespace PySem.W.Fast
theorem tw5324174692501296522 : True := trivial
theorem tw961406053005719235 : True := trivial
theorem tw9474948404741851315 : True := trivial
theorem tw18109571584415435256 : True := trivial
theorem tw3158906180447529242 : True := trivial
theorem tw11528692395995421196 : True := trivial
theorem tw11156626581579445787 : True := trivial
theorem tw10097995518073516704 : True := trivial
theorem tw5753126723645026152 : True := trivial
theorem tw4738222790472022012 : True := trivial
theorem tw9171204339857424865 : True := trivial
theorem tw16800204395159693182 : True := trivial
theorem tw17374958331037120141 : True := trivial
theorem tw5740112012144651158 : True := trivial
theorem tw8227521551954900409 : True := trivial
theorem tw8044895473419293558 : True := trivial
theorem tw17709800811654789251 : True := trivial
theorem tw3854528700445005388 : True := trivial
theorem tw1188239311279969088 : True := trivial
theorem tw15430820279516859036 : True := trivial
theorem tw10526112027959702005 : True := trivial
theorem tw14080691752801862069 : True := trivial
theorem tw14515084870188214371 : True := trivial
theorem tw6065142679398699283 : True := trivial
theorem tw14323308856502680862 : True := trivial
theorem tw14036903886298592965 : True := trivial
theorem tw14006592853301573554 : True := trivial
theorem tw14154669629848144253 : True := trivial
theorem tw4168104347517938738 : True := trivial
theorem tw3927535980193370264 : True := trivial
theorem tw12650904733034745968 : True := trivial
theorem tw16799234620216147265 : True := trivial
theorem tw9976915158846866815 : True := trivial
theorem tw10198707738986224675 : True := trivial
theorem tw10641896137093668465 : True := trivial
theorem tw6051110637729141793 : True := trivial
theorem tw16052926004755178346 : True := trivial
theorem tw14364419300065664266 : True := trivial
theorem tw11383175676774196996 : True := trivial
theorem tw14355554928264637562 : True := trivial
theorem tw1668186231715653705 : True := trivial
theorem tw11747814745584756035 : True := trivial
theorem tw17724774749046405356 : True := trivial
theorem tw14382064956235813402 : True := trivial
theorem tw11969270713468891204 : True := trivial
theorem tw15599997721012922538 : True := trivial
theorem tw13393155021070713279 : True := trivial
theorem tw2803493746737452953 : True := trivial
theorem tw10731963059197427018 : True := trivial
theorem tw8099707123038887391 : True := trivial
theorem tw10587688906578433296 : True := trivial
theorem tw4576781654883935861 : True := trivial
theorem tw1683312280822499574 : True := trivial
theorem tw1949245481259974200 : True := trivial
theorem tw14512594848684014057 : True := trivial
theorem tw3141142835633649615 : True := trivial
theorem tw15349277234014163470 : True := trivial
theorem tw16094439826845395888 : True := trivial
theorem tw4275629702130269030 : True := trivial
theorem tw7455325816273290831 : True := trivial
theorem tw10327371151010584673 : True := trivial
theorem tw9678013792471822342 : True := trivial
theorem tw2008916947583619841 : True := trivial
theorem tw10141305377513757479 : True := trivial
theorem tw6547307895746109467 : True := trivial
theorem tw4294430867103396688 : True := trivial
theorem tw2957163367135332340 : True := trivial
theorem tw9656953354762232223 : True := trivial
theorem tw9263040307955724212 : True := trivial
theorem tw4650864212912766637 : True := trivial
theorem tw5172170814129348408 : True := trivial
theorem tw1447972261696061113 : True := trivial
theorem tw13714893352151986121 : True := trivial
theorem tw6490736864373997518 : True := trivial
theorem tw11337162106077423692 : True := trivial
theorem tw258526910527985815 : True := trivial
theorem tw16627244194929952186 : True := trivial
theorem tw5146690248142078335 : True := trivial
theorem tw4619314265028095376 : True := trivial
theorem tw5908852284972199806 : True := trivial
theorem tw9699733964602442392 : True := trivial
theorem tw9485088818167043270 : True := trivial
theorem tw12213681717000919303 : True := trivial
theorem tw11853568863235645891 : True := trivial
theorem tw6687294639395140957 : True := trivial
theorem tw12908662995216085393 : True := trivial
theorem tw14523208020615861314 : True := trivial
theorem tw16911405226995312839 : True := trivial
theorem tw3882380499442912896 : True := trivial
theorem tw5553594573918616469 : True := trivial
theorem tw17345415543582084769 : True := trivial
theorem tw18172971226940794265 : True := trivial
theorem tw11700873625392378813 : True := trivial
theorem tw1060660482891084522 : True := trivial
theorem tw2674421988187454143 : True := trivial
theorem tw10234595308460010417 : True := trivial
theorem tw4074281046875640645 : True := trivial
theorem tw7167614583196574987 : True := trivial
theorem tw9565979435849756534 : True := trivial
theorem tw17320206239566845464 : True := trivial
theorem tw18177466599544205932 : True := trivial
theorem tw5942864750592790936 : True := trivial
theorem tw14458561096643656624 : True := trivial
theorem tw14487209056451399041 : True := trivial
theorem tw3625037333035858392 : True := trivial
theorem tw16248446265879593973 : True := trivial
theorem tw3444356235355095019 : True := trivial
theorem tw16056430283862083320 : True := trivial
theorem tw4914457738559152707 : True := trivial
theorem tw10431675736978607758 : True := trivial
theorem tw8368964283320428166 : True := trivial
theorem tw12980176948090001844 : True := trivial
theorem tw7718164822075201286 : True := trivial
theorem tw7979844088377180549 : True := trivial
theorem tw18387174188567693395 : True := trivial
theorem tw12425793218338022153 : True := trivial
theorem tw17324249400534942902 : True := trivial
theorem tw7371506410686897513 : True := trivial
theorem tw9026415353732187117 : True := trivial
theorem tw2972146517998191393 : True := trivial
theorem tw17590632422450421194 : True := trivial
theorem tw14542401128083850296 : True := trivial
theorem tw17931158208006715706 : True := trivial
theorem tw8720714171894068719 : True := trivial
theorem tw17473005922796256055 : True := trivial
theorem tw4885599748370139741 : True := trivial
theorem tw7915922133389476745 : True := trivial
theorem tw3180056942050988446 : True := trivial
theorem tw2922441682965102463 : True := trivial
theorem tw11052230955826564718 : True := trivial
theorem tw15876993349181600160 : True := trivial
theorem tw13184568853184728961 : True := trivial
theorem tw7266997784951564859 : True := trivial
theorem tw15438396339331733857 : True := trivial
theorem tw17721663745952923213 : True := trivial
theorem tw6238151387026888637 : True := trivial
theorem tw17938909144857945291 : True := trivial
theorem tw18318186682860559622 : True := trivial
theorem tw8854285948527677931 : True := trivial
theorem tw124836743101432985 : True := trivial
theorem tw10401245094947727593 : True := trivial
theorem tw13105668837788194853 : True := trivial
theorem tw6350067821929436133 : True := trivial
theorem tw8396133445320187018 : True := trivial
theorem tw10066613447065237990 : True := trivial
theorem tw17895623454204070142 : True := trivial
theorem tw12592420441562357442 : True := trivial
theorem tw1273215506036521874 : True := trivial
theorem tw17801460369883970334 : True := trivial
theorem tw14946528218116668518 : True := trivial
theorem tw3396722347254349484 : True := trivial
theorem tw8058357420719830603 : True := trivial
theorem tw4815671192306603950 : True := trivial
theorem tw13091696574530350851 : True := trivial
theorem tw9449675731113091434 : True := trivial
theorem tw10134751999503883879 : True := trivial
theorem tw13485192576370443448 : True := trivial
theorem tw2299961101630647236 : True := trivial
theorem tw2064863757698533165 : True := trivial
theorem tw11330572804393076995 : True := trivial
theorem tw15293919733267409825 : True := trivial
theorem tw13834971556564173561 : True := trivial
theorem tw14343286463059749032 : True := trivial
theorem tw5819627960977754309 : True := trivial
theorem tw2540077570236447856 : True := trivial
theorem tw18081628624023850250 : True := trivial
theorem tw1437184338583403080 : True := trivial
theorem tw3138874425642747948 : True := trivial
theorem tw11578625402611025618 : True := trivial
theorem tw2494022461965131926 : True := trivial
theorem tw4922593675456149923 : True := trivial
theorem tw5123341113396257960 : True := trivial
theorem tw3911064400175422182 : True := trivial
theorem tw1139721525292946066 : True := trivial
theorem tw4827670710192399664 : True := trivial
theorem tw2767003181317370919 : True := trivial
theorem tw18050477528058149312 : True := trivial
theorem tw15340641758495979058 : True := trivial
theorem tw10749012609201866976 : True := trivial
theorem tw12031144970948778359 : True := trivial
theorem tw15149464123564904007 : True := trivial
theorem tw7858813076879275865 : True := trivial
theorem tw7326044668167135838 : True := trivial
theorem tw4798452095260364702 : True := trivial
theorem tw9197193457624167354 : True := trivial
theorem tw17701185254654182214 : True := trivial
theorem tw17501664340095704047 : True := trivial
theorem tw1864048344280091188 : True := trivial
theorem tw3886484769359737954 : True := trivial
theorem tw5007544456930592866 : True := trivial
theorem tw2089328439197045533 : True := trivial
theorem tw15832810726254025867 : True := trivial
theorem tw3719474862569622829 : True := trivial
theorem tw7291546187136920746 : True := trivial
theorem tw14087109056494614973 : True := trivial
theorem tw6444297353510007412 : True := trivial
theorem tw3610924669143976734 : True := trivial
theorem tw13362251022573939270 : True := trivial
theorem tw16634395897053645324 : True := trivial
theorem tw2631199056995058332 : True := trivial
theorem tw18099450242800300517 : True := trivial
theorem tw15594234047872089309 : True := trivial
theorem tw5075905292886821259 : True := trivial
theorem tw15235062259774990871 : True := trivial
theorem tw460696219407416127 : True := trivial
theorem tw12402259955776615309 : True := trivial
theorem tw9809064311581496438 : True := trivial
theorem tw6485294057505525468 : True := trivial
theorem tw18205218224520849144 : True := trivial
theorem tw2546377915328019401 : True := trivial
theorem tw8357037422688512533 : True := trivial
theorem tw3076146791710948407 : True := trivial
theorem tw14851118491229265165 : True := trivial
theorem tw2575766954939343065 : True := trivial
theorem tw3542315655572877688 : True := trivial
theorem tw1554289458787875632 : True := trivial
theorem tw275035713316429958 : True := trivial
theorem tw17082643574196479253 : True := trivial
theorem tw10005719492692319665 : True := trivial
theorem tw7713234243413191861 : True := trivial
theorem tw8560759305929013874 : True := trivial
theorem tw11171537112099680086 : True := trivial
theorem tw7135878722068366952 : True := trivial
theorem tw12335190291967212184 : True := trivial
theorem tw760710953561737323 : True := trivial
theorem tw12672397252529167127 : True := trivial
theorem tw13149323329243081451 : True := trivial
theorem tw17715559190744523625 : True := trivial
theorem tw950045720537233405 : True := trivial
theorem tw44826329229531497 : True := trivial
theorem tw14306546799581642611 : True := trivial
theorem tw16930811584193654907 : True := trivial
theorem tw13991171285340370403 : True := trivial
theorem tw2282396241441716212 : True := trivial
theorem tw15488764338944957869 : True := trivial
theorem tw12369052537186350271 : True := trivial
theorem tw6157109861464295348 : True := trivial
theorem tw6135585115552700926 : True := trivial
theorem tw11256693856419577963 : True := trivial
theorem tw10323351462301039040 : True := trivial
theorem tw17397601740018303841 : True := trivial
theorem tw6037817505871494763 : True := trivial
end PySem.W.Fast
open PySem PySem.W PyProof.Rows
set_option maxRecDepth 100000 in
set_option maxHeartbeats 0 in
theorem PySem.Challenge.cw_shuffletold_k44_places_by_beginnings_holds : PySem.Challenge.rw_shuffletold_k44_places_by_beginnings.Holds := by
 w_on; o_law; km_head; (case hw => w_witness2)
 k_fill
 refine' K44.walk (T1 := 217) (l := PySem.Challenge.rw_shuffletold_k44_places_by_beginnings) rfl rfl (fun w h Y => ⟨km_in_of Y, fun T hT => ?tab⟩) ?F
 case tab =>
  have hT2 : T = 217 := by simpa using hT
  subst hT2
  refine' ⟨km_tabs_of Y _ (by decide), (L2.DefL.tab (x := "place_among") (st := K44.s_place_among) (T := 217) (L2.DefL.of ?ya0 ?yl0 ?yc0 ?yk0 ?ym0 ?yv0) (km_in_of Y)), ?n0⟩
  (case ya0 => k_is); (case yl0 => k_is); (case yc0 => k_is); (case yk0 => k_is); (case ym0 => k_is); (case yv0 => exact ⟨_, _, _, _, _, _, _, rfl, rfl, rfl, rfl, rfl, rfl, by decide⟩)
  (case n0 => first | rfl | k_is)
 case F =>
  intro w mg fa h KX G hmg
  refine' K44.all_mk KX G hmg ⟨?_, ?_, ?_, ?_, ?_, ?_, ?_, ?_, ?_, ?_, ?_, ?_, ?_, ?_, ?_⟩ ?dA0 (L2.GDict.of ?dL0 ?dE0 ?dN0) ?dA1 (L2.GDict.of ?dL1 ?dE1 ?dN1) ?dA2 (L2.GDict.of ?dL2 ?dE2 ?dN2) ?tA0 (L2.sqT_ofK ?tL0 ?tZ0 ?tR0) ?nF0 ?nF1 ?nF2 ?nF3 ?nF4 ?nF5 ?nF6 ?nF7 ?nF8 ?nF9 ?nF10 ?nF11 ?nF12 ?nF13 ?nF14 (by decide) (L2.Def.of ?a0 ?l0 ?c0 ?k0) (L2.Def.of ?a1 ?l1 ?c1 ?k1) (L2.Def.of ?a2 ?l2 ?c2 ?k2) (L2.Def.of ?a3 ?l3 ?c3 ?k3) (L2.Def.of ?a4 ?l4 ?c4 ?k4) (L2.Def.of ?a5 ?l5 ?c5 ?k5) (L2.Def.of ?a6 ?l6 ?c6 ?k6) (L2.Def.of ?a7 ?l7 ?c7 ?k7) (L2.Def.of ?a8 ?l8 ?c8 ?k8) (L2.Def.of ?a9 ?l9 ?c9 ?k9) (L2.Def.of ?a10 ?l10 ?c10 ?k10) (L2.Def.of ?a11 ?l11 ?c11 ?k11) (L2.Def.of ?a12 ?l12 ?c12 ?k12) (L2.Def.of ?a13 ?l13 ?c13 ?k13) (L2.Def.of ?a14 ?l14 ?c14 ?k14) (L2.Def.of ?a15 ?l15 ?c15 ?k15) (L2.Def.of ?a16 ?l16 ?c16 ?k16) (L2.Def.of ?a17 ?l17 ?c17 ?k17) (L2.Def.of ?a18 ?l18 ?c18 ?k18) (L2.Def.of ?a19 ?l19 ?c19 ?k19) (L2.Def.of ?a20 ?l20 ?c20 ?k20) (L2.Def.of ?a21 ?l21 ?c21 ?k21) (L2.Def.of ?a22 ?l22 ?c22 ?k22) (L2.Def.of ?a23 ?l23 ?c23 ?k23) (L2.Def.of ?a24 ?l24 ?c24 ?k24) (L2.Def.of ?a25 ?l25 ?c25 ?k25) (L2.Def.of ?a26 ?l26 ?c26 ?k26) (L2.Def.of ?a27 ?l27 ?c27 ?k27) (L2.Def.of ?a28 ?l28 ?c28 ?k28) (L2.Def.of ?a29 ?l29 ?c29 ?k29) (L2.Def.of ?a30 ?l30 ?c30 ?k30) (L2.Def.of ?a31 ?l31 ?c31 ?k31) (L2.Def.of ?a32 ?l32 ?c32 ?k32) (L2.Def.of ?a33 ?l33 ?c33 ?k33) (L2.Def.of ?a34 ?l34 ?c34 ?k34) (L2.Def.of ?a35 ?l35 ?c35 ?k35) (L2.DefL.of ?a36 ?l36 ?c36 ?k36 ?m36 ?v36) (L2.Def.of ?a37 ?l37 ?c37 ?k37)
  (case dA0 => k_is); (case dL0 => k_is); (case dE0 => exact (.cons (.cons (.cons (.cons (.cons .nil)))))); (case dN0 => decide +kernel)
  (case dA1 => k_is); (case dL1 => k_is); (case dE1 => exact (.cons (.cons (.cons (.cons (.cons .nil)))))); (case dN1 => decide +kernel)
  (case dA2 => k_is); (case dL2 => k_is); (case dE2 => exact (.cons (.cons (.cons (.cons (.cons (.cons .nil))))))); (case dN2 => decide +kernel)
  (case tA0 => k_is); (case tL0 => k_is); (case tZ0 => exact (by decide)); (case tR0 => exact (.cons ⟨_, rfl⟩ .nil))
  (case nF0 => k_is)
  (case nF1 => k_is)
  (case nF2 => k_is)
  (case nF3 => k_is)
  (case nF4 => k_is)
  (case nF5 => k_is)
  (case nF6 => k_is)
  (case nF7 => k_is)
  (case nF8 => k_is)
  (case nF9 => k_is)
  (case nF10 => k_is)
  (case nF11 => k_is)
  (case nF12 => k_is)
  (case nF13 => k_is)
  (case nF14 => k_is)
  (case a0 => k_is); (case l0 => k_is); (case c0 => k_is); (case k0 => k_is)
  (case a1 => k_is); (case l1 => k_is); (case c1 => k_is); (case k1 => k_is)
  (case a2 => k_is); (case l2 => k_is); (case c2 => k_is); (case k2 => k_is)
  (case a3 => k_is); (case l3 => k_is); (case c3 => k_is); (case k3 => k_is)
  (case a4 => k_is); (case l4 => k_is); (case c4 => k_is); (case k4 => k_is)
  (case a5 => k_is); (case l5 => k_is); (case c5 => k_is); (case k5 => k_is)
  (case a6 => k_is); (case l6 => k_is); (case c6 => k_is); (case k6 => k_is)
  (case a7 => k_is); (case l7 => k_is); (case c7 => k_is); (case k7 => k_is)
  (case a8 => k_is); (case l8 => k_is); (case c8 => k_is); (case k8 => k_is)
  (case a9 => k_is); (case l9 => k_is); (case c9 => k_is); (case k9 => k_is)
  (case a10 => k_is); (case l10 => k_is); (case c10 => k_is); (case k10 => k_is)
  (case a11 => k_is); (case l11 => k_is); (case c11 => k_is); (case k11 => k_is)
  (case a12 => k_is); (case l12 => k_is); (case c12 => k_is); (case k12 => k_is)
  (case a13 => k_is); (case l13 => k_is); (case c13 => k_is); (case k13 => k_is)
  (case a14 => k_is); (case l14 => k_is); (case c14 => k_is); (case k14 => k_is)
  (case a15 => k_is); (case l15 => k_is); (case c15 => k_is); (case k15 => k_is)
  (case a16 => k_is); (case l16 => k_is); (case c16 => k_is); (case k16 => k_is)
  (case a17 => k_is); (case l17 => k_is); (case c17 => k_is); (case k17 => k_is)
  (case a18 => k_is); (case l18 => k_is); (case c18 => k_is); (case k18 => k_is)
  (case a19 => k_is); (case l19 => k_is); (case c19 => k_is); (case k19 => k_is)
  (case a20 => k_is); (case l20 => k_is); (case c20 => k_is); (case k20 => k_is)
  (case a21 => k_is); (case l21 => k_is); (case c21 => k_is); (case k21 => k_is)
  (case a22 => k_is); (case l22 => k_is); (case c22 => k_is); (case k22 => k_is)
  (case a23 => k_is); (case l23 => k_is); (case c23 => k_is); (case k23 => k_is)
  (case a24 => k_is); (case l24 => k_is); (case c24 => k_is); (case k24 => k_is)
  (case a25 => k_is); (case l25 => k_is); (case c25 => k_is); (case k25 => k_is)
  (case a26 => k_is); (case l26 => k_is); (case c26 => k_is); (case k26 => k_is)
  (case a27 => k_is); (case l27 => k_is); (case c27 => k_is); (case k27 => k_is)
  (case a28 => k_is); (case l28 => k_is); (case c28 => k_is); (case k28 => k_is)
  (case a29 => k_is); (case l29 => k_is); (case c29 => k_is); (case k29 => k_is)
  (case a30 => k_is); (case l30 => k_is); (case c30 => k_is); (case k30 => k_is)
  (case a31 => k_is); (case l31 => k_is); (case c31 => k_is); (case k31 => k_is)
  (case a32 => k_is); (case l32 => k_is); (case c32 => k_is); (case k32 => k_is)
  (case a33 => k_is); (case l33 => k_is); (case c33 => k_is); (case k33 => k_is)
  (case a34 => k_is); (case l34 => k_is); (case c34 => k_is); (case k34 => k_is)
  (case a35 => k_is); (case l35 => k_is); (case c35 => k_is); (case k35 => k_is)
  (case a36 => k_is); (case l36 => k_is); (case c36 => k_is); (case k36 => k_is); (case m36 => k_is); (case v36 => exact ⟨_, _, _, _, _, _, _, rfl, rfl, rfl, rfl, rfl, rfl, by decide⟩)
  (case a37 => k_is); (case l37 => k_is); (case c37 => k_is); (case k37 => k_is)
  all_goals k_is
