import PyProof.Rows.All
import Wide.All
import OpenK.AllK
import Wide.FinOn
import Lean
import PyProof.EqAt
import PyProof.EqKinds
import PyProof.TupleCall
import PySem.Challenge.RW_shuffletold_k26_shares_of_two_parts
set_option Elab.async false
set_option linter.all false
set_option maxRecDepth 100000
set_option genSizeOfSpec false
namespace L2
open PySem PySem.Spec PyProof.Rows
noncomputable abbrev Key := Sum Int Str
noncomputable def keyIs : Key -> Value -> Bool
 | .inl k, v => Value.isInt k v
 | .inr x, v => Value.isStrOf x v
noncomputable def keyH (w : World) : Key -> Int
 | .inl k => hashInt k
 | .inr x => hashStr w x
theorem keyIs_shape : ∀ {k : Key} {v : Value}, keyIs k v = true -> (∃ i t, k = Sum.inl i /\ v = Value.int i t) ∨ (∃ x t, k = Sum.inr x /\ v = Value.str x t)
 | .inl i, v, h => by
  obtain ⟨t, e⟩ := Value.isInt_shape (k := i) (v := v) h
  exact .inl ⟨i, t, rfl, e⟩
 | .inr x, v, h => by
  obtain ⟨t, e⟩ := Value.isStrOf_shape (x := x) (v := v) h
  exact .inr ⟨x, t, rfl, e⟩
theorem keyIs_int (i : Int) (t : Tok) : keyIs (.inl i) (.int i t) = true := by simp [keyIs, Value.isInt]
theorem keyIs_str (x : Str) (t : Tok) : keyIs (.inr x) (.str x t) = true := by simp [keyIs, Value.isStrOf]
theorem key_ll (a b : Int) : decide ((Sum.inl a : Key) = Sum.inl b) = (a == b) := by
 by_cases e : a = b
 ·subst e; simp
 ·have h : ¬ (Sum.inl a : Key) = Sum.inl b := fun q => e (Sum.inl.inj q)
  rw [decide_eq_false h]
  exact (beq_eq_false_iff_ne.mpr e).symm
theorem key_rr (a b : Str) : decide ((Sum.inr a : Key) = Sum.inr b) = decide (a = b) := by
 by_cases e : a = b
 ·subst e; simp
 ·have h : ¬ (Sum.inr a : Key) = Sum.inr b := fun q => e (Sum.inr.inj q)
  rw [decide_eq_false h, decide_eq_false e]
theorem key_lr (a : Int) (b : Str) : decide ((Sum.inl a : Key) = Sum.inr b) = false := decide_eq_false (fun q => nomatch q)
theorem key_rl (a : Str) (b : Int) : decide ((Sum.inr a : Key) = Sum.inl b) = false := decide_eq_false (fun q => nomatch q)
noncomputable def mixKind (prog : Program) (w : World) : PySem.KeyKind prog w Key where
 is := keyIs
 hash := keyH w
 inj := fun v a b ha hb => by
  rcases keyIs_shape ha with ⟨i, t, rfl, rfl⟩ | ⟨x, t, rfl, rfl⟩
  ·rcases keyIs_shape hb with ⟨j, u, rfl, e⟩ | ⟨y, u, rfl, e⟩
   ·injection e with e1 _; rw [e1]
   ·exact nomatch e
  ·rcases keyIs_shape hb with ⟨j, u, rfl, e⟩ | ⟨y, u, rfl, e⟩
   ·exact nomatch e
   ·injection e with e1 _; rw [e1]
 byValue := fun k v h => by
  rcases keyIs_shape h with ⟨i, t, rfl, rfl⟩ | ⟨x, t, rfl, rfl⟩ <;> rfl
 pyHash := fun hv h => by
  rcases keyIs_shape hv with ⟨i, t, rfl, rfl⟩ | ⟨x, t, rfl, rfl⟩
  ·exact wpAny_pyHash_int h
  ·exact wpAny_pyHash_str h
 eqBool := fun hu hv h => by
  rcases keyIs_shape hu with ⟨i, t, rfl, rfl⟩ | ⟨x, t, rfl, rfl⟩
  ·rcases keyIs_shape hv with ⟨j, u, rfl, rfl⟩ | ⟨y, u, rfl, rfl⟩
   ·rw [key_ll] at h; exact wpAny_eqBool_int h
   ·rw [key_lr] at h; exact SeqAt.EqAt.int_str i t y u _ _ _ _ h
  ·rcases keyIs_shape hv with ⟨j, u, rfl, rfl⟩ | ⟨y, u, rfl, rfl⟩
   ·rw [key_rl] at h; exact SeqAt.EqAt.str_int x t j u _ _ _ _ h
   ·rw [key_rr] at h; exact wpAny_eqBool_str h
 «strs» := fun k x t v h => by
  rcases keyIs_shape h with ⟨i, u, rfl, e⟩ | ⟨y, u, rfl, e⟩
  ·exact nomatch e
  ·injection e with e1 _
   subst e1
   cases v <;> rfl
theorem mixKind_int (prog : Program) (w : World) (i : Int) (t : Tok) : (mixKind prog w).is (.inl i) (.int i t) = true := keyIs_int i t
theorem mixKind_str (prog : Program) (w : World) (x : Str) (t : Tok) : (mixKind prog w).is (.inr x) (.str x t) = true := keyIs_str x t
end L2
namespace L2
open PySem PySem.Spec PyProof.Rows
inductive V where
 | non | bl (b : Bool) | int (i : Int) | str (x : Str) | byt (b : Array UInt8) | flt (b : UInt64) | ref (a : Addr) | ty (n : String)
 deriving DecidableEq
noncomputable def RelV : V -> Value -> Prop
 | .non, u => u = Value.none
 | .bl b, u => u = Value.bool b
 | .int i, u => ∃ t, u = Value.int i t
 | .str x, u => ∃ t, u = Value.str x t
 | .byt b, u => ∃ t, u = Value.bytes b t
 | .flt b, u => ∃ t, u = Value.float b t
 | .ref a, u => u = Value.ref a
 | .ty n, u => u = Value.type n
noncomputable abbrev Vals : List V -> List Value -> Prop := Paired RelV
theorem Vals.length {xs : List V} {us : List Value} (r : Vals xs us) : xs.length = us.length := Paired.length r
theorem Vals.get : ∀ {xs : List V} {us : List Value} {i : Nat} {x : V}, Vals xs us -> xs[i]? = some x -> ∃ u, us[i]? = some u /\ RelV x u
 | _, _, _, _, .nil, e => by simp at e
 | _, _, 0, _, .cons r _, e => by simp at e; subst e; exact ⟨_, rfl, r⟩
 | _, _, i + 1, x, .cons _ t, e => by
  obtain ⟨u, h1, h2⟩ := Vals.get (i := i) (x := x) t (by simpa using e)
  exact ⟨u, by simpa using h1, h2⟩
theorem Vals.set {x : V} {u : Value} (r : RelV x u) : ∀ {xs : List V} {us : List Value} (i : Nat), Vals xs us -> Vals (xs.set i x) (us.set i u)
 | _, _, _, .nil => .nil
 | _, _, 0, .cons _ t => .cons r t
 | _, _, i + 1, .cons q t => .cons q (Vals.set r i t)
theorem Vals.append : ∀ {xs ys : List V} {us ws : List Value}, Vals xs us -> Vals ys ws -> Vals (xs ++ ys) (us ++ ws)
 | _, _, _, _, .nil, s => s
 | _, _, _, _, .cons r t, s => .cons r (Vals.append t s)
theorem Vals.take : ∀ {xs : List V} {us : List Value} (n : Nat), Vals xs us -> Vals (xs.take n) (us.take n)
 | _, _, 0, _ => .nil
 | _, _, _ + 1, .nil => .nil
 | _, _, n + 1, .cons r t => .cons r (Vals.take n t)
theorem Vals.drop : ∀ {xs : List V} {us : List Value} (n : Nat), Vals xs us -> Vals (xs.drop n) (us.drop n)
 | _, _, 0, r => r
 | _, _, _ + 1, .nil => .nil
 | _, _, n + 1, .cons _ t => Vals.drop n t
theorem Vals.none_of : ∀ {xs : List V} {us : List Value} {i : Nat}, Vals xs us -> xs[i]? = none -> us[i]? = none := fun {xs us i} r e => by
 have h1 := r.length
 have h2 : xs.length <= i := List.getElem?_eq_none_iff.mp e
 exact List.getElem?_eq_none_iff.mpr (by (first | lia | omega))
noncomputable def RelO : Option V -> Option Value -> Prop
 | some v, some u => RelV v u
 | none, none => True
 | _, _ => False
noncomputable def KV {κ : Type} : List (κ × V) -> List (κ × Value) -> Prop := Paired fun (p : κ × V) (q : κ × Value) => p.1 = q.1 /\ RelV p.2 q.2
noncomputable def kV : Key -> V
 | .inl i => .int i
 | .inr x => .str x
inductive HO where
  | lst (xs : List V)
  | tup (xs : List V)
  | dK (kvs : List (Key × V)) | dT (kvs : List (List Key × V))
  | set (S : Int -> Bool) (n : Nat)
  | ins (C dx : Addr) (fs : List (Str × V))
  | own (x : Addr)
  | xd (fs : List (Str × V))
  | met (f x : Addr)
  | rng (lo hi : Int)
  | frz (o : Obj) (u : HO)
  | tbl (ps : Array Value)
  | ext (φ : Heap -> Prop)
noncomputable abbrev Hp := Addr -> Option HO
noncomputable def upd (H : Hp) (a : Addr) (o : HO) : Hp := fun b => if b = a then some o else H b
theorem upd_same {H : Hp} {a : Addr} {o : HO} : upd H a o a = some o := by unfold upd; rw [if_pos rfl]
theorem upd_ne {H : Hp} {a b : Addr} {o : HO} (h : b ≠ a) : upd H a o b = H b := by unfold upd; rw [if_neg h]
theorem upd_upd {H : Hp} {a : Addr} {o u : HO} : upd (upd H a o) a u = upd H a u := by
 funext b; unfold upd; split <;> rfl
theorem ne_of {H : Hp} {a b : Addr} {o u : HO} (h : H a = some o) (h' : H b = some u) (d : o ≠ u) : a ≠ b := by
 intro e; subst e; rw [h] at h'; exact d (Option.some.inj h')
theorem ne_of_none {H : Hp} {a b : Addr} {o : HO} (h : H a = some o) (h' : H b = none) : a ≠ b := by
 intro e; subst e; rw [h] at h'; cases h'
noncomputable def PTup (h : Heap) (a : Addr) (items : Array Value) : Prop := ∃ o, h.get? a = some o /\ o.cls = .type "tuple" /\ (∃ n, o.data = .seq items n) /\ o.dict = none /\ o.slots = #[]
theorem PTup.tup {h : Heap} {a : Addr} {items : Array Value} (p : PTup h a items) : IsTup h a items := by
 obtain ⟨o, e, c, d, _⟩ := p
 exact ⟨o, e, c, d⟩
theorem PTup.new {h : Heap} {items : Array Value} {n : Nat} : PTup (h.push { cls := .type "tuple", data := .seq items n }) h.objs.size items := ⟨_, Heap.get?_push_size _ rfl, rfl, ⟨_, rfl⟩, rfl, rfl⟩
section
variable (P : Program) (w : World)
noncomputable def ObjOk (H : Hp) (h : Heap) (a : Addr) : HO -> Prop
 | .lst xs => xs.length <= sizeLine /\ ∃ (its : List Value) (n : Nat), Vals xs its /\ h.get? a = some { cls := .type "list", data := .seq its.toArray n }
 | .tup xs => xs.length <= sizeLine /\ ∃ its : List Value, Vals xs its /\ PTup h a its.toArray
 | .dK kvs => kvs.length <= sizeLine /\ (a == sysModules) = false /\ ∃ vs, KV kvs vs /\ h.DictOf (mixKind P w) a vs
 | .dT kvs => kvs.length <= sizeLine /\ (a == sysModules) = false /\ ∃ xs : List (List Key × Addr × Value),
   Paired (fun (p : List Key × V) (q : List Key × Addr × Value) => p.1 = q.1 /\ H q.2.1 = some (.tup (p.1.map kV)) /\ RelV p.2 q.2.2) kvs xs /\
   ∃ o es ep, h.get? a = some o /\ o.ExactDict /\ o.data = .dict es ep /\ es.toList = xs.map (entryOfKey (tupleKind (mixKind P w))) /\ (xs.map (·.1)).Nodup
 | .set S n => h.SetOf (intKind P w) a S n
 | .ins C dx fs => H dx = some (.own a) /\ fs.length <= 1000 /\ dx ≠ a /\ h.get? a = some (PySem.W.instObj C dx) /\
   ∃ mA, h.Ns1 dx mA /\ (∀ f, RelO (fs.lookup f) (mA f)) /\ PySem.Within mA (fs.map (·.1))
 | .own _ => ∃ o, h.get? a = some o
 | .xd fs => ∃ mA, h.Ns1 a mA /\ ∀ f, RelO (fs.lookup f) (mA f)
 | .rng lo hi => ∃ t u v, h.get? a = some { cls := .type "range", data := .fields #[.int lo t, .int hi u, .int 1 v] }
 | .frz o u => h.get? a = some o /\ ObjOk H h a u
 | .tbl ps => h.get? a = some { cls := .none, data := .fields ps }
 | .met f x => h.get? a = some (PySem.W.methodObj (.ref f) (.ref x))
 | .ext φ => φ h /\ (∃ o, h.get? a = some o) /\ ∀ h1 h2 : Heap, φ h1 -> (∀ o, h1.get? a = some o -> h2.get? a = some o) -> φ h2
noncomputable def HOk (H : Hp) (h : Heap) : Prop := ∀ a o, H a = some o -> ObjOk P w H h a o
end
section
variable {P : Program} {w : World} {H H' : Hp} {h h' : Heap} {a : Addr} {o : HO}
theorem ObjOk.lt (x : ObjOk P w H h a o) : a < h.objs.size := by
 cases o with
 | lst xs => obtain ⟨_, _, _, _, e⟩ := x; exact Heap.lt_size e
 | tup xs => obtain ⟨_, _, _, p⟩ := x; exact p.tup.lt
 | dK kvs => obtain ⟨_, _, _, _, o, _, _, e, _⟩ := x; exact Heap.lt_size e
 | dT kvs => obtain ⟨_, _, _, _, o, _, _, e, _⟩ := x; exact Heap.lt_size e
 | set S n => obtain ⟨o, _, _, _, e, _⟩ := x; exact Heap.lt_size e
 | ins C dx fs => obtain ⟨_, _, _, e, _⟩ := x; exact Heap.lt_size e
 | own y => obtain ⟨_, e⟩ := x; exact Heap.lt_size e
 | xd fs => obtain ⟨_, ⟨_, _, _, e, _⟩, _⟩ := x; exact Heap.lt_size e
 | rng lo hi => obtain ⟨_, _, _, e⟩ := x; exact Heap.lt_size e
 | frz ob u => obtain ⟨e, _⟩ := x; exact Heap.lt_size e
 | tbl ps => exact Heap.lt_size (show h.get? a = some _ from x)
 | met f y => exact Heap.lt_size (show h.get? a = some _ from x)
 | ext φ => obtain ⟨_, ⟨_, e⟩, _⟩ := x; exact Heap.lt_size e
theorem Paired.mapP {α β : Type} {F G : α -> β -> Prop} : ∀ {l₁ : List α} {l₂ : List β}, Paired F l₁ l₂ -> (∀ a b, F a b -> G a b) -> Paired G l₁ l₂
 | _, _, .nil, _ => .nil
 | _, _, .cons r t, f => .cons (f _ _ r) (Paired.mapP t f)
theorem ObjOk.stay (x : ObjOk P w H h a o) (k : ∀ b u, (b = a ∨ H b = some (.own a)) -> h.get? b = some u -> h'.get? b = some u)
  (ho : ∀ b, H b = some (.own a) -> H' b = some (.own a)) (ht : ∀ b xs, H b = some (.tup xs) -> H' b = some (.tup xs)) : ObjOk P w H' h' a o := by
 induction o with
 | lst xs => obtain ⟨z, its, n, r, e⟩ := x; exact ⟨z, its, n, r, k _ _ (.inl rfl) e⟩
 | tup xs => obtain ⟨z, its, r, ob, e, c⟩ := x; exact ⟨z, its, r, ob, k _ _ (.inl rfl) e, c⟩
 | dK kvs => obtain ⟨z, y, vs, r, ob, es, ep, e, c⟩ := x; exact ⟨z, y, vs, r, ob, es, ep, k _ _ (.inl rfl) e, c⟩
 | dT kvs =>
  obtain ⟨z, y, xs, r, ob, es, ep, e, c⟩ := x
  exact ⟨z, y, xs, Paired.mapP r fun p q z => ⟨z.1, ht _ _ z.2.1, z.2.2⟩, ob, es, ep, k _ _ (.inl rfl) e, c⟩
 | set S n => obtain ⟨ob, es, ep, t, e, c⟩ := x; exact ⟨ob, es, ep, t, k _ _ (.inl rfl) e, c⟩
 | ins C dx fs =>
  obtain ⟨d, z, ne, e, mA, ⟨od, es, ep, e2, c⟩, r⟩ := x
  exact ⟨ho _ d, z, ne, k _ _ (.inl rfl) e, mA, ⟨od, es, ep, k _ _ (.inr d) e2, c⟩, r⟩
 | own y => obtain ⟨ob, e⟩ := x; exact ⟨ob, k _ _ (.inl rfl) e⟩
 | xd fs => obtain ⟨mA, ⟨od, es, ep, e, c⟩, r⟩ := x; exact ⟨mA, ⟨od, es, ep, k _ _ (.inl rfl) e, c⟩, r⟩
 | rng lo hi => obtain ⟨t, u, v, e⟩ := x; exact ⟨t, u, v, k _ _ (.inl rfl) e⟩
 | frz ob u ih => obtain ⟨e, q⟩ := x; exact ⟨k _ _ (.inl rfl) e, ih q⟩
 | tbl ps =>
  have e : h.get? a = some { cls := .none, data := .fields ps } := x
  show h'.get? a = some { cls := .none, data := .fields ps }
  exact k a _ (.inl rfl) e
 | met f y =>
  have e : h.get? a = some (PySem.W.methodObj (.ref f) (.ref y)) := x
  show h'.get? a = some (PySem.W.methodObj (.ref f) (.ref y))
  exact k a _ (.inl rfl) e
 | ext φ => obtain ⟨p, ⟨o, e⟩, st⟩ := x; exact ⟨st _ _ p fun o q => k _ _ (.inl rfl) q, ⟨o, k _ _ (.inl rfl) e⟩, st⟩
theorem HOk.lt (x : HOk P w H h) (e : H a = some o) : a < h.objs.size := (x a o e).lt
theorem HOk.fresh (x : HOk P w H h) (e : h.objs.size <= a) : H a = none := by
 cases q : H a with
 | none => rfl
 | some u => exact absurd (Nat.lt_of_lt_of_le (x.lt q) e) (Nat.lt_irrefl _)
theorem HOk.kept (x : HOk P w H h) (k : ∀ b u, h.get? b = some u -> h'.get? b = some u) : HOk P w H h' := fun a o e =>
 (x a o e).stay (fun b u _ q => k b u q) (fun _ q => q) fun _ _ q => q
theorem HOk.laid (x : HOk P w H h) (k : ∀ b u, h.get? b = some u -> h'.get? b = some u) (hp : h.objs.size <= a) (new : ObjOk P w (upd H a o) h' a o) : HOk P w (upd H a o) h' := fun b u e => by
 have hn := x.fresh hp
 by_cases hb : b = a
 ·subst hb; rw [upd_same] at e; cases e; exact new
 ·rw [upd_ne hb] at e
  exact (x b u e).stay (fun c v _ q => k c v q) (fun c q => by rw [upd_ne (ne_of_none q hn)]; exact q) fun c xs q => by rw [upd_ne (ne_of_none q hn)]; exact q
end
noncomputable def Rd (H : Hp) (a : Addr) (u : HO) : Prop := H a = some u ∨ ∃ o, H a = some (.frz o u)
theorem Rd.ok {P : Program} {w : World} {H : Hp} {h : Heap} {a : Addr} {u : HO} (r : Rd H a u) (x : HOk P w H h) : ObjOk P w H h a u := by
 rcases r with r | ⟨o, r⟩
 ·exact x a u r
 ·obtain ⟨_, q⟩ := x a _ r
  exact q
noncomputable def Mut : Option HO -> Prop
 | some (.lst _) => True
 | some (.dK _) => True
 | some (.dT _) => True
 | some (.set _ _) => True
 | some (.ins _ _ _) => True
 | some (.ext _) => True
 | _ => False
section
variable {P : Program} {w : World} {H : Hp} {h h' : Heap} {x e : Addr} {o' : HO}
theorem HOk.write (ok : HOk P w H h) (mu : Mut (H x)) (he : e = x ∨ H e = some (.own x)) (k : ∀ b u, b ≠ e -> h.get? b = some u -> h'.get? b = some u) (heo : ∃ u, h'.get? e = some u)
  (new : ObjOk P w (upd H x o') h' x o') : HOk P w (upd H x o') h' := fun b u q => by
 have nown : ∀ c y, H c = some (.own y) -> c ≠ x := fun c y r z => by subst z; rw [r] at mu; exact mu
 have ntup : ∀ c xs, H c = some (.tup xs) -> c ≠ x := fun c xs r z => by subst z; rw [r] at mu; exact mu
 by_cases hb : b = x
 ·subst hb; rw [upd_same] at q; cases q; exact new
 ·rw [upd_ne hb] at q
  by_cases hbe : b = e
  ·have q' : H b = some (.own x) := by
    rcases he with z | z
    ·exact absurd (hbe.trans z) hb
    ·rw [hbe]; exact z
   rw [q] at q'; cases q'
   obtain ⟨v, hv⟩ := heo
   exact ⟨v, by rw [hbe]; exact hv⟩
  ·refine (ok b u q).stay (fun c v hc r => k c v ?_ r) (fun c r => by rw [upd_ne (nown c b r)]; exact r) fun c xs r => by rw [upd_ne (ntup c xs r)]; exact r
   rcases hc with rfl | hc
   ·exact hbe
   ·rintro rfl
    rcases he with z | z
    ·exact nown c b hc z
    ·rw [hc] at z; cases z; exact hb rfl
end
structure Un (fs ex : List Addr) (H H' : Hp) (h h' : Heap) : Prop where
 keep : ∀ b o, h.get? b = some o -> H b = none -> b ∉ fs -> b ∉ ex -> h'.get? b = some o
 slot : ∀ b o, h.get? b = some o -> H b = none -> b ∈ fs -> b ∉ ex -> ∃ sl, h'.get? b = some { o with slots := sl }
 free : ∀ b o, h.get? b = some o -> H b = none -> b ∉ ex -> H' b = none
 there : ∀ b o, h.get? b = some o -> b ∉ ex -> ∃ o', h'.get? b = some o'
 tups : ∀ b xs, H b = some (.tup xs) -> H' b = some (.tup xs)
 frzs : ∀ b o u, H b = some (.frz o u) -> H' b = some (.frz o u)
 tbls : ∀ b ps, H b = some (.tbl ps) -> ∃ more, H' b = some (.tbl (ps ++ more))
section
variable {fs fs' ex ex' : List Addr} {H H1 H2 : Hp} {h h1 h2 h' : Heap} {a x e : Addr} {o : HO}
theorem Un.any (u : Un fs ex H H1 h h1) {b : Addr} {ob : Obj} (q : h.get? b = some ob) (n : H b = none) (hx : b ∉ ex) : ∃ sl, h1.get? b = some { ob with slots := sl } := by
 by_cases hb : b ∈ fs
 ·exact u.slot b ob q n hb hx
 ·exact ⟨ob.slots, u.keep b ob q n hb hx⟩
theorem Un.kept (k : ∀ b u, h.get? b = some u -> h'.get? b = some u) : Un fs ex H H h h' :=
 ⟨fun b ob q _ _ _ => k b ob q, fun b ob q _ _ _ => ⟨ob.slots, k b ob q⟩, fun _ _ _ n _ => n, fun b ob q _ => ⟨ob, k b ob q⟩, fun _ _ q => q, fun _ _ _ q => q, fun _ ps q => ⟨#[], by rw [q]; simp⟩⟩
theorem Un.refl : Un fs ex H H h h := Un.kept fun _ _ q => q
theorem Un.laid (k : ∀ b u, h.get? b = some u -> h'.get? b = some u) (hp : h.objs.size <= a) (hn : H a = none) : Un fs ex H (upd H a o) h h' where
 keep := fun b u q _ _ _ => k b u q
 slot := fun b u q _ _ _ => ⟨u.slots, k b u q⟩
 free := fun b u q n _ => by rw [upd_ne (Nat.ne_of_lt (Nat.lt_of_lt_of_le (Heap.lt_size q) hp))]; exact n
 there := fun b u q _ => ⟨u, k b u q⟩
 tups := fun b xs q => by rw [upd_ne (ne_of_none q hn)]; exact q
 frzs := fun b u xs q => by rw [upd_ne (ne_of_none q hn)]; exact q
 tbls := fun b ps q => ⟨#[], by rw [upd_ne (ne_of_none q hn), q]; simp⟩
theorem Un.write (mu : Mut (H x)) (he : e = x ∨ H e = some (.own x)) (k : ∀ b u, b ≠ e -> h.get? b = some u -> h'.get? b = some u) (heo : ∃ u, h'.get? e = some u) : Un fs ex H (upd H x o) h h' := by
 have hx : ∀ b, H b = none -> b ≠ x := fun b n z => by subst z; rw [n] at mu; exact mu
 have hb : ∀ b, H b = none -> b ≠ e := fun b n z => by
  subst z
  rcases he with r | r
  ·exact hx b n r
  ·rw [n] at r; cases r
 have hm : ∀ b u, H b = some u -> ¬ Mut (some u) -> b ≠ x := fun b u q nm z => by subst z; rw [q] at mu; exact nm mu
 refine ⟨fun b u q n _ _ => k b u (hb b n) q, fun b u q n _ _ => ⟨u.slots, k b u (hb b n) q⟩, fun b u q n _ => by rw [upd_ne (hx b n)]; exact n, fun b u q _ => ?_,
  fun b xs q => by rw [upd_ne (hm b _ q fun z => z)]; exact q, fun b u xs q => by rw [upd_ne (hm b _ q fun z => z)]; exact q, fun b ps q => ⟨#[], by rw [upd_ne (hm b _ q fun z => z), q]; simp⟩⟩
 by_cases hbe : b = e
 ·subst hbe; exact heo
 ·exact ⟨u, k b u hbe q⟩
end
noncomputable def trk (h : Heap) (H : Hp) : List Addr := (List.range h.objs.size).filter fun a => (H a).isSome
noncomputable def hidT (h : Heap) (H : Hp) : Heap := PySem.W.hideAll h (trk h H)
theorem hidT_size (h : Heap) (H : Hp) : (hidT h H).objs.size = h.objs.size := PySem.W.hideAll_size _ _
theorem hidT_get {h : Heap} {H : Hp} {b : Addr} {o : Obj} (e : h.get? b = some o) (n : H b = none) : (hidT h H).get? b = some o :=
 PySem.W.hideAll_get _ e fun hm => by
  have q : (H b).isSome = true := (List.mem_filter.mp hm).2
  rw [n] at q; simp at q
theorem of_hidT {h : Heap} {H : Hp} {b : Addr} {o : Obj} (e : (hidT h H).get? b = some o) : h.get? b = some o /\ H b = none := by
 have e' : h.get? b = some o := PySem.W.of_hideAll (trk h H) e
 refine ⟨e', ?_⟩
 cases q : H b with
 | none => rfl
 | some x =>
  have hm : b ∈ trk h H := List.mem_filter.mpr ⟨List.mem_range.mpr (Heap.lt_size e'), by simp [q]⟩
  have z : (hidT h H).get? b = none := PySem.W.hideAll_none (trk h H) hm
  rw [z] at e; cases e
noncomputable def allNews (g h : Heap) (L : Addr) : List (Addr × Obj) := (List.range h.objs.size).filterMap fun a => if a = L ∨ (g.get? a).isSome = true then none else (h.get? a).map fun o => (a, o)
noncomputable def rest (g h : Heap) (L d : Addr) : List (Addr × Obj) := (allNews g h L).filter fun p => decide (p.1 ≠ d)
end L2
namespace L2
open PySem PySem.Spec PyProof.Rows
structure Mod (K : PySem.W.Frag) (mg : Str -> Option Value) (base : Heap) : Prop where
 kin : K.In base
 glob : base.Ns mainGlobals mg
 blt : ∃ mb, base.Ns builtinsNs mb /\ ∀ x : Str, x ≠ "__name__" -> mb x = bootBuiltins x
 nolimit : base.NoLimit
structure Cx where
 prog : Program
 w : World
 K : PySem.W.Frag
 mg : Str -> Option Value
 base : Heap
 A : Around
 N : List Str
 s₀ : Shared
 H₀ : Hp
 env : Env
 outer : List Env
 stack : List Env
 ex : List Addr
 fn : Str -> Bool
 calm : Bool
 pn : List (Addr × Obj)
 xe : Value -> Shared -> Prop
noncomputable def frs (l : List Env) : List Addr := l.filterMap (·.frame)
noncomputable abbrev Cx.fs (X : Cx) : List Addr := frs X.outer
noncomputable def Vis (sc : Scope) (x : Str) : Prop := sc.names.lookup x = some .local ∨ sc.names.lookup x = some .cell ∨ sc.names.lookup x = some .free
noncomputable def Loc (sc : Scope) (x : Str) : Prop := sc.names.lookup x = some .local ∨ sc.names.lookup x = some .cell
noncomputable def Look (env : Env) (h : Heap) (m : Str -> Option Value) (x : Str) (u : Value) : Prop :=
 (env.kindOf x = some .local /\ m x = some u) ∨ ((env.kindOf x = some .cell ∨ env.kindOf x = some .free) /\ ∃ c, env.cells.lookup x = some c /\ h.IsCell c (some u))
structure Cx.Ok (X : Cx) : Prop where
 mod : Mod X.K X.mg X.base
 kind : X.env.scope.kind = .function
 glob : X.env.globals = mainGlobals
 blt : X.env.builtins = builtinsNs
 above : X.s₀.heap.objs.size <= X.env.locals
 inj : ∀ x y c, X.env.cells.lookup x = some c -> X.env.cells.lookup y = some c -> x = y
 has : ∀ x, (X.env.kindOf x = some .cell ∨ X.env.kindOf x = some .free) -> ∃ c, X.env.cells.lookup x = some c
 cab : ∀ x c, X.fn x = true -> X.env.cells.lookup x = some c -> X.s₀.heap.objs.size <= c
 hd : X.calm = true -> X.A.handled = none
 frames : X.A.frames = some X.stack
 stk : X.stack = X.outer ∨ (X.stack = X.env :: X.outer /\ X.env.frame = some X.env.locals)
 exf : ∀ b ∈ X.ex, b ≠ X.env.locals /\ ∀ x c, X.env.cells.lookup x = some c -> c ≠ b
 bs : ∀ b o, X.base.get? b = some o -> X.s₀.heap.get? b = some o /\ X.H₀ b = none
 bsz : X.base.objs.size <= X.s₀.heap.objs.size
 noex : ∀ b o, X.base.get? b = some o -> b ∉ X.ex
 exfs : ∀ b ∈ X.ex, b ∉ X.fs
 funs : X.s₀.heap.FunFrames X.base X.outer
 frf : ∀ b ∈ X.fs, X.H₀ b = none
structure Inv (X : Cx) (pins : List (Addr × Obj)) (σ : List (Option V)) (H : Hp) (s : Shared) : Prop where
 ok : X.Ok
 os : s.os = X.s₀.os
 bare : AllBare s.gens
 base : Un X.fs X.ex X.H₀ H X.s₀.heap s.heap
 loc : ∃ m, s.heap.Ns X.env.locals m /\ ∀ (i : Nat) (x : Str) (v : V), X.N[i]? = some x -> σ[i]? = some (some v) -> Vis X.env.scope x -> ∃ u, RelV v u /\ Look X.env s.heap m x u
 cell : ∀ x c, X.env.cells.lookup x = some c -> ∃ v, s.heap.IsCell c v
 free : H X.env.locals = none
 freeC : ∀ x c, X.env.cells.lookup x = some c -> H c = none
 pin : ∀ p ∈ X.pn ++ pins, s.heap.get? p.1 = some p.2 /\ H p.1 = none /\ p.1 ≠ X.env.locals /\ p.1 ∉ X.fs /\ ∀ v, p.2.data ≠ .cell v
 hok : HOk X.prog X.w H s.heap
 len : σ.length = X.N.length
section
variable {X : Cx} {pins : List (Addr × Obj)} {σ : List (Option V)} {H H' : Hp} {s : Shared} {h' : Heap}
theorem Cx.Ok.nofr (ok : X.Ok) {b : Addr} {o : Obj} (e : X.base.get? b = some o) : b ∉ X.fs := fun hb => by
 have := (ok.funs.mem hb).1
 rw [e] at this; cases this
theorem Inv.bs (I : Inv X pins σ H s) : ∀ b o, X.base.get? b = some o -> s.heap.get? b = some o /\ H b = none := fun b o e =>
 ⟨I.base.keep b o (I.ok.bs b o e).1 (I.ok.bs b o e).2 (I.ok.nofr e) (I.ok.noex b o e), I.base.free b o (I.ok.bs b o e).1 (I.ok.bs b o e).2 (I.ok.noex b o e)⟩
theorem Inv.bk (I : Inv X pins σ H s) : ∀ b o, X.base.get? b = some o -> s.heap.get? b = some o := fun b o e => (I.bs b o e).1
theorem Inv.mod (I : Inv X pins σ H s) : Mod X.K X.mg X.base := I.ok.mod
theorem Inv.kIn (I : Inv X pins σ H s) : X.K.In s.heap := I.ok.mod.kin.keeps I.bk
theorem Inv.lt (I : Inv X pins σ H s) : X.env.locals < s.heap.objs.size := let ⟨_, hn, _⟩ := I.loc; hn.lt
theorem Inv.sz (I : Inv X pins σ H s) : X.s₀.heap.objs.size <= s.heap.objs.size := Nat.le_trans I.ok.above (Nat.le_of_lt I.lt)
theorem Inv.nofs (I : Inv X pins σ H s) {a : Addr} (h : s.heap.objs.size <= a) : a ∉ X.fs := fun hb => by
 obtain ⟨_, o, ho, _⟩ := I.ok.funs.mem hb
 exact absurd (Nat.lt_of_lt_of_le (Heap.lt_size ho) (Nat.le_trans I.sz h)) (Nat.lt_irrefl _)
theorem Inv.cne (I : Inv X pins σ H s) : ∀ x c, X.env.cells.lookup x = some c -> c ≠ X.env.locals := fun x c e z => by
 obtain ⟨v, o, ho, hd⟩ := I.cell x c e
 obtain ⟨m, ⟨o', es, ep, ho', hd', _⟩, _⟩ := I.loc
 rw [z, ho'] at ho; cases ho; rw [hd'] at hd; cases hd
theorem Inv.funs (I : Inv X pins σ H s) : s.heap.FunFrames X.base X.outer := by
 have all : ∀ (l : List Env), (∀ b ∈ frs l, b ∈ X.fs) -> X.s₀.heap.FunFrames X.base l -> s.heap.FunFrames X.base l := by
  intro l
  induction l with
  | nil => intro _ _; trivial
  | cons env r ih =>
   intro hs hl
   obtain ⟨hk, ⟨L, o, hf, hn, ho, hd⟩, hr⟩ := hl
   have hL : L ∈ X.fs := hs L (by unfold frs; rw [List.filterMap_cons, hf]; exact List.mem_cons_self)
   obtain ⟨sl, e⟩ := I.base.slot L o ho (I.ok.frf L hL) hL fun z => I.ok.exfs L z hL
   exact ⟨hk, ⟨L, _, hf, hn, e, hd⟩, ih (fun b hb => hs b (by unfold frs; rw [List.filterMap_cons, hf]; exact List.mem_cons_of_mem _ hb)) hr⟩
 exact all X.outer (fun _ hb => hb) I.ok.funs
theorem Inv.stack (I : Inv X pins σ H s) : s.heap.FunFrames X.base X.stack := by
 rcases I.ok.stk with e | ⟨e, hf⟩
 ·rw [e]; exact I.funs
 ·rw [e]
  obtain ⟨m, hn, _⟩ := I.loc
  refine .cons (by rw [I.ok.kind]; decide) hf hn ?_ I.funs
  exact Heap.get?_none_of_le (Nat.le_trans I.ok.bsz I.ok.above)
theorem Inv.stkSub (I : Inv X pins σ H s) : ∀ b ∈ frs X.stack, b ∈ X.env.locals :: X.fs := fun b hb => by
 rcases I.ok.stk with e | ⟨e, hf⟩
 ·rw [e] at hb; exact List.mem_cons_of_mem _ hb
 ·rw [e] at hb
  unfold frs at hb
  rw [List.filterMap_cons, hf] at hb
  exact hb
theorem Inv.stkFree (I : Inv X pins σ H s) : ∀ b ∈ frs X.stack, H b = none := fun b hb => by
 rcases List.mem_cons.mp (I.stkSub b hb) with e | hb
 ·rw [e]; exact I.free
 ·obtain ⟨_, o, ho, _⟩ := I.ok.funs.mem hb
  exact I.base.free b o ho (I.ok.frf b hb) fun z => I.ok.exfs b z hb
theorem Inv.step {g' : Array GenState} {t' : Nat} {d' : Drawn} {ch : List Addr} (I : Inv X pins σ H s)
  (hch : ∀ b ∈ ch, (b ∈ X.ex ∨ X.s₀.heap.objs.size <= b) /\ b ≠ X.env.locals /\ (∀ x c, X.env.cells.lookup x = some c -> c ≠ b) /\ ∀ p ∈ X.pn ++ pins, p.1 ≠ b)
  (keep : ∀ b o, b ≠ X.env.locals -> b ∉ X.fs -> b ∉ ch -> s.heap.get? b = some o -> H b = none -> h'.get? b = some o)
  (slot : ∀ b o, b ≠ X.env.locals -> b ∈ X.fs -> b ∉ ch -> s.heap.get? b = some o -> H b = none -> ∃ sl, h'.get? b = some { o with slots := sl }) (free : ∀ b o, b ∉ ch -> s.heap.get? b = some o -> H b = none -> H' b = none)
  (there : ∀ b o, b ∉ ch -> s.heap.get? b = some o -> ∃ o', h'.get? b = some o')
  (tups : ∀ b xs, H b = some (.tup xs) -> H' b = some (.tup xs)) (frzs : ∀ b o u, H b = some (.frz o u) -> H' b = some (.frz o u)) (tbls : ∀ b ps, H b = some (.tbl ps) -> ∃ more, H' b = some (.tbl (ps ++ more)))
  (ns : ∀ m, s.heap.Ns X.env.locals m -> h'.Ns X.env.locals m) (hok : HOk X.prog X.w H' h') (hg : AllBare g') :
  Inv X pins σ H' { s with heap := h', gens := g', drawn := d', toks := t' } := by
 have neL : ∀ b o, X.s₀.heap.get? b = some o -> b ≠ X.env.locals := fun b o e => Nat.ne_of_lt (Nat.lt_of_lt_of_le (Heap.lt_size e) I.ok.above)
 have neC : ∀ b o, X.s₀.heap.get? b = some o -> b ∉ X.ex -> b ∉ ch := fun b o e hx hb => by
  rcases (hch b hb).1 with z | z
  ·exact hx z
  ·exact absurd (Nat.lt_of_lt_of_le (Heap.lt_size e) z) (Nat.lt_irrefl _)
 have cellK : ∀ x c, X.env.cells.lookup x = some c -> ∀ v, s.heap.IsCell c v -> h'.IsCell c v := fun x c e v ⟨o, ho, hd⟩ => by
  have nch : c ∉ ch := fun z => (hch c z).2.2.1 x c e rfl
  by_cases hc : c ∈ X.fs
  ·obtain ⟨sl, q⟩ := slot c o (I.cne x c e) hc nch ho (I.freeC x c e)
   exact ⟨_, q, hd⟩
  ·exact ⟨o, keep c o (I.cne x c e) hc nch ho (I.freeC x c e), hd⟩
 refine ⟨I.ok, I.os, hg, ⟨fun b o e n hb hx => ?_, fun b o e n hb hx => ?_, fun b o e n hx => ?_, fun b o e hx => ?_, fun b xs e => tups b xs (I.base.tups b xs e), fun b o xs e => frzs b o xs (I.base.frzs b o xs e), fun b ps e => ?_⟩, ?_, fun x c e => ?_, ?_, fun x c e => ?_, fun p hp => ?_, hok, I.len⟩
 ·exact keep b o (neL b o e) hb (neC b o e hx) (I.base.keep b o e n hb hx) (I.base.free b o e n hx)
 ·obtain ⟨sl, e1⟩ := I.base.slot b o e n hb hx
  obtain ⟨sl', e2⟩ := slot b _ (neL b o e) hb (neC b o e hx) e1 (I.base.free b o e n hx)
  exact ⟨sl', e2⟩
 ·obtain ⟨o', e1⟩ := I.base.there b o e hx
  exact free b o' (neC b o e hx) e1 (I.base.free b o e n hx)
 ·obtain ⟨o', e1⟩ := I.base.there b o e hx
  exact there b o' (neC b o e hx) e1
 ·obtain ⟨m1, e1⟩ := I.base.tbls b ps e
  obtain ⟨m2, e2⟩ := tbls b _ e1
  exact ⟨m1 ++ m2, by rw [e2, Array.append_assoc]⟩
 ·obtain ⟨m, hn, hl⟩ := I.loc
  refine ⟨m, ns m hn, fun i x v e1 e2 e3 => ?_⟩
  obtain ⟨u, r, l⟩ := hl i x v e1 e2 e3
  refine ⟨u, r, ?_⟩
  rcases l with l | ⟨k, c, e, z⟩
  ·exact .inl l
  ·exact .inr ⟨k, c, e, cellK x c e _ z⟩
 ·obtain ⟨v, z⟩ := I.cell x c e
  exact ⟨v, cellK x c e v z⟩
 ·obtain ⟨m, ⟨o, _, _, ho, _⟩, _⟩ := I.loc
  exact free _ o (fun z => (hch _ z).2.1 rfl) ho I.free
 ·obtain ⟨v, o, ho, hd⟩ := I.cell x c e
  exact free c o (fun z => (hch c z).2.2.1 x c e rfl) ho (I.freeC x c e)
 ·obtain ⟨e, n, ne, nf, d⟩ := I.pin p hp
  have nch : p.1 ∉ ch := fun z => (hch p.1 z).2.2.2 p hp rfl
  exact ⟨keep p.1 p.2 ne nf nch e n, free p.1 p.2 nch e n, ne, nf, d⟩
theorem Inv.un {t' : Nat} (I : Inv X pins σ H s) (u : Un X.fs [] H H' s.heap h') (hok : HOk X.prog X.w H' h') : Inv X pins σ H' { s with heap := h', toks := t' } := by
 obtain ⟨m, ⟨o, es, ep, ho, r⟩, _⟩ := id I.loc
 obtain ⟨sl, hL⟩ := u.any ho I.free (by simp)
 exact I.step (g' := s.gens) (d' := s.drawn) (ch := []) (fun _ z => nomatch z) (fun b o _ hb _ e n => u.keep b o e n hb (by simp)) (fun b o _ hb _ e n => u.slot b o e n hb (by simp)) (fun b o _ e n => u.free b o e n (by simp)) (fun b o _ e => u.there b o e (by simp)) u.tups u.frzs u.tbls (fun m' hm => by
  obtain ⟨o', es', ep', ho', r'⟩ := hm
  rw [ho] at ho'; cases ho'
  exact ⟨_, es', ep', hL, r'⟩) hok I.bare
theorem Inv.call {g' : Array GenState} {t' : Nat} {d' : Drawn} {ch : List Addr} (I : Inv X pins σ H s) (u : Un (frs X.stack) ch H H' s.heap h') (hok : HOk X.prog X.w H' h') (hg : AllBare g')
  (hch : ∀ b ∈ ch, (b ∈ X.ex ∨ X.s₀.heap.objs.size <= b) /\ b ≠ X.env.locals /\ (∀ x c, X.env.cells.lookup x = some c -> c ≠ b) /\ ∀ p ∈ X.pn ++ pins, p.1 ≠ b) :
  Inv X pins σ H' { s with heap := h', gens := g', drawn := d', toks := t' } := by
 obtain ⟨m, ⟨o, es, ep, ho, r⟩, _⟩ := id I.loc
 obtain ⟨sl, hL⟩ := u.any ho I.free fun z => (hch _ z).2.1 rfl
 exact I.step (ch := ch) hch (fun b o hL hb hc e n => u.keep b o e n (fun z => (List.mem_cons.mp (I.stkSub b z)).elim hL hb) hc) (fun b o _ _ hc e n => u.any e n hc) (fun b o hc e n => u.free b o e n hc) (fun b o hc e => u.there b o e hc) u.tups u.frzs u.tbls (fun m' hm => by
  obtain ⟨o', es', ep', ho', r'⟩ := hm
  rw [ho] at ho'; cases ho'
  exact ⟨_, es', ep', hL, r'⟩) hok hg
theorem Inv.turned {t' : Nat} {it : Addr} (I : Inv X pins σ H s) (k : ∀ b o, b ≠ it -> s.heap.get? b = some o -> h'.get? b = some o) (hn : H it = none) (hL : it ≠ X.env.locals)
  (h1 : it ∈ X.ex ∨ X.s₀.heap.objs.size <= it) (h2 : ∀ x c, X.env.cells.lookup x = some c -> c ≠ it) (h3 : ∀ p ∈ X.pn ++ pins, p.1 ≠ it) : Inv X pins σ H { s with heap := h', toks := t' } := by
 have nit : ∀ b u, H b = some u -> b ≠ it := fun b u e z => by rw [z, hn] at e; cases e
 refine I.step (g' := s.gens) (d' := s.drawn) (ch := [it]) (fun b hb => ?_) (fun b o _ _ hc e _ => k b o (fun z => hc (by simp [z])) e) (fun b o _ _ hc e _ => ⟨o.slots, k b o (fun z => hc (by simp [z])) e⟩) (fun _ _ _ _ n => n)
  (fun b o hc e => ⟨o, k b o (fun z => hc (by simp [z])) e⟩) (fun _ _ e => e) (fun _ _ _ e => e) (fun b ps e => ⟨#[], by rw [e]; simp⟩) (fun m hm => ?_) (fun b u e => ?_) I.bare
 ·have e : b = it := by simpa using hb
  subst e
  exact ⟨h1, hL, h2, h3⟩
 ·obtain ⟨o, es, ep, ho, r⟩ := hm
  exact ⟨o, es, ep, k _ o (Ne.symm hL) ho, r⟩
 ·refine (I.hok b u e).stay (fun c v hc q => k c v ?_ q) (fun _ q => q) fun _ _ q => q
  rcases hc with z | z
  ·rw [z]; exact nit b u e
  ·exact nit c _ z
theorem Inv.tok (I : Inv X pins σ H s) (t : Nat) : Inv X pins σ H { s with toks := t } := I.un (h' := s.heap) (t' := t) Un.refl I.hok
theorem Inv.kept {t' : Nat} (I : Inv X pins σ H s) (k : ∀ b u, s.heap.get? b = some u -> h'.get? b = some u) : Inv X pins σ H { s with heap := h', toks := t' } := I.un (Un.kept k) (I.hok.kept k)
theorem Inv.laid {a : Addr} {o : HO} {t' : Nat} (I : Inv X pins σ H s) (k : ∀ b u, s.heap.get? b = some u -> h'.get? b = some u) (hp : s.heap.objs.size <= a) (new : ObjOk X.prog X.w (upd H a o) h' a o) :
  Inv X pins σ (upd H a o) { s with heap := h', toks := t' } := I.un (Un.laid k hp (I.hok.fresh hp)) (I.hok.laid k hp new)
theorem Inv.write {x e : Addr} {o : HO} {t' : Nat} (I : Inv X pins σ H s) (mu : Mut (H x)) (he : e = x ∨ H e = some (.own x)) (k : ∀ b u, b ≠ e -> s.heap.get? b = some u -> h'.get? b = some u) (heo : ∃ u, h'.get? e = some u)
  (new : ObjOk X.prog X.w (upd H x o) h' x o) : Inv X pins σ (upd H x o) { s with heap := h', toks := t' } := I.un (Un.write mu he k heo) (I.hok.write mu he k heo new)
theorem Inv.weak {σ' : List (Option V)} (I : Inv X pins σ H s) (hl : σ'.length = σ.length) (w : ∀ (i : Nat) v, σ'[i]? = some (some v) -> σ[i]? = some (some v)) : Inv X pins σ' H s :=
 ⟨I.ok, I.os, I.bare, I.base, let ⟨m, hn, hl'⟩ := I.loc; ⟨m, hn, fun i x v e1 e2 e3 => hl' i x v e1 (w i v e2) e3⟩, I.cell, I.free, I.freeC, I.pin, I.hok, hl.trans I.len⟩
theorem Inv.pins_of {pins' : List (Addr × Obj)} (I : Inv X pins σ H s) (h : ∀ p ∈ pins', s.heap.get? p.1 = some p.2 /\ H p.1 = none /\ p.1 ≠ X.env.locals /\ p.1 ∉ X.fs /\ ∀ v, p.2.data ≠ .cell v) : Inv X pins' σ H s :=
 ⟨I.ok, I.os, I.bare, I.base, I.loc, I.cell, I.free, I.freeC, fun p hp => (List.mem_append.mp hp).elim (fun z => I.pin p (List.mem_append_left _ z)) (h p), I.hok, I.len⟩
theorem nodup_ix {N : List Str} (hN : N.Nodup) {i j : Nat} {x : Str} (a : N[i]? = some x) (b : N[j]? = some x) : i = j := by
 obtain ⟨h1, e1⟩ := List.getElem?_eq_some_iff.mp a
 obtain ⟨h2, e2⟩ := List.getElem?_eq_some_iff.mp b
 exact (List.getElem_inj hN).mp (e1.trans e2.symm)
theorem store_ok2 {M : Model} {A : Around} {E : Value -> Shared -> Prop} {i : Nat} {x : Str} {v : V} {u : Value} {Q : Unit -> Shared -> Prop} (I : Inv X pins σ H s) (hN : X.N.Nodup) (hi : X.N[i]? = some x) (hx : Loc X.env.scope x) (r : RelV v u)
  (h : ∀ s', Inv X pins (σ.set i (some v)) H s' -> (∃ a, Heap.SameBut a s.heap s'.heap /\ (a = X.env.locals ∨ X.env.cells.lookup x = some a)) -> Q () s') (hf : X.fn x = true ∨ X.env.scope.names.lookup x = some .local := by first | exact .inl rfl | exact .inr rfl | assumption) : wpAny M A (storeName X.env x u) Q E s := by
 obtain ⟨m, hn, hl⟩ := id I.loc
 have hcls : (X.env.scope.kind == .class || (X.env.scope.kind == .module && X.env.locals != X.env.globals)) = false := by rw [I.ok.kind]; rfl
 have hiσ : i < σ.length := by rw [I.len]; exact (List.getElem?_eq_some_iff.mp hi).1
 have cne := I.cne
 have tracked : ∀ {a : Addr} {h' : Heap}, (∃ o, s.heap.get? a = some o /\ H a = none) -> Heap.SameBut a s.heap h' -> HOk X.prog X.w H h' := fun {a h'} ha hs b ob e => by
  obtain ⟨_, _, hfree⟩ := ha
  refine (I.hok b ob e).stay (fun c w' hc q => (hs.2 c ?_).trans q) (fun _ q => q) fun _ _ q => q
  rintro rfl
  rcases hc with rfl | hc
  ·rw [hfree] at e; cases e
  ·rw [hfree] at hc; cases hc
 rcases hx with hk | hk
 ·refine wpAny_storeName_local hk hn (fun h' hn' hs => ?_) hcls
  obtain ⟨oL, _, _, hoL, _⟩ := id hn
  refine h _ ⟨I.ok, I.os, I.bare, ⟨fun b o e n hb hx => ?_, fun b o e n hb hx => ?_, I.base.free, fun b o e hx => ?_, I.base.tups, I.base.frzs, I.base.tbls⟩, ⟨_, hn', fun j y v' e1 e2 e3 => ?_⟩, fun y c e => ?_, I.free, I.freeC, fun p hp => ?_, tracked ⟨oL, hoL, I.free⟩ hs, by simpa using I.len⟩ ⟨_, hs, .inl rfl⟩
  ·exact (hs.2 b (Nat.ne_of_lt (Nat.lt_of_lt_of_le (Heap.lt_size e) I.ok.above))).trans (I.base.keep b o e n hb hx)
  ·obtain ⟨sl, e1⟩ := I.base.slot b o e n hb hx
   exact ⟨sl, (hs.2 b (Nat.ne_of_lt (Nat.lt_of_lt_of_le (Heap.lt_size e) I.ok.above))).trans e1⟩
  ·obtain ⟨o', e1⟩ := I.base.there b o e hx
   exact ⟨o', (hs.2 b (Nat.ne_of_lt (Nat.lt_of_lt_of_le (Heap.lt_size e) I.ok.above))).trans e1⟩
  ·by_cases hj : j = i
   ·subst hj
    rw [hi] at e1; cases e1
    rw [List.getElem?_set_self hiσ] at e2
    cases e2
    exact ⟨u, r, .inl ⟨hk, by simp⟩⟩
   ·rw [List.getElem?_set_ne (Ne.symm hj)] at e2
    obtain ⟨u', r', q⟩ := hl j y v' e1 e2 e3
    refine ⟨u', r', ?_⟩
    rcases q with ⟨k, e⟩ | ⟨k, c, e, z⟩
    ·refine .inl ⟨k, ?_⟩
     have : y ≠ x := fun e => hj (nodup_ix hN e1 (e ▸ hi))
     simp [this, e]
    ·exact .inr ⟨k, c, e, z.sameBut hs (cne y c e)⟩
  ·obtain ⟨w', z⟩ := I.cell y c e
   exact ⟨w', z.sameBut hs (cne y c e)⟩
  ·obtain ⟨e, n, ne, nf, d⟩ := I.pin p hp
   exact ⟨(hs.2 p.1 ne).trans e, n, ne, nf, d⟩
 ·have hfn : X.fn x = true := by
   rcases hf with z | z
   ·exact z
   ·rw [z] at hk; cases hk
  obtain ⟨c, hc⟩ := I.ok.has x (.inl hk)
  obtain ⟨w', z⟩ := I.cell x c hc
  refine wpAny_storeName_cell I.ok.kind hk hc z (fun h' hc' hs => ?_)
  obtain ⟨oc, hoc, hocd⟩ := id z
  refine h { s with heap := h' } ⟨I.ok, I.os, I.bare, ⟨fun b o e n hb hx => ?_, fun b o e n hb hx => ?_, I.base.free, fun b o e hx => ?_, I.base.tups, I.base.frzs, I.base.tbls⟩, ⟨m, hn.sameBut hs (Ne.symm (cne x c hc)), fun j y v' e1 e2 e3 => ?_⟩, fun y c' e => ?_, I.free, I.freeC, fun p hp => ?_, tracked ⟨oc, hoc, I.freeC x c hc⟩ hs, by simpa using I.len⟩ ⟨c, hs, .inr hc⟩
  ·exact (hs.2 b (Nat.ne_of_lt (Nat.lt_of_lt_of_le (Heap.lt_size e) (I.ok.cab x c hfn hc)))).trans (I.base.keep b o e n hb hx)
  ·obtain ⟨sl, e1⟩ := I.base.slot b o e n hb hx
   exact ⟨sl, (hs.2 b (Nat.ne_of_lt (Nat.lt_of_lt_of_le (Heap.lt_size e) (I.ok.cab x c hfn hc)))).trans e1⟩
  ·obtain ⟨o', e1⟩ := I.base.there b o e hx
   exact ⟨o', (hs.2 b (Nat.ne_of_lt (Nat.lt_of_lt_of_le (Heap.lt_size e) (I.ok.cab x c hfn hc)))).trans e1⟩
  ·by_cases hj : j = i
   ·subst hj
    rw [hi] at e1; cases e1
    rw [List.getElem?_set_self hiσ] at e2
    cases e2
    exact ⟨u, r, .inr ⟨.inl hk, c, hc, hc'⟩⟩
   ·rw [List.getElem?_set_ne (Ne.symm hj)] at e2
    obtain ⟨u', r', q⟩ := hl j y v' e1 e2 e3
    refine ⟨u', r', ?_⟩
    rcases q with q | ⟨k, c', e, z'⟩
    ·exact .inl q
    ·refine .inr ⟨k, c', e, z'.sameBut hs ?_⟩
     rintro rfl
     exact hj (nodup_ix hN e1 (I.ok.inj _ _ _ e hc ▸ hi))
  ·by_cases hcc : c' = c
   ·subst hcc; exact ⟨_, hc'⟩
   ·obtain ⟨w2, z2⟩ := I.cell y c' e
    exact ⟨w2, z2.sameBut hs hcc⟩
  ·obtain ⟨e, n, ne, nf, d⟩ := I.pin p hp
   refine ⟨(hs.2 p.1 ?_).trans e, n, ne, nf, d⟩
   intro q
   rw [q, hoc] at e
   have q' : oc = p.2 := Option.some.inj e
   exact d w' (by rw [<- q']; exact hocd)
theorem store_ok {M : Model} {A : Around} {E : Value -> Shared -> Prop} {i : Nat} {x : Str} {v : V} {u : Value} {Q : Unit -> Shared -> Prop} (I : Inv X pins σ H s) (hN : X.N.Nodup) (hi : X.N[i]? = some x) (hx : Loc X.env.scope x) (r : RelV v u)
  (h : ∀ s', Inv X pins (σ.set i (some v)) H s' -> Q () s') (hf : X.fn x = true ∨ X.env.scope.names.lookup x = some .local := by first | exact .inl rfl | exact .inr rfl | assumption) : wpAny M A (storeName X.env x u) Q E s :=
 store_ok2 I hN hi hx r (fun s' I' _ => h s' I') hf
theorem Inv.call' {s' : Shared} {ch : List Addr} (I : Inv X pins σ H s) (ho : s'.os = s.os) (u : Un (frs X.stack) ch H H' s.heap s'.heap) (hok : HOk X.prog X.w H' s'.heap) (hg : AllBare s'.gens)
  (hch : ∀ b ∈ ch, (b ∈ X.ex ∨ X.s₀.heap.objs.size <= b) /\ b ≠ X.env.locals /\ (∀ x c, X.env.cells.lookup x = some c -> c ≠ b) /\ ∀ p ∈ X.pn ++ pins, p.1 ≠ b) : Inv X pins σ H' s' := by
 obtain ⟨h', g', d', t', o'⟩ := s'
 have e : o' = s.os := ho
 subst e
 exact I.call (g' := g') (t' := t') (d' := d') u hok hg hch
end
noncomputable abbrev XK := Value -> Option Addr -> Hp -> Prop
noncomputable abbrev St := List (Option V)
noncomputable abbrev VK := V -> Hp -> Prop
noncomputable abbrev TE := St -> Hp -> VK -> Prop
noncomputable abbrev TT := St -> Hp -> (Bool -> Hp -> Prop) -> Prop
noncomputable abbrev TA := St -> Hp -> (List V -> Hp -> Prop) -> Prop
structure Ends where
 nx : St -> Hp -> Prop
 rt : VK
 bk : St -> Hp -> Prop := fun _ _ => False
 ct : St -> Hp -> Prop := fun _ _ => False
noncomputable abbrev TS := Ends -> St -> Hp -> Prop
noncomputable def EP (X : Cx) (pins : List (Addr × Obj)) (σ : St) (Q : VK) (u : Value) (s' : Shared) : Prop := ∃ v H', Inv X pins σ H' s' /\ RelV v u /\ Q v H'
noncomputable def TP (X : Cx) (pins : List (Addr × Obj)) (σ : St) (Q : Bool -> Hp -> Prop) (b : Bool) (s' : Shared) : Prop := ∃ H', Inv X pins σ H' s' /\ Q b H'
noncomputable def AP (X : Cx) (pins : List (Addr × Obj)) (σ : St) (Q : List V -> Hp -> Prop) (us : List Value) (s' : Shared) : Prop := ∃ vs H', Inv X pins σ H' s' /\ Vals vs us /\ Q vs H'
noncomputable def SP (X : Cx) (pins : List (Addr × Obj)) (D : Ends) (f : Flow) (s' : Shared) : Prop :=
 match f with
 | .next => ∃ σ' H', Inv X pins σ' H' s' /\ D.nx σ' H'
 | .brk => ∃ σ' H', Inv X pins σ' H' s' /\ D.bk σ' H'
 | .cont => ∃ σ' H', Inv X pins σ' H' s' /\ D.ct σ' H'
 | .ret u => ∃ v σ' H', Inv X pins σ' H' s' /\ RelV v u /\ D.rt v H'
noncomputable def PE (X : Cx) (e : Expr) (t : TE) : Prop :=
 ∀ (pins : List (Addr × Obj)) (s : Shared) (σ : St) (H : Hp) (Q : VK), Inv X pins σ H s -> t σ H Q -> wpAny (model X.prog X.w) X.A (eval e X.env) (EP X pins σ Q) X.xe s
noncomputable def PT (X : Cx) (e : Expr) (t : TT) : Prop :=
 ∀ (pins : List (Addr × Obj)) (s : Shared) (σ : St) (H : Hp) (Q : Bool -> Hp -> Prop), Inv X pins σ H s -> t σ H Q -> wpAny (model X.prog X.w) X.A (isTrue e X.env (eval e X.env)) (TP X pins σ Q) X.xe s
noncomputable def PW (X : Cx) (e : Expr) (t : TT) : Prop :=
 ∀ (whole : Sem Value) (pins : List (Addr × Obj)) (s : Shared) (σ : St) (H : Hp) (Q : Bool -> Hp -> Prop), Inv X pins σ H s -> t σ H Q -> wpAny (model X.prog X.w) X.A (isTrue e X.env whole) (TP X pins σ Q) X.xe s
theorem PW.pt {X : Cx} {e : Expr} {t : TT} (h : PW X e t) : PT X e t := h _
noncomputable def PA (X : Cx) (es : List Expr) (t : TA) : Prop :=
 ∀ (pos : Pos) (pins : List (Addr × Obj)) (s : Shared) (σ : St) (H : Hp) (Q : List V -> Hp -> Prop), Inv X pins σ H s -> t σ H Q -> wpAny (model X.prog X.w) X.A (spliced (backTo pos (starEach es X.env))) (AP X pins σ Q) X.xe s
noncomputable def PS (X : Cx) (st : Stmt) (t : TS) : Prop :=
 ∀ (pins : List (Addr × Obj)) (s : Shared) (σ : St) (H : Hp) (D : Ends), Inv X pins σ H s -> t D σ H -> wpAny (model X.prog X.w) X.A (exec st X.env) (SP X pins D) X.xe s
noncomputable def PSs (X : Cx) (st : List Stmt) (t : TS) : Prop :=
 ∀ (pins : List (Addr × Obj)) (s : Shared) (σ : St) (H : Hp) (D : Ends), Inv X pins σ H s -> t D σ H -> wpAny (model X.prog X.w) X.A (execs st X.env) (SP X pins D) X.xe s
theorem thn {α : Type} {t : Sem α} {Q Q' : α -> Shared -> Prop} {M : Model} {A : Around} {E : Value -> Shared -> Prop} {s : Shared} (h : wpAny M A t Q E s) (hQ : ∀ a s, Q a s -> Q' a s) : wpAny M A t Q' E s := wpAny_mono h hQ fun _ _ x => x
end L2
namespace L2
open PySem PySem.Spec PyProof.Rows
section
variable {X : Cx}
noncomputable def tVar (i : Nat) : TE := fun σ H Q => ∃ v, σ[i]? = some (some v) /\ Q v H
noncomputable def tC (v : V) : TE := fun _ H Q => Q v H
theorem pe_var {i : Nat} {x : Str} {pos : Pos} (hN : X.N[i]? = some x) (hv : Vis X.env.scope x) (hd : (x == ("__debug__" : Str)) = false := by decide) (hcd : (x == ("__classdict__" : Str)) = false := by decide) : PE X (.Name x pos) (tVar i) := by
 intro pins s σ H Q I h
 obtain ⟨v, e, h⟩ := h
 obtain ⟨m, hn, hl⟩ := I.loc
 obtain ⟨u, r, l⟩ := hl i x v hN e hv
 have fin : EP X pins σ Q u s := ⟨v, H, I, r, h⟩
 rcases l with ⟨hk, hm⟩ | ⟨hk, c, hc, hcell⟩
 ·exact wpAny_Name (wpAny_loadName_local I.ok.kind hk hn hm fin) hd
 ·rcases hk with hk | hk
  ·exact wpAny_Name (wpAny_loadName_cell I.ok.kind hk hc hcell fin) hd
  ·exact wpAny_Name (wpAny_loadName_free I.ok.kind hk hc hcell fin hcd) hd
theorem pe_int {i j pos} : PE X (.Constant (.int i) j pos) (tC (.int i)) := fun _ _ _ H _ I h => wpAny_Constant_int ⟨.int i, H, I.tok _, ⟨_, rfl⟩, h⟩
theorem pe_bl {b j pos} : PE X (.Constant (.bool b) j pos) (tC (.bl b)) := fun _ _ _ H _ I h => Constant_bool ⟨.bl b, H, I, rfl, h⟩
theorem pe_str {x j pos} : PE X (.Constant (.str x) j pos) (tC (.str x)) := fun _ _ _ H _ I h => Calls.Constant_str ⟨.str x, H, I.tok _, ⟨_, rfl⟩, h⟩
noncomputable def Gl (X : Cx) (x : Str) : Prop := X.env.kindOf x = some .globalImplicit
theorem ld_glob {E : Value -> Shared -> Prop} {pins : List (Addr × Obj)} {s : Shared} {σ : St} {H : Hp} {x : Str} {u : Value} {pos : Pos} {Q : Value -> Shared -> Prop} (I : Inv X pins σ H s) (hg : Gl X x) (hm : X.mg x = some u) (h : Q u s)
  (hd : (x == ("__debug__" : Str)) = false := by decide) : wpAny (model X.prog X.w) X.A (eval (.Name x pos) X.env) Q E s :=
 Calls.Name_function_global I.ok.kind hg (Calls.loadGlobal_global (by rw [I.ok.glob]; exact I.mod.glob.keeps I.bk) hm h) hd
theorem ld_blt {E : Value -> Shared -> Prop} {pins : List (Addr × Obj)} {s : Shared} {σ : St} {H : Hp} {x : Str} {u : Value} {pos : Pos} {Q : Value -> Shared -> Prop} (I : Inv X pins σ H s) (hg : Gl X x) (hm : X.mg x = none) (hv : bootBuiltins x = some u) (h : Q u s)
  (hn : x ≠ "__name__" := by decide) (hd : (x == ("__debug__" : Str)) = false := by decide) : wpAny (model X.prog X.w) X.A (eval (.Name x pos) X.env) Q E s := by
 obtain ⟨mb, h1, h2⟩ := I.mod.blt
 exact Calls.Name_function_global I.ok.kind hg (Calls.loadGlobal_builtin (by rw [I.ok.glob]; exact I.mod.glob.keeps I.bk) hm (by rw [I.ok.blt]; exact h1.keeps I.bk) ((h2 x hn).trans hv) h) hd
theorem pe_glob {x : Str} {v : V} {u : Value} {pos : Pos} (hg : Gl X x) (hm : X.mg x = some u) (r : RelV v u) (hd : (x == ("__debug__" : Str)) = false := by decide) : PE X (.Name x pos) (tC v) :=
 fun _ _ _ H _ I h => ld_glob I hg hm ⟨v, H, I, r, h⟩ hd
theorem pe_bltn {x : Str} {v : V} {u : Value} {pos : Pos} (hg : Gl X x) (hm : X.mg x = none) (hv : bootBuiltins x = some u) (r : RelV v u) (hn : x ≠ "__name__" := by decide) (hd : (x == ("__debug__" : Str)) = false := by decide) : PE X (.Name x pos) (tC v) :=
 fun _ _ _ H _ I h => ld_blt I hg hm hv ⟨v, H, I, r, h⟩ hn hd
variable {a b : Expr} {ta tb : TE} {pos : Pos}
noncomputable def tB (t : TE) : TT := fun σ H Q => t σ H fun x H1 => ∃ c, x = .bl c /\ Q c H1
theorem pt_val {e : Expr} {t : TE} (h : PE X e t) (he : ∀ whole, isTrue e X.env whole = (do let v <- whole; standAt e.pos; holding [v] (truthy v)) := by intro _; rfl) : PT X e (tB t) := by
 intro pins s σ H Q I hw
 refine isTrue_plain (thn (h pins s σ H _ I hw) fun v s1 ⟨x, H1, I1, r1, q1⟩ => ?_) (he _)
 obtain ⟨d, rfl, q⟩ := q1
 cases r1
 exact wpAny_truthy_bool ⟨H1, I1, q⟩
variable {tA tB' : TT} {rest : List Expr}
noncomputable def tAnd (t u : TT) : TT := fun σ H Q => t σ H fun c H1 => if c = true then u σ H1 Q else Q false H1
noncomputable def tOr (t u : TT) : TT := fun σ H Q => t σ H fun c H1 => if c = true then Q true H1 else u σ H1 Q
noncomputable def tNot (t : TT) : TT := fun σ H Q => t σ H fun c H1 => Q (!c) H1
theorem pw_and1 (ha : PT X a tA) : PW X (.BoolOp .And [a] pos) tA := by
 intro wh pins s σ H Q I h
 refine isTrue_and (thn (ha pins s σ H Q I h) fun c s1 e => ?_)
 cases c with
 | true => exact isTrue_and_nil e
 | false => exact e
theorem pw_or1 (ha : PT X a tA) : PW X (.BoolOp .Or [a] pos) tA := by
 intro wh pins s σ H Q I h
 refine isTrue_or (thn (ha pins s σ H Q I h) fun c s1 e => ?_)
 cases c with
 | false => exact isTrue_or_nil e
 | true => exact e
theorem pw_and (ha : PT X a tA) (hb : PW X (.BoolOp .And (b :: rest) pos) tB') : PW X (.BoolOp .And (a :: b :: rest) pos) (tAnd tA tB') := by
 intro wh pins s σ H Q I h
 refine isTrue_and (thn (ha pins s σ H _ I h) fun c s1 ⟨H1, I1, q1⟩ => ?_)
 cases c with
 | true => exact hb wh pins s1 σ H1 Q I1 q1
 | false => exact ⟨H1, I1, q1⟩
theorem pw_or (ha : PT X a tA) (hb : PW X (.BoolOp .Or (b :: rest) pos) tB') : PW X (.BoolOp .Or (a :: b :: rest) pos) (tOr tA tB') := by
 intro wh pins s σ H Q I h
 refine isTrue_or (thn (ha pins s σ H _ I h) fun c s1 ⟨H1, I1, q1⟩ => ?_)
 cases c with
 | true => exact ⟨H1, I1, q1⟩
 | false => exact hb wh pins s1 σ H1 Q I1 q1
theorem pt_not (ha : PT X a tA) : PT X (.UnaryOp .Not a pos) (tNot tA) := by
 intro pins s σ H Q I h
 exact isTrue_not (ha pins s σ H (fun c H1 => Q (!c) H1) I h)
noncomputable def tAndV (ta tb : TE) : TE := fun σ H Q => ta σ H fun x H1 => ∃ c, x = .bl c /\ if c = true then tb σ H1 Q else Q (.bl false) H1
theorem pe_one {op} {t : TE} (h : PE X a t) : PE X (.BoolOp op [a] pos) t := fun pins s σ H Q I hw => BoolOp_one (h pins s σ H Q I hw)
theorem pe_and (ha : PE X a ta) (hb : PE X (.BoolOp .And (b :: rest) pos) tb) : PE X (.BoolOp .And (a :: b :: rest) pos) (tAndV ta tb) := by
 intro pins s σ H Q I h
 refine BoolOp_and (thn (ha pins s σ H _ I h) fun v s1 ⟨x, H1, I1, r1, q1⟩ => ?_)
 obtain ⟨c, rfl, q1⟩ := q1
 cases r1
 refine wpAny_truthy_bool ?_
 cases c with
 | true => exact hb pins s1 σ H1 Q I1 q1
 | false => exact ⟨.bl false, H1, I1, rfl, q1⟩
noncomputable def tIf (t : TT) (ta tb : TE) : TE := fun σ H Q => t σ H fun c H1 => if c = true then ta σ H1 Q else tb σ H1 Q
theorem pe_ifExp {c : Expr} (hc : PT X c tA) (ha : PE X a ta) (hb : PE X b tb) : PE X (.IfExp c a b pos) (tIf tA ta tb) := by
 intro pins s σ H Q I h
 refine wpAny_IfExp (thn (hc pins s σ H _ I h) fun d s1 ⟨H1, I1, q1⟩ => ?_)
 cases d with
 | true => exact ha pins s1 σ H1 Q I1 q1
 | false => exact hb pins s1 σ H1 Q I1 q1
end
end L2
namespace L2
open PySem PySem.Spec PyProof.Rows
noncomputable def SqL (K : PySem.W.Frag) (H : Hp) (a : Addr) (xs : List V) : Prop :=
 Rd H a (.lst xs) ∨
  ∃ (o : Obj) (its : Array Value) (n : Nat), K.lookup a = some o /\ o.cls = .type "list" /\ o.dict = none /\ o.data = .seq its n /\ its.size <= sizeLine /\ Vals xs its.toList
noncomputable def SqT (K : PySem.W.Frag) (H : Hp) (a : Addr) (xs : List V) : Prop :=
 Rd H a (.tup xs) ∨
  ∃ (o : Obj) (its : Array Value) (n : Nat), K.lookup a = some o /\ o.cls = .type "tuple" /\ o.data = .seq its n /\ its.size <= sizeLine /\ Vals xs its.toList
noncomputable def absV : Value -> Option V
 | .none => some .non
 | .bool b => some (.bl b)
 | .int i _ => some (.int i)
 | .str x _ => some (.str x)
 | .bytes b _ => some (.byt b)
 | .float b _ => some (.flt b)
 | .ref a => some (.ref a)
 | .type n => some (.ty n)
 | _ => none
theorem RelV.abs {x : V} {u : Value} (r : RelV x u) : absV u = some x := by
 cases x with
 | non => cases r; rfl
 | bl _ => cases r; rfl
 | int _ => obtain ⟨t, rfl⟩ := r; rfl
 | str _ => obtain ⟨t, rfl⟩ := r; rfl
 | byt _ => obtain ⟨t, rfl⟩ := r; rfl
 | flt _ => obtain ⟨t, rfl⟩ := r; rfl
 | ref _ => cases r; rfl
 | ty _ => cases r; rfl
theorem RelV.inj {x y : V} {u : Value} (r : RelV x u) (q : RelV y u) : x = y := Option.some.inj (r.abs.symm.trans q.abs)
theorem Vals.inj : ∀ {xs ys : List V} {us : List Value}, Vals xs us -> Vals ys us -> xs = ys
 | _, _, _, .nil, .nil => rfl
 | _, _, _, .cons r t, .cons r' t' => by rw [r.inj r', Vals.inj t t']
section
variable {X : Cx} {pins : List (Addr × Obj)} {σ : St} {H : Hp} {s : Shared} {a : Addr} {xs ys : List V}
theorem SqL.of {K : PySem.W.Frag} (h : H a = some (.lst xs)) : SqL K H a xs := .inl (.inl h)
theorem SqT.of {K : PySem.W.Frag} (h : H a = some (.tup xs)) : SqT K H a xs := .inl (.inl h)
theorem Inv.list (I : Inv X pins σ H s) (h : SqL X.K H a xs) : ∃ its : List Value, Vals xs its /\ PlainL s.heap a its.toArray /\ xs.length <= sizeLine := by
 rcases h with h | ⟨o, its, n, hk, hc, hd, hs, hz, r⟩
 ·obtain ⟨z, its, n, r, e⟩ := h.ok I.hok
  exact ⟨its, r, ⟨_, n, e, rfl, rfl, rfl⟩, z⟩
 ·refine ⟨its.toList, r, ⟨o, n, I.kIn a o hk, hc, hd, by simpa using hs⟩, ?_⟩
  have e := r.length
  simp only [Array.length_toList] at e
  (first | lia | omega)
theorem Inv.tuple (I : Inv X pins σ H s) (h : SqT X.K H a xs) : ∃ its : List Value, Vals xs its /\ IsTup s.heap a its.toArray /\ xs.length <= sizeLine := by
 rcases h with h | ⟨o, its, n, hk, hc, hs, hz, r⟩
 ·obtain ⟨z, its, r, p⟩ := h.ok I.hok
  exact ⟨its, r, p.tup, z⟩
 ·refine ⟨its.toList, r, ⟨o, I.kIn a o hk, hc, n, by simpa using hs⟩, ?_⟩
  have e := r.length
  simp only [Array.length_toList] at e
  (first | lia | omega)
theorem Inv.list_inj (I : Inv X pins σ H s) (h : SqL X.K H a xs) (h' : SqL X.K H a ys) : xs = ys := by
 obtain ⟨its, r, ⟨o, n, e, _, _, d⟩, _⟩ := I.list h
 obtain ⟨its', r', ⟨o', n', e', _, _, d'⟩, _⟩ := I.list h'
 rw [e] at e'; cases e'
 rw [d] at d'
 injection d' with d1 _
 have : its = its' := by simpa using congrArg Array.toList d1
 subst this
 exact r.inj r'
theorem Inv.tuple_inj (I : Inv X pins σ H s) (h : SqT X.K H a xs) (h' : SqT X.K H a ys) : xs = ys := by
 obtain ⟨its, r, ⟨o, e, _, n, d⟩, _⟩ := I.tuple h
 obtain ⟨its', r', ⟨o', e', _, n', d'⟩, _⟩ := I.tuple h'
 rw [e] at e'; cases e'
 rw [d] at d'
 injection d' with d1 _
 have : its = its' := by simpa using congrArg Array.toList d1
 subst this
 exact r.inj r'
end
noncomputable abbrev Cx.wish (X : Cx) (E : Value -> Shared -> Prop) : Cx := { X with xe := E }
noncomputable abbrev Cx.nox (X : Cx) : Cx := X.wish fun _ _ => False
theorem Cx.Ok.wish {X : Cx} (ok : X.Ok) (E : Value -> Shared -> Prop) : (X.wish E).Ok :=
 ⟨ok.mod, ok.kind, ok.glob, ok.blt, ok.above, ok.inj, ok.has, ok.cab, ok.hd, ok.frames, ok.stk, ok.exf, ok.bs, ok.bsz, ok.noex, ok.exfs, ok.funs, ok.frf⟩
theorem Cx.Ok.unwish {X : Cx} {E : Value -> Shared -> Prop} (ok : (X.wish E).Ok) : X.Ok :=
 ⟨ok.mod, ok.kind, ok.glob, ok.blt, ok.above, ok.inj, ok.has, ok.cab, ok.hd, ok.frames, ok.stk, ok.exf, ok.bs, ok.bsz, ok.noex, ok.exfs, ok.funs, ok.frf⟩
section
variable {X : Cx} {pins : List (Addr × Obj)} {σ : St} {H : Hp} {s : Shared} {E : Value -> Shared -> Prop}
theorem Inv.wish (I : Inv X pins σ H s) (E : Value -> Shared -> Prop) : Inv (X.wish E) pins σ H s := ⟨I.ok.wish E, I.os, I.bare, I.base, I.loc, I.cell, I.free, I.freeC, I.pin, I.hok, I.len⟩
theorem Inv.unwish (I : Inv (X.wish E) pins σ H s) : Inv X pins σ H s := ⟨I.ok.unwish, I.os, I.bare, I.base, I.loc, I.cell, I.free, I.freeC, I.pin, I.hok, I.len⟩
theorem SP.unwish {D : Ends} {f : Flow} {s' : Shared} (h : SP (X.wish E) pins D f s') : SP X pins D f s' := by
 cases f with
 | next => obtain ⟨σ', H', I, q⟩ := h; exact ⟨σ', H', I.unwish, q⟩
 | brk => obtain ⟨σ', H', I, q⟩ := h; exact ⟨σ', H', I.unwish, q⟩
 | cont => obtain ⟨σ', H', I, q⟩ := h; exact ⟨σ', H', I.unwish, q⟩
 | ret u => obtain ⟨v, σ', H', I, r, q⟩ := h; exact ⟨v, σ', H', I.unwish, r, q⟩
theorem PSs.nox {st : List Stmt} {t : TS} (h : PSs X.nox st t) : PSs X st t := fun pins s σ H D I hw =>
 wpAny_mono (h pins s σ H D (I.wish _) hw) (fun _ _ q => q.unwish) fun _ _ z => False.elim z
end
section
variable {X : Cx} {st : Stmt} {rest : List Stmt} {t u : TS} {e : Expr} {te : TE} {pos : Pos}
noncomputable def tNext : TS := fun D σ H => D.nx σ H
noncomputable def tSeq (t u : TS) : TS := fun D σ H => t { D with nx := u D } σ H
theorem pss_nil : PSs X [] tNext := fun _ _ σ H _ I h => wpAny_execs_nil ⟨σ, H, I, h⟩
theorem pss_cons (h1 : PS X st t) (h2 : PSs X rest u) : PSs X (st :: rest) (tSeq t u) := by
 intro pins s σ H D I h
 refine wpAny_execs_cons (thn (h1 pins s σ H { D with nx := u D } I h) fun f s1 q => ?_)
 cases f with
 | next =>
  obtain ⟨σ', H', I', q⟩ := q
  exact h2 pins s1 σ' H' D I' q
 | ret v => exact q
 | brk => exact q
 | cont => exact q
theorem pss_one (h1 : PS X st t) : PSs X [st] t := by
 intro pins s σ H D I h
 refine wpAny_execs_cons (thn (h1 pins s σ H D I h) fun f s1 q => ?_)
 cases f with
 | next => exact wpAny_execs_nil q
 | ret v => exact q
 | brk => exact q
 | cont => exact q
theorem Inv.quiet {pins : List (Addr × Obj)} {σ : St} {H : Hp} {s : Shared} (I : Inv X pins σ H s) : interactive X.env = false := by simp [interactive, I.ok.kind]
noncomputable def tDrop (te : TE) : TS := fun D σ H => te σ H fun _ H1 => D.nx σ H1
theorem ps_expr (he : PE X e te) (hs : swapsWith e none pos.line X.env = pure false := by rfl) : PS X (.Expr e pos) (tDrop te) := by
 intro pins s σ H D I h
 exact wpAny_Expr_any (thn (he pins s σ H _ I h) fun v s1 ⟨x, H1, I1, r1, q1⟩ => ⟨σ, H1, I1, q1⟩) I.quiet hs
noncomputable def tRet (te : TE) : TS := fun D σ H => te σ H D.rt
theorem ps_ret (he : PE X e te) : PS X (.Return (some e) pos) (tRet te) := by
 intro pins s σ H D I h
 exact wpAny_Return_some (thn (he pins s σ H _ I h) fun v s1 ⟨x, H1, I1, r1, q1⟩ => ⟨x, σ, H1, I1, r1, q1⟩)
noncomputable def tIfS (c : TT) (t u : TS) : TS := fun D σ H => c σ H fun b H1 => if b = true then t D σ H1 else u D σ H1
theorem ps_if {c : Expr} {a b : List Stmt} {tc : TT} (hc : PT X c tc) (ha : PSs X a t) (hb : PSs X b u) : PS X (.If c a b pos) (tIfS tc t u) := by
 intro pins s σ H D I h
 refine wpAny_If (thn (hc pins s σ H _ I h) fun d s1 ⟨H1, I1, q1⟩ => ?_)
 cases d with
 | true => exact ha pins s1 σ H1 D I1 q1
 | false => exact hb pins s1 σ H1 D I1 q1
noncomputable def tNever : TS := fun _ _ _ => False
theorem pss_never {sts : List Stmt} : PSs X sts tNever := fun _ _ _ _ _ _ h => h.elim
end
noncomputable abbrev TG := V -> St -> Hp -> (St -> Hp -> Prop) -> Prop
noncomputable abbrev TGs := List V -> St -> Hp -> (St -> Hp -> Prop) -> Prop
noncomputable def PG (X : Cx) (target : Expr) (t : TG) : Prop :=
 ∀ (pins : List (Addr × Obj)) (s : Shared) (σ : St) (H : Hp) (v : V) (u : Value) (Q : St -> Hp -> Prop), Inv X pins σ H s -> RelV v u -> t v σ H Q ->
  wpAny (model X.prog X.w) X.A (assign target X.env u) (fun _ s' => ∃ σ' H', Inv X pins σ' H' s' /\ Q σ' H') X.xe s
noncomputable def PGs (X : Cx) (ts : List Expr) (t : TGs) : Prop :=
 ∀ (pins : List (Addr × Obj)) (s : Shared) (σ : St) (H : Hp) (vs : List V) (us : List Value) (Q : St -> Hp -> Prop), Inv X pins σ H s -> Vals vs us -> t vs σ H Q ->
  wpAny (model X.prog X.w) X.A (assignInOrder ((assignEach ts X.env).map (·.2)) us) (fun _ s' => ∃ σ' H', Inv X pins σ' H' s' /\ Q σ' H') X.xe s
noncomputable abbrev TSet := V -> V -> V -> Hp -> (Hp -> Prop) -> Prop
noncomputable def PSet (X : Cx) (t : TSet) : Prop :=
 ∀ (pins : List (Addr × Obj)) (s : Shared) (σ : St) (H : Hp) (o i v : V) (ov iv u : Value) (Q : Hp -> Prop), Inv X pins σ H s -> RelV o ov -> RelV i iv -> RelV v u -> t o i v H Q ->
  wpAny (model X.prog X.w) X.A (setItem ov iv u) (fun _ s' => ∃ H', Inv X pins σ H' s' /\ Q H') X.xe s
section
variable {X : Cx} {pos : Pos}
noncomputable def gName (i : Nat) : TG := fun v σ H Q => Q (σ.set i (some v)) H
theorem pg_name {i : Nat} {x : Str} (hN : X.N.Nodup) (hi : X.N[i]? = some x) (hx : Loc X.env.scope x) (hf : X.fn x = true ∨ X.env.scope.names.lookup x = some .local := by first | exact .inl rfl | exact .inr rfl | assumption) : PG X (.Name x pos) (gName i) := by
 intro pins s σ H v u Q I r h
 exact wpAny_assign_Name (store_ok I hN hi hx r (fun s' I' => ⟨_, H, I', h⟩) hf)
noncomputable def gNil : TGs := fun vs σ H Q => vs = [] /\ Q σ H
noncomputable def gCons (t : TG) (u : TGs) : TGs := fun vs σ H Q => ∃ v r, vs = v :: r /\ t v σ H fun σ' H' => u r σ' H' Q
theorem pgs_nil : PGs X [] gNil := by
 intro pins s σ H vs us Q I r h
 obtain ⟨e, h⟩ := h
 subst e
 cases r
 exact assignInOrder_nil ⟨σ, H, I, h⟩
theorem pgs_cons {e : Expr} {es : List Expr} {t : TG} {u : TGs} (h1 : PG X e t) (h2 : PGs X es u)
  (hs : (assignEach (e :: es) X.env).map (·.2) = assign e X.env :: (assignEach es X.env).map (·.2) := by rfl) : PGs X (e :: es) (gCons t u) := by
 intro pins s σ H vs us Q I r h
 obtain ⟨v, vr, e1, h⟩ := h
 subst e1
 cases r with
 | cons r rr =>
  rw [hs]
  refine assignInOrder_cons (thn (h1 pins s σ H _ _ _ I r h) fun _ s1 ⟨σ1, H1, I1, q1⟩ => ?_)
  exact h2 pins s1 σ1 H1 _ _ Q I1 rr q1
noncomputable def gTup (K : PySem.W.Frag) (n : Nat) (t : TGs) : TG := fun v σ H Q => ∃ a xs, v = .ref a /\ SqT K H a xs /\ xs.length = n /\ t xs σ H Q
theorem pg_tup {es : List Expr} {k : Nat} {t : TGs} {n : Nat} (hc : X.calm = true) (h : PGs X es t)
  (hn : (assignEach es X.env).length = n := by rfl) (hst : (assignEach es X.env).findIdx? (·.1) = none := by rfl) : PG X (.Tuple es k pos) (gTup X.K n t) := by
 intro pins s σ H v u Q I r hw
 obtain ⟨a, xs, e1, hq, hl, hw⟩ := hw
 subst e1
 cases r
 obtain ⟨its, rv, ht, hz⟩ := I.tuple hq
 refine assign_Tuple_tuple (I.ok.hd hc) ht (by simp [hn, <- hl, rv.length]) hst fun h' hx => ?_
 have I1 : Inv X pins σ H { s with heap := h' } := I.kept (t' := s.toks) fun b o e => hx b o (Nat.ne_of_lt (Heap.lt_size e)) e
 exact h pins _ σ H xs _ Q I1 (by simpa using rv) hw
noncomputable def gSub (to ti : TE) (t : TSet) : TG := fun v σ H Q => to σ H fun o H1 => ti σ H1 fun i H2 => t o i v H2 fun H3 => Q σ H3
theorem pg_sub {o i : Expr} {to ti : TE} {t : TSet} (ho : PE X o to) (hi : PE X i ti) (hs : PSet X t)
  (ha : ∀ v, assign (.Subscript o i pos) X.env v = (do
   let ov <- holding [v] (eval o X.env)
   let iv <- holding [v, ov] (eval i X.env)
   standAt pos
   holding [v, ov, iv] (setItem ov iv v)
   release [v, ov, iv] []) := by intro _; rfl) : PG X (.Subscript o i pos) (gSub to ti t) := by
 intro pins s σ H v u Q I r h
 rw [ha]
 refine wpAny_bind (wpAny_holding (thn (ho pins s σ H _ I h) fun ov s1 ⟨x, H1, I1, r1, q1⟩ => ?_))
 refine wpAny_bind (wpAny_holding (thn (hi pins s1 σ H1 _ I1 q1) fun iv s2 ⟨y, H2, I2, r2, q2⟩ => ?_))
 refine wpAny_bind (wpAny_standAt (wpAny_bind (wpAny_holding (thn (hs pins s2 σ H2 x y v ov iv u _ I2 r1 r2 r q2) fun _ s3 ⟨H3, I3, q3⟩ => ?_))))
 exact wpAny_release ⟨σ, H3, I3, q3⟩
noncomputable def tAsg (te : TE) (g : TG) : TS := fun D σ H => te σ H fun x H1 => g x σ H1 D.nx
theorem ps_asg {tg e : Expr} {te : TE} {g : TG} (he : PE X e te) (hg : PG X tg g) (hs : swapsWithSole [tg] e pos.line X.env = pure false := by rfl) (hw : swappedStores [tg] e X.env = pure none := by rfl)
  (h1 : (assignEach [tg] X.env).map (·.2) = [assign tg X.env] := by rfl) : PS X (.Assign [tg] e pos) (tAsg te g) := by
 intro pins s σ H D I h
 refine wpAny_Assign_stores (thn (he pins s σ H _ I h) fun v s1 ⟨x, H1, I1, r1, q1⟩ => ?_) hs hw
 rw [h1]
 exact thn (hg pins s1 σ H1 x v _ I1 r1 q1) fun _ s2 q => q
theorem ps_set {i : Nat} {x : Str} {e : Expr} {te : TE} {pos' : Pos} (hN : X.N.Nodup) (hi : X.N[i]? = some x) (hx : Loc X.env.scope x) (he : PE X e te) (hs : swapsWith e (some (.Name x pos')) pos.line X.env = pure false := by rfl) (hf : X.fn x = true ∨ X.env.scope.names.lookup x = some .local := by first | exact .inl rfl | exact .inr rfl | assumption) :
  PS X (.Assign [.Name x pos'] e pos) (tAsg te (gName i)) := by
 intro pins s σ H D I h
 refine wpAny_Assign_Name (thn (he pins s σ H _ I h) fun v s1 ⟨y, H1, I1, r1, q1⟩ => ?_) hs
 exact store_ok I1 hN hi hx r1 (fun s2 I2 => ⟨_, H1, I2, q1⟩) hf
noncomputable def tPar (i j : Nat) (ta : TA) : TS := fun D σ H => ta σ H fun vs H1 => ∃ v w, vs = [v, w] /\ D.nx ((σ.set i (some v)).set j (some w)) H1
theorem ps_par {i j : Nat} {x y : Str} {a b : Expr} {ta : TA} {px py pt : Pos} {kt k2 pt2} (hc : X.calm = true) (hN : X.N.Nodup) (hi : X.N[i]? = some x) (hj : X.N[j]? = some y) (hij : i ≠ j)
  (hx : X.env.scope.names.lookup x = some .local) (hy : X.env.scope.names.lookup y = some .local) (ha : PA X [a, b] ta)
  (hw : swappedStores [.Tuple [.Name x px, .Name y py] kt pt] (.Tuple [a, b] k2 pt2) X.env = pure (some [x, y]))
  (hs : swapsWithSole [.Tuple [.Name x px, .Name y py] kt pt] (.Tuple [a, b] k2 pt2) pos.line X.env = pure false := by rfl) :
  PS X (.Assign [.Tuple [.Name x px, .Name y py] kt pt] (.Tuple [a, b] k2 pt2) pos) (tPar i j ta) := by
 intro pins s σ H D I h
 rw [exec_Assign_arm]
 refine wpAny_bind (wpAny_standAt ?_)
 rw [hs]
 refine wpAny_bind (wpAny_pure ?_)
 rw [if_neg (by decide)]
 refine wpAny_bind (Tuple_ (thn (ha _ pins s σ H _ I h) fun us s1 ⟨vs, H1, I1, r1, q1⟩ => ?_))
 obtain ⟨v, w, e1, q1⟩ := q1
 subst e1
 obtain ⟨u1, u2, rfl, rv, rw'⟩ : ∃ u1 u2, us = [u1, u2] /\ RelV v u1 /\ RelV w u2 := by
  cases r1 with
  | cons p q =>
   cases q with
   | cons p' q' =>
    cases q'
    exact ⟨_, _, rfl, p, p'⟩
 refine wpAny_newObj_type ?_ (by show 2 <= sizeLine; decide)
 have I2 : Inv X pins σ H1 { s1 with heap := s1.heap.push { cls := .type "tuple", data := .seq [u1, u2].toArray } } := I1.kept (t' := s1.toks) fun b o e => Heap.get?_push_of_some _ e
 rw [hw]
 refine wpAny_bind (wpAny_pure ?_)
 show wpAny (model X.prog X.w) X.A (do rule "assign.swapped-stores"; let items <- unpackItems (.ref s1.heap.objs.size) 2 none; assignInOrder [fun v => bindName X.env y v, fun v => bindName X.env x v] items.reverse; pure Flow.next) _ _ _
 refine wpAny_bind (wpAny_rule (wpAny_bind (unpackItems_tuple (items := #[u1, u2]) (I.ok.hd hc) (IsTup.new s1.heap _) fun h' hx' => ?_)))
 have I3 := I2.kept (h' := h') (t' := s1.toks) fun b o e => hx' b o (Nat.ne_of_lt (Heap.lt_size e)) e
 show wpAny _ _ (assignInOrder [fun v => bindName X.env y v, fun v => bindName X.env x v] [u2, u1] >>= fun _ => pure Flow.next) _ _ _
 refine wpAny_bind (assignInOrder_cons (wpAny_bindName (store_ok I3 hN hj (.inl hy) rw' (fun s2 I4 => ?_) (.inr hy))))
 refine assignInOrder_cons (wpAny_bindName (store_ok I4 hN hi (.inl hx) rv (fun s3 I5 => assignInOrder_nil (wpAny_pure ?_)) (.inr hx)))
 rw [List.set_comm _ _ (Ne.symm hij)] at I5
 exact ⟨_, H1, I5, q1⟩
end
section
variable {X : Cx} {pos : Pos}
noncomputable def tWhile (c : TT) (tb : TS) : TS := fun D σ H => ∃ W : Nat -> St -> Hp -> Prop, (∃ m, W m σ H) /\ ∀ m σ H, W m σ H ->
 c σ H fun b H1 => if b = true then ∃ N : St -> Hp -> Prop, (∀ σ' H', N σ' H' -> ∃ m', m' < m /\ W m' σ' H') /\ tb { D with nx := N, ct := N, bk := D.nx } σ H1 else D.nx σ H1
theorem ps_while {c : Expr} {body : List Stmt} {tc : TT} {tb : TS} (hp : PassesOwn (model X.prog X.w) X.A X.env X.xe) (hc : PT X c tc) (hb : PSs X body tb) : PS X (.While c body [] pos) (tWhile tc tb) := by
 intro pins s σ H D I h
 obtain ⟨W, ⟨m0, w0⟩, turn⟩ := h
 refine wpAny_While (codeAny_whileLoop (fun n s' => ∃ σ' H', Inv X pins σ' H' s' /\ W n σ' H') ?_ m0 ⟨σ, H, I, w0⟩)
 rintro n s1 ⟨σ1, H1, I1, w1⟩
 refine wpAny_passesOwn hp (thn (hc pins s1 σ1 H1 _ I1 (turn n σ1 H1 w1)) fun b s2 ⟨H2, I2, q2⟩ => ?_)
 cases b with
 | true =>
  obtain ⟨N, hN, q2⟩ := q2
  rw [if_pos rfl]
  refine wpAny_passesOwn hp (thn (hb pins s2 σ1 H2 _ I2 q2) fun f s3 q3 => ?_)
  cases f with
  | next =>
   obtain ⟨σ3, H3, I3, n3⟩ := q3
   obtain ⟨m', hm, w3⟩ := hN σ3 H3 n3
   exact ⟨m', hm, σ3, H3, I3, w3⟩
  | cont =>
   obtain ⟨σ3, H3, I3, n3⟩ := q3
   obtain ⟨m', hm, w3⟩ := hN σ3 H3 n3
   exact ⟨m', hm, σ3, H3, I3, w3⟩
  | brk => exact q3
  | ret v => exact q3
 | false =>
  rw [if_neg Bool.false_ne_true]
  exact wpAny_execs_nil ⟨σ1, H2, I2, q2⟩
end
structure It where
 go : Nat -> Hp -> Prop
 yld : Nat -> Hp -> V -> Hp -> Prop
 stop : Nat -> Hp -> Prop
noncomputable def FpOk (X : Cx) (pins : List (Addr × Obj)) (H : Hp) (b : Addr) : Prop :=
 H b = none /\ b ≠ X.env.locals /\ b ∉ X.fs /\ (b ∈ X.ex ∨ X.s₀.heap.objs.size <= b) /\ (∀ x c, X.env.cells.lookup x = some c -> c ≠ b) /\ ∀ p ∈ X.pn ++ pins, p.1 ≠ b
theorem Inv.fpOk {X : Cx} {pins : List (Addr × Obj)} {σ : St} {H H' : Hp} {s : Shared} {b : Addr} (I : Inv X pins σ H s) (hb : s.heap.objs.size <= b) (hn : H' b = none) : FpOk X pins H' b := by
 refine ⟨hn, Nat.ne_of_gt (Nat.lt_of_lt_of_le I.lt hb), I.nofs hb, .inr (Nat.le_trans I.sz hb), fun x c e z => ?_, fun p hp z => ?_⟩
 ·obtain ⟨v, q⟩ := I.cell x c e
  exact absurd (Nat.lt_of_lt_of_le q.lt (by rw [z]; exact hb)) (Nat.lt_irrefl _)
 ·exact absurd (Nat.lt_of_lt_of_le (Heap.lt_size (I.pin p hp).1) (by rw [z]; exact hb)) (Nat.lt_irrefl _)
structure Turn (P : Program) (w : World) (K : PySem.W.Frag) (tg : Expr) (J : It) (fp : List Addr) (it : Addr) (tn : Nat -> Heap -> Prop) : Prop where
 mem : it ∈ fp
 obj : ∀ i h, tn i h -> ∀ b ∈ fp, ∃ o, h.get? b = some o /\ ∀ v, o.data ≠ .cell v
 keep : ∀ i h h', tn i h -> (∀ b ∈ fp, ∀ o, h.get? b = some o -> h'.get? b = some o) -> tn i h'
 item : ∀ (X : Cx), X.prog = P -> X.w = w -> X.K = K -> X.calm = true -> ∀ (i : Nat) (pins : List (Addr × Obj)) (s : Shared) (σ : St) (H : Hp) (E : Value -> Shared -> Prop), Inv X pins σ H s -> (∀ b ∈ fp, FpOk X pins H b) -> tn i s.heap -> J.go i H ->
  wpAny (model P w) X.A (pyNext (.ref it)) (fun r s1 => ∃ u, r = some u /\
   wpAny (model P w) X.A (letOwnedTupleGo tg (.ref it) u) (fun _ s2 => ∃ x H', Inv X pins σ H' s2 /\ RelV x u /\ J.yld i H x H' /\ tn (i + 1) s2.heap /\ ∀ b ∈ fp, H' b = none) E s1) E s
 done : ∀ (X : Cx), X.prog = P -> X.w = w -> X.K = K -> X.calm = true -> ∀ (i : Nat) (pins : List (Addr × Obj)) (s : Shared) (σ : St) (H : Hp) (E : Value -> Shared -> Prop), Inv X pins σ H s -> (∀ b ∈ fp, FpOk X pins H b) -> tn i s.heap -> J.stop i H ->
  wpAny (model P w) X.A (pyNext (.ref it)) (fun r s1 => r = none /\ Inv X pins σ H s1) E s
 self : ∀ (A : Around) (i : Nat) (s : Shared) (Q : Value -> Shared -> Prop) (E : Value -> Shared -> Prop), tn i s.heap -> Q (.ref it) s -> wpAny (model P w) A (pyIter (.ref it)) Q E s
noncomputable abbrev TI := St -> Hp -> (It -> Hp -> Prop) -> Prop
noncomputable def PIE (X : Cx) (pins : List (Addr × Obj)) (σ : St) (tg : Expr) (R : It -> Hp -> Prop) (itv : Value) (s2 : Shared) : Prop :=
 ∃ (it : Addr) (fp : List Addr) (tn : Nat -> Heap -> Prop) (J : It) (H' : Hp), itv = .ref it /\ Inv X pins σ H' s2 /\ Turn X.prog X.w X.K tg J fp it tn /\ tn 0 s2.heap /\ (∀ b ∈ fp, FpOk X pins H' b) /\ R J H'
noncomputable def PI (X : Cx) (tg iter : Expr) (wi : TI) : Prop :=
 ∀ (pins : List (Addr × Obj)) (s : Shared) (σ : St) (H : Hp) (R : It -> Hp -> Prop), Inv X pins σ H s -> wi σ H R ->
  wpAny (model X.prog X.w) X.A (eval iter X.env) (fun v s1 => wpAny (model X.prog X.w) X.A (pyIter v) (PIE X pins σ tg R) X.xe s1) X.xe s
theorem go_of {M : Model} {A : Around} {E : Value -> Shared -> Prop} {s : Shared} {tg : Expr} {it : Addr} {u : Value} {o : Obj} {n : String} {vs : Array Value} {Q : Unit -> Shared -> Prop} (ho : s.heap.get? it = some o) (hc : o.cls = .type n) (hd : o.data = .fields vs)
    (hn : ["enumerate", "zip", "dict_itemiterator", "dict_reverseitemiterator", "odict_iterator", "itertools.zip_longest", "itertools.pairwise"].contains n = false) (hQ : Q () s) : wpAny M A (letOwnedTupleGo tg (.ref it) u) Q E s := by
  unfold letOwnedTupleGo
  cases tg <;> first
    | exact wpAny_pure hQ
    | (cases u <;> first
        | exact wpAny_pure hQ
        | (refine wpAny_bind (wpAny_load ho ?_)
           rw [hc, hd]
           show wpAny M A (if (["enumerate", "zip", "dict_itemiterator", "dict_reverseitemiterator", "odict_iterator", "itertools.zip_longest", "itertools.pairwise"].contains n && vs[0]? == some (rawInt _)) = true then _ else _) Q E s
           rw [if_neg (by intro h; rw [hn, Bool.false_and] at h; cases h)]
           exact wpAny_pure hQ))
noncomputable def Itl (K : PySem.W.Frag) (a : Addr) : It :=
 ⟨fun i H => ∃ xs x, SqL K H a xs /\ xs[i]? = some x, fun i H x H' => H' = H /\ ∀ xs, SqL K H a xs -> xs[i]? = some x, fun i H => ∃ xs, SqL K H a xs /\ xs.length <= i⟩
noncomputable def Itt (K : PySem.W.Frag) (a : Addr) : It :=
 ⟨fun i H => ∃ xs x, SqT K H a xs /\ xs[i]? = some x, fun i H x H' => H' = H /\ ∀ xs, SqT K H a xs -> xs[i]? = some x, fun i H => ∃ xs, SqT K H a xs /\ xs.length <= i⟩
noncomputable def Itr (lo : Int) (n : Nat) : It := ⟨fun i _ => i < n, fun i H x H' => H' = H /\ x = .int (lo + i), fun i _ => n <= i⟩
theorem turn_list {P : Program} {w : World} {K : PySem.W.Frag} {tg : Expr} (a it : Addr) : Turn P w K tg (Itl K a) [it] it (fun i h => h.IsListIter it a i) where
 mem := by simp
 obj := fun i h st b hb => by
  have e : b = it := by simpa using hb
  subst e
  obtain ⟨o, e, c, d⟩ := st
  exact ⟨o, e, fun v z => by rw [d] at z; cases z⟩
 keep := fun i h h' st k => st.at fun o e => k it (by simp) o e
 item := by
  intro X hP hw hK hc i pins s σ H E I hf st hg
  subst hP hw hK
  obtain ⟨xs, x, hq, hx⟩ := hg
  obtain ⟨its, rv, p, hz⟩ := I.list hq
  obtain ⟨u, hu, ru⟩ := rv.get hx
  obtain ⟨f0, f1, f2, f3, f4, f5⟩ := hf it (by simp)
  refine wpAny_pyNext_list_item st p.isList (x := u) (by simpa using hu) fun h' st' sb => ?_
  have I1 : Inv X pins σ H { s with heap := h' } := I.turned (t' := s.toks) (fun b o hb e => (sb.2 b hb).trans e) f0 f1 f3 f4 f5
  obtain ⟨o, e, c, d⟩ := id st'
  exact ⟨u, rfl, go_of (s := { s with heap := h' }) e c d (by decide) ⟨x, H, I1, ru, ⟨rfl, fun ys hy => by rw [I.list_inj hy hq]; exact hx⟩, st', fun b hb => (hf b hb).1⟩⟩
 done := by
  intro X hP hw hK hc i pins s σ H E I hf st hg
  subst hP hw hK
  obtain ⟨xs, hq, hx⟩ := hg
  obtain ⟨its, rv, p, hz⟩ := I.list hq
  obtain ⟨f0, f1, f2, f3, f4, f5⟩ := hf it (by simp)
  have hl := rv.length
  exact wpAny_pyNext_list_end (I.ok.hd hc) st p.isList (by simp; (first | lia | omega)) fun h' eb => ⟨rfl, I.turned (t' := s.toks) (fun b o hb e => eb b o hb e) f0 f1 f3 f4 f5⟩
 self := fun _ _ _ _ _ st h => wpAny_pyIter_listiter st h
theorem turn_tuple {P : Program} {w : World} {K : PySem.W.Frag} {tg : Expr} (a it : Addr) : Turn P w K tg (Itt K a) [it] it (fun i h => h.IsTupleIter it a i) where
 mem := by simp
 obj := fun i h st b hb => by
  have e : b = it := by simpa using hb
  subst e
  obtain ⟨o, e, c, d⟩ := st
  exact ⟨o, e, fun v z => by rw [d] at z; cases z⟩
 keep := fun i h h' st k => st.at fun o e => k it (by simp) o e
 item := by
  intro X hP hw hK hc i pins s σ H E I hf st hg
  subst hP hw hK
  obtain ⟨xs, x, hq, hx⟩ := hg
  obtain ⟨its, rv, p, hz⟩ := I.tuple hq
  obtain ⟨u, hu, ru⟩ := rv.get hx
  obtain ⟨f0, f1, f2, f3, f4, f5⟩ := hf it (by simp)
  refine wpAny_pyNext_tuple_item st (show s.heap.IsTuple a its.toArray from p) (x := u) (by simpa using hu) fun h' st' sb => ?_
  have I1 : Inv X pins σ H { s with heap := h' } := I.turned (t' := s.toks) (fun b o hb e => (sb.2 b hb).trans e) f0 f1 f3 f4 f5
  obtain ⟨o, e, c, d⟩ := id st'
  exact ⟨u, rfl, go_of (s := { s with heap := h' }) e c d (by decide) ⟨x, H, I1, ru, ⟨rfl, fun ys hy => by rw [I.tuple_inj hy hq]; exact hx⟩, st', fun b hb => (hf b hb).1⟩⟩
 done := by
  intro X hP hw hK hc i pins s σ H E I hf st hg
  subst hP hw hK
  obtain ⟨xs, hq, hx⟩ := hg
  obtain ⟨its, rv, p, hz⟩ := I.tuple hq
  obtain ⟨f0, f1, f2, f3, f4, f5⟩ := hf it (by simp)
  have hl := rv.length
  exact wpAny_pyNext_tuple_end (I.ok.hd hc) st (show s.heap.IsTuple a its.toArray from p) (by simp; (first | lia | omega)) fun h' eb => ⟨rfl, I.turned (t' := s.toks) (fun b o hb e => eb b o hb e) f0 f1 f3 f4 f5⟩
 self := fun _ _ _ _ _ st h => wpAny_pyIter_tupleiter st h
theorem turn_range {P : Program} {w : World} {K : PySem.W.Frag} {tg : Expr} (it : Addr) (lo : Int) (n : Nat) : Turn P w K tg (Itr lo n) [it] it (fun i h => IsRangeIter h it (lo + (i : Nat) * 1) ((n : Int) - (i : Nat)) 1) where
 mem := by simp
 obj := fun i h st b hb => by
  have e : b = it := by simpa using hb
  subst e
  exact ⟨_, st, fun v z => by
   have z' : Data.fields _ = Data.cell v := z
   cases z'⟩
 keep := fun i h h' st k => k it (by simp) _ st
 item := by
  intro X hP hw hK hc i pins s σ H E I hf st hg
  subst hP hw hK
  obtain ⟨f0, f1, f2, f3, f4, f5⟩ := hf it (by simp)
  have W := Walks.range (prog := X.prog) (w := X.w) (I.ok.hd hc) it lo 1 n
  refine W.item i s _ _ hg st fun v h' tk hv st' kk => ?_
  obtain ⟨t, rfl⟩ := hv
  have I1 : Inv X pins σ H { s with heap := h', toks := tk } := I.turned (fun b o hb e => kk b o (by simpa using hb) e) f0 f1 f3 f4 f5
  refine ⟨_, rfl, go_of (s := { s with heap := h', toks := tk }) (n := "range_iterator") st' rfl rfl (by decide) ⟨.int (lo + i), H, I1, ⟨t, ?_⟩, ⟨rfl, rfl⟩, st', fun b hb => (hf b hb).1⟩⟩
  rw [Int.mul_one]
 done := by
  intro X hP hw hK hc i pins s σ H E I hf st hg
  subst hP hw hK
  obtain ⟨f0, f1, f2, f3, f4, f5⟩ := hf it (by simp)
  exact wpAny_pyNext_range_end (I.ok.hd hc) st (by have : n <= i := hg; (first | lia | omega)) fun h' eb => ⟨rfl, I.turned (t' := s.toks) (fun b o hb e => eb b o hb e) f0 f1 f3 f4 f5⟩
 self := fun _ _ _ _ _ st h => wpAny_pyIter_rangeiter st h
end L2
namespace L2
open PySem PySem.Spec PyProof.Rows
section
variable {X : Cx} {tg : Expr}
noncomputable def iList (K : PySem.W.Frag) (tl : TE) : TI := fun σ H R => tl σ H fun x H1 => ∃ a, x = .ref a /\ (∃ xs, SqL K H1 a xs) /\ R (Itl K a) H1
noncomputable def iTup (K : PySem.W.Frag) (tl : TE) : TI := fun σ H R => tl σ H fun x H1 => ∃ a, x = .ref a /\ (∃ xs, SqT K H1 a xs) /\ R (Itt K a) H1
theorem pi_list {l : Expr} {tl : TE} (hl : PE X l tl) : PI X tg l (iList X.K tl) := by
 intro pins s σ H R I h
 refine thn (hl pins s σ H _ I h) fun v s1 ⟨x, H1, I1, r1, q1⟩ => ?_
 obtain ⟨a, e, ⟨xs, hq⟩, q⟩ := q1
 subst e
 cases r1
 obtain ⟨its, rv, p, hz⟩ := I1.list hq
 refine wpAny_pyIter_list p.isList ?_
 refine ⟨s1.heap.objs.size, [s1.heap.objs.size], _, _, H1, rfl, I1.kept (t' := s1.toks) fun b o e => Heap.get?_push_of_some _ e, turn_list a _, ⟨_, Heap.get?_push_size _ rfl, rfl, rfl⟩, fun b hb => ?_, q⟩
 have e : b = s1.heap.objs.size := by simpa using hb
 subst e
 exact I1.fpOk (Nat.le_refl _) (I1.hok.fresh (Nat.le_refl _))
theorem pi_tup {l : Expr} {tl : TE} (hl : PE X l tl) : PI X tg l (iTup X.K tl) := by
 intro pins s σ H R I h
 refine thn (hl pins s σ H _ I h) fun v s1 ⟨x, H1, I1, r1, q1⟩ => ?_
 obtain ⟨a, e, ⟨xs, hq⟩, q⟩ := q1
 subst e
 cases r1
 obtain ⟨its, rv, p, hz⟩ := I1.tuple hq
 refine wpAny_pyIter_tuple (show s1.heap.IsTuple a its.toArray from p) ?_
 refine ⟨s1.heap.objs.size, [s1.heap.objs.size], _, _, H1, rfl, I1.kept (t' := s1.toks) fun b o e => Heap.get?_push_of_some _ e, turn_tuple a _, ⟨_, Heap.get?_push_size _ rfl, rfl, rfl⟩, fun b hb => ?_, q⟩
 have e : b = s1.heap.objs.size := by simpa using hb
 subst e
 exact I1.fpOk (Nat.le_refl _) (I1.hok.fresh (Nat.le_refl _))
theorem range_it {pins : List (Addr × Obj)} {σ : St} {H : Hp} {s : Shared} {R : It -> Hp -> Prop} {E : Value -> Shared -> Prop} {lo hi : Int} {t u v : Tok} {tk : Nat} (I : Inv X pins σ H s) (h1 : -(2 ^ 62) <= lo) (h2 : lo < 2 ^ 62) (h3 : -(2 ^ 62) <= hi) (h4 : hi < 2 ^ 62)
  (q : R (Itr lo (hi - lo).toNat) H) : wpAny (model X.prog X.w) X.A (pyIter (.ref s.heap.objs.size)) (PIE X pins σ tg R) E { s with heap := s.heap.push { cls := .type "range", data := .fields #[.int lo t, .int hi u, .int 1 v] }, toks := tk } := by
 refine wpAny_pyIter_range (IsRange.new ..) (small_one h1 h2 h3 h4) ?_
 have I1 : Inv X pins σ H { s with heap := s.heap.push { cls := .type "range", data := .fields #[.int lo t, .int hi u, .int 1 v] }, toks := tk } := I.kept fun b o e => Heap.get?_push_of_some _ e
 refine ⟨(s.heap.push { cls := .type "range", data := .fields #[.int lo t, .int hi u, .int 1 v] }).objs.size, [(s.heap.push { cls := .type "range", data := .fields #[.int lo t, .int hi u, .int 1 v] }).objs.size], _, _, H, rfl,
  I1.kept (t' := tk) fun b o e => Heap.get?_push_of_some _ e, turn_range _ lo (hi - lo).toNat, ?_, fun b hb => ?_, q⟩
 ·have e1 : lo + ((0 : Nat) : Int) * 1 = lo := by simp
  have e2 : (((hi - lo).toNat : Nat) : Int) - ((0 : Nat) : Int) = Builtin.Range.rangeSize lo hi 1 := by rw [rangeSize_one]; split <;> (first | lia | omega)
  show IsRangeIter _ _ (lo + ((0 : Nat) : Int) * 1) ((((hi - lo).toNat : Nat) : Int) - ((0 : Nat) : Int)) 1
  rw [e1, e2]
  exact Heap.get?_push_size _ rfl
 ·have e : b = (s.heap.push { cls := .type "range", data := .fields #[.int lo t, .int hi u, .int 1 v] }).objs.size := by simpa using hb
  subst e
  exact I1.fpOk (Nat.le_refl _) (I1.hok.fresh (Nat.le_refl _))
noncomputable def iRng1 (ta : TA) : TI := fun σ H R => ta σ H fun vs H1 => ∃ j : Int, vs = [.int j] /\ -(2 ^ 62) <= j /\ j < 2 ^ 62 /\ R (Itr 0 j.toNat) H1
noncomputable def iRng2 (ta : TA) : TI := fun σ H R => ta σ H fun vs H1 => ∃ i j : Int, vs = [.int i, .int j] /\ (-(2 ^ 62) <= i /\ i < 2 ^ 62 /\ -(2 ^ 62) <= j /\ j < 2 ^ 62) /\ R (Itr i (j - i).toNat) H1
theorem pi_range1 {a : Expr} {ta : TA} {p pos : Pos} (hg : Gl X "range") (hm : X.mg "range" = none) (ha : PA X [a] ta) (hs : starEach [a] X.env = [(false, eval a X.env)] := by rfl) : PI X tg (.Call (.Name "range" p) [a] [] pos) (iRng1 ta) := by
 intro pins s σ H R I h
 refine Call_ (ld_blt I hg hm boot_range (PyProof.Rows.callWith_type1 (thn (ha pos pins s σ H _ I h) fun us s1 ⟨vs, H1, I1, r1, q1⟩ => ?_) hs rfl))
 obtain ⟨j, e, q1, q2, q⟩ := q1
 subst e
 cases r1 with
 | cons r rr =>
  cases rr
  obtain ⟨t, rfl⟩ := r
  exact call_range_1 (range_it I1 (by (first | lia | omega)) (by (first | lia | omega)) q1 q2 (by simpa using q))
theorem pi_range2 {a b : Expr} {ta : TA} {p pos : Pos} (hg : Gl X "range") (hm : X.mg "range" = none) (ha : PA X [a, b] ta) (hs : starEach [a, b] X.env = [(false, eval a X.env), (false, eval b X.env)] := by rfl) (hs2 : starEach [b] X.env = [(false, eval b X.env)] := by rfl) :
  PI X tg (.Call (.Name "range" p) [a, b] [] pos) (iRng2 ta) := by
 intro pins s σ H R I h
 refine Call_ (ld_blt I hg hm boot_range (PyProof.Rows.callWith_type1 (thn (ha pos pins s σ H _ I h) fun us s1 ⟨vs, H1, I1, r1, q1⟩ => ?_) (by rw [hs, hs2]) (by rw [hs2]; rfl)))
 obtain ⟨i, j, e, ⟨q1, q2, q3, q4⟩, q⟩ := q1
 subst e
 cases r1 with
 | cons r rr =>
  cases rr with
  | cons r' rr =>
   cases rr
   obtain ⟨t, rfl⟩ := r
   obtain ⟨t', rfl⟩ := r'
   exact call_range_2 (range_it I1 q1 q2 q3 q4 q)
noncomputable def tFor (wi : TI) (g : TG) (tb : TS) : TS := fun D σ H => wi σ H fun J H1 => ∃ W : Nat -> Nat -> St -> Hp -> Prop, (∃ m, W 0 m σ H1) /\ ∀ i m σ H, W i m σ H ->
 (J.stop i H /\ D.nx σ H) ∨ (J.go i H /\ ∃ N : St -> Hp -> Prop, (∀ σ' H', N σ' H' -> ∃ m', m' < m /\ W (i + 1) m' σ' H') /\ ∀ x H', J.yld i H x H' -> g x σ H' fun σ2 H2 => tb { D with nx := N, ct := N, bk := D.nx } σ2 H2)
noncomputable def pinsAt (fp : List Addr) (h : Heap) : List (Addr × Obj) := fp.filterMap fun b => (h.get? b).map fun o => (b, o)
theorem mem_pinsAt {fp : List Addr} {h : Heap} {b : Addr} {o : Obj} (hb : b ∈ fp) (e : h.get? b = some o) : (b, o) ∈ pinsAt fp h := List.mem_filterMap.mpr ⟨b, hb, by rw [e]; rfl⟩
theorem of_pinsAt {fp : List Addr} {h : Heap} {p : Addr × Obj} (hp : p ∈ pinsAt fp h) : p.1 ∈ fp /\ h.get? p.1 = some p.2 := by
 obtain ⟨b, hb, e⟩ := List.mem_filterMap.mp hp
 cases q : h.get? b with
 | none => rw [q] at e; cases e
 | some o =>
  rw [q] at e
  have e' : (b, o) = p := Option.some.inj e
  subst e'
  exact ⟨hb, q⟩
theorem Inv.pinned {pins : List (Addr × Obj)} {σ : St} {H : Hp} {s : Shared} {fp : List Addr} (I : Inv X pins σ H s) (hf : ∀ b ∈ fp, FpOk X pins H b) (ho : ∀ b ∈ fp, ∃ o, s.heap.get? b = some o /\ ∀ v, o.data ≠ .cell v) : Inv X (pins ++ pinsAt fp s.heap) σ H s :=
 I.pins_of fun p hp => (List.mem_append.mp hp).elim (fun z => I.pin p (List.mem_append_right _ z)) fun z => by
  obtain ⟨hb, e⟩ := of_pinsAt z
  obtain ⟨f0, f1, f2, _⟩ := hf p.1 hb
  obtain ⟨o, e', d⟩ := ho p.1 hb
  rw [e] at e'; cases e'
  exact ⟨e, f0, f1, f2, d⟩
theorem Inv.unpinned {pins pl : List (Addr × Obj)} {σ : St} {H : Hp} {s : Shared} (I : Inv X (pins ++ pl) σ H s) : Inv X pins σ H s := I.pins_of fun p hp => I.pin p (List.mem_append_right _ (List.mem_append_left _ hp))
theorem ps_for {iter : Expr} {body : List Stmt} {wi : TI} {g : TG} {tb : TS} {pos : Pos} (hp : PassesOwn (model X.prog X.w) X.A X.env X.xe) (hc : X.calm = true) (hi : PI X tg iter wi) (hg : PG X tg g) (hb : PSs X body tb)
  (hs : ∀ x, foldedSetIterable iter X.env x = pure x := by intro _; rfl) : PS X (.For tg iter body [] pos) (tFor wi g tb) := by
 intro pins s σ H D I h
 refine wpAny_For (thn (hi pins s σ H _ I h) fun v s1 h1 => thn h1 fun itv s2 h2 => ?_) hs
 obtain ⟨it, fp, tn, J, H2, e, I2, T, st2, f2, W, ⟨m0, w0⟩, turn⟩ := h2
 subst e
 have stat : ∀ {H' : Hp}, (∀ b ∈ fp, H' b = none) -> ∀ b ∈ fp, FpOk X pins H' b := fun hn b hb => ⟨hn b hb, (f2 b hb).2⟩
 refine codeAny_forLoop_any (fun n s' => ∃ i σ' H', Inv X pins σ' H' s' /\ tn i s'.heap /\ (∀ b ∈ fp, H' b = none) /\ W i n σ' H') ?_ m0 ⟨0, σ, H2, I2, st2, fun b hb => (f2 b hb).1, w0⟩
 rintro n s3 ⟨i, σ3, H3, I3, st3, fr3, w3⟩
 rcases turn i n σ3 H3 w3 with ⟨stop, qn⟩ | ⟨go, N, hN, step⟩
 ·refine wpAny_passesOwn hp (thn (T.done X rfl rfl rfl hc i pins s3 σ3 H3 X.xe I3 (stat fr3) st3 stop) fun r s4 ⟨hr, I4⟩ => ?_)
  subst hr
  exact wpAny_execs_nil ⟨σ3, H3, I4, qn⟩
 ·refine wpAny_passesOwn hp (thn (T.item X rfl rfl rfl hc i pins s3 σ3 H3 X.xe I3 (stat fr3) st3 go) fun r s4 ⟨u, hr, h4⟩ => ?_)
  subst hr
  refine wpAny_passesOwn hp (thn h4 fun _ s5 ⟨x, H5, I5, r5, y5, st5, fr5⟩ => ?_)
  have I5' := I5.pinned (stat fr5) (T.obj _ _ st5)
  refine wpAny_passesOwn hp (thn (hg _ s5 σ3 H5 x u _ I5' r5 (step x H5 y5)) fun _ s6 ⟨σ6, H6, I6, q6⟩ => ?_)
  refine wpAny_passesOwn hp (thn (hb _ s6 σ6 H6 _ I6 q6) fun f s7 q7 => ?_)
  have again : ∀ {σ7 : St} {H7 : Hp}, Inv X (pins ++ pinsAt fp s5.heap) σ7 H7 s7 -> N σ7 H7 -> ∃ m, m < n /\ ∃ i σ' H', Inv X pins σ' H' s7 /\ tn i s7.heap /\ (∀ b ∈ fp, H' b = none) /\ W i m σ' H' := fun {σ7 H7} I7 n7 => by
   obtain ⟨m', hm, w7⟩ := hN σ7 H7 n7
   refine ⟨m', hm, i + 1, σ7, H7, I7.unpinned, T.keep _ _ _ st5 fun b hb o e => (I7.pin (b, o) (List.mem_append_right _ (List.mem_append_right _ (mem_pinsAt hb e)))).1, fun b hb => ?_, w7⟩
   obtain ⟨o, e, d⟩ := T.obj _ _ st5 b hb
   exact (I7.pin (b, o) (List.mem_append_right _ (List.mem_append_right _ (mem_pinsAt hb e)))).2.1
  cases f with
  | next => obtain ⟨σ7, H7, I7, n7⟩ := q7; exact again I7 n7
  | cont => obtain ⟨σ7, H7, I7, n7⟩ := q7; exact again I7 n7
  | brk => obtain ⟨σ7, H7, I7, q7⟩ := q7; exact ⟨σ7, H7, I7.unpinned, q7⟩
  | ret v => obtain ⟨x7, σ7, H7, I7, r7, q7⟩ := q7; exact ⟨x7, σ7, H7, I7.unpinned, r7, q7⟩
end
theorem for_list {K : PySem.W.Frag} {a : Addr} {xs : List V} {g : TG} {tb : TS} {D : Ends} {σ : St} {H : Hp} (Pv : Nat -> St -> Hp -> Prop) (h0 : Pv 0 σ H) (hl : ∀ i σ H, i <= xs.length -> Pv i σ H -> SqL K H a xs)
  (hs : ∀ i x σ H, xs[i]? = some x -> Pv i σ H -> g x σ H fun σ2 H2 => tb { D with nx := Pv (i + 1), ct := Pv (i + 1), bk := D.nx } σ2 H2) (hd : ∀ σ H, Pv xs.length σ H -> D.nx σ H) :
  ∃ W : Nat -> Nat -> St -> Hp -> Prop, (∃ m, W 0 m σ H) /\ ∀ i m σ H, W i m σ H ->
   ((Itl K a).stop i H /\ D.nx σ H) ∨ ((Itl K a).go i H /\ ∃ N : St -> Hp -> Prop, (∀ σ' H', N σ' H' -> ∃ m', m' < m /\ W (i + 1) m' σ' H') /\ ∀ x H', (Itl K a).yld i H x H' -> g x σ H' fun σ2 H2 => tb { D with nx := N, ct := N, bk := D.nx } σ2 H2) := by
 refine ⟨fun i m σ H => m = xs.length - i /\ i <= xs.length /\ Pv i σ H, ⟨xs.length, by simp, Nat.zero_le _, h0⟩, ?_⟩
 rintro i m σ H ⟨rfl, hi, p⟩
 have q := hl i σ H hi p
 by_cases hlt : i < xs.length
 ·refine .inr ⟨⟨xs, xs[i], q, by simp [hlt]⟩, Pv (i + 1), fun σ' H' p' => ⟨xs.length - (i + 1), by (first | lia | omega), rfl, hlt, p'⟩, fun x H' y => ?_⟩
  obtain ⟨e, y⟩ := y
  subst e
  exact hs i x σ _ (y xs q) p
 ·have e : i = xs.length := by (first | lia | omega)
  subst e
  exact .inl ⟨⟨xs, q, Nat.le_refl _⟩, hd σ H p⟩
theorem for_range {lo : Int} {n : Nat} {g : TG} {tb : TS} {D : Ends} {σ : St} {H : Hp} (Pv : Nat -> St -> Hp -> Prop) (h0 : Pv 0 σ H)
  (hs : ∀ i σ H, i < n -> Pv i σ H -> g (.int (lo + i)) σ H fun σ2 H2 => tb { D with nx := Pv (i + 1), ct := Pv (i + 1), bk := D.nx } σ2 H2) (hd : ∀ σ H, Pv n σ H -> D.nx σ H) :
  ∃ W : Nat -> Nat -> St -> Hp -> Prop, (∃ m, W 0 m σ H) /\ ∀ i m σ H, W i m σ H ->
   ((Itr lo n).stop i H /\ D.nx σ H) ∨ ((Itr lo n).go i H /\ ∃ N : St -> Hp -> Prop, (∀ σ' H', N σ' H' -> ∃ m', m' < m /\ W (i + 1) m' σ' H') /\ ∀ x H', (Itr lo n).yld i H x H' -> g x σ H' fun σ2 H2 => tb { D with nx := N, ct := N, bk := D.nx } σ2 H2) := by
 refine ⟨fun i m σ H => m = n - i /\ i <= n /\ Pv i σ H, ⟨n, by simp, Nat.zero_le _, h0⟩, ?_⟩
 rintro i m σ H ⟨rfl, hi, p⟩
 by_cases hlt : i < n
 ·refine .inr ⟨hlt, Pv (i + 1), fun σ' H' p' => ⟨n - (i + 1), by (first | lia | omega), rfl, hlt, p'⟩, fun x H' y => ?_⟩
  obtain ⟨e, y⟩ := y
  subst e y
  exact hs i σ _ hlt p
 ·have e : i = n := by (first | lia | omega)
  subst e
  exact .inl ⟨Nat.le_refl _, hd σ H p⟩
end L2
namespace L2
open PySem PySem.Spec PyProof.Rows
noncomputable abbrev R2 := V -> V -> Hp -> VK -> Prop
noncomputable def OpR (X : Cx) (f : Value -> Value -> Sem Value) (r : R2) : Prop :=
 ∀ (pins : List (Addr × Obj)) (s : Shared) (σ : St) (H : Hp) (x y : V) (v u : Value) (Q : VK), Inv X pins σ H s -> RelV x v -> RelV y u -> r x y H Q ->
  wpAny (model X.prog X.w) X.A (f v u) (EP X pins σ Q) X.xe s
noncomputable def UnR (X : Cx) (f : Value -> Sem Value) (r : V -> Hp -> VK -> Prop) : Prop :=
 ∀ (pins : List (Addr × Obj)) (s : Shared) (σ : St) (H : Hp) (x : V) (v : Value) (Q : VK), Inv X pins σ H s -> RelV x v -> r x H Q ->
  wpAny (model X.prog X.w) X.A (f v) (EP X pins σ Q) X.xe s
noncomputable def CallR (X : Cx) (f : Value) (r : List V -> Hp -> VK -> Prop) : Prop :=
 ∀ (pins : List (Addr × Obj)) (s : Shared) (σ : St) (H : Hp) (xs : List V) (us : List Value) (Q : VK), Inv X pins σ H s -> Vals xs us -> r xs H Q ->
  wpAny (model X.prog X.w) X.A (call f us) (EP X pins σ Q) X.xe s
noncomputable def tOp (r : R2) (ta tb : TE) : TE := fun σ H Q => ta σ H fun x H1 => tb σ H1 fun y H2 => r x y H2 Q
noncomputable def tUn (r : V -> Hp -> VK -> Prop) (ta : TE) : TE := fun σ H Q => ta σ H fun x H1 => r x H1 Q
noncomputable def rI (C : Int -> Int -> Prop) (g : Int -> Int -> V) : R2 := fun x y H Q => ∃ i j, x = .int i /\ y = .int j /\ C i j /\ Q (g i j) H
noncomputable def rI0 (g : Int -> Int -> V) : R2 := fun x y H Q => ∃ i j, x = .int i /\ y = .int j /\ Q (g i j) H
noncomputable def rU (g : Int -> V) : V -> Hp -> VK -> Prop := fun x H Q => ∃ i, x = .int i /\ Q (g i) H
section
variable {X : Cx} {a b c : Expr} {ta tb tc : TE} {pos : Pos}
theorem binT (ha : PE X a ta) (hb : PE X b tb) {pins : List (Addr × Obj)} {s : Shared} {σ : St} {H : Hp} {R : V -> V -> Hp -> Prop} (I : Inv X pins σ H s)
  (h : ta σ H fun x H1 => tb σ H1 fun y H2 => R x y H2) {Q : Value -> Shared -> Prop} {f : Value -> Value -> Sem Value}
  (hf : ∀ v u s2 x y H2, Inv X pins σ H2 s2 -> RelV x v -> RelV y u -> R x y H2 -> wpAny (model X.prog X.w) X.A (f v u) Q X.xe s2) :
  wpAny (model X.prog X.w) X.A (eval a X.env) (fun v s₁ => wpAny (model X.prog X.w) X.A (eval b X.env) (fun u s₂ => wpAny (model X.prog X.w) X.A (f v u) Q X.xe s₂) X.xe s₁) X.xe s := by
 refine thn (ha pins s σ H _ I h) fun v s1 ⟨x, H1, I1, r1, q1⟩ => ?_
 refine thn (hb pins s1 σ H1 _ I1 q1) fun u s2 ⟨y, H2, I2, r2, q2⟩ => ?_
 exact hf v u s2 x y H2 I2 r1 r2 q2
theorem pe_op {op : Operator} {r : R2} (ho : OpR X (binaryOp op) r) (ha : PE X a ta) (hb : PE X b tb) : PE X (.BinOp a op b pos) (tOp r ta tb) := by
 intro pins s σ H Q I h
 exact wpAny_BinOp (binT ha hb I h fun v u s2 x y H2 I2 rx ry q => ho pins s2 σ H2 x y v u Q I2 rx ry q)
theorem pe_un {op : UnaryOp} {r : V -> Hp -> VK -> Prop} (ho : UnR X (unaryOp op) r) (ha : PE X a ta) : PE X (.UnaryOp op a pos) (tUn r ta) := by
 intro pins s σ H Q I h
 exact UnaryOp_ (thn (ha pins s σ H _ I h) fun v s1 ⟨x, H1, I1, r1, q1⟩ => ho pins s1 σ H1 x v Q I1 r1 q1)
theorem opI {f : Value -> Value -> Sem Value} {C : Int -> Int -> Prop} {g : Int -> Int -> Int}
  (rule : ∀ (i j : Int) (t u : Tok) (s : Shared) (Q : Value -> Shared -> Prop) (E : Value -> Shared -> Prop), C i j -> Q (.int (g i j) s.toks) { s with toks := s.toks + 1 } -> wpAny (model X.prog X.w) X.A (f (.int i t) (.int j u)) Q E s) :
  OpR X f (rI C fun i j => .int (g i j)) := by
 intro pins s σ H x y v u Q I rx ry h
 obtain ⟨i, j, rfl, rfl, hc, q⟩ := h
 obtain ⟨t, rfl⟩ := rx
 obtain ⟨t', rfl⟩ := ry
 exact rule i j t t' s _ _ hc ⟨.int (g i j), H, I.tok _, ⟨_, rfl⟩, q⟩
theorem opI0 {f : Value -> Value -> Sem Value} {g : Int -> Int -> Int}
  (rule : ∀ (i j : Int) (t u : Tok) (s : Shared) (Q : Value -> Shared -> Prop) (E : Value -> Shared -> Prop), Q (.int (g i j) s.toks) { s with toks := s.toks + 1 } -> wpAny (model X.prog X.w) X.A (f (.int i t) (.int j u)) Q E s) :
  OpR X f (rI0 fun i j => .int (g i j)) := by
 intro pins s σ H x y v u Q I rx ry h
 obtain ⟨i, j, rfl, rfl, q⟩ := h
 obtain ⟨t, rfl⟩ := rx
 obtain ⟨t', rfl⟩ := ry
 exact rule i j t t' s _ _ ⟨.int (g i j), H, I.tok _, ⟨_, rfl⟩, q⟩
theorem opB0 {f : Value -> Value -> Sem Value} {g : Int -> Int -> Bool}
  (rule : ∀ (i j : Int) (t u : Tok) (s : Shared) (Q : Value -> Shared -> Prop) (E : Value -> Shared -> Prop), Q (.bool (g i j)) s -> wpAny (model X.prog X.w) X.A (f (.int i t) (.int j u)) Q E s) :
  OpR X f (rI0 fun i j => .bl (g i j)) := by
 intro pins s σ H x y v u Q I rx ry h
 obtain ⟨i, j, rfl, rfl, q⟩ := h
 obtain ⟨t, rfl⟩ := rx
 obtain ⟨t', rfl⟩ := ry
 exact rule i j t t' s _ _ ⟨.bl (g i j), H, I, rfl, q⟩
noncomputable def CDiv (i j : Int) : Prop := 0 < j /\ j < 1073741824
noncomputable def CPow (i j : Int) : Prop := 0 <= j /\ j <= 1000000 /\ i.natAbs < 2 ^ 64
noncomputable def CMul (i j : Int) : Prop := (-(2 ^ 64) < i /\ i < 2 ^ 64) ∨ (-(2 ^ 64) < j /\ j < 2 ^ 64)
theorem CMul.ok {i j : Int} (h : CMul i j) : IntMulOk i j := by
 rcases h with ⟨h1, h2⟩ | ⟨h1, h2⟩
 ·exact .of_left (intBits_le_64 h1 h2)
 ·exact .of_right (intBits_le_64 h1 h2)
theorem op_add : OpR X (binaryOp .Add) (rI0 fun i j => .int (i + j)) := opI0 fun _ _ _ _ _ _ _ q => add_int q
theorem op_sub : OpR X (binaryOp .Sub) (rI0 fun i j => .int (i - j)) := opI0 fun _ _ _ _ _ _ _ q => sub_int q
theorem op_mul : OpR X (binaryOp .Mult) (rI CMul fun i j => .int (i * j)) := opI fun _ _ _ _ _ _ _ hc q => mul_int q hc.ok
theorem op_fdiv : OpR X (binaryOp .FloorDiv) (rI CDiv fun i j => .int (i / j)) := opI fun i j _ _ _ _ _ hc q => by
 have h1 : (0 : Int) < j := hc.1
 have h2 : j < 1073741824 := hc.2
 exact floordiv_int (by (first | lia | omega)) (by rw [Int.fdiv_eq_ediv_of_nonneg i (by (first | lia | omega))]; exact q) (.inl (PyProof.noPylong_small (by (first | lia | omega))))
theorem op_mod : OpR X (binaryOp .Mod) (rI (fun _ j => 0 < j) fun i j => .int (i % j)) := opI fun i j _ _ _ _ _ hc q => by
 have h1 : (0 : Int) < j := hc
 exact mod_int' (by (first | lia | omega)) (by rw [Int.fmod_eq_emod_of_nonneg i (by (first | lia | omega))]; exact q)
theorem op_pow : OpR X (binaryOp .Pow) (rI CPow fun i j => .int (i ^ j.toNat)) := opI fun _ _ _ _ _ _ _ hc q => pow_int_small hc.1 hc.2.1 hc.2.2 q
theorem unI {f : Value -> Sem Value} {g : Int -> Int}
  (rule : ∀ (i : Int) (t : Tok) (s : Shared) (Q : Value -> Shared -> Prop) (E : Value -> Shared -> Prop), Q (.int (g i) s.toks) { s with toks := s.toks + 1 } -> wpAny (model X.prog X.w) X.A (f (.int i t)) Q E s) :
  UnR X f (rU fun i => .int (g i)) := by
 intro pins s σ H x v Q I rx h
 obtain ⟨i, rfl, q⟩ := h
 obtain ⟨t, rfl⟩ := rx
 exact rule i t s _ _ ⟨.int (g i), H, I.tok _, ⟨_, rfl⟩, q⟩
theorem un_neg : UnR X (unaryOp .USub) (rU fun i => .int (-i)) := unI fun _ _ _ _ _ q => neg_int q
end
noncomputable def scal : V -> V -> Bool
 | .non, .non => true | .non, .int _ => true | .int _, .non => true | .non, .bl _ => true | .bl _, .non => true | .non, .str _ => true | .str _, .non => true
 | .int _, .int _ => true | .bl _, .bl _ => true | .str _, .str _ => true | .byt _, .byt _ => true
 | .int _, .str _ => true | .str _, .int _ => true | .bl _, .str _ => true | .str _, .bl _ => true
 | _, _ => false
noncomputable def rEq : R2 := fun x y H Q => scal x y = true /\ Q (.bl (decide (x = y))) H
noncomputable def rNe : R2 := fun x y H Q => scal x y = true /\ Q (.bl (!decide (x = y))) H
theorem dec_int {i j : Int} : decide (V.int i = V.int j) = (i == j) := by
 rw [Bool.eq_iff_iff]
 simp
theorem dec_bl {i j : Bool} : decide (V.bl i = V.bl j) = (i == j) := by
 rw [Bool.eq_iff_iff]
 simp
theorem dec_str {i j : Str} : decide (V.str i = V.str j) = (i == j) := by
 rw [Bool.eq_iff_iff]
 simp
theorem dec_byt {i j : Array UInt8} : decide (V.byt i = V.byt j) = (i.toList == j.toList) := by
 rw [Bool.eq_iff_iff]
 cases i
 cases j
 simp
section
variable {X : Cx} {a b c : Expr} {ta tb tc : TE} {pos : Pos}
theorem fin_bl {pins : List (Addr × Obj)} {σ : St} {H : Hp} {s : Shared} {Q : VK} {k k' : Bool} (I : Inv X pins σ H s) (q : Q (.bl k) H) (e : k = k') : EP X pins σ Q (.bool k') s := by
 subst e
 exact ⟨.bl k, H, I, rfl, q⟩
theorem op_eq : OpR X (compareOp .Eq) rEq := by
 intro pins s σ H x y v u Q I rx ry h
 obtain ⟨hs, q⟩ := h
 cases x with
 | non =>
  cases rx
  cases y with
  | non => cases ry; exact PySem.EqNone.eq_none_none (fin_bl I q (by simp))
  | bl j => cases ry; exact PySem.EqNone.eq_none_bool (fin_bl I q (by simp))
  | int j => obtain ⟨t', rfl⟩ := ry; exact PySem.EqNone.eq_none_int (fin_bl I q (by simp))
  | str j => obtain ⟨t', rfl⟩ := ry; exact PySem.EqNone.eq_none_str (fin_bl I q (by simp))
  | _ => exact absurd (show false = true from hs) Bool.false_ne_true
 | bl i =>
  cases rx
  cases y with
  | non => cases ry; exact PySem.EqNone.eq_bool_none (fin_bl I q (by simp))
  | bl j => cases ry; exact eq_bool (fin_bl I q dec_bl)
  | str j => obtain ⟨t', rfl⟩ := ry; exact PySem.EqMixed.eq_bool_str (fin_bl I q (by simp))
  | _ => exact absurd (show false = true from hs) Bool.false_ne_true
 | int i =>
  obtain ⟨t, rfl⟩ := rx
  cases y with
  | non => cases ry; exact PySem.EqNone.eq_int_none (fin_bl I q (by simp))
  | int j => obtain ⟨t', rfl⟩ := ry; exact eq_int (fin_bl I q dec_int)
  | str j => obtain ⟨t', rfl⟩ := ry; exact PySem.EqMixed.eq_int_str (fin_bl I q (by simp))
  | _ => exact absurd (show false = true from hs) Bool.false_ne_true
 | str i =>
  obtain ⟨t, rfl⟩ := rx
  cases y with
  | non => cases ry; exact PySem.EqNone.eq_str_none (fin_bl I q (by simp))
  | bl j => cases ry; exact PySem.EqMixed.eq_str_bool (fin_bl I q (by simp))
  | int j => obtain ⟨t', rfl⟩ := ry; exact PySem.EqMixed.eq_str_int (fin_bl I q (by simp))
  | str j => obtain ⟨t', rfl⟩ := ry; exact eq_str (fin_bl I q dec_str)
  | _ => exact absurd (show false = true from hs) Bool.false_ne_true
 | byt i =>
  obtain ⟨t, rfl⟩ := rx
  cases y with
  | byt j => obtain ⟨t', rfl⟩ := ry; exact PySem.W.eq_bytes (fin_bl I q dec_byt)
  | _ => exact absurd (show false = true from hs) Bool.false_ne_true
 | _ => cases y <;> exact absurd (show false = true from hs) Bool.false_ne_true
theorem op_ne : OpR X (compareOp .NotEq) rNe := by
 intro pins s σ H x y v u Q I rx ry h
 obtain ⟨hs, q⟩ := h
 cases x with
 | non =>
  cases rx
  cases y with
  | non => cases ry; exact PySem.EqNone.ne_none_none (fin_bl I q (by simp))
  | bl j => cases ry; exact PySem.EqNone.ne_none_bool (fin_bl I q (by simp))
  | int j => obtain ⟨t', rfl⟩ := ry; exact PySem.EqNone.ne_none_int (fin_bl I q (by simp))
  | str j => obtain ⟨t', rfl⟩ := ry; exact PySem.EqNone.ne_none_str (fin_bl I q (by simp))
  | _ => exact absurd (show false = true from hs) Bool.false_ne_true
 | bl i =>
  cases rx
  cases y with
  | non => cases ry; exact PySem.EqNone.ne_bool_none (fin_bl I q (by simp))
  | bl j => cases ry; exact ne_bool (fin_bl I q (congrArg not dec_bl))
  | str j => obtain ⟨t', rfl⟩ := ry; exact PySem.EqMixed.ne_bool_str (fin_bl I q (by simp))
  | _ => exact absurd (show false = true from hs) Bool.false_ne_true
 | int i =>
  obtain ⟨t, rfl⟩ := rx
  cases y with
  | non => cases ry; exact PySem.EqNone.ne_int_none (fin_bl I q (by simp))
  | int j => obtain ⟨t', rfl⟩ := ry; exact ne_int (fin_bl I q (congrArg not dec_int))
  | str j => obtain ⟨t', rfl⟩ := ry; exact PySem.EqMixed.ne_int_str (fin_bl I q (by simp))
  | _ => exact absurd (show false = true from hs) Bool.false_ne_true
 | str i =>
  obtain ⟨t, rfl⟩ := rx
  cases y with
  | non => cases ry; exact PySem.EqNone.ne_str_none (fin_bl I q (by simp))
  | bl j => cases ry; exact PySem.EqMixed.ne_str_bool (fin_bl I q (by simp))
  | int j => obtain ⟨t', rfl⟩ := ry; exact PySem.EqMixed.ne_str_int (fin_bl I q (by simp))
  | str j => obtain ⟨t', rfl⟩ := ry; exact ne_str (fin_bl I q (congrArg not dec_str))
  | _ => exact absurd (show false = true from hs) Bool.false_ne_true
 | byt i =>
  obtain ⟨t, rfl⟩ := rx
  cases y with
  | byt j => obtain ⟨t', rfl⟩ := ry; exact PySem.W.ne_bytes (fin_bl I q (congrArg not dec_byt))
  | _ => exact absurd (show false = true from hs) Bool.false_ne_true
 | _ => cases y <;> exact absurd (show false = true from hs) Bool.false_ne_true
theorem op_lt : OpR X (compareOp .Lt) (rI0 fun i j => .bl (decide (i < j))) := opB0 fun _ _ _ _ _ _ _ q => lt_int q
theorem op_gt : OpR X (compareOp .Gt) (rI0 fun i j => .bl (decide (j < i))) := opB0 fun _ _ _ _ _ _ _ q => gt_int q
theorem op_ge : OpR X (compareOp .GtE) (rI0 fun i j => .bl (decide (j <= i))) := opB0 fun _ _ _ _ _ _ _ q => ge_int q
theorem nomark (b : Expr) {op : CmpOp} (h : op ≠ .In := by decide) (h2 : op ≠ .NotIn := by decide) : behindInMarks op b = false := by
 have e1 : (op == CmpOp.In) = false := by cases op <;> first | rfl | exact absurd rfl h
 have e2 : (op == CmpOp.NotIn) = false := by cases op <;> first | rfl | exact absurd rfl h2
 cases b <;> simp [behindInMarks, e1, e2]
theorem pe_cmpR {op : CmpOp} {r : R2} (ho : OpR X (compareOp op) r) (ha : PE X a ta) (hb : PE X b tb) (hm : behindInMarks op b = false) : PE X (.Compare a [op] [b] pos) (tOp r ta tb) := by
 intro pins s σ H Q I h
 exact wpAny_Compare1 (binT ha hb I h fun v u s2 x y H2 I2 rx ry q => ho pins s2 σ H2 x y v u Q I2 rx ry q) hm
noncomputable def tTest (t : TE) : TT := fun σ H Q => t σ H fun x H' => ∃ k, x = .bl k /\ Q k H'
theorem pt_cmpR {op : CmpOp} {r : R2} (ho : OpR X (compareOp op) r) (ha : PE X a ta) (hb : PE X b tb) (hm : behindInMarks op b = false) : PT X (.Compare a [op] [b] pos) (tTest (tOp r ta tb)) := by
 intro pins s σ H Q I h
 refine wpAny_isTrue_Compare1 (thn (ha pins s σ H _ I h) fun v s1 ⟨x, H1, I1, r1, q1⟩ => thn (hb pins s1 σ H1 _ I1 q1) fun u s2 ⟨y, H2, I2, r2, q2⟩ =>
  thn (ho pins s2 σ H2 x y v u _ I2 r1 r2 q2) fun c s3 ⟨z, H3, I3, r3, k, e, q3⟩ => ?_) hm
 subst e
 cases r3
 exact wpAny_truthy_bool ⟨H3, I3, q3⟩
theorem line63 : (sizeLine : Nat) < 2 ^ 63 := by rw [sizeLine_eq]; decide
theorem vals1 {x : V} {us : List Value} (r : Vals [x] us) : ∃ u, us = [u] /\ RelV x u := by
 cases r with
 | cons r1 r2 => cases r2; exact ⟨_, rfl, r1⟩
theorem vals2 {x y : V} {us : List Value} (r : Vals [x, y] us) : ∃ u w', us = [u, w'] /\ RelV x u /\ RelV y w' := by
 cases r with
 | cons r1 r2 =>
  cases r2 with
  | cons r3 r4 => cases r4; exact ⟨_, _, rfl, r1, r3⟩
theorem call_abs : CallR X (.builtin "abs") (fun xs H Q => ∃ i, xs = [.int i] /\ Q (.int (if i < 0 then -i else i)) H) := by
 intro pins s σ H xs us Q I r h
 obtain ⟨i, rfl, q⟩ := h
 obtain ⟨u, rfl, t, rfl⟩ := vals1 r
 exact call_abs_int fun u tk => ⟨.int (if i < 0 then -i else i), H, I.tok _, ⟨_, rfl⟩, q⟩
theorem call_max2 (hc : X.calm = true) : CallR X (.builtin "max") (fun xs H Q => ∃ i j, xs = [.int i, .int j] /\ Q (.int (if j > i then j else i)) H) := by
 intro pins s σ H xs us Q I r h
 obtain ⟨i, j, rfl, q⟩ := h
 obtain ⟨u, w', rfl, ⟨t, rfl⟩, ⟨t', rfl⟩⟩ := vals2 r
 refine max_two_ints (I.ok.hd hc) fun h' tk k => ⟨_, H, I.kept k, ?_, q⟩
 by_cases hj : j > i
 ·rw [if_pos hj, if_pos hj]; exact ⟨_, rfl⟩
 ·rw [if_neg hj, if_neg hj]; exact ⟨_, rfl⟩
theorem call_min2 (hc : X.calm = true) : CallR X (.builtin "min") (fun xs H Q => ∃ i j, xs = [.int i, .int j] /\ Q (.int (if j < i then j else i)) H) := by
 intro pins s σ H xs us Q I r h
 obtain ⟨i, j, rfl, q⟩ := h
 obtain ⟨u, w', rfl, ⟨t, rfl⟩, ⟨t', rfl⟩⟩ := vals2 r
 refine min_two_ints (I.ok.hd hc) fun h' tk k => ⟨_, H, I.kept k, ?_, q⟩
 by_cases hj : j < i
 ·rw [if_pos hj, if_pos hj]; exact ⟨_, rfl⟩
 ·rw [if_neg hj, if_neg hj]; exact ⟨_, rfl⟩
theorem call_int1 : CallR X (.type "int") (fun xs H Q => (∃ i, xs = [.int i] /\ Q (.int i) H) ∨ ∃ k, xs = [.bl k] /\ Q (.int (if k then 1 else 0)) H) := by
 intro pins s σ H xs us Q I r h
 rcases h with ⟨i, rfl, q⟩ | ⟨k, rfl, q⟩
 ·obtain ⟨u, rfl, t, rfl⟩ := vals1 r
  exact call_int_int ⟨.int i, H, I, ⟨_, rfl⟩, q⟩
 ·obtain ⟨u, rfl, r1⟩ := vals1 r
  cases r1
  exact call_int_bool ⟨.int (if k then 1 else 0), H, I.tok _, ⟨_, rfl⟩, q⟩
end
end L2
namespace L2
open PySem PySem.Spec PyProof.Rows
structure ObjM (h : Heap) (x dx C : Addr) (mA : Str -> Option Value) : Prop where
 obj : h.get? x = some (PySem.W.instObj C dx)
 ns : h.Ns1 dx mA
 ne : dx ≠ x
theorem lookIn_ns {h : Heap} {dx : Addr} {mA : Str -> Option Value} (n : h.Ns1 dx mA) : ∃ od, h.get? dx = some od /\ ∀ name, PySem.W.lookIn name od = some (mA name) := by
 obtain ⟨o, es, ep, ho, hd, hk, _, hm⟩ := n
 refine ⟨o, ho, fun name => ?_⟩
 have e := hm name
 unfold nsFind findBy at e
 rw [<- Array.find?_toList] at e
 unfold PySem.W.lookIn
 rw [hd]
 dsimp only
 split
 ·rename_i y q
  rw [q] at e
  exact congrArg some e
 ·rename_i q
  rw [q] at e
  have a : es.toList.any (·.refKey) = false := by
   rw [List.any_eq_false]
   intro y hy
   obtain ⟨z, t, hkey⟩ := hk y (Array.mem_toList_iff.mp hy)
   simp [DictEntry.refKey, hkey]
  have a' : ¬ es.toList.any (·.refKey) = true := by rw [a]; exact Bool.false_ne_true
  rw [if_neg a']
  exact congrArg some e
theorem ObjM.look {h : Heap} {x dx C : Addr} {mA : Str -> Option Value} (I : ObjM h x dx C mA) : ∃ od, PySem.W.InstAt h x (PySem.W.instObj C dx) C (some od) /\ ∀ name, PySem.W.lookIn name od = some (mA name) :=
 let ⟨od, ho, hl⟩ := lookIn_ns I.ns
 ⟨od, ⟨I.obj, rfl, rfl, ho⟩, hl⟩
section
variable {prog : Program} {w : World} {A : Around} {E : Value -> Shared -> Prop} {s : Shared} {K : PySem.W.Frag} {x dx C f : Addr} {mA : Str -> Option Value} {name : Str} {v : Value}
end
theorem RelO.some_of {v : V} {o : Option Value} (r : RelO (some v) o) : ∃ u, o = some u /\ RelV v u := by
 cases o with
 | none => exact (show False from r).elim
 | some u => exact ⟨u, rfl, r⟩
section
variable {P : Program} {w : World} {H H' : Hp} {h h' : Heap} {a C dx : Addr} {fs fs' : List (Str × V)}
theorem ins_get (hok : HOk P w H h) (e : H a = some (.ins C dx fs)) : ∃ mA, ObjM h a dx C mA /\ (∀ f, RelO (fs.lookup f) (mA f)) /\ PySem.Within mA (fs.map (·.1)) /\ fs.length <= 1000 /\ H dx = some (.own a) := by
 obtain ⟨d, z, ne, ob, mA, n, r, q⟩ := (show ObjOk P w H h a (.ins C dx fs) from hok a _ e)
 exact ⟨mA, ⟨ob, n, ne⟩, r, q, z, d⟩
end
structure Cls (K : PySem.W.Frag) (C : Addr) : Prop where
 pg : PySem.W.plainGet K C Str.empty = true
 hd : PySem.W.hasDictIn K C = true
 po : PySem.W.plainOver K C = true
 sa : PySem.W.findIn K (.ref C) "__setattr__" = some (some (.builtin "object.__setattr__"))
theorem Cls.get {K : PySem.W.Frag} {C : Addr} (c : Cls K C) (f : Str) : PySem.W.plainGet K C f = true := c.pg
structure Con (K : PySem.W.Frag) (C : Addr) (f : Str) (v : V) (u : Value) : Prop where
 at_ : PySem.W.findIn K (.ref C) f = some (some u)
 rel : RelV v u
 get : PySem.W.specialIn K u "__get__" = some none
 cp : PySem.W.copiedNames.contains f = false
structure Meth (K : PySem.W.Frag) (C : Addr) (m : Str) (f : Addr) : Prop where
 at_ : PySem.W.findIn K (.ref C) m = some (some (.ref f))
 fn : PySem.W.isFn K (.ref f) = true
 kp : PySem.W.keepIn K (.ref f) = true
section
variable {X : Cx} {pins : List (Addr × Obj)} {σ : St} {H : Hp} {s : Shared} {a C dx : Addr} {fs : List (Str × V)} {f : Str} {v : V} {A : Around} {E : Value -> Shared -> Prop}
end
section
variable {X : Cx} {o e value : Expr} {f : Str} {pos pos' tpos : Pos} {ta tv : TE}
end
section
variable {X : Cx} {pins : List (Addr × Obj)} {σ : St} {H : Hp} {s : Shared} {A : Around} {E : Value -> Shared -> Prop} {Q : Value -> Shared -> Prop} {c : Value} {b : Bool}
inductive TyOf (K : PySem.W.Frag) (H : Hp) : V -> Value -> Prop where
 | non : TyOf K H .non (.type "NoneType")
 | bl (x : Bool) : TyOf K H (.bl x) (.type "bool")
 | int (i : Int) : TyOf K H (.int i) (.type "int")
 | str (x : Str) : TyOf K H (.str x) (.type "str")
 | flt (x : UInt64) : TyOf K H (.flt x) (.type "float")
 | lst {a : Addr} {xs : List V} (e : H a = some (.lst xs)) : TyOf K H (.ref a) (.type "list")
 | frz {a : Addr} {o : Obj} {xs : List V} (e : H a = some (.frz o (.lst xs))) : TyOf K H (.ref a) (.type "list")
 | tup {a : Addr} {xs : List V} (e : H a = some (.tup xs)) : TyOf K H (.ref a) (.type "tuple")
 | dK {a : Addr} {kvs : List (Key × V)} (e : H a = some (.dK kvs)) : TyOf K H (.ref a) (.type "dict")
 | dT {a : Addr} {kvs : List (List Key × V)} (e : H a = some (.dT kvs)) : TyOf K H (.ref a) (.type "dict")
 | ins {a C dx : Addr} {fs : List (Str × V)} (e : H a = some (.ins C dx fs)) (cl : Cls K C) (ha : PySem.W.findIn K (.ref C) "__class__" = some (some (.builtin "object.__class__")))
   (hn : PySem.W.specialIn K (.builtin "object.__class__") "__get__" = some (some (.builtin "getset_descriptor.__get__"))) (htk : PySem.W.takesIn K (.builtin "object.__class__") = some true)
   (hm : PySem.W.mroIn K C (.type "object") = some true) : TyOf K H (.ref a) (.ref C)
theorem isinst_ok {x : V} {u t : Value} (I : Inv X pins σ H s) (rx : RelV x u) (ty : TyOf X.K H x t) (e : PySem.W.kitOne X.K t c = some b) (h : ∀ tk, Q (.bool b) { s with toks := tk }) :
  wpAny (model X.prog X.w) A (call (.builtin "isinstance") [u, c]) Q E s := by
 cases ty with
 | non => cases (show u = Value.none from rx); exact PySem.W.kia_one PySem.W.kitx_none I.kIn True.intro e (fun z => nomatch z) h
 | bl y => cases (show u = Value.bool y from rx); exact PySem.W.kia_one PySem.W.kitx_bool I.kIn True.intro e (fun z => nomatch z) h
 | int i => obtain ⟨t, q⟩ := (show ∃ t, u = Value.int i t from rx); cases q; exact PySem.W.kia_one PySem.W.kitx_int I.kIn True.intro e (fun z => nomatch z) h
 | str y => obtain ⟨t, q⟩ := (show ∃ t, u = Value.str y t from rx); cases q; exact PySem.W.kia_one PySem.W.kitx_str I.kIn True.intro e (fun z => nomatch z) h
 | flt y => obtain ⟨t, q⟩ := (show ∃ t, u = Value.float y t from rx); cases q; exact PySem.W.kia_one PySem.W.kitx_float I.kIn True.intro e (fun z => nomatch z) h
 | @lst a xs ea =>
  cases (show u = Value.ref a from rx)
  obtain ⟨_, _, n, _, h1⟩ := (show ObjOk X.prog X.w H s.heap a (.lst xs) from I.hok a _ ea)
  exact PySem.W.kia_one PySem.W.kitx_list I.kIn ⟨_, h1, rfl⟩ e (fun z => nomatch z) h
 | @frz a ob xs ea =>
  cases (show u = Value.ref a from rx)
  obtain ⟨_, _, _, n, _, h1⟩ := (show ObjOk X.prog X.w H s.heap a (.frz ob (.lst xs)) from I.hok a _ ea)
  exact PySem.W.kia_one PySem.W.kitx_list I.kIn ⟨_, h1, rfl⟩ e (fun z => nomatch z) h
 | @tup a xs ea =>
  cases (show u = Value.ref a from rx)
  obtain ⟨_, _, _, p⟩ := (show ObjOk X.prog X.w H s.heap a (.tup xs) from I.hok a _ ea)
  obtain ⟨o, h1, h2, _⟩ := p
  exact PySem.W.kia_one PySem.W.kitx_tuple I.kIn ⟨o, h1, h2⟩ e (fun z => nomatch z) h
 | @dK a kvs ea =>
  cases (show u = Value.ref a from rx)
  obtain ⟨_, _, vs, _, p⟩ := (show ObjOk X.prog X.w H s.heap a (.dK kvs) from I.hok a _ ea)
  obtain ⟨o, es, ep, h1, h2, _⟩ := p
  exact PySem.W.kia_one PySem.W.kitx_dict I.kIn ⟨o, h1, h2.1⟩ e (fun z => nomatch z) h
 | @dT a kvs ea =>
  cases (show u = Value.ref a from rx)
  obtain ⟨_, _, xs, _, o, es, ep, h1, h2, _⟩ := (show ObjOk X.prog X.w H s.heap a (.dT kvs) from I.hok a _ ea)
  exact PySem.W.kia_one PySem.W.kitx_dict I.kIn ⟨o, h1, h2.1⟩ e (fun z => nomatch z) h
 | @ins a C dx fs ea cl ha hn htk hm =>
  cases (show u = Value.ref a from rx)
  obtain ⟨mA, O, _⟩ := ins_get I.hok ea
  obtain ⟨od, J, _⟩ := O.look
  exact PySem.W.kia_one (PySem.W.kitx_own (cl.get _) cl.hd ha hn htk hm) I.kIn J e (fun z => nomatch z) h
end
end L2
namespace L2
open PySem PySem.Spec PyProof.Rows
structure Room (k : Nat) (A : Around) : Prop where
 hd : A.handled = none
 dp : A.depth + 3 * k + 5 < recursionLimit
 un : A.units + 16 * k + 200 < cLine
 gd : A.guards = some []
theorem Room.mono {j k : Nat} {A : Around} (r : Room k A) (h : j <= k) : Room j A := ⟨r.hd, by have := r.dp; (first | lia | omega), by have := r.un; (first | lia | omega), r.gd⟩
theorem Room.deeper {k : Nat} {A : Around} (r : Room (k + 1) A) (env : Env) : Room k (A.deeper env) :=
 ⟨r.hd, by have := r.dp; show A.depth + 1 + 3 * k + 5 < _; (first | lia | omega), by have := r.un; show A.units + 3 + 16 * k + 200 < _; (first | lia | omega), r.gd⟩
theorem Room.depth {k : Nat} {A : Around} (r : Room k A) : A.depth < recursionLimit := by have := r.dp; (first | lia | omega)
theorem Room.units {k : Nat} {A : Around} (r : Room k A) : A.units + 64 < cLine := by have := r.un; (first | lia | omega)
noncomputable def tNil : TA := fun _ H Q => Q [] H
noncomputable def tCons (ta : TE) (tr : TA) : TA := fun σ H Q => ta σ H fun x H1 => tr σ H1 fun xs H2 => Q (x :: xs) H2
section
variable {X : Cx} {e : Expr} {es : List Expr} {te : TE} {t : TA} {pos : Pos}
theorem pa_nil : PA X [] tNil := fun _ _ _ _ H Q I h => Calls.spliced_nil ⟨[], H, I, .nil, h⟩
theorem pa_cons (ha : PE X e te) (hr : PA X es t) (hs : starEach (e :: es) X.env = (false, eval e X.env) :: starEach es X.env := by rfl) : PA X (e :: es) (tCons te t) := by
 intro pos pins s σ H Q I h
 rw [hs]
 show wpAny _ _ (spliced ((false, eval e X.env) :: backTo pos (starEach es X.env))) _ _ s
 refine Calls.spliced_cons (thn (ha pins s σ H _ I h) fun u s1 ⟨x, H1, I1, r1, q1⟩ => ?_)
 exact thn (hr pos pins s1 σ H1 _ I1 q1) fun us s2 ⟨xs, H2, I2, r2, q2⟩ => ⟨x :: xs, H2, I2, .cons r1 r2, q2⟩
noncomputable def tTup (t : TA) : TE := fun σ H Q => t σ H fun xs H1 => xs.length <= sizeLine /\ ∀ p, H1 p = none -> Q (.ref p) (upd H1 p (.tup xs))
noncomputable def tLst (t : TA) : TE := fun σ H Q => t σ H fun xs H1 => xs.length <= sizeLine /\ ∀ p, H1 p = none -> Q (.ref p) (upd H1 p (.lst xs))
theorem pe_tup {x1} (h : PA X es t) : PE X (.Tuple es x1 pos) (tTup t) := by
 intro pins s σ H Q I hq
 refine wpAny_Tuple_spliced (thn (h pos pins s σ H _ I hq) fun us s1 ⟨xs, H1, I1, r, z, q⟩ => ⟨by rw [<- r.length]; exact z, ?_⟩)
 have hf : H1 s1.heap.objs.size = none := I1.hok.fresh (Nat.le_refl _)
 refine ⟨.ref s1.heap.objs.size, upd H1 s1.heap.objs.size (.tup xs), I1.laid (t' := s1.toks) (fun b u e => Heap.get?_push_of_some _ e) (Nat.le_refl _) ?_, rfl, q _ hf⟩
 exact ⟨z, us, r, PTup.new⟩
theorem pe_lst (h : PA X es t) : PE X (.List es pos) (tLst t) := by
 intro pins s σ H Q I hq
 refine wpAny_List_spliced (thn (h pos pins s σ H _ I hq) fun us s1 ⟨xs, H1, I1, r, z, q⟩ => ⟨by rw [<- r.length]; exact z, ?_⟩)
 have hf : H1 s1.heap.objs.size = none := I1.hok.fresh (Nat.le_refl _)
 refine ⟨.ref s1.heap.objs.size, upd H1 s1.heap.objs.size (.lst xs), I1.laid (t' := s1.toks) (fun b u e => Heap.get?_push_of_some _ e) (Nat.le_refl _) ?_, rfl, q _ hf⟩
 exact ⟨z, us, 0, r, Heap.get?_push_size _ rfl⟩
end
noncomputable abbrev Sp := List V -> Hp -> VK -> XK -> Prop
noncomputable abbrev CXT := List Env -> Hp -> Shared -> XK -> Value -> Shared -> Prop
structure Env0 (P : Program) (w : World) (K : PySem.W.Frag) (mg : Str -> Option Value) (base : Heap) (A : Around) (outer : List Env) (s : Shared) (H : Hp) : Prop where
 frames : A.frames = some outer
 mod : Mod K mg base
 bs : ∀ b o, base.get? b = some o -> s.heap.get? b = some o /\ H b = none
 bsz : base.objs.size <= s.heap.objs.size
 funs : s.heap.FunFrames base outer
 frf : ∀ b ∈ frs outer, H b = none
 hok : HOk P w H s.heap
 bare : AllBare s.gens
noncomputable def CE (outer : List Env) (P : Program) (w : World) (H : Hp) (s : Shared) (Q : VK) (u : Value) (s' : Shared) : Prop :=
 ∃ v H', s'.os = s.os /\ AllBare s'.gens /\ Un (frs outer) [] H H' s.heap s'.heap /\ HOk P w H' s'.heap /\ RelV v u /\ Q v H'
noncomputable def CR (CX : CXT) (outer : List Env) (P : Program) (w : World) (H : Hp) (s : Shared) (Q : VK) (E : XK) (r : Result) (s' : Shared) : Prop :=
 match r with
 | .ok (.ret u) => CE outer P w H s Q u s'
 | .ok _ => False
 | .error e => CX outer H s E e s'
structure FnOk (P : Program) (w : World) (K : PySem.W.Frag) (mg : Str -> Option Value) (base : Heap) (CX : CXT) (k : Nat) (f : Addr) (fd : FuncData) (ps : List Str) (sp : Sp) : Prop where
 len : ∀ vs H Q E, sp vs H Q E -> vs.length = ps.length
 run : ∀ (A : Around) (outer : List Env) (s : Shared) (H : Hp) (args : Args) (us : List Value) (vs : List V) (Q : VK) (E : XK), Room k A -> Env0 P w K mg base A outer s H -> BindsTo s fd args (ps.zip us) -> Vals vs us -> sp vs H Q E ->
  codeAny (model P w) A (.call (.ref f) args) (CR CX outer P w H s Q E) s
theorem FnOk.mono {P : Program} {w : World} {K : PySem.W.Frag} {mg : Str -> Option Value} {base : Heap} {CX : CXT} {j k : Nat} {f : Addr} {fd : FuncData} {ps : List Str} {sp : Sp} (F : FnOk P w K mg base CX j f fd ps sp) (h : j <= k) :
  FnOk P w K mg base CX k f fd ps sp := ⟨F.len, fun A outer s H args us vs Q E hr => F.run A outer s H args us vs Q E (hr.mono h)⟩
section
variable {X : Cx} {pins : List (Addr × Obj)} {σ : St} {H : Hp} {s s' : Shared}
theorem Inv.env0 (I : Inv X pins σ H s) : Env0 X.prog X.w X.K X.mg X.base X.A X.stack s H :=
 ⟨I.ok.frames, I.ok.mod, I.bs, Nat.le_trans I.ok.bsz I.sz, I.stack, I.stkFree, I.hok, I.bare⟩
theorem Inv.after {Q : VK} {u : Value} (I : Inv X pins σ H s) (h : CE X.stack X.prog X.w H s Q u s') : EP X pins σ Q u s' := by
 obtain ⟨v, H', os, bare, un, hok, r, q⟩ := h
 obtain ⟨hh, g, d, t, os'⟩ := s'
 obtain rfl : os' = s.os := os
 exact ⟨v, H', I.call (h' := hh) (g' := g) (d' := d) (t' := t) (ch := []) un hok bare (fun b z => absurd z (by simp)), r, q⟩
end
noncomputable def tCall (sp : Sp) (dvs : List V) (E : XK) (t : TA) : TE := fun σ H Q => t σ H fun vs H1 => sp (vs ++ dvs) H1 Q E
noncomputable def Binds (K : PySem.W.Frag) (fd : FuncData) (ps : List Str) (ds : List Value) : Prop :=
 ∀ (s : Shared) (us : List Value), K.In s.heap -> (us ++ ds).length = ps.length -> BindsTo s fd ⟨us, []⟩ (ps.zip (us ++ ds))
theorem Binds.all {K : PySem.W.Frag} {fd : FuncData} {ps : List Str} (h : ∀ us : List Value, us.length = ps.length -> bindArgs fd ⟨us, []⟩ = pure (ps.zip us)) : Binds K fd ps [] := fun s us _ hl => by
 rw [List.append_nil] at hl ⊢
 exact .of_eq (h us hl)
noncomputable def Passes (CX : CXT) (X : Cx) (E : XK) : Prop := ∀ (pins : List (Addr × Obj)) (σ : St) (H : Hp) (s : Shared) (e : Value) (s' : Shared), Inv X pins σ H s -> CX X.stack H s E e s' -> X.xe e s'
section
variable {X : Cx} {CX : CXT} {k : Nat} {f C : Addr} {fd : FuncData} {ps : List Str} {sp : Sp} {dvs : List V} {ds : List Value} {E : XK} {x m : Str} {p pos apos : Pos} {e o : Expr} {es : List Expr} {ta : TE} {t : TA}
theorem run_fn {pins : List (Addr × Obj)} {σ : St} {H : Hp} {s : Shared} {Q : VK} {us : List Value} {vs : List V} (F : FnOk X.prog X.w X.K X.mg X.base CX k f fd ps sp) (hr : Room k X.A) (hb : Binds X.K fd ps ds) (hd : Vals dvs ds) (hx : Passes CX X E)
  (I : Inv X pins σ H s) (r : Vals vs us) (h : sp (vs ++ dvs) H Q E) : wpAny (model X.prog X.w) X.A (call (.ref f) us) (EP X pins σ Q) X.xe s := by
 have r2 : Vals (vs ++ dvs) (us ++ ds) := r.append hd
 have hl : (us ++ ds).length = ps.length := by rw [<- r2.length]; exact F.len _ _ _ _ h
 refine wpAny_call (codeAny_mono (F.run X.A X.stack s H ⟨us, []⟩ (us ++ ds) (vs ++ dvs) Q E hr I.env0 (hb s us I.kIn hl) r2 h) fun r s' hq => ?_)
 cases r with
 | error e => exact hx pins σ H s e s' I hq
 | ok fl =>
  cases fl with
  | ret u => exact I.after hq
  | next => exact False.elim hq
  | brk => exact False.elim hq
  | cont => exact False.elim hq
theorem pe_call (F : FnOk X.prog X.w X.K X.mg X.base CX k f fd ps sp) (hr : Room k X.A) (hg : Gl X x) (hm : X.mg x = some (.ref f)) (hk : PySem.W.keepIn X.K (.ref f) = true) (hb : Binds X.K fd ps ds) (hd : Vals dvs ds) (hx : Passes CX X E)
  (ha : PA X (e :: es) t) (hdb : (x == ("__debug__" : Str)) = false := by decide) (he : starEach (e :: es) X.env = (false, eval e X.env) :: starEach es X.env := by rfl) (hpl : (backTo pos (starEach es X.env)).any (·.1) = false := by rfl) :
  PE X (.Call (.Name x p) (e :: es) [] pos) (tCall sp dvs E t) := by
 intro pins s σ H Q I h
 refine wpAny_Call_Name_kw (ld_glob I hg hm ?_ hdb)
 refine PySem.W.callWith_K (h₀ := X.base) I.ok.mod.kin hk (thn (ha pos pins s σ H _ I h) fun us s1 ⟨vs, H1, I1, r, q⟩ => ⟨I1.kIn, ?_⟩) he hpl
 exact run_fn F hr hb hd hx I1 r q
structure Mk (K : PySem.W.Frag) (C f : Addr) : Prop where
 makes : PySem.W.makesIn K C = true
 init : PySem.W.findIn K (.ref C) "__init__" = some (some (.ref f))
 fn : PySem.W.isFn K (.ref f) = true
 kp : PySem.W.keepIn K (.ref C) = true
end
section
variable {X : Cx} {CX : CXT} {k : Nat} {f C : Addr} {fd : FuncData} {ps ks : List Str} {sp : Sp} {E : XK} {x m : Str} {p pos apos kpos : Pos} {e o : Expr} {es : List Expr} {kws : List Keyword} {te ta : TE} {t tk : TA} {nm : Option Str}
structure KBinds (K : PySem.W.Frag) (fd : FuncData) (ps ks : List Str) (g : List Value -> List Value -> List Value) (gV : List V -> List V -> List V) : Prop where
 to : ∀ (s : Shared) (us ws : List Value), K.In s.heap -> (g us ws).length = ps.length -> BindsTo s fd ⟨us, ks.zip ws⟩ (ps.zip (g us ws))
 rel : ∀ {vs : List V} {us : List Value} {zs : List V} {ws : List Value}, Vals vs us -> Vals zs ws -> Vals (gV vs zs) (g us ws)
variable {g : List Value -> List Value -> List Value} {gV : List V -> List V -> List V}
end
structure FnScope (N P : List Str) (sc : Scope) : Prop where
 kind : sc.kind = .function
 co : sc.isCoroutine = false
 gen : sc.isGenerator = false
 nd : N.Nodup
 pre : N.take P.length = P
 par : ∀ x ∈ P, sc.names.lookup x = some .local ∨ sc.names.lookup x = some .cell
 nofree : ∀ y ∈ sc.names, y.2 ≠ .free
theorem bindL_out {kindOf : Str -> Option NameKind} {x : Str} : ∀ {binds : List (Str × Value)} {m : Str -> Option Value}, (∀ v, (x, v) ∉ binds) -> bindL kindOf binds m x = m x
 | [], _, _ => rfl
 | (n, v) :: r, m, h => by
  unfold bindL
  rw [bindL_out fun w hw => h w (List.mem_cons_of_mem _ hw)]
  split
  ·have : x ≠ n := by rintro rfl; exact h v List.mem_cons_self
   simp [this]
  ·rfl
theorem bindC_out {kindOf : Str -> Option NameKind} {x : Str} : ∀ {binds : List (Str × Value)} {m : Str -> Option Value}, (∀ v, (x, v) ∉ binds) -> bindC kindOf binds m x = m x
 | [], _, _ => rfl
 | (n, v) :: r, m, h => by
  unfold bindC
  rw [bindC_out fun w hw => h w (List.mem_cons_of_mem _ hw)]
  split
  ·rfl
  ·have : x ≠ n := by rintro rfl; exact h v List.mem_cons_self
   simp [this]
theorem bindL_get {kindOf : Str -> Option NameKind} {x : Str} {v : Value} : ∀ {P : List Str} {vs : List Value} {i : Nat} {m : Str -> Option Value}, P.Nodup -> P[i]? = some x -> vs[i]? = some v -> kindOf x = some .local ->
  bindL kindOf (P.zip vs) m x = some v
 | [], _, _, _, _, h, _, _ => by simp at h
 | _ :: _, [], _, _, _, _, h, _ => by simp at h
 | p :: P, w :: vs, 0, m, nd, h1, h2, hk => by
  simp at h1 h2; subst h1; subst h2
  show bindL kindOf ((p, w) :: P.zip vs) m p = _
  unfold bindL
  rw [bindL_out fun v hv => (List.nodup_cons.mp nd).1 (List.of_mem_zip hv).1, if_pos hk]
  simp
 | p :: P, w :: vs, i + 1, m, nd, h1, h2, hk => by
  show bindL kindOf ((p, w) :: P.zip vs) m x = _
  unfold bindL
  exact bindL_get (i := i) (List.nodup_cons.mp nd).2 (by simpa using h1) (by simpa using h2) hk
theorem bindC_get {kindOf : Str -> Option NameKind} {x : Str} {v : Value} : ∀ {P : List Str} {vs : List Value} {i : Nat} {m : Str -> Option Value}, P.Nodup -> P[i]? = some x -> vs[i]? = some v -> kindOf x ≠ some .local ->
  bindC kindOf (P.zip vs) m x = some v
 | [], _, _, _, _, h, _, _ => by simp at h
 | _ :: _, [], _, _, _, _, h, _ => by simp at h
 | p :: P, w :: vs, 0, m, nd, h1, h2, hk => by
  simp at h1 h2; subst h1; subst h2
  show bindC kindOf ((p, w) :: P.zip vs) m p = _
  unfold bindC
  rw [bindC_out fun v hv => (List.nodup_cons.mp nd).1 (List.of_mem_zip hv).1, if_neg hk]
  simp
 | p :: P, w :: vs, i + 1, m, nd, h1, h2, hk => by
  show bindC kindOf ((p, w) :: P.zip vs) m x = _
  unfold bindC
  exact bindC_get (i := i) (List.nodup_cons.mp nd).2 (by simpa using h1) (by simpa using h2) hk
noncomputable def start (N : List Str) (vs : List V) : St := vs.map some ++ List.replicate (N.length - vs.length) none
noncomputable def cxOf (CX : CXT) (P : Program) (w : World) (K : PySem.W.Frag) (mg : Str -> Option Value) (base : Heap) (N : List Str) (qual : Str) (scope : Scope) (f : Addr) (cd : Value) (A : Around) (outer : List Env) (s : Shared) (H : Hp) (E : XK) : Cx where
 prog := P
 w := w
 K := K
 mg := mg
 base := base
 A := A.deeper (envOfC qual scope s.heap.objs.size f cd)
 N := N
 s₀ := s
 H₀ := H
 env := envOfC qual scope s.heap.objs.size f cd
 outer := outer
 stack := envOfC qual scope s.heap.objs.size f cd :: outer
 ex := []
 calm := true
 fn := fun _ => true
 pn := []
 xe := fun e s' => wpAny (model P w) (A.deeper (envOfC qual scope s.heap.objs.size f cd)) (leaving (envOfC qual scope s.heap.objs.size f cd) e) (fun _ s'' => CX outer H s E e s'') (fun e' s'' => CX outer H s E e' s'') s'
theorem cell_has {sc : Scope} {n : Nat} {x : Str} (h : sc.names.lookup x = some .cell) : ∃ c, (cellsFrom n sc.names []).lookup x = some c := by
 have q := PySem.W.cellsFrom_some sc.names n [] (.inl h)
 exact Option.isSome_iff_exists.mp q
theorem inv_start {CX : CXT} {P : Program} {w : World} {K : PySem.W.Frag} {mg : Str -> Option Value} {base : Heap} {N ps : List Str} {qual : Str} {scope : Scope} {f : Addr} {cd : Value} {A : Around} {outer : List Env} {s s1 : Shared} {H : Hp} {E : XK} {us : List Value} {vs : List V}
  (S : FnScope N ps scope) (hd : A.handled = none) (e0 : Env0 P w K mg base A outer s H) (hl : vs.length = ps.length) (r : Vals vs us)
  (x : InCallC s s.heap.objs.size (bindL (envOfC qual scope s.heap.objs.size f cd).kindOf (ps.zip us) fun _ => none) (cellsFrom (s.heap.objs.size + 1) scope.names []) (bindC (envOfC qual scope s.heap.objs.size f cd).kindOf (ps.zip us) fun _ => none) s1) :
  Inv (cxOf CX P w K mg base N qual scope f cd A outer s H E) [] (start N vs) H s1 := by
 have hpl : ps.length <= N.length := by have := congrArg List.length S.pre; rw [List.length_take] at this; (first | lia | omega)
 obtain ⟨h1, tk, rfl, hk⟩ := x.done
 have noA : ∀ b : Addr, b ∉ (cxOf CX P w K mg base N qual scope f cd A outer s H E).ex := fun b z => absurd (show b ∈ ([] : List Addr) from z) (by simp)
 refine ⟨⟨e0.mod, S.kind, rfl, rfl, Nat.le_refl _, fun y z c h1 h2 => ?_, fun y hy => ?_, fun y c _ h => ?_, fun _ => hd, Around.frames_deeper e0.frames, .inr ⟨rfl, rfl⟩, fun b z => absurd z (noA b), e0.bs, e0.bsz, fun b _ _ => noA b, fun b z => absurd z (noA b), e0.funs, e0.frf⟩,
  rfl, e0.bare, Un.kept hk, ⟨_, x.toInCall.ns, fun i y v h1 h2 h3 => ?_⟩, fun y c h => ⟨_, x.cell y c h⟩, e0.hok.fresh (Nat.le_refl _), fun y c h => ?_, fun p hp => absurd (show p ∈ ([] : List (Addr × Obj)) from hp) (by simp), e0.hok.kept hk, ?_⟩
 ·exact name_of_addr x.apart (PySem.mem_of_lookup h1) (PySem.mem_of_lookup h2)
 ·have hy : scope.names.lookup y = some .cell ∨ scope.names.lookup y = some .free := hy
  rcases hy with hy | hy
  ·exact cell_has hy
  ·exact absurd rfl (S.nofree _ (PySem.mem_of_lookup hy))
 ·exact Nat.le_of_lt (x.above y c (PySem.mem_of_lookup h))
 ·have hi : i < vs.length := by
   unfold start at h2
   by_cases hi : i < vs.length
   ·exact hi
   ·rw [List.getElem?_append_right (by simpa using hi)] at h2
    rw [List.getElem?_replicate] at h2
    split at h2 <;> cases h2
  have ha : vs[i]? = some v := by
   unfold start at h2
   rw [List.getElem?_append_left (by simpa using hi), List.getElem?_map] at h2
   cases e : vs[i]? with
   | none => rw [e] at h2; cases h2
   | some a => rw [e] at h2; cases h2; rfl
  obtain ⟨u, hu, rv⟩ := r.get ha
  have hp : ps[i]? = some y := by
   rw [<- S.pre, List.getElem?_take_of_lt (by (first | lia | omega))]; exact h1
  have ndP : ps.Nodup := by rw [<- S.pre]; exact S.nd.sublist (List.take_sublist _ _)
  refine ⟨u, rv, ?_⟩
  rcases S.par y (List.mem_of_getElem? hp) with k | k
  ·exact .inl ⟨k, bindL_get ndP hp hu k⟩
  ·obtain ⟨c, e⟩ := cell_has (n := s.heap.objs.size + 1) k
   refine .inr ⟨.inl k, c, e, ?_⟩
   have q := x.cell y c e
   rw [bindC_get ndP hp hu (by show scope.names.lookup y ≠ _; rw [k]; decide)] at q
   exact q
 ·exact e0.hok.fresh (Nat.le_of_lt (x.above y c (PySem.mem_of_lookup h)))
 ·unfold start
  show _ = N.length
  rw [List.length_append, List.length_map, List.length_replicate]
  (first | lia | omega)
theorem fn_of {CX : CXT} {P : Program} {w : World} {K : PySem.W.Frag} {mg : Str -> Option Value} {base : Heap} {k : Nat} {f : Addr} {name qual : Str} {params : Arguments} {body : List Stmt} {scope : Scope} {dV kV doc pm cdv ct oc : Value} {an od : Option Addr}
  {osl : Array (Option Value)} {N ps : List Str} {sp : Sp} (lk : K.lookup f = some ⟨oc, od, .func (PySem.W.fnOf name qual params body scope dV kV doc pm an cdv ct), osl⟩) (hcd : PySem.W.codeIn K cdv qual = true) (S : FnScope N ps scope)
  (len : ∀ vs H Q E, sp vs H Q E -> vs.length = ps.length)
  (hbody : ∀ (A : Around) (outer : List Env) (s : Shared) (H : Hp) (vs : List V) (Q : VK) (E : XK), Room k (A.deeper (envOfC qual scope s.heap.objs.size f cdv)) -> sp vs H Q E ->
   ∃ t, PSs (cxOf CX P w K mg base N qual scope f cdv A outer s H E) body t /\ t { nx := fun _ H' => Q .non H', rt := Q } (start N vs) H) :
  FnOk P w K mg base CX (k + 1) f (PySem.W.fnOf name qual params body scope dV kV doc pm an cdv ct) ps sp := by
 refine ⟨len, fun A outer s H args us vs Q E hr e0 hb r hsp => ?_⟩
 have hl := len _ _ _ _ hsp
 have KX : K.In s.heap := e0.mod.kin.keeps fun b o e => (e0.bs b o e).1
 have lim : s.heap.NoLimit := e0.mod.nolimit.keeps fun b o e => (e0.bs b o e).1
 have hkind : ∀ y ∈ ps.zip us, scope.names.lookup y.1 = some .local ∨ (scope.names.lookup y.1 = some .cell /\ ((cellsFrom (s.heap.objs.size + 1) scope.names []).lookup y.1).isSome = true) := fun ⟨n, v⟩ hy => by
  rcases S.par n (List.of_mem_zip hy).1 with q | q
  ·exact .inl q
  ·exact .inr ⟨q, PySem.W.cellsFrom_some _ _ _ (.inl q)⟩
 refine codeAny_call_function hr.depth (KX _ _ lk) rfl S.co S.gen rfl (PySem.W.codeRec_of KX hcd) (hb _ _ _ _ ?_)
 refine wpAny_newFunctionEnv_cells S.kind hkind fun env he s1 x => ?_
 subst he
 refine ⟨lim.keeps x.toInCall.keep, codeAny_func ?_⟩
 obtain ⟨t, ht, hq⟩ := hbody A outer s H vs Q E (hr.deeper _) hsp
 have I : Inv (cxOf CX P w K mg base N qual scope f cdv A outer s H E) [] (start N vs) H s1 := inv_start S hr.hd e0 hl r x
 refine wpAny_mono (ht [] s1 (start N vs) H _ I hq) (fun fl s' hs => ?_) fun e s' hs => hs
 have fin : ∀ {σ' : St} {H' : Hp} {v : V} {u : Value}, Inv (cxOf CX P w K mg base N qual scope f cdv A outer s H E) [] σ' H' s' -> RelV v u -> Q v H' -> CE outer P w H s Q u s' :=
  fun {σ' H' v u} J rv q => ⟨v, H', J.os, J.bare, J.base, J.hok, rv, q⟩
 cases fl with
 | ret u =>
  obtain ⟨v, σ', H', J, rv, q⟩ := hs
  exact fin J rv q
 | next =>
  obtain ⟨σ', H', J, q⟩ := hs
  exact fin (v := V.non) (u := Value.none) J rfl q
 | brk =>
  obtain ⟨_, _, _, q⟩ := hs
  exact False.elim q
 | cont =>
  obtain ⟨_, _, _, q⟩ := hs
  exact False.elim q
end L2
namespace L2
open PySem PySem.Spec PyProof.Rows
section
variable {X : Cx} {x : Str} {p pos : Pos} {e : Expr} {es : List Expr} {t : TA} {id T : String} {r : List V -> Hp -> VK -> Prop}
noncomputable def tCB (r : List V -> Hp -> VK -> Prop) (t : TA) : TE := fun σ H Q => t σ H fun vs H1 => r vs H1 Q
theorem pe_callB (hc : CallR X (.builtin id) r) (hg : Gl X x) (hm : X.mg x = none) (hv : bootBuiltins x = some (.builtin id)) (ha : PA X (e :: es) t) (hn : x ≠ "__name__" := by decide) (hdb : (x == ("__debug__" : Str)) = false := by decide)
  (he : starEach (e :: es) X.env = (false, eval e X.env) :: starEach es X.env := by rfl) (hpl : (backTo pos (starEach es X.env)).any (·.1) = false := by rfl) : PE X (.Call (.Name x p) (e :: es) [] pos) (tCB r t) := by
 intro pins s σ H Q I h
 refine wpAny_Call_Name_kw (ld_blt I hg hm hv ?_ hn hdb)
 exact PyProof.Rows.callWith_builtin1 (thn (ha pos pins s σ H _ I h) fun us s1 ⟨vs, H1, I1, r1, q1⟩ => hc pins s1 σ H1 vs us Q I1 r1 q1) he hpl
theorem pe_callTy (hc : CallR X (.type T) r) (hg : Gl X x) (hm : X.mg x = none) (hv : bootBuiltins x = some (.type T)) (ha : PA X (e :: es) t) (hn : x ≠ "__name__" := by decide) (hdb : (x == ("__debug__" : Str)) = false := by decide)
  (he : starEach (e :: es) X.env = (false, eval e X.env) :: starEach es X.env := by rfl) (hpl : (backTo pos (starEach es X.env)).any (·.1) = false := by rfl) : PE X (.Call (.Name x p) (e :: es) [] pos) (tCB r t) := by
 intro pins s σ H Q I h
 refine wpAny_Call_Name_kw (ld_blt I hg hm hv ?_ hn hdb)
 exact PyProof.Rows.callWith_type1 (thn (ha pos pins s σ H _ I h) fun us s1 ⟨vs, H1, I1, r1, q1⟩ => hc pins s1 σ H1 vs us Q I1 r1 q1) he hpl
end
end L2
namespace HT
open PySem PyProof.Rows
section
open PySem.SeqAt
open PySem.AutoSeq1 (wpAny_loadPart')
open PySem.MeetsSeq PySem.MeetsSeq2 PySem.MeetsSeq3
end
section
variable {prog : Program} {w : World} {A : Around} {E : Value -> Shared -> Prop} {s : Shared}
theorem cat_tup {t b : Addr} {vs ws : List Value} {Q : Value -> Shared -> Prop} (ht : IsTup s.heap t vs.toArray) (hb : IsTup s.heap b ws.toArray) (hv : vs ≠ [])
  (h1 : ws = [] -> Q (.ref t) s) (h2 : ws ≠ [] -> Q (.ref s.heap.objs.size) { s with heap := s.heap.push { cls := .type "tuple", data := .seq (vs ++ ws).toArray } })
  (hsz : vs.length + ws.length <= sizeLine) : wpAny (model prog w) A (binaryOp .Add (.ref t) (.ref b)) Q E s := by
 obtain ⟨⟨cls, dd, data, sl⟩, ho, hc, n, hd⟩ := id ht
 obtain ⟨⟨cls2, dd2, data2, sl2⟩, ho2, hc2, n2, hd2⟩ := id hb
 simp only at hc hd hc2 hd2
 subst hc hd hc2 hd2
 have e : vs.toArray ++ ws.toArray = (vs ++ ws).toArray := by simp
 by_cases hw : ws = []
 ·exact concat_meets ⟨_, ho, rfl⟩ ⟨_, ho2, rfl⟩ noFill_tuple_add seq_tuple_add PySem.F.slot_tuple_add PySem.F.entry_tuple_add (PySem.F.args_tuple_add_2 _ _)
   (tuple_addW1 t b vs.toArray ws.toArray n n2 dd dd2 sl sl2 (by simpa using hv) (by simp [hw])) ⟨ho, ho2, h1 hw⟩
 ·refine concat_meets ⟨_, ho, rfl⟩ ⟨_, ho2, rfl⟩ noFill_tuple_add seq_tuple_add PySem.F.slot_tuple_add PySem.F.entry_tuple_add (PySem.F.args_tuple_add_2 _ _)
   (tuple_addW2 t b vs.toArray ws.toArray n n2 dd dd2 sl sl2 (by simpa using hv) (by simpa using hw) (by rw [List.size_toArray, List.size_toArray]; exact hsz)) ⟨ho, ho2, ?_⟩
  rw [e]
  exact h2 hw
noncomputable def sIx (n d : Nat) : Option Int -> Nat
 | none => d
 | some v => if v < 0 then (v + (n : Int)).toNat else min v.toNat n
theorem sIx_none (n d : Nat) : sIx n d none = d := rfl
theorem sIx_nat (n d k : Nat) : sIx n d (some (k : Int)) = min k n := by
 show (if (k : Int) < 0 then ((k : Int) + (n : Int)).toNat else min (k : Int).toNat n) = min k n
 rw [if_neg (by (first | lia | omega)), Int.toNat_natCast]
theorem sIx_le (n d : Nat) (hd : d <= n) (o : Option Int) : sIx n d o <= n := by
 cases o with
 | none => exact hd
 | some v =>
  show (if v < 0 then (v + (n : Int)).toNat else min v.toNat n) <= n
  by_cases hv : v < 0
  ·rw [if_pos hv]; (first | lia | omega)
  ·rw [if_neg hv]; exact Nat.min_le_right _ _
theorem clip_eq (v : Int) (n d : Nat) : (if v < 0 then max (v + (n : Int)) 0 else min v (n : Int)) = ((sIx n d (some v) : Nat) : Int) := by
 show (if v < 0 then max (v + (n : Int)) 0 else min v (n : Int)) = (((if v < 0 then (v + (n : Int)).toNat else min v.toNat n) : Nat) : Int)
 by_cases hv : v < 0
 ·simp only [if_pos hv]; (first | lia | omega)
 ·simp only [if_neg hv]; (first | lia | omega)
theorem adjust_gen (lo hi : Option Int) (n : Nat) : Builtin.Slice.sliceAdjust lo hi 1 (n : Int) = (((sIx n 0 lo : Nat) : Int), ((sIx n n hi : Nat) : Int)) := by
 have h1 : ¬ ((1 : Int) < 0) := by (first | lia | omega)
 unfold Builtin.Slice.sliceAdjust
 simp only [h1, if_false]
 refine Prod.ext ?_ ?_
 ·cases lo with
  | none => rfl
  | some v => exact clip_eq v n 0
 ·cases hi with
  | none => rfl
  | some v => exact clip_eq v n n
theorem places_gen (i j : Nat) : Builtin.Slice.slicePlaces (i : Int) (j : Int) 1 = j - i := by
 unfold Builtin.Slice.slicePlaces
 have h1 : (1 : Int) > 0 := by (first | lia | omega)
 simp only [h1, if_true, Int.ediv_one]
 split <;> (first | lia | omega)
theorem slicePart_ {v : Value} {o : Option Int} {Q : Option Int -> Shared -> Prop} (p : IsPart v o) (h : Q o s) : wpAny (model prog w) A (Builtin.Slice.slicePartIndex v) Q E s := by
 cases p with
 | none => exact slicePart_none h
 | int i t => exact slicePart_int h
theorem sliceApplied_gen {sl : Addr} {vl vu : Value} {lo hi : Option Int} {n : Nat} {Q : Int × Int × Nat -> Shared -> Prop} (hs : s.heap.IsSliceOf sl vl vu .none) (pl : IsPart vl lo) (pu : IsPart vu hi)
  (h : Q (((sIx n 0 lo : Nat) : Int), 1, sIx n n hi - sIx n 0 lo) s) : wpAny (model prog w) A (Builtin.Slice.sliceApplied (.ref sl) (pure (n : Int))) Q E s := by
 obtain ⟨os, hos, hcs, hds⟩ := id hs
 unfold Builtin.Slice.sliceApplied Builtin.Slice.sliceFields
 refine wpAny_bind (wpAny_bind (wpAny_field hos hds (x := vl) rfl (wpAny_bind (wpAny_field hos hds (x := vu) rfl (wpAny_bind (wpAny_field hos hds (x := .none) rfl (wpAny_pure ?_)))))))
 refine wpAny_bind (slicePart_none ?_)
 show wpAny _ _ (if ((1 : Int) == 0) = true then _ else _) _ _ s
 rw [if_neg (by decide)]
 refine wpAny_bind (slicePart_ pl (wpAny_bind (slicePart_ pu (wpAny_bind (wpAny_pure ?_)))))
 show wpAny _ _ (match Builtin.Slice.sliceAdjust lo hi 1 (n : Int) with | (lo, hi) => pure (lo, (1 : Int), Builtin.Slice.slicePlaces lo hi 1)) _ _ s
 rw [adjust_gen lo hi n]
 show wpAny _ _ (pure (((sIx n 0 lo : Nat) : Int), (1 : Int), Builtin.Slice.slicePlaces ((sIx n 0 lo : Nat) : Int) ((sIx n n hi : Nat) : Int) 1)) _ _ s
 rw [places_gen]
 exact wpAny_pure h
theorem pick_gen (xs : Array Value) (i k : Nat) : ((List.range k).filterMap fun (m : Nat) => xs[((i : Int) + (m : Int) * 1).toNat]?).toArray = ((xs.toList.drop i).take k).toArray := by
 have e : (fun (m : Nat) => xs[((i : Int) + (m : Int) * 1).toNat]?) = fun m => xs[i + m]? := by
  funext m
  have : ((i : Int) + (m : Int) * 1).toNat = i + m := by (first | lia | omega)
  rw [this]
 rw [e]
 have := pick_run xs i k
 rw [List.filterMap_map] at this
 have e2 : ((fun x => xs[x]?) ∘ fun x => i + x) = fun m => xs[i + m]? := rfl
 rw [e2] at this
 rw [this]
theorem getItem_tuple_cut {t sl : Addr} {items : Array Value} {vl vu : Value} {lo hi : Option Int} {Q : Value -> Shared -> Prop} (ht : IsTup s.heap t items) (hs : s.heap.IsSliceOf sl vl vu .none) (pl : IsPart vl lo) (pu : IsPart vu hi)
  (hw : ¬ (sIx items.size 0 lo = 0 /\ sIx items.size items.size hi = items.size))
  (h : Q (.ref s.heap.objs.size) { s with heap := s.heap.push { cls := .type "tuple", data := .seq ((items.toList.drop (sIx items.size 0 lo)).take (sIx items.size items.size hi - sIx items.size 0 lo)).toArray } })
  (hsz : items.size <= sizeLine) : wpAny (model prog w) A (getItem (.ref t) (.ref sl)) Q E s := by
 have htake : sizeOk (.seq ((items.toList.drop (sIx items.size 0 lo)).take (sIx items.size items.size hi - sIx items.size 0 lo)).toArray) := by
  show ((items.toList.drop (sIx items.size 0 lo)).take (sIx items.size items.size hi - sIx items.size 0 lo)).toArray.size <= sizeLine
  rw [List.size_toArray, List.length_take, List.length_drop, Array.length_toList]
  (first | lia | omega)
 have hj : sIx items.size items.size hi <= items.size := sIx_le _ _ (Nat.le_refl _) hi
 obtain ⟨os, hos, hcs, hds⟩ := id hs
 have hTs : s.TypeIs (.ref sl) "slice" := ⟨os, hos, hcs⟩
 unfold getItem
 try with_reducible refine wpAny_holding ?_
 first | refine wpAny_bind (wpAny_pure ?_) | skip
 refine wpAny_bind (wpAny_sequenceKey ht.typeIs (by decide) ?_)
 refine wpAny_bind (wpAny_callSpecial?_slot (name := Str.ofString "__getitem__") ht.typeIs PyProof.Rows.slot_tuple_getitem
  (wpAny_call_entry PyProof.Rows.slot_tuple_getitem ht.typeIs entry_tuple_getitem ?_ (args_tuple_getitem _ _)))
 show wpAny _ _ (Builtin.Tuple.tupleItemsOf (.ref t) >>= _) _ _ s
 refine wpAny_bind (tupleItemsOf_ ht ?_)
 refine wpAny_bind (wpAny_typeOf hTs ?_)
 rw [if_pos (by decide)]
 refine wpAny_bind (sliceApplied_gen hs pl pu ?_)
 have hno : ¬ ((((sIx items.size 0 lo : Nat) : Int) == 0 && (1 : Int) == 1 && (sIx items.size items.size hi - sIx items.size 0 lo) == items.size) = true) := by
  intro q
  rw [Bool.and_eq_true, Bool.and_eq_true] at q
  have q1 : ((sIx items.size 0 lo : Nat) : Int) = 0 := eq_of_beq q.1.1
  have q2 : sIx items.size items.size hi - sIx items.size 0 lo = items.size := eq_of_beq q.2
  exact hw ⟨by (first | lia | omega), by (first | lia | omega)⟩
 show wpAny _ _ (if (((sIx items.size 0 lo : Nat) : Int) == 0 && (1 : Int) == 1 && (sIx items.size items.size hi - sIx items.size 0 lo) == items.size) = true then _ else _) _ _ s
 rw [if_neg hno, pick_gen]
 first
  | exact wpAny_bind (m := Builtin.Tuple.tupleExact _) (wpAny_newObj_type (wpAny_pure ⟨_, rfl, wpAny_pure h⟩) htake)
  | exact wpAny_bind (m := Builtin.Tuple.tupleExact _) (wpAny_newObj_type (wpAny_bind (wpAny_pure (wpAny_pure ⟨_, rfl, wpAny_pure h⟩))) htake)
  | exact wpAny_bind (wpAny_bind (m := Builtin.Tuple.tupleExact _) (wpAny_newObj_type (wpAny_pure (wpAny_pure ⟨_, rfl, wpAny_pure h⟩)) htake))
  | exact wpAny_bind (wpAny_bind (m := Builtin.Tuple.tupleExact _) (wpAny_newObj_type (wpAny_pure ⟨_, rfl, wpAny_pure h⟩) htake))
end
end HT
namespace L2
open PySem PySem.Spec PyProof.Rows
noncomputable abbrev TO := St -> Hp -> (Option Int -> Hp -> Prop) -> Prop
noncomputable def PO (X : Cx) (e : Option Expr) (t : TO) : Prop :=
 ∀ (pins : List (Addr × Obj)) (s : Shared) (σ : St) (H : Hp) (Q : Option Int -> Hp -> Prop), Inv X pins σ H s -> t σ H Q ->
  wpAny (model X.prog X.w) X.A (evalPart e X.env) (fun u s' => ∃ o H', Inv X pins σ H' s' /\ IsPart u o /\ Q o H') X.xe s
noncomputable def tNoPart : TO := fun _ H Q => Q none H
noncomputable def tPart (t : TE) : TO := fun σ H Q => t σ H fun x H1 => ∃ i, x = .int i /\ Q (some i) H1
theorem intsAre_of {ns : List Int} : ∀ {us : List Value}, Vals (ns.map V.int) us -> IntsAre us ns := by
 induction ns with
 | nil => intro us r; rw [List.map_nil] at r; cases r; exact .nil
 | cons n ns ih =>
  intro us r
  rw [List.map_cons] at r
  cases r with
  | cons r1 r2 =>
   obtain ⟨t, e⟩ := r1
   subst e
   exact .cons n t (ih r2)
section
variable {X : Cx} {e : Expr} {te : TE} {lo hi : Option Expr} {tl th : TO} {pos p2 : Pos}
theorem po_none : PO X none tNoPart := by
 intro pins s σ H Q I h
 rw [evalPart_none]
 exact wpAny_pure ⟨none, H, I, .none, h⟩
theorem po_some (h : PE X e te) : PO X (some e) (tPart te) := by
 intro pins s σ H Q I hw
 rw [evalPart_some]
 refine thn (h pins s σ H _ I hw) fun u s1 ⟨x, H1, I1, r1, q1⟩ => ?_
 obtain ⟨i, rfl, q⟩ := q1
 obtain ⟨t, rfl⟩ := r1
 exact ⟨some i, H1, I1, .int i t, q⟩
noncomputable def SlR (X : Cx) (r : V -> Option Int -> Option Int -> Hp -> VK -> Prop) : Prop :=
 ∀ (pins : List (Addr × Obj)) (s : Shared) (σ : St) (H : Hp) (x : V) (v vl vu : Value) (lo hi : Option Int) (sl : Addr) (Q : VK), Inv X pins σ H s -> RelV x v -> s.heap.IsSliceOf sl vl vu .none -> IsPart vl lo -> IsPart vu hi -> r x lo hi H Q ->
  ∃ T id, typeLookup (.type T) "__getitem__" = pure (some (.builtin id)) /\ s.TypeIs v T /\ wpAny (model X.prog X.w) X.A (getItem v (.ref sl)) (EP X pins σ Q) X.xe s
noncomputable def tSl (r : V -> Option Int -> Option Int -> Hp -> VK -> Prop) (te : TE) (tl th : TO) : TE := fun σ H Q => te σ H fun x H1 => tl σ H1 fun l H2 => th σ H2 fun u H3 => r x l u H3 Q
theorem pe_slice {r : V -> Option Int -> Option Int -> Hp -> VK -> Prop} (hr : SlR X r) (he : PE X e te) (hl : PO X lo tl) (hu : PO X hi th) : PE X (.Subscript e (.Slice lo hi none p2) pos) (tSl r te tl th) := by
 intro pins s σ H Q I h
 refine Subscript_ (thn (he pins s σ H _ I h) fun v s1 ⟨x, H1, I1, r1, q1⟩ => ?_)
 refine wpAny_Slice (thn (hl pins s1 σ H1 _ I1 q1) fun vl s2 ⟨l, H2, I2, pl, q2⟩ => thn (hu pins s2 σ H2 _ I2 q2) fun vu s3 ⟨u, H3, I3, pu, q3⟩ => ?_)
 rw [evalPart_none]
 refine wpAny_pure ?_
 have I4 : Inv X pins σ H3 { s3 with heap := s3.heap.push { cls := .type "slice", data := .fields #[vl, vu, .none] } } := I3.kept (t' := s3.toks) fun b ob q => Heap.get?_push_of_some _ q
 obtain ⟨T, id, hT, ht, hg⟩ := hr pins { s3 with heap := s3.heap.push { cls := .type "slice", data := .fields #[vl, vu, .none] } } σ H3 x v vl vu l u s3.heap.objs.size Q I4 r1 (Heap.IsSliceOf.new ..) pl pu q3
 show wpAny (model X.prog X.w) X.A (subscriptTail e (.Slice lo hi none p2) v (.ref s3.heap.objs.size)) (EP X pins σ Q) X.xe { s3 with heap := s3.heap.push { cls := .type "slice", data := .fields #[vl, vu, .none] } }
 exact tail_any (ops := [.ref s3.heap.objs.size, v]) ht hT hg (by with_unfolding_all rfl)
noncomputable def cutV (xs : List V) (lo hi : Option Int) : List V := (xs.drop (HT.sIx xs.length 0 lo)).take (HT.sIx xs.length xs.length hi - HT.sIx xs.length 0 lo)
theorem cutV_length (xs : List V) (lo hi : Option Int) : (cutV xs lo hi).length <= xs.length := by
 unfold cutV
 rw [List.length_take, List.length_drop]
 (first | lia | omega)
noncomputable def rSlT (K : PySem.W.Frag) : V -> Option Int -> Option Int -> Hp -> VK -> Prop := fun x lo hi H Q => ∃ a xs, x = .ref a /\ SqT K H a xs /\
 ¬ (HT.sIx xs.length 0 lo = 0 /\ HT.sIx xs.length xs.length hi = xs.length) /\ ∀ p, H p = none -> Q (.ref p) (upd H p (.tup (cutV xs lo hi)))
theorem sl_tup : SlR X (rSlT X.K) := by
 intro pins s σ H x v vl vu lo hi sl Q I rx hs pl pu h
 obtain ⟨a, xs, rfl, hx, hw, q⟩ := h
 cases rx
 obtain ⟨its, r, ht, hz⟩ := I.tuple hx
 have hlen : its.toArray.size = xs.length := by rw [List.size_toArray]; exact r.length.symm
 refine ⟨"tuple", _, PyProof.Rows.slot_tuple_getitem.lookup, ht.typeIs, ?_⟩
 refine HT.getItem_tuple_cut ht hs pl pu (by rw [hlen]; exact hw) ?_ (by rw [hlen]; exact hz)
 rw [hlen]
 refine ⟨.ref s.heap.objs.size, _, I.laid (t' := s.toks) (o := .tup (cutV xs lo hi)) (fun b ob q => Heap.get?_push_of_some _ q) (Nat.le_refl _) ?_, rfl, q _ (I.hok.fresh (Nat.le_refl _))⟩
 exact ⟨Nat.le_trans (cutV_length xs lo hi) hz, _, (r.drop (HT.sIx xs.length 0 lo)).take (HT.sIx xs.length xs.length hi - HT.sIx xs.length 0 lo), PTup.new⟩
noncomputable def rCatT (K : PySem.W.Frag) : R2 := fun x y H Q => ∃ a b xs ys, x = .ref a /\ y = .ref b /\ SqT K H a xs /\ SqT K H b ys /\ xs ≠ [] /\ xs.length + ys.length <= sizeLine /\
 (ys = [] -> Q (.ref a) H) /\ (ys ≠ [] -> ∀ p, H p = none -> Q (.ref p) (upd H p (.tup (xs ++ ys))))
theorem Vals.nil_iff {xs : List V} {us : List Value} (r : Vals xs us) : us = [] ↔ xs = [] := by
 cases r with
 | nil => simp
 | cons _ _ => simp
theorem op_catT : OpR X (binaryOp .Add) (rCatT X.K) := by
 intro pins s σ H x y v u Q I rx ry h
 obtain ⟨a, b, xs, ys, rfl, rfl, ha, hb, hx, hz, q1, q2⟩ := h
 cases rx
 cases ry
 obtain ⟨its, r1, p1, _⟩ := I.tuple ha
 obtain ⟨its2, r2, p2, _⟩ := I.tuple hb
 refine HT.cat_tup p1 p2 (fun z => hx (r1.nil_iff.mp z)) (fun z => ⟨.ref a, H, I, rfl, q1 (r2.nil_iff.mp z)⟩) (fun z => ?_) (by rw [<- r1.length, <- r2.length]; exact hz)
 refine ⟨.ref s.heap.objs.size, _, I.laid (t' := s.toks) (o := .tup (xs ++ ys)) (fun b ob q => Heap.get?_push_of_some _ q) (Nat.le_refl _) ?_, rfl, q2 (fun w => z (r2.nil_iff.mpr w)) _ (I.hok.fresh (Nat.le_refl _))⟩
 exact ⟨by rw [List.length_append]; exact hz, _, r1.append r2, PTup.new⟩
end
end L2
namespace L2
open PySem PySem.Spec PyProof.Rows
noncomputable def ixN (n : Nat) (i : Int) : Option Nat := if 0 <= i then (if i < n then some i.toNat else none) else if -(n : Int) <= i then some (i + n).toNat else none
noncomputable def atI {α : Type} (xs : List α) (i : Int) : Option α := (ixN xs.length i).bind fun j => xs[j]?
theorem ixN_seq {n : Nat} {i : Int} {j : Nat} (h : ixN n i = some j) : seqIndex? i n = some j /\ j < n /\ -(n : Int) <= i /\ i < n := by
 unfold ixN at h
 by_cases h0 : 0 <= i
 ·rw [if_pos h0] at h
  by_cases h1 : i < n
  ·rw [if_pos h1] at h
   have e : i.toNat = j := Option.some.inj h
   exact ⟨by rw [seqIndex_of h0 h1, e], by (first | lia | omega), by (first | lia | omega), h1⟩
  ·rw [if_neg h1] at h; cases h
 ·rw [if_neg h0] at h
  by_cases h1 : -(n : Int) <= i
  ·rw [if_pos h1] at h
   have e : (i + n).toNat = j := Option.some.inj h
   exact ⟨by rw [seqIndex_neg (by (first | lia | omega)) h1, e], by (first | lia | omega), h1, by (first | lia | omega)⟩
  ·rw [if_neg h1] at h; cases h
theorem atI_get {α : Type} {xs : List α} {i : Int} {v : α} (h : atI xs i = some v) : ∃ j, seqIndex? i xs.length = some j /\ xs[j]? = some v /\ j < xs.length /\ -(xs.length : Int) <= i /\ i < xs.length := by
 unfold atI at h
 cases e : ixN xs.length i with
 | none => rw [e] at h; cases h
 | some j =>
  rw [e] at h
  obtain ⟨h1, h2, h3, h4⟩ := ixN_seq e
  exact ⟨j, h1, h, h2, h3, h4⟩
theorem atI_nat {α : Type} {xs : List α} {j : Nat} {v : α} (h : xs[j]? = some v) : atI xs (j : Int) = some v := by
 have hj : j < xs.length := (List.getElem?_eq_some_iff.mp h).1
 have e : ixN xs.length (j : Int) = some j := by
  unfold ixN
  rw [if_pos (by (first | lia | omega)), if_pos (by (first | lia | omega))]; simp
 unfold atI; rw [e]; exact h
noncomputable def PlainIx (b : Expr) : Prop := ∀ o i, subscripted b false o i = operate [o, i] (getItem o i)
noncomputable def IxR (X : Cx) (r : R2) : Prop :=
 ∀ (value slice : Expr) (pins : List (Addr × Obj)) (s : Shared) (σ : St) (H : Hp) (x y : V) (v u : Value) (Q : VK), Inv X pins σ H s -> RelV x v -> RelV y u -> r x y H Q ->
  subscripted slice false v u = operate [v, u] (getItem v u) -> wpAny (model X.prog X.w) X.A (subscriptTail value slice v u) (EP X pins σ Q) X.xe s
noncomputable def MtR (X : Cx) (id : String) (r : V -> List V -> Hp -> VK -> Prop) : Prop :=
 ∀ (pins : List (Addr × Obj)) (s : Shared) (σ : St) (H : Hp) (x : V) (xs : List V) (v : Value) (us : List Value) (Q : VK), Inv X pins σ H s -> RelV x v -> Vals xs us -> r x xs H Q ->
  wpAny (model X.prog X.w) X.A (call (.builtin id) (v :: us)) (EP X pins σ Q) X.xe s
section
variable {X : Cx} {a b : Expr} {ta tb : TE} {pos : Pos}
theorem pe_ix {r : R2} (hr : IxR X r) (ha : PE X a ta) (hb : PE X b tb) (hs : PlainIx b) : PE X (.Subscript a b pos) (tOp r ta tb) := by
 intro pins s σ H Q I h
 exact Subscript_ (binT ha hb I h fun v u s2 x y H2 I2 rx ry q => hr a b pins s2 σ H2 x y v u Q I2 rx ry q (hs _ _))
noncomputable def rIxL (K : PySem.W.Frag) : R2 := fun x y H Q => ∃ p xs i v, x = .ref p /\ y = .int i /\ SqL K H p xs /\ atI xs i = some v /\ Q v H
noncomputable def rIxT (K : PySem.W.Frag) : R2 := fun x y H Q => ∃ p xs i v, x = .ref p /\ y = .int i /\ SqT K H p xs /\ atI xs i = some v /\ Q v H
theorem ix_list : IxR X (rIxL X.K) := by
 intro value slice pins s σ H x y v u Q I rx ry h hs
 obtain ⟨p, xs, i, z, rfl, rfl, hq, he, q⟩ := h
 cases rx
 obtain ⟨t, rfl⟩ := ry
 obtain ⟨its, r, pl, hz⟩ := I.list hq
 obtain ⟨j, h1, h2, h3, h4, h5⟩ := atI_get he
 obtain ⟨w, ew, rw'⟩ := r.get h2
 have hl := r.length
 have hn := line63
 have fin : EP X pins σ Q w s := ⟨z, H, I, rw', q⟩
 by_cases h0 : 0 <= i
 ·have hj : i.toNat = j := by
   rw [seqIndex_of h0 h5] at h1
   exact Option.some.inj h1
  exact item_listR pl.isList h0 (by (first | lia | omega)) (by rw [hj]; simpa using ew) fin hs
 ·have hj : (i + (its.toArray.size : Int)).toNat = j := by
   rw [seqIndex_neg (by (first | lia | omega)) h4] at h1
   rw [List.size_toArray, <- hl]
   exact Option.some.inj h1
  exact subscriptTail_builtinR (x := w) pl.isList.typeIs slot_list_getitem.lookup
   (wpAny_getItem_list_neg (Q := fun r s' => r = w /\ EP X pins σ Q r s') pl.isList (by (first | lia | omega)) (by rw [List.size_toArray] <;> (first | lia | omega)) (by (first | lia | omega)) (by rw [hj]; simpa using ew) ⟨rfl, fin⟩) hs
theorem ix_tup : IxR X (rIxT X.K) := by
 intro value slice pins s σ H x y v u Q I rx ry h hs
 obtain ⟨p, xs, i, z, rfl, rfl, hq, he, q⟩ := h
 cases rx
 obtain ⟨t, rfl⟩ := ry
 obtain ⟨its, r, pl, hz⟩ := I.tuple hq
 obtain ⟨j, h1, h2, h3, h4, h5⟩ := atI_get he
 obtain ⟨w, ew, rw'⟩ := r.get h2
 have hl := r.length
 have hn := line63
 have fin : EP X pins σ Q w s := ⟨z, H, I, rw', q⟩
 exact subscriptTail_builtinR (x := w) pl.typeIs slot_tuple_getitem.lookup
  (getItem_tuple (j := j) (Q := fun r s' => r = w /\ EP X pins σ Q r s') pl (by (first | lia | omega)) (by (first | lia | omega)) (by rw [List.size_toArray, <- hl]; exact h1) (by simpa using ew) ⟨rfl, fin⟩) hs
theorem mapSeq_set (its : List Value) (n j : Nat) (u : Value) : Obj.mapSeq (·.setIfInBounds j u) { cls := .type "list", data := .seq its.toArray n } = { cls := .type "list", data := .seq (its.set j u).toArray n } := by
 simp [Obj.mapSeq]
theorem Inv.lst {pins : List (Addr × Obj)} {σ : St} {H : Hp} {s : Shared} {p : Addr} {xs : List V} (I : Inv X pins σ H s) (h : H p = some (.lst xs)) :
  ∃ (its : List Value) (n : Nat), Vals xs its /\ s.heap.get? p = some { cls := .type "list", data := .seq its.toArray n } /\ xs.length <= sizeLine := by
 obtain ⟨z, its, n, r, e⟩ := I.hok p _ h
 exact ⟨its, n, r, e, z⟩
theorem Inv.lstUpd {pins : List (Addr × Obj)} {σ : St} {H : Hp} {s : Shared} {p : Addr} {xs ys : List V} {its its' : List Value} {n n' : Nat} {f : Obj -> Obj} (I : Inv X pins σ H s) (h : H p = some (.lst xs))
  (ho : s.heap.get? p = some { cls := .type "list", data := .seq its.toArray n }) (hf : f { cls := .type "list", data := .seq its.toArray n } = { cls := .type "list", data := .seq its'.toArray n' }) (r : Vals ys its') (hz : ys.length <= sizeLine) (t : Nat) :
  Inv X pins σ (upd H p (.lst ys)) { s with heap := s.heap.update p f, toks := t } := by
 have e : (s.heap.update p f).get? p = some { cls := .type "list", data := .seq its'.toArray n' } := by
  rw [Heap.get?_update_self f ho (by rw [hf] <;> rfl), hf]
 refine I.write (x := p) (e := p) (by rw [h]; trivial) (.inl rfl) (fun b u hb q => (Heap.get?_update_other _ _ (Ne.symm hb)).trans q) ⟨_, e⟩ ?_
 exact ⟨hz, its', n', r, e⟩
noncomputable def rSetL : V -> V -> V -> Hp -> (Hp -> Prop) -> Prop := fun o i v H Q => ∃ p xs k j, o = .ref p /\ i = .int k /\ H p = some (.lst xs) /\ ixN xs.length k = some j /\ Q (upd H p (.lst (xs.set j v)))
theorem set_list : PSet X rSetL := by
 intro pins s σ H o i v ov iv u Q I ro ri rv h
 obtain ⟨p, xs, k, j, rfl, rfl, hp, hj, q⟩ := h
 cases ro
 obtain ⟨t, rfl⟩ := ri
 obtain ⟨its, n, r, ho, hz⟩ := I.lst hp
 obtain ⟨h1, h2, h3, h4⟩ := ixN_seq hj
 have hl := r.length
 have hn := line63
 have I' : Inv X pins σ (upd H p (.lst (xs.set j v))) { s with heap := s.heap.update p (Obj.mapSeq (·.setIfInBounds j u)) } :=
  I.lstUpd hp ho (mapSeq_set its n j u) (r.set rv j) (by rw [List.length_set]; exact hz) s.toks
 by_cases h0 : 0 <= k
 ·have hk : k.toNat = j := by
   rw [seqIndex_of h0 h4] at h1
   exact Option.some.inj h1
  exact PySem.W.ki_setAt ho h0 (by (first | lia | omega)) (by rw [List.size_toArray, <- hl]; exact h4) (by rw [hk]; exact ⟨_, I', q⟩)
 ·have hk : (k + (its.toArray.size : Int)).toNat = j := by
   rw [seqIndex_neg (by (first | lia | omega)) h3] at h1
   rw [List.size_toArray, <- hl]
   exact Option.some.inj h1
  exact PySem.W.ki_setBack ho (by (first | lia | omega)) (by rw [List.size_toArray, <- hl]; exact h3) (by (first | lia | omega)) (by rw [hk]; exact ⟨_, I', q⟩)
noncomputable def flatV : V -> Bool
 | .non => true
 | .bl _ => true
 | .int _ => true
 | .str _ => true
 | _ => false
noncomputable def eqV : V -> V -> Bool
 | .non, .non => true
 | .bl a, .bl b => a == b
 | .bl a, .int b => (if a then 1 else 0) == b
 | .int a, .bl b => a == (if b then 1 else 0)
 | .int a, .int b => a == b
 | .str a, .str b => a == b
 | _, _ => false
theorem eqAt_V {A : Around} {s : Shared} {y x : V} {u v : Value} (ry : RelV y u) (rx : RelV x v) (fy : flatV y = true) (fx : flatV x = true) : SeqAt.EqAt A s u v (eqV y x) := by
 cases y with
 | non =>
  cases ry
  cases x with
  | non => cases rx; exact SeqAt.EqAt.same _
  | bl b => cases rx; exact SeqAt.EqAt.none_bool b
  | int b => obtain ⟨t, rfl⟩ := rx; exact SeqAt.EqAt.none_int b t
  | str b => obtain ⟨t, rfl⟩ := rx; exact SeqAt.EqAt.none_str b t
  | _ => exact absurd (show false = true from fx) Bool.false_ne_true
 | bl a =>
  cases ry
  cases x with
  | non => cases rx; exact SeqAt.EqAt.bool_none a
  | bl b => cases rx; exact SeqAt.EqAt.bool_bool a b
  | int b => obtain ⟨t, rfl⟩ := rx; exact SeqAt.EqAt.bool_int a b t
  | str b => obtain ⟨t, rfl⟩ := rx; exact SeqAt.EqAt.bool_str a b t
  | _ => exact absurd (show false = true from fx) Bool.false_ne_true
 | int a =>
  obtain ⟨t', rfl⟩ := ry
  cases x with
  | non => cases rx; exact SeqAt.EqAt.int_none a t'
  | bl b => cases rx; exact SeqAt.EqAt.int_bool a t' b
  | int b => obtain ⟨t, rfl⟩ := rx; exact SeqAt.EqAt.int_int a t' b t
  | str b => obtain ⟨t, rfl⟩ := rx; exact SeqAt.EqAt.int_str a t' b t
  | _ => exact absurd (show false = true from fx) Bool.false_ne_true
 | str a =>
  obtain ⟨t', rfl⟩ := ry
  cases x with
  | non => cases rx; exact SeqAt.EqAt.str_none a t'
  | bl b => cases rx; exact SeqAt.EqAt.str_bool a t' b
  | int b => obtain ⟨t, rfl⟩ := rx; exact SeqAt.EqAt.str_int a t' b t
  | str b => obtain ⟨t, rfl⟩ := rx; exact SeqAt.EqAt.str_str a t' b t
  | _ => exact absurd (show false = true from fx) Bool.false_ne_true
 | _ => exact absurd (show false = true from fy) Bool.false_ne_true
noncomputable def eqU (x : V) (u : Value) : Bool := match u with
 | .none => eqV .non x
 | .bool b => eqV (.bl b) x
 | .int i _ => eqV (.int i) x
 | .str z _ => eqV (.str z) x
 | _ => false
theorem eqU_of {x y : V} {u : Value} (r : RelV y u) (f : flatV y = true) : eqU x u = eqV y x := by
 cases y with
 | non => cases r; rfl
 | bl b => cases r; rfl
 | int i => obtain ⟨t, rfl⟩ := r; rfl
 | str z => obtain ⟨t, rfl⟩ := r; rfl
 | _ => exact absurd (show false = true from f) Bool.false_ne_true
theorem any_eqU {x : V} : ∀ {xs : List V} {us : List Value}, Vals xs us -> xs.all flatV = true -> us.any (eqU x) = xs.any fun y => eqV y x
 | _, _, .nil, _ => rfl
 | y :: xs, u :: us, .cons r t, f => by
  rw [List.all_cons, Bool.and_eq_true] at f
  rw [List.any_cons, List.any_cons, eqU_of r f.1, any_eqU t f.2]
theorem mem_eqAt {A : Around} {s : Shared} {x : V} {v : Value} (rx : RelV x v) (fx : flatV x = true) : ∀ {xs : List V} {us : List Value}, Vals xs us -> xs.all flatV = true -> ∀ u ∈ us, SeqAt.EqAt A s u v (eqU x u)
 | _, _, .nil, _ => fun u hu => by cases hu
 | y :: xs, u :: us, .cons r t, f => fun u' hu => by
  rw [List.all_cons, Bool.and_eq_true] at f
  rcases List.mem_cons.mp hu with rfl | hu
  ·rw [eqU_of r f.1]; exact eqAt_V r rx f.1 fx
  ·exact mem_eqAt rx fx t f.2 u' hu
noncomputable def inV (x : V) (xs : List V) : Bool := xs.any fun y => eqV y x
noncomputable def rIn (K : PySem.W.Frag) (neg : Bool) : R2 := fun x y H Q => ∃ p xs, y = .ref p /\ (SqL K H p xs ∨ SqT K H p xs) /\ flatV x = true /\ xs.all flatV = true /\ Q (.bl (if neg then !inV x xs else inV x xs)) H
theorem op_in_seq : OpR X (compareOp .In) (rIn X.K false) := by
 intro pins s σ H x y v u Q I rx ry h
 obtain ⟨p, xs, rfl, hq, fx, fs, q⟩ := h
 cases ry
 rcases hq with hq | hq
 ·obtain ⟨its, r, pl, hz⟩ := I.list hq
  refine SeqAt.in_listAt (eqU x) pl.isList (fun w hw => mem_eqAt rx fx r fs w (by simpa using hw)) ⟨.bl _, H, I, rfl, ?_⟩
  rw [show its.toArray.any (eqU x) = its.any (eqU x) by simp, any_eqU r fs]
  exact q
 ·obtain ⟨its, r, pl, hz⟩ := I.tuple hq
  refine SeqAt.in_tupleAt (eqU x) pl (fun w hw => mem_eqAt rx fx r fs w (by simpa using hw)) ⟨.bl _, H, I, rfl, ?_⟩
  rw [show its.toArray.any (eqU x) = its.any (eqU x) by simp, any_eqU r fs]
  exact q
theorem call_len_seq : CallR X (.builtin "len") (fun xs H Q => ∃ p ys, xs = [.ref p] /\ (SqL X.K H p ys ∨ SqT X.K H p ys) /\ Q (.int ys.length) H) := by
 intro pins s σ H xs us Q I r h
 obtain ⟨p, ys, rfl, hq, q⟩ := h
 obtain ⟨u, rfl, rx⟩ := vals1 r
 cases rx
 have hn := line63
 rcases hq with hq | hq
 ·obtain ⟨its, r', pl, hz⟩ := I.list hq
  have hlen := r'.length
  exact Calls.call_len_list pl.isList (by simp only [List.size_toArray] <;> (first | lia | omega)) ⟨.int ys.length, H, I.tok _, ⟨s.toks + 1, by rw [List.size_toArray, hlen]⟩, q⟩
 ·obtain ⟨its, r', pl, hz⟩ := I.tuple hq
  have hlen := r'.length
  exact len_tuple pl (by simp only [List.size_toArray] <;> (first | lia | omega)) ⟨.int ys.length, H, I.tok _, ⟨s.toks + 1, by rw [List.size_toArray, hlen]⟩, q⟩
theorem call_list_of : CallR X (.type "list") (fun xs H Q => ∃ p ys, xs = [.ref p] /\ (SqL X.K H p ys ∨ SqT X.K H p ys) /\ ∀ l, H l = none -> Q (.ref l) (upd H l (.lst ys))) := by
 intro pins s σ H xs us Q I r h
 obtain ⟨p, ys, rfl, hq, q⟩ := h
 obtain ⟨u, rfl, rx⟩ := vals1 r
 cases rx
 have fin : ∀ (its : List Value), Vals ys its -> ys.length <= sizeLine -> ∀ (h' : Heap) (c' : Nat), (∀ b o', s.heap.get? b = some o' -> h'.get? b = some o') ->
   h'.get? s.heap.objs.size = some { cls := .type "list", dict := none, data := .seq its.toArray c', slots := #[] } -> EP X pins σ Q (.ref s.heap.objs.size) { s with heap := h' } := fun its r' hz h' c' kp e =>
  ⟨.ref s.heap.objs.size, _, I.laid (t' := s.toks) kp (Nat.le_refl _) (show ObjOk X.prog X.w _ h' _ (.lst ys) from ⟨hz, its, c', r', e⟩), rfl, q _ (I.hok.fresh (Nat.le_refl _))⟩
 rcases hq with hq | hq
 ·obtain ⟨its, r', pl, hz⟩ := I.list hq
  have hlen := r'.length
  obtain ⟨o, ho, hc, n, hd⟩ := pl.isList
  exact call_list_seq p (.inl rfl) ho hc hd (fun h' c' kp e => fin its r' hz h' c' kp e) (by simp only [List.size_toArray] <;> (first | lia | omega))
 ·obtain ⟨its, r', pl, hz⟩ := I.tuple hq
  have hlen := r'.length
  obtain ⟨o, ho, hc, n, hd⟩ := pl
  exact call_list_seq p (.inr rfl) ho hc hd (fun h' c' kp e => fin its r' hz h' c' kp e) (by simp only [List.size_toArray] <;> (first | lia | omega))
theorem call_tuple_of : CallR X (.type "tuple") (fun xs H Q => ∃ p ys, xs = [.ref p] /\ ((SqL X.K H p ys /\ ∀ l, H l = none -> Q (.ref l) (upd H l (.tup ys))) ∨ (SqT X.K H p ys /\ Q (.ref p) H))) := by
 intro pins s σ H xs us Q I r h
 obtain ⟨p, ys, rfl, h⟩ := h
 obtain ⟨u, rfl, rx⟩ := vals1 r
 cases rx
 rcases h with ⟨hq, q⟩ | ⟨hq, q⟩
 ·obtain ⟨its, r', pl, hz⟩ := I.list hq
  have hlen := r'.length
  refine call_tuple_list pl.isList (fun h' kp => ?_) (by simp only [List.size_toArray] <;> (first | lia | omega))
  have I1 : Inv X pins σ H { s with heap := h' } := I.kept (t' := s.toks) kp
  have I2 : Inv X pins σ (upd H h'.objs.size (.tup ys)) { s with heap := h'.push { cls := .type "tuple", data := .seq its.toArray } } :=
   I1.laid (t' := s.toks) (fun b o e => Heap.get?_push_of_some _ e) (Nat.le_refl _) (show ObjOk X.prog X.w _ _ _ (.tup ys) from ⟨hz, its, r', PTup.new⟩)
  exact ⟨.ref h'.objs.size, _, I2, rfl, q _ (I1.hok.fresh (Nat.le_refl _))⟩
 ·obtain ⟨its, r', pl, hz⟩ := I.tuple hq
  exact call_tuple_same pl ⟨.ref p, H, I, rfl, q⟩
noncomputable def tyV (K : PySem.W.Frag) (T : String) (x : V) (H : Hp) : Prop := match x with
 | .str _ => T = "str"
 | .int _ => T = "int"
 | .ref p => (T = "list" /\ ∃ xs, SqL K H p xs) ∨ (T = "tuple" /\ ∃ o, K.lookup p = some o /\ o.cls = .type "tuple" /\ o.dict = none) ∨
   (T = "dict" /\ ((∃ kvs, H p = some (.dK kvs)) ∨ ∃ kvs, H p = some (.dT kvs))) ∨ (T = "set" /\ ∃ S n, H p = some (.set S n))
 | _ => False
theorem tyV_is {pins : List (Addr × Obj)} {σ : St} {H : Hp} {s : Shared} {T : String} {x : V} {v : Value} (I : Inv X pins σ H s) (r : RelV x v) (ty : tyV X.K T x H) :
  s.TypeIs v T /\ ∀ a, v = .ref a -> ∃ ob, s.heap.get? a = some ob /\ ob.dict = none := by
 cases x with
 | str z =>
  obtain ⟨t, rfl⟩ := r
  cases (show T = "str" from ty)
  exact ⟨typeIs_str s z t, fun _ e => nomatch e⟩
 | int i =>
  obtain ⟨t, rfl⟩ := r
  cases (show T = "int" from ty)
  exact ⟨typeIs_int s i t, fun _ e => nomatch e⟩
 | ref p =>
  cases r
  rcases ty with ⟨rfl, xs, hq⟩ | ⟨rfl, o, hk, hc, hd⟩ | ⟨rfl, hk⟩ | ⟨rfl, S, n, hk⟩
  ·obtain ⟨its, _, pl, _⟩ := I.list hq
   refine ⟨pl.isList.typeIs, fun a e => ?_⟩
   cases e
   obtain ⟨o, n, e, c, hd, _⟩ := pl
   exact ⟨o, e, hd⟩
  ·refine ⟨⟨o, I.kIn p o hk, hc⟩, fun a e => ?_⟩
   cases e
   exact ⟨o, I.kIn _ o hk, hd⟩
  ·have z : ∃ o, s.heap.get? p = some o /\ o.ExactDict := by
    rcases hk with ⟨kvs, hk⟩ | ⟨kvs, hk⟩
    ·obtain ⟨_, _, _, _, o, _, _, e, ex, _⟩ := I.hok p _ hk
     exact ⟨o, e, ex⟩
    ·obtain ⟨_, _, _, _, o, _, _, e, ex, _⟩ := I.hok p _ hk
     exact ⟨o, e, ex⟩
   obtain ⟨o, e, ex⟩ := z
   refine ⟨⟨o, e, ex.1⟩, fun a e2 => ?_⟩
   cases e2
   exact ⟨o, e, ex.2.1⟩
  ·obtain ⟨o, _, _, _, e, ex, _⟩ := I.hok p _ hk
   refine ⟨⟨o, e, ex.1⟩, fun a e2 => ?_⟩
   cases e2
   exact ⟨o, e, ex.2.1⟩
 | _ => exact False.elim ty
noncomputable def tBM (K : PySem.W.Frag) (T : String) (r : V -> List V -> Hp -> VK -> Prop) (to : TE) (t : TA) : TE := fun σ H Q => to σ H fun x H1 => tyV K T x H1 /\ t σ H1 fun xs H2 => r x xs H2 Q
variable {o e : Expr} {es : List Expr} {to : TE} {t : TA} {name : Str} {apos cpos : Pos} {T id : String} {r : V -> List V -> Hp -> VK -> Prop}
theorem pe_bm (pa : PlainAttrs T) (slot : Slot T name id) (hty : typeOf (.builtin id) = pure (.type "method_descriptor")) (hm : MtR X id r) (ho : PE X o to) (ha : PA X (e :: es) t)
  (hbase : attributeBase o name X.env (eval o X.env) = eval o X.env := by rfl)
  (hfew : ((backTo cpos (starEach (e :: es) X.env)).all (fun x => !x.1) && (backToKw cpos (keywordEach [] X.env)).all (fun x => x.1.isSome)
   && decide ((e :: es).length + ([] : List Keyword).length + (if ([] : List Keyword).isEmpty then 0 else 1) < 30)) = true := by rfl)
  (hline : (apos.endLine == cpos.line) = true := by rfl) (hs : starEach (e :: es) X.env = (false, eval e X.env) :: starEach es X.env := by rfl) (hplain : (backTo cpos (starEach es X.env)).any (·.1) = false := by rfl) :
  PE X (.Call (.Attribute o name apos) (e :: es) [] cpos) (tBM X.K T r to t) := by
 intro pins s σ H Q I h
 refine wpAny_Call_method_late hbase hfew hline rfl (thn (ho pins s σ H _ I h) fun v s1 ⟨x, H1, I1, r1, ty, q1⟩ => ?_)
 obtain ⟨h1, h2⟩ := tyV_is I1 r1 ty
 refine ⟨T, id, pa, slot, hty, h1, h2, ?_⟩
 have hA := ha cpos pins s1 σ H1 _ I1 q1
 rw [hs] at hA ⊢
 refine Calls.callWith_builtin (by show (false || (backTo cpos (starEach es X.env)).any (·.1)) = false; rw [hplain] <;> rfl) (Calls.evalArgs_plain ?_)
 exact thn hA fun us s2 ⟨vs, H2, I2, r2, q2⟩ => hm pins s2 σ H2 x vs v us Q I2 r1 r2 q2
end
end L2
namespace L2
open PySem PySem.Spec PyProof.Rows
noncomputable def MtM (X : Cx) (id : String) (r : V -> List V -> Hp -> VK -> Prop) : Prop :=
 ∀ (pins : List (Addr × Obj)) (s : Shared) (σ : St) (H : Hp) (x : V) (xs : List V) (v : Value) (us : List Value) (Q : VK), Inv X pins σ H s -> RelV x v -> Vals xs us -> r x xs H Q ->
  wpAny (model X.prog X.w) X.A (call (.builtin id) (v :: us)) (EP X pins σ Q) X.xe s
theorem Vals.one : ∀ {x : V} {us : List Value}, Vals [x] us -> ∃ u, us = [u] /\ RelV x u
 | _, _, .cons r .nil => ⟨_, rfl, r⟩
section
variable {X : Cx} {pins : List (Addr × Obj)} {σ : St} {H : Hp} {s : Shared} {l b : Addr} {xs ys zs : List V}
theorem Inv.lset {its its' : List Value} {n : Nat} {f : Array Value -> Array Value} {t' : Nat} (I : Inv X pins σ H s) (hH : H l = some (.lst xs))
  (e : s.heap.get? l = some { cls := .type "list", data := .seq its.toArray n }) (hf : f its.toArray = its'.toArray) (hv : Vals ys its') (hz : ys.length <= sizeLine) :
  Inv X pins σ (upd H l (.lst ys)) { s with heap := s.heap.update l (Obj.mapSeq f), toks := t' } := by
 have q := PySem.IsL.update e f
 rw [hf] at q
 refine I.write (x := l) (e := l) (by rw [hH]; exact trivial) (.inl rfl) (fun b' u hb hu => (Heap.get?_update_other s.heap (Obj.mapSeq f) (Ne.symm hb)).trans hu) ⟨_, q⟩ ?_
 exact ⟨hz, its', _, hv, q⟩
theorem Inv.lnew {its : List Value} {t' : Nat} (I : Inv X pins σ H s) (hv : Vals ys its) (hz : ys.length <= sizeLine) :
  Inv X pins σ (upd H s.heap.objs.size (.lst ys)) { s with heap := s.heap.push { cls := .type "list", data := .seq its.toArray }, toks := t' } :=
 I.laid (fun _ _ q => Heap.get?_push_of_some _ q) (Nat.le_refl _) ⟨hz, its, 0, hv, Heap.get?_push_size _ rfl⟩
theorem Inv.fresh (I : Inv X pins σ H s) : H s.heap.objs.size = none := I.hok.fresh (Nat.le_refl _)
theorem Inv.lstM (I : Inv X pins σ H s) (hH : H l = some (.lst xs)) : xs.length <= sizeLine /\ ∃ (its : List Value) (n : Nat), Vals xs its /\ xs.length = its.length /\ s.heap.get? l = some { cls := .type "list", data := .seq its.toArray n } := by
 obtain ⟨z, its, n, r, e⟩ := I.hok l _ hH
 exact ⟨z, its, n, r, r.length, e⟩
theorem notLongL {n : Nat} (h : n <= sizeLine) : Builtin.List.listTooLong n = false := by
 unfold Builtin.List.listTooLong
 exact decide_eq_false (by (first | lia | omega))
end
section
variable {X : Cx}
noncomputable def rAppend : V -> List V -> Hp -> VK -> Prop := fun x vs H Q => ∃ l xs y, x = .ref l /\ vs = [y] /\ H l = some (.lst xs) /\ xs.length < sizeLine /\ Q .non (upd H l (.lst (xs ++ [y])))
theorem mt_append : MtM X "list.append" rAppend := by
 intro pins s σ H x vs v us Q I rx rv h
 obtain ⟨l, xs, y, rfl, rfl, hH, hz, q⟩ := h
 cases rx
 obtain ⟨u, rfl, ru⟩ := rv.one
 obtain ⟨z, its, n, r, hl, e⟩ := I.lstM hH
 refine call_meets F.slot_list_append ⟨_, e, rfl⟩ F.entry_list_append (F.args_list_append_2 _ _) (PySem.list_append l its.toArray n u (by rw [List.size_toArray]; (first | lia | omega))) ⟨e, ?_⟩
 refine ⟨.non, _, I.lset (its' := its ++ [u]) hH e (by simp) (r.append (.cons ru .nil)) ?_, rfl, q⟩
 rw [List.length_append, List.length_singleton]
 (first | lia | omega)
noncomputable def rExtend : V -> List V -> Hp -> VK -> Prop := fun x vs H Q => ∃ l b xs zs, x = .ref l /\ vs = [.ref b] /\ H l = some (.lst xs) /\ H b = some (.lst zs) /\ xs.length + zs.length <= sizeLine /\ Q .non (upd H l (.lst (xs ++ zs)))
theorem mt_extend : MtM X "list.extend" rExtend := by
 intro pins s σ H x vs v us Q I rx rv h
 obtain ⟨l, b, xs, zs, rfl, rfl, hH, hB, hz, q⟩ := h
 cases rx
 obtain ⟨u, rfl, ru⟩ := rv.one
 cases ru
 obtain ⟨z, its, n, r, hl, e⟩ := I.lstM hH
 obtain ⟨z2, its2, n2, r2, hl2, e2⟩ := I.lstM hB
 have hsz : its.toArray.size + its2.toArray.size <= sizeLine := by rw [List.size_toArray, List.size_toArray]; (first | lia | omega)
 have hlong : ¬ (!its.toArray.isEmpty && Builtin.List.listTooLong (its.toArray.size + its2.toArray.size)) = true := by
  rw [notLongL hsz, Bool.and_false]
  exact Bool.false_ne_true
 refine call_meets F.slot_list_extend ⟨_, e, rfl⟩ F.entry_list_extend (F.args_list_extend_2 _ _)
  (AutoSeq1.list_extend_list_list_0 l its.toArray n b its2.toArray n2 hlong (by rw [List.size_toArray]; (first | lia | omega)) (by (first | lia | omega))) ⟨e, e2, ?_⟩
 refine ⟨.non, _, I.lset (its' := its ++ its2) hH e (by simp) (r.append r2) ?_, rfl, q⟩
 rw [List.length_append]
 (first | lia | omega)
noncomputable def rCat : R2 := fun x y H Q => ∃ l b xs zs, x = .ref l /\ y = .ref b /\ H l = some (.lst xs) /\ H b = some (.lst zs) /\ xs.length + zs.length <= sizeLine /\ ∀ p, H p = none -> Q (.ref p) (upd H p (.lst (xs ++ zs)))
theorem op_cat : OpR X (binaryOp .Add) rCat := by
 intro pins s σ H x y v u Q I rx ry h
 obtain ⟨l, b, xs, zs, rfl, rfl, hH, hB, hz, q⟩ := h
 cases rx
 cases ry
 obtain ⟨z, its, n, r, hl, e⟩ := I.lstM hH
 obtain ⟨z2, its2, n2, r2, hl2, e2⟩ := I.lstM hB
 refine PySem.P.add_list e e2 ?_ (by rw [List.size_toArray, List.size_toArray]; (first | lia | omega))
 have ea : its.toArray ++ its2.toArray = (its ++ its2).toArray := by simp
 rw [ea]
 exact ⟨.ref _, _, I.lnew (t' := s.toks) (r.append r2) (by rw [List.length_append]; (first | lia | omega)), rfl, q _ I.fresh⟩
end
section
variable {prog : Program} {w : World} {A : Around} {E : Value -> Shared -> Prop} {s : Shared}
end
section
variable {X : Cx}
end
end L2
namespace Att
open PySem PySem.W PySem.Calls PyProof.Rows
theorem ints_of_wellAll {P : Params} {h : Heap} : ∀ (ns : List Int) (vs : List Value), WellAll P h vs (ns.map WData.int) -> IntsAre vs ns := by
 intro ns
 induction ns with
 | nil =>
  intro vs w
  rw [List.map_nil] at w
  cases w
  exact .nil
 | cons n ns ih =>
  intro vs w
  rw [List.map_cons] at w
  cases w with
  | cons a b =>
   cases a
   exact .cons _ _ (ih _ b)
theorem script_of {l : OpenLaw} {n : Nat} (hn : l.most = some n) {P : Params} {h : Heap} {args : List WData} {vals : List Value}
  (hpre : l.row.toRowW.claim.pre args = true) (hwl : WellAll P h vals args) :
  ∃ a vs ns, vals = [Value.ref a] /\ args = [WData.list (ns.map WData.int)] /\ h.get? a = some { cls := .type "list", data := .seq vs.toArray } /\ IntsAre vs ns /\ ns.length <= n := by
 have hsh : WShape.hasAll [] args [.list .int] = true := (pre_splitW hpre).1
 have hc : l.pre.holds [] { args := args } = true := (pre_splitW hpre).2
 obtain ⟨d, r, rfl, h1, h2⟩ := hasAllW_cons hsh
 obtain rfl := hasAllW_nil h2
 obtain ⟨xs, rfl, h3⟩ := hasW_list h1
 obtain ⟨ns, rfl⟩ := items_int h3
 have hlen : ns.length <= n := by
  unfold OpenLaw.pre at hc
  have h4 : (WTm.not (.lt (.lit (.int (n : Int))) (.len (.arg 0)))).holds [] { args := [.list (ns.map .int)] } = true := by
   have h4 := (holds_andW hc).1
   rw [hn] at h4
   exact h4
  have h5 := condW_of h4 (w_not (w_lt w_lit (w_len_list (w_arg rfl))))
  rw [List.length_map] at h5
  refine Nat.le_of_not_lt fun q => ?_
  have q' : (n : Int) < ((ns.length : Nat) : Int) := by (first | lia | omega)
  first
   | (rw [decide_eq_true q'] at h5; exact absurd h5 (by decide))
   | (simp at h5; (first | lia | omega))
 cases hwl with
 | cons w1 w2 =>
  cases w2
  cases w1 with
  | list ho hall => exact ⟨_, _, ns, rfl, rfl, ho, ints_of_wellAll ns _ hall, hlen⟩
theorem post_true (l : OpenLaw) (args : List WData) : l.row.toRowW.claim.post args (.bool true) args = true :=
 postW_of (r := l.row.toRowW) (X := (true == true))
  (show WShape.has [] (.bool true) .bool = true by first | rfl | decide | simp [WShape.has, WShape.arms, WShape.armsAll])
  (show (WTm.eq .res (.lit (.bool true))).value [] { args := args, res := some (.bool true), after := args } = some (.bool (true == true)) from w_eq_bool (w_res rfl) w_lit) rfl
theorem attach_call {l : OpenLaw} {n : Nat} {q : Program} {loose : List Str} {XP : (Str -> Option Value) -> Heap -> Prop} {YP : World -> Heap -> Prop} {d : DefRec}
  (hn : l.most = some n) (hdf : d.params.defaults = [])
  (call : ∀ (w : World) (s₀ s₁ : Shared) (mg mb : Str -> Option Value) (fa : Addr) (o : Obj) (pm cd doc : Value) (a : Addr) (vs : List Value) (ns : List Int),
   Ground q loose [] XP w s₀ mg mb s₁.heap -> YP w s₁.heap ->
   s₁.heap.get? fa = some o -> o.data = .func (docDef d.name d.params d.body d.scope pm cd doc) -> s₁.heap.CodeRec cd d.name -> mg d.name = some (.ref fa) ->
   s₁.heap.get? a = some { cls := .type "list", data := .seq vs.toArray } -> IntsAre vs ns -> ns.length <= n -> s₁.gens = #[] ->
   codeAny (model l.prog w) callerA (.call (.ref fa) ⟨[.ref a], []⟩) (fun r s' => r = .ok (.ret (.bool true)) /\ OldK s₁.heap s'.heap /\ s'.os = s₁.os /\ AllBare s'.gens) s₁) :
  WalkO q loose XP YP l.row.toRowW d [] (fun f vs => PySem.call f vs) := by
 intro w s₀ s₁ mg mb G Y fa o pm cd doc dV kV ho hd hcd hD hmg hg args vals as hpre hlay hrd hwl hlo
 obtain rfl : dV = .none := Dflts.none hD hdf
 obtain rfl : kV = .none := Dflts.noKw hD
 obtain ⟨a, vs, ns, rfl, rfl, hobj, hints, hlen⟩ := script_of hn hpre hwl
 refine enter_call (codeAny_mono (call w s₀ s₁ mg mb fa o pm cd doc a vs ns G Y ho (fd_plain hd) hcd hmg hobj hints hlen hg) fun r s' hq => ?_)
 obtain ⟨rfl, h2, h3, h4⟩ := hq
 exact ⟨.inl ⟨.bool true, .bool true, [], rfl, fun _ => rfl, .bool true, post_true l _, fun _ => ⟨List.Pairwise.nil, fun _ hm => (nomatch hm)⟩⟩, h2, h3, h4⟩
section
variable {prog : Program} {w : World} {A : Around} {E : Value -> Shared -> Prop} {s : Shared} {K : Frag}
end
end Att
namespace L2
open PySem PySem.Spec PyProof.Rows
theorem vals_ints : ∀ {vs : List Value} {ns : List Int}, IntsAre vs ns -> Vals (ns.map V.int) vs
 | _, _, .nil => .nil
 | _, _, .cons n t h => .cons ⟨t, rfl⟩ (vals_ints h)
noncomputable def Only (H : Hp) : Prop := ∀ b, H b = none ∨ ∃ o xs, H b = some (.frz o (.lst xs))
theorem law_call {P : Program} {w : World} {K : PySem.W.Frag} {mg mb : Str -> Option Value} {CX : CXT} {k : Nat} {fa a : Addr} {fd : FuncData} {x : Str} {sp : Sp} {s₁ : Shared} {vs : List Value} {ns : List Int}
  (KX : K.In s₁.heap) (hns : s₁.heap.Ns mainGlobals mg) (hb : s₁.heap.Ns builtinsNs mb) (hbb : ∀ x : Str, x ≠ "__name__" -> mb x = bootBuiltins x) (hlim : s₁.heap.NoLimit) (hg : s₁.gens = #[])
  (ha : s₁.heap.get? a = some { cls := .type "list", data := .seq vs.toArray }) (hi : IntsAre vs ns) (hl : ns.length <= sizeLine) (hr : Room k callerA)
  (F : ∀ base : Heap, K.In base -> base.Ns mainGlobals mg -> FnOk P w K mg base CX k fa fd [x] sp) (hbind : ∀ (s : Shared) (u : Value), BindsTo s fd ⟨[u], []⟩ [(x, u)])
  (hsp : ∀ H : Hp, Only H -> SqL K H a (ns.map V.int) -> sp [.ref a] H (fun v _ => v = .bl true) fun _ _ _ => False)
  (hCX : ∀ H e s', CX [] H s₁ (fun _ _ _ => False) e s' -> False) :
  codeAny (model P w) callerA (.call (.ref fa) ⟨[.ref a], []⟩) (fun r s' => r = .ok (.ret (.bool true)) /\ OldK s₁.heap s'.heap /\ s'.os = s₁.os /\ AllBare s'.gens) s₁ := by
 have rv := vals_ints hi
 have lenV := hi.length
 have core : ∀ H : Hp, Only H -> SqL K H a (ns.map V.int) -> HOk P w H s₁.heap -> (∀ b, H b ≠ none -> b = a) -> (H a ≠ none -> K.lookup a = none) ->
   codeAny (model P w) callerA (.call (.ref fa) ⟨[.ref a], []⟩) (fun r s' => r = .ok (.ret (.bool true)) /\ OldK s₁.heap s'.heap /\ s'.os = s₁.os /\ AllBare s'.gens) s₁ := by
  intro H hO hS hok hA hK
  have base_of : ∀ {b : Addr} {o : Obj}, s₁.heap.get? b = some o -> H b = none -> (hidT s₁.heap H).get? b = some o := fun e n => hidT_get e n
  have noA : ∀ {b : Addr} {o : Obj} {es : Array DictEntry} {ep : Nat}, s₁.heap.get? b = some o -> o.data = .dict es ep -> H b = none := fun {b o es ep} e d => by
   cases q : H b with
   | none => rfl
   | some u =>
    have e' : b = a := hA b (by rw [q]; simp)
    subst e'
    rw [ha] at e; cases e
    have d' : Data.seq vs.toArray _ = Data.dict es ep := d
    cases d'
  have nsK : ∀ {b : Addr} {m : Str -> Option Value}, s₁.heap.Ns b m -> (hidT s₁.heap H).Ns b m := fun {b m} ⟨o, es, ep, e, d, r⟩ => ⟨o, es, ep, base_of e (noA e d), d, r⟩
  have hKb : K.In (hidT s₁.heap H) := fun b o e => base_of (KX b o e) (by
   cases q : H b with
   | none => rfl
   | some u =>
    have e' : b = a := hA b (by rw [q]; simp)
    subst e'
    rw [hK (by rw [q]; simp)] at e; cases e)
  have hM : Mod K mg (hidT s₁.heap H) := ⟨hKb, nsK hns, ⟨mb, nsK hb, hbb⟩, let ⟨mc, h1, h2⟩ := hlim; ⟨mc, nsK h1, h2⟩⟩
  have e0 : Env0 P w K mg (hidT s₁.heap H) callerA [] s₁ H := ⟨rfl, hM, fun b o e => of_hidT e, Nat.le_of_eq (hidT_size _ _), trivial, fun b hb => absurd (show b ∈ ([] : List Addr) from hb) (by simp), hok, .of_eq hg⟩
  refine codeAny_mono ((F _ hKb (nsK hns)).run callerA [] s₁ H ⟨[.ref a], []⟩ [.ref a] [.ref a] _ _ hr e0 (hbind s₁ (.ref a)) (.cons rfl .nil) (hsp H hO hS)) fun r s' h => ?_
  cases r with
  | error e => exact (hCX H e s' h).elim
  | ok fl =>
   cases fl with
   | next => exact False.elim h
   | brk => exact False.elim h
   | cont => exact False.elim h
   | ret u =>
    obtain ⟨v, H', os, bare, un, hok', r', q⟩ := h
    have q' : v = .bl true := q
    subst q'
    obtain rfl : u = Value.bool true := r'
    refine ⟨rfl, OldK.of_keep fun b o e => ?_, os, bare⟩
    cases q : H b with
    | none => exact un.keep b o e q (by intro z; exact absurd (show b ∈ ([] : List Addr) from z) (by simp)) (by simp)
    | some u =>
     rcases hO b with z | ⟨ob, xs, z⟩
     ·rw [q] at z; cases z
     ·have z2 := un.frzs b ob _ z
      obtain ⟨e1, _⟩ := hok b _ z
      obtain ⟨e2, _⟩ := hok' b _ z2
      rw [e] at e1; cases e1
      exact e2
 cases hk : K.lookup a with
 | some o =>
  have e := KX a o hk
  rw [ha] at e
  cases e
  refine core (fun _ => none) (fun _ => .inl rfl) (.inr ⟨_, vs.toArray, _, hk, rfl, rfl, rfl, by rw [List.size_toArray, lenV]; exact hl, by simpa using rv⟩) (fun b u z => by have z' : (none : Option HO) = some u := z; cases z') (fun b z => absurd rfl z) fun z => absurd rfl z
 | none =>
  refine core (fun b => if b = a then some (.frz { cls := .type "list", data := .seq vs.toArray } (.lst (ns.map V.int))) else none) (fun b => ?_) (.inl (.inr ⟨{ cls := .type "list", data := .seq vs.toArray }, if_pos rfl⟩)) (fun b u z => ?_) (fun b z => ?_) fun _ => hk
  ·by_cases hb : b = a
   ·exact .inr ⟨_, _, if_pos hb⟩
   ·exact .inl (if_neg hb)
  ·by_cases hb : b = a
   ·have z' := (if_pos hb).symm.trans z
    cases z'
    subst hb
    exact ⟨ha, by rw [List.length_map]; exact hl, vs, _, rv, ha⟩
   ·have z' := (if_neg hb).symm.trans z
    cases z'
  ·by_cases hb : b = a
   ·exact hb
   ·exact absurd (if_neg hb) z
end L2
namespace L2
open PySem PySem.Spec PyProof.Rows
theorem walk_of {l : PySem.W.OpenLaw} {n k : Nat} {q : Program} {loose : List Str} {XP : (Str -> Option Value) -> Heap -> Prop} {YP : World -> Heap -> Prop} {d : DefRec} {K : Params -> PySem.W.Frag} {CX : World -> CXT} {sp : World -> Sp} {x : Str}
  (hn : l.most = some n) (hn2 : n <= sizeLine) (hdf : d.params.defaults = []) (hr : Room k callerA)
  (hY : ∀ (w : World) (h : Heap), YP w h -> (K w.params).In h)
  (F : ∀ (w : World) (mg : Str -> Option Value) (fa : Addr) (h : Heap), (K w.params).In h -> h.Ns mainGlobals mg -> mg d.name = some (.ref fa) ->
   ∃ fd : FuncData, (∀ (s : Shared) (u : Value), BindsTo s fd ⟨[u], []⟩ [(x, u)]) /\
    ∀ base : Heap, (K w.params).In base -> base.Ns mainGlobals mg -> FnOk l.prog w (K w.params) mg base (CX w) k fa fd [x] (sp w))
  (hsp : ∀ (w : World) (H : Hp) (a : Addr) (ns : List Int), ns.length <= n -> Only H -> SqL (K w.params) H a (ns.map V.int) -> sp w [.ref a] H (fun v _ => v = .bl true) fun _ _ _ => False)
  (hCX : ∀ (w : World) (H : Hp) (s : Shared) (e : Value) (s' : Shared), CX w [] H s (fun _ _ _ => False) e s' -> False) :
  PySem.W.WalkO q loose XP YP l.row.toRowW d [] (fun f vs => PySem.call f vs) := by
 refine Att.attach_call hn hdf fun w s₀ s₁ mg mb fa o pm cd doc a vs ns G Y ho hd hcd hmg hobj hints hlen hg => ?_
 have KX := hY w _ Y
 obtain ⟨fd, hb, hF⟩ := F w mg fa _ KX G.T.g hmg
 exact law_call KX G.T.g G.T.b G.T.builtins G.T.nolimit hg hobj hints (Nat.le_trans hlen hn2) hr hF hb (fun H hO hS => hsp w H a ns hlen hO hS) fun H e s' => hCX w H s₁ e s'
end L2
namespace L2
open PySem PySem.Spec PyProof.Rows
noncomputable def defArgs (s : Stmt) : Arguments := match s with
 | .FunctionDef _ a _ _ _ _ _ _ _ _ => a
 | _ => { posonlyargs := [], args := [], vararg := none, kwonlyargs := [], kw_defaults := [], kwarg := none, defaults := [] }
noncomputable def defBody (s : Stmt) : List Stmt := match s with
 | .FunctionDef _ _ b _ _ _ _ _ _ _ => b
 | _ => []
noncomputable def defScope (s : Stmt) : Scope := match s with
 | .FunctionDef _ _ _ _ _ _ sc _ _ _ => sc
 | _ => { kind := .function, names := [], isGenerator := false, isCoroutine := false }
noncomputable abbrev CX0 : CXT := fun _ _ _ _ _ _ => False
noncomputable abbrev E0 : XK := fun _ _ _ => False
theorem pass0 {X : Cx} : Passes CX0 X E0 := fun _ _ _ _ _ _ _ h => h.elim
structure Fun (K : PySem.W.Frag) (x qual : Str) (st : Stmt) (f : Addr) (fd : FuncData) : Prop where
 ex : ∃ (oc : Value) (od : Option Addr) (kV doc pm : Value) (an : Option Addr) (cdv ct : Value) (osl : Array (Option Value)),
  fd = PySem.W.fnOf x qual (defArgs st) (defBody st) (defScope st) .none kV doc pm an cdv ct /\ K.lookup f = some ⟨oc, od, .func fd, osl⟩ /\ PySem.W.codeIn K cdv qual = true
 kp : PySem.W.keepIn K (.ref f) = true
section
variable {P : Program} {w : World} {K : PySem.W.Frag} {mg : Str -> Option Value} {base : Heap}
theorem Fun.ok {x qual : Str} {st : Stmt} {f : Addr} {fd : FuncData} {N ps : List Str} {k : Nat} {sp : Sp} (F : Fun K x qual st f fd) (S : FnScope N ps (defScope st)) (len : ∀ vs H Q E, sp vs H Q E -> vs.length = ps.length)
  (hbody : ∀ (cdv : Value) (A : Around) (outer : List Env) (s : Shared) (H : Hp) (vs : List V) (Q : VK) (E : XK), Room k (A.deeper (envOfC qual (defScope st) s.heap.objs.size f cdv)) -> sp vs H Q E ->
   ∃ t, PSs (cxOf CX0 P w K mg base N qual (defScope st) f cdv A outer s H E).nox (defBody st) t /\ t { nx := fun _ H' => Q .non H', rt := Q } (start N vs) H) : FnOk P w K mg base CX0 (k + 1) f fd ps sp := by
 obtain ⟨oc, od, kV, doc, pm, an, cdv, ct, osl, rfl, lk, hcd⟩ := F.ex
 refine fn_of lk hcd S len fun A outer s H vs Q E hr hsp => ?_
 obtain ⟨t, h, q⟩ := hbody cdv A outer s H vs Q E hr hsp
 exact ⟨t, h.nox, q⟩
theorem Fun.binds {x qual : Str} {st : Stmt} {f : Addr} {fd : FuncData} {ps : List Str} (F : Fun K x qual st f fd)
  (h : ∀ (kV doc pm : Value) (an : Option Addr) (cdv ct : Value) (us : List Value), us.length = ps.length -> bindArgs (PySem.W.fnOf x qual (defArgs st) (defBody st) (defScope st) .none kV doc pm an cdv ct) ⟨us, []⟩ = pure (ps.zip us)) : Binds K fd ps [] := by
 obtain ⟨oc, od, kV, doc, pm, an, cdv, ct, osl, rfl, lk, hcd⟩ := F.ex
 exact .all (h kV doc pm an cdv ct)
theorem fun_mk {x qual : Str} {st : Stmt} {f : Addr} {oc : Value} {od an : Option Addr} {osl : Array (Option Value)} {kV doc pm cdv ct : Value} (l : K.lookup f = some ⟨oc, od, .func (PySem.W.fnOf x qual (defArgs st) (defBody st) (defScope st) .none kV doc pm an cdv ct), osl⟩)
  (c : PySem.W.codeIn K cdv qual = true) (k : PySem.W.keepIn K (.ref f) = true) : Fun K x qual st f (PySem.W.fnOf x qual (defArgs st) (defBody st) (defScope st) .none kV doc pm an cdv ct) := ⟨⟨oc, od, kV, doc, pm, an, cdv, ct, osl, rfl, l, c⟩, k⟩
end
theorem hu_of {A : Around} {k : Nat} (hr : Room k A) : A.units + 1 < cLine := Nat.lt_of_le_of_lt (Nat.add_le_add_left (by decide : 1 <= 64) _) hr.units
section
variable {X : Cx}
theorem pv (i : Nat) {x : Str} {pos : Pos} (hN : X.N[i]? = some x := by rfl) (hv : Vis X.env.scope x := by first | exact Or.inl rfl | exact Or.inr (Or.inl rfl) | exact Or.inr (Or.inr rfl)) (hd : (x == ("__debug__" : Str)) = false := by decide)
  (hcd : (x == ("__classdict__" : Str)) = false := by decide) : PE X (.Name x pos) (tVar i) := pe_var hN hv hd hcd
end
theorem iteF {A B : Prop} (h : B) : if false = true then A else B := by
 rw [if_neg Bool.false_ne_true]
 exact h
theorem iteT {A B : Prop} (h : A) : if true = true then A else B := by
 rw [if_pos rfl]
 exact h
theorem ite2 {c A B : Prop} [Decidable c] (h1 : c -> A) (h2 : ¬ c -> B) : if c then A else B := by
 by_cases h : c
 ·rw [if_pos h]
  exact h1 h
 ·rw [if_neg h]
  exact h2 h
theorem iteNS {c A B : Prop} [Decidable c] (hc : c) (h : B) : if (!decide c) = true then A else B := by
 rw [decide_eq_true hc]
 exact iteF h
noncomputable def Same (H H' : Hp) : Prop := ∀ b o, H b = some o -> H' b = some o
theorem Same.refl (H : Hp) : Same H H := fun _ _ h => h
theorem Same.trans {H H1 H2 : Hp} (a : Same H H1) (b : Same H1 H2) : Same H H2 := fun c o h => b c o (a c o h)
theorem Same.free {H H' : Hp} (e : Same H H') {l : Addr} (h : H' l = Option.none) : H l = Option.none := by
 cases q : H l with
 | none => rfl
 | some o =>
  rw [e l o q] at h
  cases h
theorem Same.seq {K : PySem.W.Frag} {H H' : Hp} {a : Addr} {xs : List V} (e : Same H H') (h : SqL K H a xs) : SqL K H' a xs := by
 rcases h with (h | ⟨o, h⟩) | h
 ·exact .inl (.inl (e _ _ h))
 ·exact .inl (.inr ⟨o, e _ _ h⟩)
 ·exact .inr h
end L2
namespace L2
open PySem PySem.Spec PyProof.Rows
theorem closure_ok {env : Env} {scope : Scope} (h : ∀ y ∈ scope.names, y.2 = .free -> ∃ c, env.cells.lookup y.1 = some c) :
  ∃ cl, closureFor scope env = pure cl /\ (∀ x c, cl.lookup x = some c -> env.cells.lookup x = some c) /\ ∀ y ∈ scope.names, y.2 = .free -> cl.lookup y.1 = env.cells.lookup y.1 := by
 have go : ∀ (names : List (Str × NameKind)) (acc : List (Str × Addr)), (∀ y ∈ names, y.2 = .free -> ∃ c, env.cells.lookup y.1 = some c) ->
   (∀ x c, acc.lookup x = some c -> env.cells.lookup x = some c) ->
   ∃ cl, (forIn names acc (fun (y : Str × NameKind) (cs : List (Str × Addr)) => if (y.2 == .free) = true then (do let c <- cellOf env y.1; pure (ForInStep.yield ((y.1, c) :: cs))) else pure (ForInStep.yield cs)) : Sem (List (Str × Addr))) = pure cl /\
    (∀ x c, cl.lookup x = some c -> env.cells.lookup x = some c) /\ (∀ x c, acc.lookup x = some c -> cl.lookup x = some c) /\ ∀ y ∈ names, y.2 = .free -> cl.lookup y.1 = env.cells.lookup y.1 := by
  intro names
  induction names with
  | nil => intro acc _ ha; exact ⟨acc, rfl, ha, fun _ _ h => h, fun y hy => nomatch hy⟩
  | cons y r ih =>
   intro acc hn ha
   obtain ⟨n, k⟩ := y
   by_cases hk : k = .free
   ·subst hk
    obtain ⟨c, hc⟩ := hn (n, .free) List.mem_cons_self rfl
    have ha' : ∀ x d, (((n, c) :: acc : List (Str × Addr))).lookup x = some d -> env.cells.lookup x = some d := fun x d e => by
     rw [List.lookup_cons] at e
     cases hx : x == n with
     | true =>
      rw [hx] at e
      have e1 : x = n := eq_of_beq hx
      subst e1
      cases e
      exact hc
     | false => rw [hx] at e; exact ha x d e
    obtain ⟨cl, e, h1, h2, h3⟩ := ih ((n, c) :: acc) (fun y hy => hn y (List.mem_cons_of_mem _ hy)) ha'
    refine ⟨cl, ?_, h1, fun x d e => ?_, fun y hy hf => ?_⟩
    ·rw [List.forIn_cons]
     have ec : cellOf env n = pure c := by unfold cellOf; rw [hc]
     simp only [beq_self_eq_true, if_true]
     rw [ec]
     exact e
    ·have e' := ha x d e
     by_cases hx : x = n
     ·subst hx
      rw [hc] at e'; cases e'
      exact h2 x c (by rw [List.lookup_cons]; simp)
     ·exact h2 x d (by rw [List.lookup_cons, beq_eq_false_iff_ne.mpr hx]; exact e)
    ·rcases List.mem_cons.mp hy with rfl | hy
     ·show cl.lookup n = env.cells.lookup n
      rw [hc]
      exact h2 n c (by rw [List.lookup_cons]; simp)
     ·exact h3 y hy hf
   ·obtain ⟨cl, e, h1, h2, h3⟩ := ih acc (fun y hy => hn y (List.mem_cons_of_mem _ hy)) ha
    refine ⟨cl, ?_, h1, h2, fun y hy hf => ?_⟩
    ·rw [List.forIn_cons]
     have : (k == NameKind.free) = false := by simpa using hk
     simp only [this, Bool.false_eq_true, if_false]
     exact e
    ·rcases List.mem_cons.mp hy with rfl | hy
     ·exact absurd hf hk
     ·exact h3 y hy hf
 obtain ⟨cl, e, h1, _, h3⟩ := go scope.names [] h (fun x c e => by simp at e)
 refine ⟨cl, ?_, h1, h3⟩
 unfold closureFor
 exact (congrArg (fun m => m >>= fun r => pure r) e).trans rfl
noncomputable def compSt (n : Nat) (ix : List Nat) (σ : St) : St := List.replicate n none ++ ix.map fun i => σ.getD i none
noncomputable def Cx.comp (X : Cx) (s₂ : Shared) (H₂ : Hp) (N' : List Str) (scope : Scope) (cl : List (Str × Addr)) (C : Addr) (fp : List Addr) : Cx :=
 { X with N := N', s₀ := s₂, H₀ := H₂, env := compEnvC scope cl C X.env, outer := X.stack, stack := X.stack, ex := fp, fn := fun _ => false, pn := [], xe := fun _ _ => False }
structure CompScope (X : Cx) (scope : Scope) (N' : List Str) (n : Nat) (ix : List Nat) : Prop where
 kind : scope.kind = .function
 nocell : ∀ y ∈ scope.names, y.2 ≠ .cell
 names : ∀ y ∈ scope.names, y.2 = .local -> scope.names.lookup y.1 = some .local
 free : ∀ y ∈ scope.names, y.2 = .free -> X.env.scope.names.lookup y.1 = some .cell ∨ X.env.scope.names.lookup y.1 = some .free
 nodup : ∀ y : Str, (y, NameKind.free) ∈ scope.names -> scope.names.lookup y = some .local -> False
 len : N'.length = n + ix.length
 at_ : ∀ (j i : Nat), ix[j]? = some i -> ∃ x, N'[n + j]? = some x /\ X.N[i]? = some x /\ (x, NameKind.free) ∈ scope.names
end L2
namespace L2
open PySem PySem.Spec PyProof.Rows
theorem relabel_lookup {env : Env} {scope : Scope} (x : Str) : (relabel scope env).names.lookup x = (scope.names.lookup x).map fun k => if (k == .free && env.scope.kind == .function && env.kindOf x == some .cell) then .cell else k := by
 show (scope.names.map fun (n, k) => if (k == NameKind.free && env.scope.kind == .function && env.kindOf n == some .cell) then (n, NameKind.cell) else (n, k)).lookup x = _
 generalize scope.names = l
 induction l with
 | nil => rfl
 | cons y r ih =>
  obtain ⟨n, k⟩ := y
  rw [List.map_cons, List.lookup_cons]
  cases hx : x == n with
  | true =>
   have e : x = n := eq_of_beq hx
   subst e
   by_cases hc : (k == NameKind.free && env.scope.kind == .function && env.kindOf x == some .cell) = true
   ·rw [if_pos hc, List.lookup_cons]
    simp only [beq_self_eq_true]
    show some NameKind.cell = some (ite _ _ _)
    rw [if_pos hc]
   ·rw [if_neg hc, List.lookup_cons]
    simp only [beq_self_eq_true]
    show some k = some (ite _ _ _)
    rw [if_neg hc]
  | false =>
   by_cases hc : (k == NameKind.free && env.scope.kind == .function && env.kindOf n == some .cell) = true
   ·rw [if_pos hc, List.lookup_cons, hx]; exact ih
   ·rw [if_neg hc, List.lookup_cons, hx]; exact ih
section
variable {X : Cx} {pins : List (Addr × Obj)} {σ : St} {H : Hp} {s : Shared}
theorem relabel_free {env : Env} {scope : Scope} {x : Str} (h : scope.names.lookup x = some .free) : (relabel scope env).names.lookup x = some .cell ∨ (relabel scope env).names.lookup x = some .free := by
 rw [relabel_lookup, h]
 by_cases hc : (NameKind.free == NameKind.free && env.scope.kind == .function && env.kindOf x == some .cell) = true
 ·exact .inl (by show some (ite _ _ _) = _; rw [if_pos hc])
 ·exact .inr (by show some (ite _ _ _) = _; rw [if_neg hc])
theorem of_relabel {env : Env} {scope : Scope} {x : Str} (hn : ∀ y ∈ scope.names, y.2 ≠ .cell) (h : (relabel scope env).names.lookup x = some .cell ∨ (relabel scope env).names.lookup x = some .free) : scope.names.lookup x = some .free := by
 rw [relabel_lookup] at h
 cases e : scope.names.lookup x with
 | none => rw [e] at h; rcases h with h | h <;> cases h
 | some k =>
  rw [e] at h
  have hk := hn _ (PySem.mem_of_lookup e)
  by_cases hf : k = .free
  ·rw [hf]
  ·have hb : (k == NameKind.free) = false := by simpa using hf
   have hr : Option.map (fun k => if (k == NameKind.free && env.scope.kind == .function && env.kindOf x == some .cell) = true then NameKind.cell else k) (some k) = some k := by
    show some (ite _ _ _) = _
    rw [if_neg (by rw [hb]; simp)]
   rw [hr] at h
   rcases h with h | h
   ·cases h; exact absurd rfl hk
   ·exact h
theorem inv_comp {scope : Scope} {N' : List Str} {n : Nat} {ix : List Nat} {cl : List (Str × Addr)} {fp : List Addr} {h₁ : Heap} {acc C : Addr} {na : Nat} {m : Str -> Option Value} {tk : Nat}
  (I : Inv X pins σ H s) (S : CompScope X scope N' n ix) (hcl1 : ∀ x c, cl.lookup x = some c -> X.env.cells.lookup x = some c) (hcl2 : ∀ y ∈ scope.names, y.2 = .free -> cl.lookup y.1 = X.env.cells.lookup y.1)
  (hf : ∀ b ∈ fp, FpOk X pins H b) (hlt : ∀ b ∈ fp, b < s.heap.objs.size) (ha : s.heap.objs.size <= acc) (hC : s.heap.objs.size <= C) (hne : C ≠ acc)
  (k : ∀ b u, s.heap.get? b = some u -> h₁.get? b = some u) (hacc : h₁.get? acc = some { cls := .type "list", data := .seq ([] : List Value).toArray na }) (hns : h₁.Ns C m) :
  Inv (X.comp s H N' scope cl C fp) [] (compSt n ix σ) (upd H acc (.lst [])) { s with heap := h₁, toks := tk } := by
 have fr : ∀ b : Addr, s.heap.objs.size <= b -> H b = none := fun b hb => I.hok.fresh hb
 have cellLt : ∀ x c, cl.lookup x = some c -> c < s.heap.objs.size := fun x c e => by
  obtain ⟨v, q⟩ := I.cell x c (hcl1 x c e)
  exact q.lt
 refine ⟨⟨I.ok.mod, S.kind, I.ok.glob, I.ok.blt, hC, fun x y c e1 e2 => I.ok.inj x y c (hcl1 x c e1) (hcl1 y c e2), fun x hx => ?_, fun x c e _ => absurd e Bool.false_ne_true, I.ok.hd, I.ok.frames, .inl rfl, fun b hb => ⟨Nat.ne_of_lt (Nat.lt_of_lt_of_le (hlt b hb) hC), fun x c e => (hf b hb).2.2.2.2.1 x c (hcl1 x c e)⟩,
   I.bs, Nat.le_trans I.ok.bsz I.sz, fun b o e hb => ?_, fun b hb hs => ?_, I.stack, I.stkFree⟩,
  rfl, I.bare, Un.laid k ha (fr acc ha), ⟨m, hns, fun i x v e1 e2 e3 => ?_⟩, fun x c e => ?_, ?_, fun x c e => ?_, fun p hp => absurd (show p ∈ ([] : List (Addr × Obj)) from hp) (by simp), I.hok.laid k ha ⟨Nat.zero_le _, [], na, .nil, hacc⟩, ?_⟩
 ·have hx' : scope.names.lookup x = some .free := of_relabel (env := X.env) S.nocell hx
  have hm := PySem.mem_of_lookup hx'
  obtain ⟨c, e⟩ := I.ok.has x (S.free _ hm rfl)
  exact ⟨c, (hcl2 _ hm rfl).trans e⟩
 ·rcases (hf b hb).2.2.2.1 with z | z
  ·exact I.ok.noex b o e z
  ·exact absurd (Nat.lt_of_lt_of_le (Heap.lt_size e) (Nat.le_trans I.ok.bsz z)) (Nat.lt_irrefl _)
 ·rcases List.mem_cons.mp (I.stkSub b hs) with z | z
  ·exact (hf b hb).2.1 z
  ·exact (hf b hb).2.2.1 z
 ·-- a name of the frame, seen through its cell
  have hi : n <= i := by
   by_cases hi : n <= i
   ·exact hi
   ·unfold compSt at e2
    rw [List.getElem?_append_left (by simp; (first | lia | omega)), List.getElem?_replicate] at e2
    split at e2 <;> cases e2
  obtain ⟨j, rfl⟩ : ∃ j, i = n + j := ⟨i - n, by (first | lia | omega)⟩
  unfold compSt at e2
  rw [List.getElem?_append_right (by simp), List.length_replicate, Nat.add_sub_cancel_left, List.getElem?_map] at e2
  cases ej : ix[j]? with
  | none => rw [ej] at e2; cases e2
  | some q =>
   rw [ej] at e2
   have e2' : σ.getD q none = some v := Option.some.inj e2
   have e2'' : σ[q]? = some (some v) := by
    rw [List.getD_eq_getElem?_getD] at e2'
    cases eq : σ[q]? with
    | none => rw [eq] at e2'; cases e2'
    | some z => rw [eq] at e2'; exact congrArg some e2'
   obtain ⟨y, h1, h2, h3⟩ := S.at_ j q ej
   have ey : y = x := Option.some.inj (h1.symm.trans e1)
   subst ey
   have hk := S.free _ h3 rfl
   obtain ⟨mX, _, hl⟩ := I.loc
   obtain ⟨u, r, l⟩ := hl q y v h2 e2'' (.inr hk)
   refine ⟨u, r, .inr ?_⟩
   have hkc : X.env.kindOf y = some .cell ∨ X.env.kindOf y = some .free := hk
   have l' : ∃ c, X.env.cells.lookup y = some c /\ s.heap.IsCell c (some u) := by
    rcases l with ⟨z, _⟩ | ⟨_, c, ec, hc⟩
    ·rcases hkc with q | q <;> (rw [q] at z; cases z)
    ·exact ⟨c, ec, hc⟩
   obtain ⟨c, ec, o, ho, hd⟩ := l'
   have e3' : Vis (relabel scope X.env) y := e3
   refine ⟨?_, c, (hcl2 _ h3 rfl).trans ec, o, k _ _ ho, hd⟩
   have nl : scope.names.lookup y ≠ some .local := fun z => ?_
   ·cases el : scope.names.lookup y with
    | none =>
     have : (relabel scope X.env).names.lookup y = none := by rw [relabel_lookup, el]; rfl
     rcases e3' with z | z | z <;> (rw [this] at z; cases z)
    | some kk =>
     have hmem := PySem.mem_of_lookup el
     have ncell := S.nocell _ hmem
     have hr : (relabel scope X.env).names.lookup y = some (if (kk == NameKind.free && X.env.scope.kind == .function && X.env.kindOf y == some .cell) = true then .cell else kk) := by rw [relabel_lookup, el]; rfl
     by_cases hkf : kk = .free
     ·subst hkf
      exact relabel_free (env := X.env) el
     ·have hb : (kk == NameKind.free) = false := by simpa using hkf
      have hr' : (relabel scope X.env).names.lookup y = some kk := by rw [hr, hb]; rfl
      rcases e3' with z | z | z
      ·rw [hr'] at z; cases z; exact absurd el nl
      ·rw [hr'] at z; cases z; exact absurd rfl ncell
      ·rw [hr'] at z; cases z; exact absurd rfl hkf
   ·exact S.nodup _ h3 z
 ·obtain ⟨v, o, ho, hd⟩ := I.cell x c (hcl1 x c e)
  exact ⟨v, o, k _ _ ho, hd⟩
 ·show upd H acc (.lst []) C = none
  rw [upd_ne hne]; exact fr C hC
 ·show upd H acc (.lst []) c = none
  have := cellLt x c e
  rw [upd_ne (Nat.ne_of_lt (Nat.lt_of_lt_of_le this ha))]
  exact I.freeC x c (hcl1 x c e)
 ·show (compSt n ix σ).length = N'.length
  unfold compSt
  rw [List.length_append, List.length_replicate, List.length_map, S.len]
end
end L2
namespace L2
open PySem PySem.Spec PyProof.Rows
noncomputable def Wk (σ σ' : St) : Prop := σ.length = σ'.length /\ ∀ (i : Nat) v, σ[i]? = some (some v) -> σ'[i]? = some (some v)
noncomputable def PTs (Y : Cx) (ifs : List Expr) (t : TT) : Prop :=
 ∀ (pins : List (Addr × Obj)) (s : Shared) (σ : St) (H : Hp) (Q : Bool -> Hp -> Prop), Inv Y pins σ H s -> t σ H Q ->
  wpAny (model Y.prog Y.w) Y.A (forIn ifs true fun c r => if r = true then do let ok <- isTrue c Y.env (eval c Y.env); pure (ForInStep.yield ok) else pure (ForInStep.yield r)) (TP Y pins σ Q) Y.xe s
noncomputable def tNoTest : TT := fun _ H Q => Q true H
theorem pts_nil {Y : Cx} : PTs Y [] tNoTest := fun _ _ _ H _ I h => wpAny_tests_nil ⟨H, I, h⟩
theorem pts_one {Y : Cx} {c : Expr} {t : TT} (h : PT Y c t) : PTs Y [c] t := fun pins s σ H Q I q => wpAny_tests_one (h pins s σ H Q I q)
theorem compLoop_gen {prog : Program} {w : World} {A : Around} {R : Result -> Shared -> Prop} {s : Shared} {elt target iter : Expr} {ifs : List Expr} {scope : Scope} {pos : Pos} {it acc : Value} {env : Env} (I : Nat -> Shared -> Prop)
  (turn : ∀ n s, I n s -> wpAny (model prog w) A (pyNext it) (fun r s₁ => match r with
   | none => R (.ok .next) s₁
   | some v => wpAny (model prog w) A (letOwnedTupleGo target it v) (fun _ s₂ => wpAny (model prog w) A (assign target env v) (fun _ s₃ =>
     wpAny (model prog w) A (forIn ifs true fun c r => if r = true then do let ok <- isTrue c env (eval c env); pure (ForInStep.yield ok) else pure (ForInStep.yield r)) (fun ok s₄ =>
      if ok = true then wpAny (model prog w) A (eval elt env) (fun x s₅ =>
       wpAny (model prog w) A (call (.builtin "list.append") [acc, x]) (fun _ s₆ => ∃ m, m < n /\ I m s₆) (fun _ _ => False) s₅) (fun _ _ => False) s₄
      else ∃ m, m < n /\ I m s₄) (fun _ _ => False) s₃) (fun _ _ => False) s₂) (fun _ _ => False) s₁) (fun _ _ => False) s)
  (n : Nat) (h : I n s) :
  codeAny (model prog w) A (.compLoop (.ListComp elt [⟨target, iter, ifs, 0⟩] scope pos) 0 it acc env) R s := by
 refine codeAny_loop rfl I (fun n s hI => ?_) n h
 show wpAny _ A ((compTurn (.ListComp elt [⟨target, iter, ifs, 0⟩] scope pos) 0 it acc env).onRaise (fun x => do noteFrame x env; theTreesLotGoes x)) _ _ s
 refine wpAny_noted (wpAny_noRaise ?_)
 rw [compTurn_list]
 refine wpAny_bind (wpAny_standAt (wpAny_bind (thn (turn n s hI) fun r s₁ h₁ => ?_)))
 cases r with
 | none => exact wpAny_pure h₁
 | some v =>
  refine wpAny_bind (thn h₁ fun _ s₂ h₂ => wpAny_bind (thn h₂ fun _ s₃ h₃ => wpAny_bind (thn h₃ fun ok s₄ h₄ => ?_)))
  cases ok with
  | false => exact wpAny_pure ⟨rfl, h₄⟩
  | true => exact wpAny_bind (wpAny_bind (thn h₄ fun x s₅ h₅ => wpAny_bind (thn h₅ fun _ s₆ h₆ => wpAny_pure (wpAny_pure ⟨rfl, h₆⟩))))
noncomputable def LcW (J : It) (H1 : Hp) (g : TG) (tt : TT) (te : TE) (n : Nat) (ix : List Nat) (σ : St) (Q : VK) : Prop := ∀ acc, H1 acc = none ->
 ∃ W : Nat -> Nat -> Hp -> Prop, (∃ m, W 0 m (upd H1 acc (.lst []))) /\ ∀ i m H, W i m H ->
  (J.stop i H /\ Q (.ref acc) H) ∨ (J.go i H /\ ∀ x H', J.yld i H x H' -> g x (compSt n ix σ) H' fun σ2 H2 => Wk (compSt n ix σ) σ2 /\ tt σ2 H2 fun b H3 =>
   if b = true then te σ2 H3 fun v H4 => ∃ ys, H4 acc = some (.lst ys) /\ ys.length < sizeLine /\ ∃ m', m' < m /\ W (i + 1) m' (upd H4 acc (.lst (ys ++ [v])))
   else ∃ m', m' < m /\ W (i + 1) m' H3)
noncomputable def tLc (wi : TI) (g : TG) (tt : TT) (te : TE) (n : Nat) (ix : List Nat) : TE := fun σ H Q => wi σ H fun J H1 => LcW J H1 g tt te n ix σ Q
section
variable {X : Cx} {elt tg iter : Expr} {ifs : List Expr} {scope : Scope} {pos : Pos} {wi : TI} {g : TG} {tt : TT} {te : TE} {N' : List Str} {n : Nat} {ix : List Nat}
theorem lc_core {pins : List (Addr × Obj)} {σ : St} {H2 : Hp} {s2 : Shared} {cl : List (Str × Addr)} {it : Addr} {fp : List Addr} {tn : Nat -> Heap -> Prop} {J : It} {Q : VK} {R : Value -> Addr -> Result -> Shared -> Prop}
  (hc : X.calm = true) (S : CompScope X scope N' n ix)
  (hY : ∀ s₂ H₂ cl C fp, PG (X.comp s₂ H₂ N' scope cl C fp) tg g /\ PTs (X.comp s₂ H₂ N' scope cl C fp) ifs tt /\ PE (X.comp s₂ H₂ N' scope cl C fp) elt te)
  (I2 : Inv X pins σ H2 s2) (hcl1 : ∀ x c, cl.lookup x = some c -> X.env.cells.lookup x = some c) (hcl2 : ∀ y ∈ scope.names, y.2 = .free -> cl.lookup y.1 = X.env.cells.lookup y.1)
  (T : Turn X.prog X.w X.K tg J fp it tn) (st2 : tn 0 s2.heap) (f2 : ∀ b ∈ fp, FpOk X pins H2 b)
  (hW : LcW J H2 g tt te n ix σ Q)
  (hR : ∀ acc C s' H' m, s'.heap.Ns C m -> Inv X pins σ H' s' -> H' C = none -> C ≠ X.env.locals -> (C ∈ X.ex ∨ X.s₀.heap.objs.size <= C) -> (∀ x c, X.env.cells.lookup x = some c -> c ≠ C) -> (∀ p ∈ X.pn ++ pins, p.1 ≠ C) -> C ∉ X.fs -> Q (.ref acc) H' -> R (.ref acc) C (.ok .next) s') :
  wpAny (model X.prog X.w) X.A (newList []) (fun acc s₃ => wpAny (model X.prog X.w) X.A (newFunctionEnv scope X.env.globals cl [] X.env.qual none .none (some X.env)) (fun cenv s₄ =>
   codeAny (model X.prog X.w) X.A (.compStart (.ListComp elt [⟨tg, iter, ifs, 0⟩] scope pos) 0 (.ref it) acc { cenv with scope := relabel scope X.env }) (R acc cenv.locals) s₄) X.xe s₃) X.xe s2 := by
 refine wpAny_newObj_type (wpAny_newFunctionEnv S.nocell (by intro y hy; simp at hy) (fun h₁ hns₁ hsb₁ => ?_) S.kind)
 dsimp only at hns₁ hsb₁ ⊢
 generalize hH2 : s2.heap.push { cls := .type "list", dict := none, data := .seq ([] : List Value).toArray } = G at hns₁ hsb₁ ⊢
 have hC : G.objs.size = s2.heap.objs.size + 1 := by rw [<- hH2, Heap.size_push]
 have hlt : ∀ b ∈ fp, b < s2.heap.objs.size := fun b hb => by
  obtain ⟨o, e, _⟩ := T.obj _ _ st2 b hb
  exact Heap.lt_size e
 have old : ∀ b o, s2.heap.get? b = some o -> h₁.get? b = some o := fun b o e => hsb₁.extBut b o (by rw [hC]; exact Nat.ne_of_lt (Nat.lt_succ_of_lt (Heap.lt_size e))) (Heap.get?_push_of_some _ (hH2 ▸ Heap.get?_push_of_some _ e))
 have hacc : h₁.get? s2.heap.objs.size = some { cls := .type "list", dict := none, data := .seq ([] : List Value).toArray } := hsb₁.extBut _ _ (by rw [hC]; exact Nat.ne_of_lt (Nat.lt_succ_self _)) (Heap.get?_push_of_some _ (hH2 ▸ Heap.get?_push_size _ rfl))
 obtain ⟨W, ⟨m0, w0⟩, turn⟩ := hW s2.heap.objs.size (I2.hok.fresh (Nat.le_refl _))
 obtain ⟨hYg, hYt, hYe⟩ := hY s2 H2 cl G.objs.size fp
 have fpY : ∀ {H' : Hp}, (∀ b ∈ fp, H' b = none) -> ∀ b ∈ fp, FpOk (X.comp s2 H2 N' scope cl G.objs.size fp) [] H' b := fun {H'} hn b hb => by
  obtain ⟨_, q1, q2, q3, q4, q5⟩ := f2 b hb
  refine ⟨hn b hb, ?_, fun z => ?_, .inl hb, fun x c e => q4 x c (hcl1 x c e), fun p hp => absurd (show p ∈ ([] : List (Addr × Obj)) from hp) (by simp)⟩
  ·show b ≠ G.objs.size
   rw [hC]
   exact Nat.ne_of_lt (Nat.lt_succ_of_lt (hlt b hb))
  ·rcases List.mem_cons.mp (I2.stkSub b z) with y | y
   ·exact q1 y
   ·exact q2 y
 have loop : ∀ s₃ : Shared, s₃ = { s2 with heap := h₁, toks := s2.toks + ([] : List (Str × Value)).length } ->
   codeAny (model X.prog X.w) X.A (.compLoop (.ListComp elt [⟨tg, iter, ifs, 0⟩] scope pos) 0 (.ref it) (.ref s2.heap.objs.size) (compEnvC scope cl G.objs.size X.env)) (R (.ref s2.heap.objs.size) G.objs.size) s₃ := by
  rintro s₃ rfl
  have I4 := inv_comp (tk := s2.toks + ([] : List (Str × Value)).length) I2 S hcl1 hcl2 f2 hlt (Nat.le_refl _) (by rw [hC]; exact Nat.le_succ _) (by rw [hC]; exact Nat.ne_of_gt (Nat.lt_succ_self _)) old hacc hns₁
  refine compLoop_gen (fun n' s' => ∃ i H', Inv (X.comp s2 H2 N' scope cl G.objs.size fp) [] (compSt n ix σ) H' s' /\ tn i s'.heap /\ (∀ b ∈ fp, H' b = none) /\ W i n' H') ?_ m0
   ⟨0, _, I4, T.keep _ _ _ st2 fun b hb o e => old b o e, fun b hb => ?_, w0⟩
  ·rintro n' s3 ⟨i, H3, I3, st3, fr3, w3⟩
   rcases turn i n' H3 w3 with ⟨stop, q⟩ | ⟨go, step⟩
   ·refine thn (T.done (X.comp s2 H2 N' scope cl G.objs.size fp) rfl rfl rfl hc i [] s3 _ H3 _ I3 (fpY fr3) st3 stop) fun r s4 ⟨hr, I5⟩ => ?_
    subst hr
    obtain ⟨mC, hnC, _⟩ := I5.loc
    have IX : Inv X pins σ H3 s4 := I2.call' I5.os I5.base I5.hok I5.bare fun b hb => by
     obtain ⟨_, q1, q2, q3, q4, q5⟩ := f2 b hb
     exact ⟨q3, q1, q4, q5⟩
    refine hR _ _ s4 H3 mC hnC IX I5.free ?_ (.inr ?_) (fun x c e z => ?_) (fun p hp z => ?_) (I2.nofs (by rw [hC]; exact Nat.le_succ _)) q
    ·rw [hC]
     exact Nat.ne_of_gt (Nat.lt_succ_of_lt I2.lt)
    ·rw [hC]
     exact Nat.le_succ_of_le I2.sz
    ·obtain ⟨v, q⟩ := I2.cell x c e
     rw [hC] at z
     exact absurd z (Nat.ne_of_lt (Nat.lt_succ_of_lt q.lt))
    ·rw [hC] at z
     exact absurd z (Nat.ne_of_lt (Nat.lt_succ_of_lt (Heap.lt_size (I2.pin p hp).1)))
   ·refine thn (T.item (X.comp s2 H2 N' scope cl G.objs.size fp) rfl rfl rfl hc i [] s3 _ H3 _ I3 (fpY fr3) st3 go) fun r s4 ⟨u, hr, h4⟩ => ?_
    subst hr
    refine thn h4 fun _ s5 ⟨x, H5, I5, r5, y5, st5, fr5⟩ => ?_
    have I5' := I5.pinned (fpY fr5) (T.obj _ _ st5)
    refine thn (hYg _ s5 _ H5 x u _ I5' r5 (step x H5 y5)) fun _ s6 ⟨σ6, H6, I6, wk, q6⟩ => ?_
    have back : ∀ {H' : Hp} {s' : Shared}, Inv (X.comp s2 H2 N' scope cl G.objs.size fp) ([] ++ pinsAt fp s5.heap) σ6 H' s' ->
      Inv (X.comp s2 H2 N' scope cl G.objs.size fp) [] (compSt n ix σ) H' s' /\ tn (i + 1) s'.heap /\ ∀ b ∈ fp, H' b = none := fun {H' s'} I7 => by
     refine ⟨I7.unpinned.weak wk.1 wk.2, T.keep _ _ _ st5 fun b hb o e => (I7.pin (b, o) (List.mem_append_right _ (List.mem_append_right _ (mem_pinsAt hb e)))).1, fun b hb => ?_⟩
     obtain ⟨o, e, d⟩ := T.obj _ _ st5 b hb
     exact (I7.pin (b, o) (List.mem_append_right _ (List.mem_append_right _ (mem_pinsAt hb e)))).2.1
    refine thn (hYt _ s6 σ6 H6 _ I6 q6) fun ok s7 ⟨H7, I7, q7⟩ => ?_
    cases ok with
    | false =>
     rw [if_neg Bool.false_ne_true] at q7 ⊢
     obtain ⟨m', hm, w7⟩ := q7
     obtain ⟨b1, b2, b3⟩ := back I7
     exact ⟨m', hm, i + 1, H7, b1, b2, b3, w7⟩
    | true =>
     rw [if_pos rfl] at q7 ⊢
     refine thn (hYe _ s7 σ6 H7 _ I7 q7) fun xv s8 ⟨v8, H8, I8, r8, ys, ha, hz, m', hm, w8⟩ => ?_
     refine thn (mt_append _ s8 σ6 H8 (.ref s2.heap.objs.size) [v8] (.ref s2.heap.objs.size) [xv] (fun _ H' => H' = upd H8 s2.heap.objs.size (.lst (ys ++ [v8]))) I8 rfl (.cons r8 .nil) ⟨_, ys, v8, rfl, rfl, ha, hz, rfl⟩) fun _ s9 ⟨_, H9, I9, _, e9⟩ => ?_
     subst e9
     obtain ⟨b1, b2, b3⟩ := back I9
     exact ⟨m', hm, i + 1, _, b1, b2, b3, w8⟩
  ·rw [upd_ne (Nat.ne_of_lt (hlt b hb))]
   exact (f2 b hb).1
 exact codeAny_compStart_list (loop _ rfl) (T.self _ 0 _ _ _ (T.keep _ _ _ st2 fun b hb o e => old b o e) (loop _ rfl))
theorem pe_lc (hc : X.calm = true) (S : CompScope X scope N' n ix) (hi : PI X tg iter wi)
  (hY : ∀ s₂ H₂ cl C fp, PG (X.comp s₂ H₂ N' scope cl C fp) tg g /\ PTs (X.comp s₂ H₂ N' scope cl C fp) ifs tt /\ PE (X.comp s₂ H₂ N' scope cl C fp) elt te)
  (hs : ∀ x, foldedSetIterable iter X.env x = pure x := by intro _; rfl) : PE X (.ListComp elt [⟨tg, iter, ifs, 0⟩] scope pos) (tLc wi g tt te n ix) := by
 intro pins s σ H Q I h
 obtain ⟨cl, hcl, hcl1, hcl2⟩ := closure_ok (env := X.env) (scope := scope) fun y hy hf => I.ok.has _ (S.free y hy hf)
 rw [eval_ListComp]
 refine wpAny_comprehension_free (use := none) rfl hs hcl S.kind S.names (thn (hi pins s σ H _ I h) fun v s1 h1 => thn h1 fun itv s2 h2 => ?_)
 obtain ⟨it, fp, tn, J, H2, rfl, I2, T, st2, f2, hW⟩ := h2
 refine lc_core (R := fun acc C => compPost (model X.prog X.w) X.A X.xe none (EP X pins σ Q) acc C) hc S hY I2 hcl1 hcl2 T st2 f2 hW ?_
 intro acc C s' H' m hn IX hf hL h1 h2 h3 h4 q
 exact ⟨m, hn, fun h' sb => ⟨.ref acc, H', IX.turned (t' := s'.toks) (fun b o hb e => sb.extBut b o hb e) hf hL h1 h2 h3, rfl, q⟩⟩
theorem ps_lcset {x : Str} {i : Nat} {pos' spos : Pos} (hsw : swapsWith (.ListComp elt [⟨tg, iter, ifs, 0⟩] scope pos) (some (.Name x pos')) spos.line X.env = pure true) (hN : X.N.Nodup) (hi' : X.N[i]? = some x) (hx : X.env.scope.names.lookup x = some .local)
  (hc : X.calm = true) (S : CompScope X scope N' n ix) (hi : PI X tg iter wi)
  (hY : ∀ s₂ H₂ cl C fp, PG (X.comp s₂ H₂ N' scope cl C fp) tg g /\ PTs (X.comp s₂ H₂ N' scope cl C fp) ifs tt /\ PE (X.comp s₂ H₂ N' scope cl C fp) elt te)
  (hs : ∀ x, foldedSetIterable iter X.env x = pure x := by intro _; rfl) : PS X (.Assign [.Name x pos'] (.ListComp elt [⟨tg, iter, ifs, 0⟩] scope pos) spos) (tAsg (tLc wi g tt te n ix) (gName i)) := by
 intro pins s σ H D I h
 obtain ⟨cl, hcl, hcl1, hcl2⟩ := closure_ok (env := X.env) (scope := scope) fun y hy hf => I.ok.has _ (S.free y hy hf)
 rw [exec_Assign_Name_used _ _ _ _ hsw]
 refine wpAny_bind (wpAny_standAt (wpAny_bind ?_))
 show wpAny _ _ (do let _ <- comprehension (.ListComp elt [⟨tg, iter, ifs, 0⟩] scope pos) scope X.env _ (newList []) false (eval iter X.env) (some (assign (.Name x pos') X.env))) _ _ s
 refine wpAny_bind (thn (wpAny_comprehension_free (use := some (assign (.Name x pos') X.env)) (Q := fun _ s' => SP X pins D .next s') rfl hs hcl S.kind S.names (thn (hi pins s σ H _ I h) fun v s1 h1 => thn h1 fun itv s2 h2 => ?_)) fun _ s' hq => wpAny_pure (wpAny_pure hq))
 obtain ⟨it, fp, tn, J, H2, rfl, I2, T, st2, f2, hW⟩ := h2
 refine lc_core (Q := fun x H1 => gName i x σ H1 D.nx) (R := fun acc C => compPost (model X.prog X.w) X.A X.xe (some (assign (.Name x pos') X.env)) (fun _ s' => SP X pins D .next s') acc C) hc S hY I2 hcl1 hcl2 T st2 f2 hW ?_
 intro acc C s' H' m hn IX hf hL h1 h2 h3 h4 q
 show wpAny _ _ (assign (.Name x pos') X.env (.ref acc)) _ _ _
 obtain ⟨oC, esC, epC, hoC, hdC, rC⟩ := id hn
 have IP : Inv X (pins ++ [(C, oC)]) σ H' s' := IX.pins_of fun p hp => by
  rcases List.mem_append.mp hp with z | z
  ·exact IX.pin p (List.mem_append_right _ z)
  ·have e : p = (C, oC) := by simpa using z
   subst e
   exact ⟨hoC, hf, hL, h4, fun v z => by rw [hdC] at z; cases z⟩
 refine thn (pg_name hN hi' (.inl hx) (.inr hx) _ s' σ H' (.ref acc) (.ref acc) D.nx IP rfl q) fun _ s'' ⟨σ', H'', I'', q''⟩ => ?_
 obtain ⟨e1, e2, _⟩ := I''.pin (C, oC) (List.mem_append_right _ (List.mem_append_right _ (by simp)))
 refine ⟨m, ⟨oC, esC, epC, e1, hdC, rC⟩, fun h' sb => ⟨σ', H'', ?_, q''⟩⟩
 exact I''.unpinned.turned (t' := s''.toks) (fun b o hb e => sb.extBut b o hb e) e2 hL h1 h2 h3
end
end L2
namespace L2
open PySem PySem.Spec PyProof.Rows
theorem PE.mono {X : Cx} {e : Expr} {t t' : TE} (h : PE X e t) (m : ∀ σ H Q, t' σ H Q -> t σ H Q) : PE X e t' := fun pins s σ H Q I q => h pins s σ H Q I (m σ H Q q)
theorem same_upd {H : Hp} {a : Addr} {o : HO} (h : H a = none) : Same H (upd H a o) := fun b u e => by
 rw [upd_ne (ne_of_none e h)]; exact e
theorem same_updR {H H' : Hp} {a : Addr} {o : HO} (s : Same H H') (h : H a = none) : Same H (upd H' a o) := fun b u e => by
 rw [upd_ne (ne_of_none e h)]; exact s b u e
noncomputable def SameT (H H' : Hp) : Prop := ∀ b xs, H b = some (.tup xs) -> H' b = some (.tup xs)
theorem Same.t {H H' : Hp} (h : Same H H') : SameT H H' := fun b xs e => h b _ e
theorem SameT.trans {H H1 H2 : Hp} (a : SameT H H1) (b : SameT H1 H2) : SameT H H2 := fun c o h => b c o (a c o h)
theorem sameT_lst {H : Hp} {a : Addr} {xs ys : List V} (h : H a = some (.lst xs)) : SameT H (upd H a (.lst ys)) := fun b zs e => by
 rw [upd_ne (ne_of e h (by intro z; cases z))]; exact e
structure Yields (J : It) (Ok : Hp -> Prop) (xs : List V) : Prop where
 go : ∀ i H, Ok H -> i < xs.length -> J.go i H
 yld : ∀ i H x H', Ok H -> i < xs.length -> J.yld i H x H' -> H' = H /\ xs[i]? = some x
 stop : ∀ H, Ok H -> J.stop xs.length H
theorem yields_list {K : PySem.W.Frag} {a : Addr} {xs : List V} : Yields (Itl K a) (fun H => SqL K H a xs) xs :=
 ⟨fun i H q h => ⟨xs, xs[i], q, by simp [h]⟩, fun i H x H' q _ y => ⟨y.1, y.2 xs q⟩, fun H q => ⟨xs, q, Nat.le_refl _⟩⟩
theorem yields_tup {K : PySem.W.Frag} {a : Addr} {xs : List V} : Yields (Itt K a) (fun H => SqT K H a xs) xs :=
 ⟨fun i H q h => ⟨xs, xs[i], q, by simp [h]⟩, fun i H x H' q _ y => ⟨y.1, y.2 xs q⟩, fun H q => ⟨xs, q, Nat.le_refl _⟩⟩
noncomputable def rangeV (lo : Int) (n : Nat) : List V := (List.range n).map fun (i : Nat) => V.int (lo + (i : Int))
theorem rangeV_len (lo : Int) (n : Nat) : (rangeV lo n).length = n := by simp [rangeV]
theorem rangeV_get {lo : Int} {n i : Nat} (h : i < n) : (rangeV lo n)[i]? = some (V.int (lo + (i : Int))) := by
 simp [rangeV, h]
theorem yields_range {lo : Int} {n : Nat} : Yields (Itr lo n) (fun _ => True) (rangeV lo n) := by
 refine ⟨fun i H _ h => ?_, fun i H x H' _ h y => ?_, fun H _ => ?_⟩
 ·rw [rangeV_len] at h; exact h
 ·obtain ⟨y1, y2⟩ := y
  rw [rangeV_len] at h
  exact ⟨y1, by rw [rangeV_get h, y2]⟩
 ·rw [rangeV_len]; exact Nat.le_refl _
section
variable {J : It} {Ok : Hp -> Prop} {xs : List V} {tt : TT} {te : TE} {ix : List Nat} {σ : St} {H1 : Hp} {Q : VK}
theorem lc_pure (Y : Yields J Ok xs) (small : xs.length < sizeLine) (p : V -> Bool) (f : V -> V) (hok : ∀ H, Same H1 H -> Ok H)
  (ht : ∀ x ∈ xs, ∀ H, Same H1 H -> ∀ Q' : Bool -> Hp -> Prop, Q' (p x) H -> tt (some x :: ix.map fun i => σ.getD i none) H Q')
  (he : ∀ x ∈ xs, p x = true -> ∀ H, Same H1 H -> ∀ Q' : VK, Q' (f x) H -> te (some x :: ix.map fun i => σ.getD i none) H Q')
  (fin : ∀ acc, H1 acc = none -> Q (.ref acc) (upd H1 acc (.lst ((xs.filter p).map f)))) :
  LcW J H1 (gName 0) tt te 1 ix σ Q := by
 intro acc ha
 refine ⟨fun i m H => m = xs.length - i /\ i <= xs.length /\ H = upd H1 acc (.lst (((xs.take i).filter p).map f)), ⟨xs.length, by simp, Nat.zero_le _, rfl⟩, ?_⟩
 rintro i m H ⟨rfl, hi, rfl⟩
 have sm : Same H1 (upd H1 acc (.lst (((xs.take i).filter p).map f))) := same_upd ha
 have o := hok _ sm
 by_cases hlt : i < xs.length
 ·refine .inr ⟨Y.go i _ o hlt, fun x H' y => ?_⟩
  obtain ⟨rfl, hx⟩ := Y.yld i _ x H' o hlt y
  have hmem : x ∈ xs := List.mem_of_getElem? hx
  have htk : xs.take (i + 1) = xs.take i ++ [x] := by
   rw [List.take_succ, hx]; rfl
  refine ⟨⟨rfl, fun j v e => ?_⟩, ?_⟩
  ·cases j with
   | zero => cases e
   | succ j => exact e
  ·refine ht x hmem _ sm _ ?_
   cases hp : p x with
   | false =>
    rw [if_neg Bool.false_ne_true]
    refine ⟨xs.length - (i + 1), by (first | lia | omega), rfl, hlt, ?_⟩
    rw [htk, List.filter_append]
    simp [hp]
   | true =>
    rw [if_pos rfl]
    refine he x hmem hp _ sm _ ?_
    refine ⟨_, upd_same, ?_, xs.length - (i + 1), by (first | lia | omega), rfl, hlt, ?_⟩
    ·rw [List.length_map]
     refine Nat.lt_of_le_of_lt (List.length_filter_le _ _) ?_
     rw [List.length_take]; (first | lia | omega)
    ·rw [upd_upd, htk, List.filter_append, List.map_append]
     simp [hp]
 ·have e : i = xs.length := by (first | lia | omega)
  subst e
  refine .inl ⟨Y.stop _ o, ?_⟩
  rw [List.take_length]
  exact fin acc ha
theorem lc_grow (Y : Yields J Ok xs) (small : xs.length < sizeLine) (R : V -> V -> Hp -> Prop) (hR : ∀ x v H H', SameT H H' -> R x v H -> R x v H') (hok : ∀ H, Same H1 H -> Ok H)
  (he : ∀ x ∈ xs, ∀ H, Same H1 H -> ∀ Q' : VK, (∀ v H', Same H H' -> R x v H' -> Q' v H') -> te (some x :: ix.map fun i => σ.getD i none) H Q')
  (fin : ∀ acc ys H', H1 acc = none -> Same H1 H' -> H' acc = some (.lst ys) -> Paired (fun x v => R x v H') xs ys -> Q (.ref acc) H') :
  LcW J H1 (gName 0) tNoTest te 1 ix σ Q := by
 intro acc ha
 refine ⟨fun i m H => m = xs.length - i /\ i <= xs.length /\ Same H1 H /\ ∃ ys, H acc = some (.lst ys) /\ Paired (fun x v => R x v H) (xs.take i) ys, ⟨xs.length, by simp, Nat.zero_le _, same_upd ha, [], upd_same, .nil⟩, ?_⟩
 rintro i m H ⟨rfl, hi, sm, ys, hacc, pr⟩
 have o := hok _ sm
 have hlen : ys.length = i := by rw [<- Paired.length pr, List.length_take]; (first | lia | omega)
 by_cases hlt : i < xs.length
 ·refine .inr ⟨Y.go i _ o hlt, fun x H' y => ?_⟩
  obtain ⟨rfl, hx⟩ := Y.yld i _ x H' o hlt y
  have hmem : x ∈ xs := List.mem_of_getElem? hx
  have htk : xs.take (i + 1) = xs.take i ++ [x] := by
   rw [List.take_succ, hx]; rfl
  refine ⟨⟨rfl, fun j v e => ?_⟩, ?_⟩
  ·cases j with
   | zero => cases e
   | succ j => exact e
  ·unfold tNoTest
   dsimp only
   rw [if_pos rfl]
   refine he x hmem _ sm _ fun v H4 s4 r4 => ?_
   have h4 : H4 acc = some (.lst ys) := s4 _ _ hacc
   refine ⟨ys, h4, by (first | lia | omega), xs.length - (i + 1), by (first | lia | omega), rfl, hlt, same_updR (sm.trans s4) ha, ys ++ [v], upd_same, ?_⟩
   rw [htk]
   have st : SameT H4 (upd H4 acc (.lst (ys ++ [v]))) := sameT_lst h4
   exact Paired.snoc (Paired.mapP pr fun x' v' r' => hR _ _ _ _ (s4.t.trans st) r') (hR _ _ _ _ st r4)
 ·have e : i = xs.length := by (first | lia | omega)
  subst e
  refine .inl ⟨Y.stop _ o, ?_⟩
  rw [List.take_length] at pr
  exact fin acc ys H ha sm hacc pr
end
end L2
namespace L2
open PySem PySem.Spec PyProof.Rows
section
variable {prog : Program} {w : World} {A : Around} {E : Value -> Shared -> Prop} {s : Shared}
theorem nextT_item {it t : Addr} {i : Nat} {its : Array Value} {x : Value} {Q : Value -> Shared -> Prop} (hi : s.heap.IsTupleIter it t i) (ht : s.heap.IsTuple t its) (hx : its[i]? = some x)
  (q : ∀ h', h'.IsTupleIter it t (i + 1) -> Heap.SameBut it s.heap h' -> Q x { s with heap := h' }) : wpAny (model prog w) A (Builtin.SmallTypes.nextOf (.ref it)) Q E s := by
 obtain ⟨o, e1, e2, e3⟩ := id hi
 obtain ⟨u, f1, f2, nu, f3⟩ := ht
 unfold Builtin.SmallTypes.nextOf
 refine wpAny_bind (wpAny_callSpecial?_slot (name := Str.ofString "__next__") hi.typeIs F.slot_tuple_iterator_next (wpAny_call_entry F.slot_tuple_iterator_next hi.typeIs F.entry_tuple_iterator_next ?_ (F.args_tuple_iterator_next_1 _)))
 show wpAny _ _ (field (.ref it) 0 >>= _) _ _ s
 refine wpAny_bind (wpAny_field e1 e3 (x := .ref t) rfl ?_)
 show wpAny _ _ (if (Value.ref t == Value.none) = true then _ else _) _ _ s
 rw [if_neg (show ¬ ((Value.ref t == Value.none) = true) from Bool.false_ne_true)]
 show wpAny _ _ (field (.ref it) 1 >>= _) _ _ s
 refine wpAny_bind (wpAny_field e1 e3 (x := .int i 0) rfl ?_)
 show wpAny _ _ (seqItems? (.ref t) >>= _) _ _ s
 refine wpAny_bind (wpAny_seqItems f1 f3 ?_)
 simp only [Int.toNat_natCast, hx]
 refine wpAny_bind (wpAny_setField e1 e3 (by simp) (wpAny_pure ⟨x, rfl, wpAny_pure (q _ ⟨_, Heap.get?_update_self _ e1 (Obj.isFreed_of_fields (Obj.data_mapFields e3 _)), (Obj.cls_mapFields ..).trans e2, ?_⟩ (Heap.SameBut.update ..))⟩))
 rw [Obj.data_mapFields e3]
 simp [rawInt]
theorem nextT_end {it t : Addr} {i : Nat} {its : Array Value} {Q : Value -> Shared -> Prop} (hh : A.handled = none) (hi : s.heap.IsTupleIter it t i) (ht : s.heap.IsTuple t its) (hx : its[i]? = none)
  (q : ∀ h' e, Heap.ExtBut it s.heap h' -> (∃ o, h'.get? e = some o /\ o.cls = .type "StopIteration") -> E (.ref e) { s with heap := h' }) : wpAny (model prog w) A (Builtin.SmallTypes.nextOf (.ref it)) Q E s := by
 obtain ⟨o, e1, e2, e3⟩ := id hi
 obtain ⟨u, f1, f2, nu, f3⟩ := ht
 unfold Builtin.SmallTypes.nextOf
 refine wpAny_bind (wpAny_callSpecial?_slot (name := Str.ofString "__next__") hi.typeIs F.slot_tuple_iterator_next (wpAny_call_entry F.slot_tuple_iterator_next hi.typeIs F.entry_tuple_iterator_next ?_ (F.args_tuple_iterator_next_1 _)))
 show wpAny _ _ (field (.ref it) 0 >>= _) _ _ s
 refine wpAny_bind (wpAny_field e1 e3 (x := .ref t) rfl ?_)
 show wpAny _ _ (if (Value.ref t == Value.none) = true then _ else _) _ _ s
 rw [if_neg (show ¬ ((Value.ref t == Value.none) = true) from Bool.false_ne_true)]
 show wpAny _ _ (field (.ref it) 1 >>= _) _ _ s
 refine wpAny_bind (wpAny_field e1 e3 (x := .int i 0) rfl ?_)
 show wpAny _ _ (seqItems? (.ref t) >>= _) _ _ s
 refine wpAny_bind (wpAny_seqItems f1 f3 ?_)
 simp only [Int.toNat_natCast, hx]
 refine wpAny_bind (wpAny_rule (wpAny_bind (wpAny_setField e1 e3 (by simp) ?_)))
 show wpAny _ _ (newExc (.type "StopIteration") [] >>= _) _ _ _
 refine wpAny_bind ?_
 simp only [newExc, newTuple]
 refine wpAny_bind (wpAny_newObj_type ?_ (by size_fits))
 refine wpAny_bind (m := firstArgMember _ _) (wpAny_of_eq (a := Value.none) (by first | rfl | (simp only [firstArgMember]; rfl)) ?_)
 refine wpAny_newObj_type ?_ (by size_fits)
 simp only [raiseNew]
 refine wpAny_bind (wpAny_handled ?_)
 first | rw [show A.in1.handled = none from hh] | rw [hh]
 refine wpAny_bind (wpAny_pure (wpAny_throw ?_))
 exact q _ _ (((Heap.SameBut.update ..).extBut.push _).push _) ⟨_, Heap.get?_push_size _ rfl, rfl⟩
end
end L2
namespace L2
open PySem PySem.Spec PyProof.Rows
section
variable {X : Cx} {pins : List (Addr × Obj)} {σ : St} {H : Hp} {s : Shared} {h' : Heap}
theorem Inv.turnedN {t' : Nat} {fp : List Addr} (I : Inv X pins σ H s) (hf : ∀ b ∈ fp, FpOk X pins H b) (k : ∀ b o, b ∉ fp -> s.heap.get? b = some o -> h'.get? b = some o) : Inv X pins σ H { s with heap := h', toks := t' } := by
 have nit : ∀ b u, H b = some u -> b ∉ fp := fun b u e z => by rw [(hf b z).1] at e; cases e
 refine I.step (g' := s.gens) (d' := s.drawn) (ch := fp) (fun b hb => ?_) (fun b o _ _ hc e _ => k b o hc e) (fun b o _ _ hc e _ => ⟨o.slots, k b o hc e⟩) (fun _ _ _ _ n => n)
  (fun b o hc e => ⟨o, k b o hc e⟩) (fun _ _ e => e) (fun _ _ _ e => e) (fun b ps e => ⟨#[], by rw [e]; simp⟩) (fun m hm => ?_) (fun b u e => ?_) I.bare
 ·obtain ⟨_, q1, q2, q3, q4, q5⟩ := hf b hb
  exact ⟨q3, q1, q4, q5⟩
 ·obtain ⟨o, es, ep, ho, r⟩ := hm
  exact ⟨o, es, ep, k _ o (fun z => (hf _ z).2.1 rfl) ho, r⟩
 ·refine (I.hok b u e).stay (fun c v hc q => k c v ?_ q) (fun _ q => q) fun _ _ q => q
  rcases hc with z | z
  ·rw [z]; exact nit b u e
  ·exact nit c _ z
theorem Inv.trackT {a : Addr} {xs : List V} {its : List Value} (I : Inv X pins σ H s) (hn : H a = none) (hs : X.s₀.heap.objs.size <= a) (hL : a ≠ X.env.locals) (hc : ∀ x c, X.env.cells.lookup x = some c -> c ≠ a) (hp : ∀ p ∈ X.pn ++ pins, p.1 ≠ a)
  (rv : Vals xs its) (ht : PTup s.heap a its.toArray) (hz : xs.length <= sizeLine) : Inv X pins σ (upd H a (.tup xs)) s := by
 have ne : ∀ {b u}, H b = some u -> b ≠ a := fun e => ne_of_none e hn
 refine ⟨I.ok, I.os, I.bare, ⟨I.base.keep, I.base.slot, fun b o e n hx => ?_, I.base.there, fun b ys e => ?_, fun b o u e => ?_, fun b ps e => ?_⟩, I.loc, I.cell, ?_, fun x c e => ?_, fun p hp' => ?_, fun b u e => ?_, I.len⟩
 ·rw [upd_ne (Nat.ne_of_lt (Nat.lt_of_lt_of_le (Heap.lt_size e) hs))]
  exact I.base.free b o e n hx
 ·have q := I.base.tups b ys e
  rw [upd_ne (ne q)]; exact q
 ·have q := I.base.frzs b o u e
  rw [upd_ne (ne q)]; exact q
 ·obtain ⟨m, q⟩ := I.base.tbls b ps e
  exact ⟨m, by rw [upd_ne (ne q)]; exact q⟩
 ·rw [upd_ne (Ne.symm hL)]; exact I.free
 ·rw [upd_ne (hc x c e)]; exact I.freeC x c e
 ·obtain ⟨q1, q2, q3⟩ := I.pin p hp'
  exact ⟨q1, by rw [upd_ne (hp p hp')]; exact q2, q3⟩
 ·by_cases hb : b = a
  ·subst hb
   rw [upd_same] at e; cases e
   exact ⟨hz, its, rv, ht⟩
  ·rw [upd_ne hb] at e
   exact (I.hok b u e).stay (fun _ _ _ q => q) (fun c q => by rw [upd_ne (ne q)]; exact q) fun c ys q => by rw [upd_ne (ne q)]; exact q
theorem Inv.turnedT {t' : Nat} {fp : List Addr} {xs : List V} {its : List Value} (I : Inv X pins σ H s) (hf : ∀ b ∈ fp, FpOk X pins H b) (k : ∀ b o, b ∉ fp -> s.heap.get? b = some o -> h'.get? b = some o)
  (rv : Vals xs its) (ht : PTup h' s.heap.objs.size its.toArray) (hz : xs.length <= sizeLine) : Inv X pins σ (upd H s.heap.objs.size (.tup xs)) { s with heap := h', toks := t' } := by
 refine (I.turnedN (t' := t') hf k).trackT (I.hok.fresh (Nat.le_refl _)) I.sz (Nat.ne_of_gt I.lt) (fun x c e => ?_) (fun p hp => ?_) rv ht hz
 ·obtain ⟨v, q⟩ := I.cell x c e
  exact Nat.ne_of_lt q.lt
 ·exact Nat.ne_of_lt (Heap.lt_size (I.pin p hp).1)
end
section
variable {X : Cx}
end
end L2
namespace L2
open PySem PySem.Spec PyProof.Rows
structure ZipT (h : Heap) (z TI TO i1 i2 a b : Addr) (i : Nat) : Prop where
 z : IsZip h z TI TO .none
 ti : IsPair h TI (.ref i1) (.ref i2)
 to : ∃ x y, IsPair h TO x y
 one : h.IsTupleIter i1 a i
 two : h.IsTupleIter i2 b i
structure ZipNe (z TI TO i1 i2 : Addr) : Prop where
 az : TI ≠ z
 bz : TO ≠ z
 cz : i1 ≠ z
 dz : i2 ≠ z
 ab : TI ≠ TO
 ac : TI ≠ i1
 ad : TI ≠ i2
 bc : TO ≠ i1
 bd : TO ≠ i2
 cd : i1 ≠ i2
section
variable {prog : Program} {w : World} {A : Around} {E : Value -> Shared -> Prop} {s : Shared} {z TI TO i1 i2 a b : Addr} {i : Nat} {xs ys : Array Value}
theorem pairSet {T : Addr} {p q x : Value} {k : Nat} {Q : Unit -> Shared -> Prop} (hT : IsPair s.heap T p q) (h : ∀ h', h'.get? T = some { cls := .type "tuple", data := .seq ((#[p, q] : Array Value).setIfInBounds k x) } -> Heap.SameBut T s.heap h' -> Q () { s with heap := h' }) :
  wpAny (model prog w) A (updateSeq T (·.setIfInBounds k x)) Q E s := wpAny_updateSeq_pair hT h
theorem tupNe {h : Heap} {t j : Addr} {k : Nat} {its : Array Value} {u : Addr} (ht : h.IsTuple t its) (hj : h.IsTupleIter j u k) : t ≠ j := fun e => by
 obtain ⟨o, e1, e2, _⟩ := ht
 obtain ⟨o', f1, f2, _⟩ := hj
 rw [e, f1] at e1; cases e1; rw [f2] at e2; injection e2 with z2; revert z2; decide
theorem zipT_item {x y : Value} {Q : Option Value -> Shared -> Prop} (D : ZipNe z TI TO i1 i2) (S : ZipT s.heap z TI TO i1 i2 a b i) (ha : s.heap.IsTuple a xs) (hb : s.heap.IsTuple b ys) (haz : a ≠ z /\ a ≠ TO) (hbz : b ≠ z /\ b ≠ TO) (hx : xs[i]? = some x) (hy : ys[i]? = some y)
  (q : ∀ h', IsZip h' z TI TO (rawInt s.heap.objs.size) -> IsPair h' TI (.ref i1) (.ref i2) -> IsPair h' TO x y -> h'.IsTupleIter i1 a (i + 1) -> h'.IsTupleIter i2 b (i + 1) -> IsPair h' s.heap.objs.size x y ->
   (∀ c o, c ≠ z -> c ≠ TO -> c ≠ i1 -> c ≠ i2 -> s.heap.get? c = some o -> h'.get? c = some o) -> Q (some (.ref s.heap.objs.size)) { s with heap := h' }) :
  wpAny (model prog w) A (pyNext (.ref z)) Q E s := by
 obtain ⟨hz, hti, ⟨p0, p1, hto⟩, h1, h2⟩ := S
 have ai1 := tupNe ha h1
 have ai2 := tupNe ha h2
 have bi1 := tupNe hb h1
 have bi2 := tupNe hb h2
 have hT : s.TypeIs (.ref z) "zip" := ⟨_, hz, rfl⟩
 unfold pyNext
 refine wpAny_bind (wpAny_attempt (wpAny_callSpecial?_slot (name := Str.ofString "__next__") hT F.slot_zip_next (wpAny_call_entry F.slot_zip_next hT F.entry_zip_next ?_ (F.args_zip_next_1 _))))
 show wpAny _ _ (field (.ref z) 2 >>= _) _ _ _
 refine wpAny_bind (wpAny_field hz rfl (x := .bool false) rfl ?_); show wpAny _ _ (field (.ref z) 3 >>= _) _ _ _
 refine wpAny_bind (wpAny_field hz rfl (x := .ref TI) rfl (wpAny_bind (wpAny_seqItems hti rfl ?_)))
 show wpAny _ _ (Builtin.SmallTypes.ownedTupleIsFree (.ref z) >>= _) _ _ _
 refine wpAny_bind ?_
 unfold Builtin.SmallTypes.ownedTupleIsFree
 refine wpAny_bind (wpAny_field hz rfl (x := .none) rfl (wpAny_pure ?_)); simp only [if_true]
 refine wpAny_bind (wpAny_rule (wpAny_bind (wpAny_field hz rfl (x := .ref TO) rfl (wpAny_bind (wpAny_setField_rec hz (by simp) fun g1 k1 s1 => ?_)))))
 replace k1 : IsZip g1 z TI TO .ellipsis := k1
 refine wpAny_bind ?_
 simp only [List.zipIdx_cons, List.zipIdx_nil, List.forIn_cons, List.forIn_nil]
 refine wpAny_bind (wpAny_bind (wpAny_onRaise ?_)); show wpAny _ _ (Builtin.SmallTypes.nextOf (.ref i1) >>= _) _ _ _
 refine wpAny_bind (nextT_item (h1.extBut s1.extBut D.cz) (ha.extBut s1.extBut haz.1) hx fun g2 j2 s2 => wpAny_pure ?_)
 have t2 : IsPair g2 TO p0 p1 := s2.extBut _ _ D.bc (s1.extBut _ _ D.bz hto)
 refine wpAny_bind (wpAny_seqItems t2 rfl (wpAny_bind (pairSet t2 fun g3 t3 s3 => ?_)))
 replace t3 : IsPair g3 TO x p1 := t3
 refine wpAny_bind (wpAny_letGo (wpAny_pure ?_))
 refine wpAny_bind (wpAny_bind (wpAny_onRaise ?_)); show wpAny _ _ (Builtin.SmallTypes.nextOf (.ref i2) >>= _) _ _ _
 have e3 : ∀ c o, c ≠ z -> c ≠ i1 -> c ≠ TO -> s.heap.get? c = some o -> g3.get? c = some o := fun c o c1 c2 c3 e => s3.extBut _ _ c3 (s2.extBut _ _ c2 (s1.extBut _ _ c1 e))
 have h23 : g3.IsTupleIter i2 b i := let ⟨o, ho, r⟩ := h2; ⟨o, e3 _ _ D.dz D.cd.symm D.bd.symm ho, r⟩
 have hb3 : g3.IsTuple b ys := let ⟨o, ho, r⟩ := hb; ⟨o, e3 _ _ hbz.1 bi1 hbz.2 ho, r⟩
 refine wpAny_bind (nextT_item h23 hb3 hy fun g4 j4 s4 => wpAny_pure ?_)
 have t4 : IsPair g4 TO x p1 := s4.extBut _ _ D.bd t3
 refine wpAny_bind (wpAny_seqItems t4 rfl (wpAny_bind (pairSet t4 fun g5 t5 s5 => ?_)))
 replace t5 : IsPair g5 TO x y := t5
 refine wpAny_bind (wpAny_letGo (wpAny_pure (wpAny_pure ?_)))
 refine wpAny_bind (wpAny_seqItems t5 rfl (wpAny_bind (wpAny_newTuple ?_)))
 have z5 : g5.objs.size = s.heap.objs.size := by rw [s5.1, s4.1, s3.1, s2.1, s1.1]
 have e5 : ∀ c o, c ≠ z -> c ≠ TO -> c ≠ i1 -> c ≠ i2 -> s.heap.get? c = some o -> g5.get? c = some o := fun c o c1 c2 c3 c4 e => s5.extBut _ _ c2 (s4.extBut _ _ c4 (e3 c o c1 c3 c2 e))
 have k5 : IsZip g5 z TI TO .ellipsis := s5.extBut _ _ D.bz.symm (s4.extBut _ _ D.dz.symm (s3.extBut _ _ D.bz.symm (s2.extBut _ _ D.cz.symm k1)))
 have m1 : g5.IsTupleIter i1 a (i + 1) := ((j2.extBut s3.extBut D.bc.symm).extBut s4.extBut D.cd).extBut s5.extBut D.bc.symm
 have m2 : g5.IsTupleIter i2 b (i + 1) := j4.extBut s5.extBut D.bd.symm
 have zlt : z < g5.objs.size := Heap.lt_size k5
 show wpAny _ _ (Builtin.SmallTypes.ownedTupleHandOut (.ref z) (.ref g5.objs.size) >>= _) _ _ _
 refine wpAny_bind ?_
 unfold Builtin.SmallTypes.ownedTupleHandOut
 have k6 : IsZip (g5.push { cls := .type "tuple", data := .seq #[x, y] }) z TI TO .ellipsis := Heap.get?_push_of_some _ k5
 refine wpAny_bind (wpAny_setField_rec k6 (by simp) fun g7 k7 s7 => ?_)
 replace k7 : IsZip g7 z TI TO (rawInt g5.objs.size) := k7
 refine wpAny_setField_rec k7 (by simp) fun g8 k8 s8 => ?_
 replace k8 : IsZip g8 z TI TO (rawInt g5.objs.size) := k8
 have up : ∀ c o, c ≠ z -> g5.get? c = some o -> g8.get? c = some o := fun c o c1 e => s8.extBut _ _ c1 (s7.extBut _ _ c1 (Heap.get?_push_of_some _ e))
 have t8 : IsPair g8 g5.objs.size x y := s8.extBut _ _ (Nat.ne_of_gt zlt) (s7.extBut _ _ (Nat.ne_of_gt zlt) (Heap.get?_push_size _ rfl))
 rw [z5] at k8 t8
 refine wpAny_pure ⟨_, rfl, wpAny_pure ?_⟩
 show Q (some (.ref g5.objs.size)) _
 rw [z5]
 exact q g8 k8 (up _ _ D.az (e5 _ _ D.az D.ab D.ac D.ad hti)) (up _ _ D.bz t5) (let ⟨o, ho, r⟩ := m1; ⟨o, up _ _ D.cz ho, r⟩) (let ⟨o, ho, r⟩ := m2; ⟨o, up _ _ D.dz ho, r⟩) t8 fun c o c1 c2 c3 c4 e => up c o c1 (e5 c o c1 c2 c3 c4 e)
end
end L2
namespace L2
open PySem PySem.Spec PyProof.Rows
section
variable {prog : Program} {w : World} {A : Around} {E : Value -> Shared -> Prop} {s : Shared} {z TI TO i1 i2 a b : Addr} {i : Nat} {xs ys : Array Value}
theorem zipT_end {Q : Option Value -> Shared -> Prop} (hh : A.in1.handled = none) (D : ZipNe z TI TO i1 i2) (S : ZipT s.heap z TI TO i1 i2 a b i) (ha : s.heap.IsTuple a xs) (hb : s.heap.IsTuple b ys) (haz : a ≠ z /\ a ≠ TO) (hbz : b ≠ z /\ b ≠ TO) (hend : xs[i]? = none ∨ ys[i]? = none)
  (q : ∀ h', (∀ c o, c ≠ z -> c ≠ TO -> c ≠ i1 -> c ≠ i2 -> s.heap.get? c = some o -> h'.get? c = some o) -> Q none { s with heap := h' }) :
  wpAny (model prog w) A (pyNext (.ref z)) Q E s := by
 obtain ⟨hz, hti, ⟨p0, p1, hto⟩, h1, h2⟩ := S
 have bi1 := tupNe hb h1
 have hT : s.TypeIs (.ref z) "zip" := ⟨_, hz, rfl⟩
 unfold pyNext
 refine wpAny_bind (wpAny_attempt (wpAny_callSpecial?_slot (name := Str.ofString "__next__") hT F.slot_zip_next (wpAny_call_entry F.slot_zip_next hT F.entry_zip_next ?_ (F.args_zip_next_1 _))))
 show wpAny _ _ (field (.ref z) 2 >>= _) _ _ _
 refine wpAny_bind (wpAny_field hz rfl (x := .bool false) rfl ?_); show wpAny _ _ (field (.ref z) 3 >>= _) _ _ _
 refine wpAny_bind (wpAny_field hz rfl (x := .ref TI) rfl (wpAny_bind (wpAny_seqItems hti rfl ?_)))
 show wpAny _ _ (Builtin.SmallTypes.ownedTupleIsFree (.ref z) >>= _) _ _ _
 refine wpAny_bind ?_
 unfold Builtin.SmallTypes.ownedTupleIsFree
 refine wpAny_bind (wpAny_field hz rfl (x := .none) rfl (wpAny_pure ?_)); simp only [if_true]
 refine wpAny_bind (wpAny_rule (wpAny_bind (wpAny_field hz rfl (x := .ref TO) rfl (wpAny_bind (wpAny_setField_rec hz (by simp) fun g1 k1 s1 => ?_)))))
 replace k1 : IsZip g1 z TI TO .ellipsis := k1
 refine wpAny_bind ?_
 simp only [List.zipIdx_cons, List.zipIdx_nil, List.forIn_cons, List.forIn_nil]
 have fin : ∀ (g : Heap) (e : Addr), IsZip g z TI TO .ellipsis -> (∀ c o, c ≠ z -> c ≠ TO -> c ≠ i1 -> c ≠ i2 -> s.heap.get? c = some o -> g.get? c = some o) -> (∃ o, g.get? e = some o /\ o.cls = .type "StopIteration") ->
   wpAny (model prog w) A.in1 (setField (.ref z) 0 .none) (fun _ s' => wpAny (model prog w) A (do if <- isInstance (.ref e) (.type "StopIteration") then pure none else throw (Value.ref e)) Q E s') (fun e' s' => wpAny (model prog w) A (do if <- isInstance e' (.type "StopIteration") then pure none else throw e') Q E s') { s with heap := g } := by
  rintro g e kz kk ⟨oe, f1, f2⟩
  have ez : e ≠ z := fun y => by subst y; rw [kz] at f1; cases f1; injection f2 with z2; revert z2; decide
  refine wpAny_setField_rec kz (by simp) fun g' _ s' => ?_
  refine wpAny_bind (wpAny_isInstance (T := "StopIteration") (b := true) ⟨oe, s'.extBut _ _ ez f1, f2⟩ isSubtype_stop ?_)
  exact wpAny_pure (q g' fun c o c1 c2 c3 c4 y => s'.extBut _ _ c1 (kk c o c1 c2 c3 c4 y))
 refine wpAny_bind (wpAny_bind (wpAny_onRaise ?_)); show wpAny _ _ (Builtin.SmallTypes.nextOf (.ref i1) >>= _) _ _ _
 cases hx : xs[i]? with
 | none =>
  refine wpAny_bind (nextT_end hh (h1.extBut s1.extBut D.cz) (ha.extBut s1.extBut haz.1) hx fun g2 e s2 he => ?_)
  exact fin g2 e (s2 _ _ D.cz.symm k1) (fun c o c1 _ c3 _ y => s2 _ _ c3 (s1.extBut _ _ c1 y)) he
 | some x =>
  have hy : ys[i]? = none := by rcases hend with h | h; rw [hx] at h; cases h; exact h
  refine wpAny_bind (nextT_item (h1.extBut s1.extBut D.cz) (ha.extBut s1.extBut haz.1) hx fun g2 j2 s2 => wpAny_pure ?_)
  have t2 : IsPair g2 TO p0 p1 := s2.extBut _ _ D.bc (s1.extBut _ _ D.bz hto)
  refine wpAny_bind (wpAny_seqItems t2 rfl (wpAny_bind (pairSet t2 fun g3 t3 s3 => ?_)))
  refine wpAny_bind (wpAny_letGo (wpAny_pure ?_))
  refine wpAny_bind (wpAny_bind (wpAny_onRaise ?_)); show wpAny _ _ (Builtin.SmallTypes.nextOf (.ref i2) >>= _) _ _ _
  have e3 : ∀ c o, c ≠ z -> c ≠ i1 -> c ≠ TO -> s.heap.get? c = some o -> g3.get? c = some o := fun c o c1 c2 c3 e => s3.extBut _ _ c3 (s2.extBut _ _ c2 (s1.extBut _ _ c1 e))
  have h23 : g3.IsTupleIter i2 b i := let ⟨o, ho, r⟩ := h2; ⟨o, e3 _ _ D.dz D.cd.symm D.bd.symm ho, r⟩
  have hb3 : g3.IsTuple b ys := let ⟨o, ho, r⟩ := hb; ⟨o, e3 _ _ hbz.1 bi1 hbz.2 ho, r⟩
  refine wpAny_bind (nextT_end hh h23 hb3 hy fun g4 e s4 he => ?_)
  exact fin g4 e (s4 _ _ D.dz.symm (s3.extBut _ _ D.bz.symm (s2.extBut _ _ D.cz.symm k1))) (fun c o c1 c2 c3 c4 y => s4 _ _ c4 (e3 c o c1 c3 c2 y)) he
noncomputable abbrev zT1 (h : Heap) (l1 : Addr) : Heap := h.push { cls := .type "tuple_iterator", data := .fields #[.ref l1, .int 0 0] }
noncomputable abbrev zT2 (h : Heap) (l1 l2 : Addr) : Heap := (zT1 h l1).push { cls := .type "tuple_iterator", data := .fields #[.ref l2, .int 0 0] }
noncomputable abbrev zT3 (h : Heap) (l1 l2 : Addr) : Heap := (zT2 h l1 l2).push { cls := .type "tuple", data := .seq #[.ref h.objs.size, .ref (zT1 h l1).objs.size] }
noncomputable abbrev zT4 (h : Heap) (l1 l2 : Addr) : Heap := (zT3 h l1 l2).push { cls := .type "tuple", data := .seq #[.none, .none] }
noncomputable abbrev zT5 (h : Heap) (l1 l2 : Addr) : Heap := (zT4 h l1 l2).push { cls := .type "zip", data := .fields #[.none, .bool false, .bool false, .ref (zT2 h l1 l2).objs.size, .ref (zT3 h l1 l2).objs.size] }
theorem zip_newT (l1 l2 : Addr) (xs ys : Array Value) :
  Meets (Builtin.«zip.__new__» ⟨[.type "zip", .ref l1, .ref l2], []⟩) (fun _ R s => s.heap.IsTuple l1 xs /\ s.heap.IsTuple l2 ys /\ R (.ok (.ret (.ref (zT4 s.heap l1 l2).objs.size))) { s with heap := zT5 s.heap l1 l2 }) :=
 .of_wp fun prog w A R s h => by
  obtain ⟨hp, g, d, tk, os⟩ := s; obtain ⟨hl1, hl2, h⟩ := h
  have hsub := sub_zip
  have hL1 : Heap.IsTuple (Shared.heap ⟨hp, g, d, tk, os⟩) l1 xs := hl1
  have hL2 : Heap.IsTuple (Shared.heap ⟨hp.push { cls := .type "tuple_iterator", data := .fields #[.ref l1, .int 0 0] }, g, d, tk, os⟩) l2 ys := Heap.IsTuple.push hl2 _
  wp_walk using wpAny_pyIter_tuple hL1, wpAny_pyIter_tuple hL2
  exact ⟨_, rfl, h⟩
theorem call_zipT {l1 l2 : Addr} {Q : Value -> Shared -> Prop} (hl1 : s.heap.IsTuple l1 xs) (hl2 : s.heap.IsTuple l2 ys)
  (h : ∀ h', ZipT h' (s.heap.objs.size + 4) (s.heap.objs.size + 2) (s.heap.objs.size + 3) s.heap.objs.size (s.heap.objs.size + 1) l1 l2 0 -> (∀ c o, s.heap.get? c = some o -> h'.get? c = some o) -> Q (.ref (s.heap.objs.size + 4)) { s with heap := h' }) :
  wpAny (model prog w) A (call (.type "zip") [.ref l1, .ref l2]) Q E s := by
 refine callType_new F.called_zip (by decide) (F.typeCall_zip_2 _ _) (F.newCall_zip_2 _ _) (fun obj => F.args_object_init_3 obj _ _) F.entry_zip_new (zip_newT l1 l2 xs ys) ⟨hl1, hl2, ?_⟩
 have z1 : (zT1 s.heap l1).objs.size = s.heap.objs.size + 1 := Heap.size_push ..
 have z2 : (zT2 s.heap l1 l2).objs.size = s.heap.objs.size + 2 := by rw [Heap.size_push, z1]
 have z3 : (zT3 s.heap l1 l2).objs.size = s.heap.objs.size + 3 := by rw [Heap.size_push, z2]
 have z4 : (zT4 s.heap l1 l2).objs.size = s.heap.objs.size + 4 := by rw [Heap.size_push, z3]
 have p1 : ∀ {g : Heap} {c o u}, g.get? c = some o -> (g.push u).get? c = some o := fun e => Heap.get?_push_of_some _ e
 have g5 : (zT5 s.heap l1 l2).get? (zT4 s.heap l1 l2).objs.size = some _ := Heap.get?_push_size _ rfl
 have g4 : (zT5 s.heap l1 l2).get? (zT3 s.heap l1 l2).objs.size = some _ := p1 (Heap.get?_push_size _ rfl)
 have g3 : (zT5 s.heap l1 l2).get? (zT2 s.heap l1 l2).objs.size = some _ := p1 (p1 (Heap.get?_push_size _ rfl))
 have g2 : (zT5 s.heap l1 l2).get? (zT1 s.heap l1).objs.size = some _ := p1 (p1 (p1 (Heap.get?_push_size _ rfl)))
 have g1 : (zT5 s.heap l1 l2).get? s.heap.objs.size = some _ := p1 (p1 (p1 (p1 (Heap.get?_push_size _ rfl))))
 show _ /\ _
 rw [z2, z3, z4] at g5
 rw [z1, z2] at g3
 rw [z3] at g4
 rw [z1] at g2
 rw [z4]
 exact ⟨⟨_, g5, rfl⟩, h _ ⟨g5, g3, ⟨_, _, g4⟩, ⟨_, g1, rfl, rfl⟩, ⟨_, g2, rfl, rfl⟩⟩ fun c o x => p1 (p1 (p1 (p1 (p1 x))))⟩
end
noncomputable def Itz (K : PySem.W.Frag) (a b : Addr) : It :=
 ⟨fun i H => ∃ xs ys x y, SqT K H a xs /\ SqT K H b ys /\ xs[i]? = some x /\ ys[i]? = some y, fun i H v H' => ∃ t x y, H t = none /\ v = .ref t /\ H' = upd H t (.tup [x, y]) /\ ∀ xs ys, SqT K H a xs -> SqT K H b ys -> xs[i]? = some x /\ ys[i]? = some y,
  fun i H => ∃ xs ys, SqT K H a xs /\ SqT K H b ys /\ (xs[i]? = none ∨ ys[i]? = none)⟩
theorem zipNe_of {z TI TO i1 i2 : Addr} {h : Heap} {a b : Addr} {i : Nat} (S : ZipT h z TI TO i1 i2 a b i) (h1 : TI ≠ TO) (h2 : i1 ≠ i2) : ZipNe z TI TO i1 i2 := by
 obtain ⟨hz, hti, ⟨p0, p1, hto⟩, ⟨o1, e1, c1, d1⟩, ⟨o2, e2, c2, d2⟩⟩ := S
 refine ⟨fun e => ?_, fun e => ?_, fun e => ?_, fun e => ?_, h1, fun e => ?_, fun e => ?_, fun e => ?_, fun e => ?_, h2⟩
 ·have q := (show h.get? TI = _ from hti); rw [e, show h.get? z = _ from hz] at q; injection q with q; injection q with q1; injection q1 with q2; revert q2; decide
 ·have q := (show h.get? TO = _ from hto); rw [e, show h.get? z = _ from hz] at q; injection q with q; injection q with q1; injection q1 with q2; revert q2; decide
 ·rw [e, hz] at e1; cases e1; injection c1 with q2; revert q2; decide
 ·rw [e, hz] at e2; cases e2; injection c2 with q2; revert q2; decide
 ·rw [<- e, hti] at e1; cases e1; injection c1 with q2; revert q2; decide
 ·rw [<- e, hti] at e2; cases e2; injection c2 with q2; revert q2; decide
 ·rw [<- e, hto] at e1; cases e1; injection c1 with q2; revert q2; decide
 ·rw [<- e, hto] at e2; cases e2; injection c2 with q2; revert q2; decide
theorem SqT.fpNe {X : Cx} {pins : List (Addr × Obj)} {σ : St} {H : Hp} {s : Shared} {t c : Addr} {zs : List V} (I : Inv X pins σ H s) (hq : SqT X.K H t zs) (f : FpOk X pins H c) : t ≠ c := by
 rintro rfl
 rcases hq with (h | ⟨o, h⟩) | h
 ·rw [f.1] at h; cases h
 ·rw [f.1] at h; cases h
 ·obtain ⟨o, _, _, hl, _⟩ := h
  have e := I.ok.mod.kin _ _ hl
  rcases f.2.2.2.1 with z | z
  ·exact I.ok.noex _ _ e z
  ·exact absurd (Nat.lt_of_lt_of_le (Heap.lt_size e) (Nat.le_trans I.ok.bsz z)) (Nat.lt_irrefl _)
theorem turn_zipT {P : Program} {w : World} {K : PySem.W.Frag} {els : List Expr} {kx} {tp : Pos} (a b z TI TO i1 i2 : Addr) (h1 : TI ≠ TO) (h2 : i1 ≠ i2) : Turn P w K (.Tuple els kx tp) (Itz K a b) [z, TI, TO, i1, i2] z (fun i h => ZipT h z TI TO i1 i2 a b i) where
 mem := by simp
 obj := fun i h st c hc => by
  obtain ⟨hz, hti, ⟨p0, p1, hto⟩, ⟨o1, e1, c1, d1⟩, ⟨o2, e2, c2, d2⟩⟩ := st
  simp only [List.mem_cons, List.not_mem_nil, or_false] at hc
  rcases hc with rfl | rfl | rfl | rfl | rfl
  ·exact ⟨_, hz, fun v q => by cases q⟩
  ·exact ⟨_, hti, fun v q => by cases q⟩
  ·exact ⟨_, hto, fun v q => by cases q⟩
  ·exact ⟨_, e1, fun v q => by rw [d1] at q; cases q⟩
  ·exact ⟨_, e2, fun v q => by rw [d2] at q; cases q⟩
 keep := fun i h h' st k => by
  obtain ⟨hz, hti, ⟨p0, p1, hto⟩, ⟨o1, e1, r1⟩, ⟨o2, e2, r2⟩⟩ := st
  exact ⟨k _ (by simp) _ hz, k _ (by simp) _ hti, ⟨p0, p1, k _ (by simp) _ hto⟩, ⟨o1, k _ (by simp) _ e1, r1⟩, ⟨o2, k _ (by simp) _ e2, r2⟩⟩
 item := by
  intro X hP hw hK hc i pins s σ H E I hf st hg
  subst hP hw hK
  obtain ⟨xs, ys, x, y, hqa, hqb, hx, hy⟩ := hg
  obtain ⟨its, rv, p, _⟩ := I.tuple hqa
  obtain ⟨jts, rw', p', _⟩ := I.tuple hqb
  obtain ⟨u, hu, ru⟩ := rv.get hx
  obtain ⟨v, hv, rvv⟩ := rw'.get hy
  have D := zipNe_of st h1 h2
  obtain ⟨hz, hti, ⟨p0, p1, hto⟩, hi1, hi2⟩ := id st
  have apart : ∀ {t : Addr} {zs : List V}, SqT X.K H t zs -> t ≠ z /\ t ≠ TO := fun hq => ⟨SqT.fpNe I hq (hf z (by simp)), SqT.fpNe I hq (hf TO (by simp))⟩
  refine zipT_item D st p p' (apart hqa) (apart hqb) (by simpa using hu) (by simpa using hv) fun g k1 k2 k3 k4 k5 k6 k7 => ?_
  refine ⟨_, rfl, wpAny_letOwnedTupleGo_zip k1 fun g2 l1 s2 => ?_⟩
  have hne0 : s.heap.objs.size ≠ z := Nat.ne_of_gt (Heap.lt_size hz)
  have keep : ∀ c o, c ∉ [z, TI, TO, i1, i2] -> s.heap.get? c = some o -> g2.get? c = some o := fun c o hc e => s2.extBut _ _ (fun q => hc (by simp [q])) (k7 c o (fun q => hc (by simp [q])) (fun q => hc (by simp [q])) (fun q => hc (by simp [q])) (fun q => hc (by simp [q])) e)
  refine ⟨.ref s.heap.objs.size, _, I.turnedT (h' := g2) (t' := s.toks) (xs := [x, y]) hf keep (.cons ru (.cons rvv .nil)) ⟨_, s2.extBut _ _ hne0 k6, rfl, ⟨_, rfl⟩, rfl, rfl⟩ (by show 2 <= sizeLine; decide), rfl,
   ⟨_, x, y, I.hok.fresh (Nat.le_refl _), rfl, rfl, fun as bs ha hb => ⟨by rw [I.tuple_inj ha hqa]; exact hx, by rw [I.tuple_inj hb hqb]; exact hy⟩⟩, ⟨l1, s2.extBut _ _ D.az k2, ⟨_, _, s2.extBut _ _ D.bz k3⟩, k4.extBut s2.extBut D.cz, k5.extBut s2.extBut D.dz⟩, fun c hc => ?_⟩
  have : c < s.heap.objs.size := by
   obtain ⟨o1, e1, _⟩ := hi1
   obtain ⟨o2, e2, _⟩ := hi2
   simp only [List.mem_cons, List.not_mem_nil, or_false] at hc
   rcases hc with rfl | rfl | rfl | rfl | rfl
   ·exact Heap.lt_size hz
   ·exact Heap.lt_size hti
   ·exact Heap.lt_size hto
   ·exact Heap.lt_size e1
   ·exact Heap.lt_size e2
  rw [upd_ne (Nat.ne_of_lt this)]
  exact (hf c hc).1
 done := by
  intro X hP hw hK hc i pins s σ H E I hf st hg
  subst hP hw hK
  obtain ⟨xs, ys, hqa, hqb, hx⟩ := hg
  obtain ⟨its, rv, p, _⟩ := I.tuple hqa
  obtain ⟨jts, rw', p', _⟩ := I.tuple hqb
  have D := zipNe_of st h1 h2
  have apart : ∀ {t : Addr} {zs : List V}, SqT X.K H t zs -> t ≠ z /\ t ≠ TO := fun hq => ⟨SqT.fpNe I hq (hf z (by simp)), SqT.fpNe I hq (hf TO (by simp))⟩
  refine zipT_end (I.ok.hd hc) D st p p' (apart hqa) (apart hqb) (hx.elim (fun q => .inl (by simpa using rv.none_of q)) fun q => .inr (by simpa using rw'.none_of q)) fun g k => ⟨rfl, ?_⟩
  exact I.turnedN (t' := s.toks) hf fun c o hc e => k c o (fun q => hc (by simp [q])) (fun q => hc (by simp [q])) (fun q => hc (by simp [q])) (fun q => hc (by simp [q])) e
 self := fun _ _ _ _ _ st h => wpAny_pyIter_zip st.z h
section
variable {X : Cx}
noncomputable def iZip (K : PySem.W.Frag) (ta : TA) : TI := fun σ H R => ta σ H fun vs H1 => ∃ a b, vs = [.ref a, .ref b] /\ (∃ xs, SqT K H1 a xs) /\ (∃ ys, SqT K H1 b ys) /\ R (Itz K a b) H1
theorem pi_zipT {els : List Expr} {kx} {tp : Pos} {l l' : Expr} {ta : TA} {p pos : Pos} (hg : Gl X "zip") (hm : X.mg "zip" = none) (ha : PA X [l, l'] ta) (hs : starEach [l, l'] X.env = [(false, eval l X.env), (false, eval l' X.env)] := by rfl) (hs2 : starEach [l'] X.env = [(false, eval l' X.env)] := by rfl) :
  PI X (.Tuple els kx tp) (.Call (.Name "zip" p) [l, l'] [] pos) (iZip X.K ta) := by
 intro pins s σ H R I h
 refine Call_ (ld_blt I hg hm boot_zip (PyProof.Rows.callWith_type1 (thn (ha pos pins s σ H _ I h) fun us s1 ⟨vs, H1, I1, r1, q1⟩ => ?_) (by rw [hs, hs2]) (by rw [hs2]; rfl)))
 obtain ⟨a, b, rfl, ⟨xs, hqa⟩, ⟨ys, hqb⟩, q⟩ := q1
 obtain ⟨u, v, rfl, ru, rv⟩ := vals2 r1
 cases (show u = Value.ref a from ru)
 cases (show v = Value.ref b from rv)
 obtain ⟨its, _, p1, _⟩ := I1.tuple hqa
 obtain ⟨jts, _, p2, _⟩ := I1.tuple hqb
 refine call_zipT (show s1.heap.IsTuple a its.toArray from p1) (show s1.heap.IsTuple b jts.toArray from p2) fun h' S hk => wpAny_pyIter_zip S.z ?_
 have I2 : Inv X pins σ H1 { s1 with heap := h' } := I1.kept (t' := s1.toks) hk
 refine ⟨_, _, _, _, H1, rfl, I2, turn_zipT a b _ _ _ _ _ (Nat.ne_of_lt (Nat.lt_succ_self _)) (Nat.ne_of_lt (Nat.lt_succ_self _)), S, fun c hc => ?_, q⟩
 have : s1.heap.objs.size <= c := by
  simp only [List.mem_cons, List.not_mem_nil, or_false] at hc
  rcases hc with rfl | rfl | rfl | rfl | rfl <;> first | exact Nat.le_refl _ | exact Nat.le_add_right _ _ | exact Nat.le_succ _ | exact Nat.le_succ_of_le (Nat.le_add_right _ _)
 exact I1.fpOk this (I1.hok.fresh this)
end
end L2
namespace L2
open PySem PySem.Spec PyProof.Rows
section
variable {X : Cx} {e : Expr} {te : TE} {p2 pos : Pos}
end
end L2
namespace L2
open PySem PySem.Spec PyProof.Rows
section
variable {X : Cx}
end
end L2
namespace L2
open PySem PySem.Spec PyProof.Rows
theorem range_all_getD (f : Nat -> Bool) : ∀ (bs : List Bool), (∀ i, i < bs.length -> f i = bs.getD i false) -> (List.range bs.length).all f = bs.all id := by
 intro bs h
 rw [Bool.eq_iff_iff, List.all_eq_true, List.all_eq_true]
 constructor
 ·intro q b hb
  obtain ⟨i, hi, e⟩ := List.getElem_of_mem hb
  have := q i (List.mem_range.mpr hi)
  rw [h i hi, List.getD_eq_getElem?_getD, List.getElem?_eq_getElem hi, e] at this
  exact this
 ·intro q i hi
  have hi' := List.mem_range.mp hi
  rw [h i hi', List.getD_eq_getElem?_getD, List.getElem?_eq_getElem hi']
  exact q _ (List.getElem_mem hi')
section
variable {X : Cx}
noncomputable def rIsi (K : PySem.W.Frag) : List V -> Hp -> VK -> Prop := fun xs H Q => ∃ x T t b, xs = [x, .ty T] /\ TyOf K H x t /\ PySem.W.kitOne K t (.type T) = some b /\ Q (.bl b) H
theorem call_isi : CallR X (.builtin "isinstance") (rIsi X.K) := by
 intro pins s σ H xs us Q I rs h
 obtain ⟨x, T, t, b, rfl, ty, e, q⟩ := h
 obtain ⟨u, c, rfl, ru, rc⟩ := vals2 rs
 cases (show c = Value.type T from rc)
 exact isinst_ok I ru ty e fun tk => ⟨.bl b, H, I.tok tk, rfl, q⟩
noncomputable def rAll : List V -> Hp -> VK -> Prop := fun xs H Q => ∃ (a : Addr) (bs : List Bool), xs = [.ref a] /\ H a = some (.lst (bs.map V.bl)) /\ Q (.bl (bs.all id)) H
theorem call_all (hc : X.calm = true) : CallR X (.builtin "all") rAll := by
 intro pins s σ H xs us Q I rs h
 obtain ⟨a, bs, rfl, ha, q⟩ := h
 obtain ⟨u, rfl, ru⟩ := vals1 rs
 cases (show u = Value.ref a from ru)
 obtain ⟨hz, its, n, rv, ho⟩ := (show ObjOk X.prog X.w H s.heap a (.lst (bs.map V.bl)) from I.hok a _ ha)
 have hl : s.heap.IsList a its.toArray := ⟨_, ho, rfl, n, rfl⟩
 have hh : X.A.in1.handled = none := I.ok.hd hc
 have hlen : its.length = bs.length := by rw [<- rv.length, List.length_map]
 have hne : a ≠ s.heap.objs.size := Nat.ne_of_lt (Heap.lt_size ho)
 have hit : ∀ (i : Nat) v, its.toArray[i]? = some v -> v = Value.bool (bs.getD i false) := fun i v e => by
  have e' : its[i]? = some v := by simpa using e
  have hi : i < bs.length := by rw [<- hlen]; exact (List.getElem?_eq_some_iff.mp e').1
  obtain ⟨u, hu, ru⟩ := rv.get (i := i) (x := V.bl bs[i]) (by rw [List.getElem?_map, List.getElem?_eq_getElem hi]; rfl)
  rw [e'] at hu; cases hu
  cases (show v = Value.bool bs[i] from ru)
  rw [List.getD_eq_getElem?_getD, List.getElem?_eq_getElem hi]
  rfl
 refine call_all_walk (wpAny_pyIter_list hl ⟨s.heap.objs.size, _, _, _, _, _, fun i => bs.getD i false, rfl, Walks.list hh _ a hne its.toArray, ⟨⟨_, Heap.get?_push_size _ rfl, rfl, rfl⟩, hl.push _⟩, ?_, fun h' tk hk => ?_⟩)
 ·intro i v s' Q' E' hP hQ
  rw [hit i v hP]
  exact wpAny_truthy_bool hQ
 ·refine ⟨.bl (bs.all id), H, I.kept (t' := tk) fun b o e => hk b o ?_ (Heap.get?_push_of_some _ e), ?_, q⟩
  ·exact fun hm => absurd (List.mem_singleton.mp hm) (Nat.ne_of_lt (Heap.lt_size e))
  ·show Value.bool _ = Value.bool _
   have hs : its.toArray.size = bs.length := by simpa using hlen
   rw [hs, range_all_getD _ bs fun i _ => rfl]
end
end L2
namespace L2
open PySem PySem.Spec PyProof.Rows
mutual
inductive Is (H : Hp) : V -> PyData -> Prop
 | non : Is H .non .none
 | bl (b : Bool) : Is H (.bl b) (.bool b)
 | int (i : Int) : Is H (.int i) (.int i)
 | str (x : Str) : Is H (.str x) (.str x)
 | tup {a : Addr} {vs : List V} {ds : List PyData} : H a = some (.tup vs) -> IsAll H vs ds -> Is H (.ref a) (.tuple ds)
 | lst {a : Addr} {vs : List V} {ds : List PyData} : H a = some (.lst vs) -> IsAll H vs ds -> Is H (.ref a) (.list ds)
inductive IsAll (H : Hp) : List V -> List PyData -> Prop
 | nil : IsAll H [] []
 | cons {v : V} {vs : List V} {d : PyData} {ds : List PyData} : Is H v d -> IsAll H vs ds -> IsAll H (v :: vs) (d :: ds)
end
theorem IsAll.ints {H : Hp} : ∀ ns : List Int, IsAll H (ns.map V.int) (ns.map PyData.int)
 | [] => .nil
 | n :: r => .cons (.int n) (IsAll.ints r)
theorem Is.ints {H : Hp} {a : Addr} {ns : List Int} (h : H a = some (.tup (ns.map V.int))) : Is H (.ref a) (.tuple (ns.map PyData.int)) := .tup h (IsAll.ints ns)
section
variable {X : Cx} {pins : List (Addr × Obj)} {σ : St} {H : Hp} {s : Shared}
mutual
theorem Inv.reads (I : Inv X pins σ H s) : ∀ {v : V} {d : PyData} {u : Value}, Is H v d -> RelV v u -> ∃ as, Reads s.heap u d as
 | _, _, _, .non, r => by cases (show _ = Value.none from r); exact ⟨_, .none⟩
 | _, _, _, .bl b, r => by cases (show _ = Value.bool b from r); exact ⟨_, .bool b⟩
 | _, _, _, .int i, r => by obtain ⟨t, rfl⟩ := r; exact ⟨_, .int i t⟩
 | _, _, _, .str x, r => by obtain ⟨t, rfl⟩ := r; exact ⟨_, .str x t⟩
 | _, _, _, .tup (a := a) (vs := vs) h al, r => by
  cases (show _ = Value.ref a from r)
  obtain ⟨_, its, rv, o, ho, hc, ⟨n, hd⟩, _⟩ := (show ObjOk X.prog X.w H s.heap a (.tup vs) from I.hok a _ h)
  obtain ⟨as, q⟩ := Inv.readsAll I al rv
  exact ⟨as, .tuple ho hc hd (by simpa using q)⟩
 | _, _, _, .lst (a := a) (vs := vs) h al, r => by
  cases (show _ = Value.ref a from r)
  obtain ⟨_, its, n, rv, ho⟩ := (show ObjOk X.prog X.w H s.heap a (.lst vs) from I.hok a _ h)
  obtain ⟨as, q⟩ := Inv.readsAll I al rv
  exact ⟨_, .list ho rfl rfl (by simpa using q)⟩
theorem Inv.readsAll (I : Inv X pins σ H s) : ∀ {vs : List V} {ds : List PyData} {us : List Value}, IsAll H vs ds -> Vals vs us -> ∃ as, ReadsAll s.heap us ds as
 | _, _, _, .nil, .nil => ⟨_, .nil⟩
 | _, _, _, .cons h al, .cons r rs => by
  obtain ⟨as, q⟩ := Inv.reads I h r
  obtain ⟨bs, q'⟩ := Inv.readsAll I al rs
  exact ⟨_, .cons q q'⟩
end
noncomputable def rEqD : R2 := fun x y H Q => ∃ d e, Is H x d /\ Is H y e /\ SeqAt.shaped d = true /\ SeqAt.shaped e = true /\ Q (.bl (PyData.eqv d e)) H
noncomputable def rNeD : R2 := fun x y H Q => ∃ d e, Is H x d /\ Is H y e /\ SeqAt.shaped d = true /\ SeqAt.shaped e = true /\ Q (.bl (!PyData.eqv d e)) H
theorem op_eqD (hu : X.A.units + 64 < cLine) : OpR X (compareOp .Eq) rEqD := by
 intro pins s σ H x y v u Q I rx ry h
 obtain ⟨d, e, hd, he, sd, se, q⟩ := h
 obtain ⟨as, ra⟩ := I.reads hd rx
 obtain ⟨bs, rb⟩ := I.reads he ry
 exact eq_dataH ra rb sd se hu ⟨.bl _, H, I, rfl, q⟩
theorem op_neD (hu : X.A.units + 64 < cLine) : OpR X (compareOp .NotEq) rNeD := by
 intro pins s σ H x y v u Q I rx ry h
 obtain ⟨d, e, hd, he, sd, se, q⟩ := h
 obtain ⟨as, ra⟩ := I.reads hd rx
 obtain ⟨bs, rb⟩ := I.reads he ry
 exact ne_dataH ra rb sd se hu ⟨.bl _, H, I, rfl, q⟩
end
theorem lay_ints : ∀ ns : List Int, PyData.canLayAll0 (ns.map PyData.int) = true
 | [] => rfl
 | _ :: r => by simp [PyData.canLayAll0, PyData.canLay0, lay_ints r]
theorem deep_ints : ∀ ns : List Int, PyData.depthAll (ns.map PyData.int) = 0
 | [] => rfl
 | _ :: r => by simp [PyData.depthAll, PyData.depth, deep_ints r]
theorem shaped_tints (ns : List Int) : SeqAt.shaped (.tuple (ns.map PyData.int)) = true := by
 simp [SeqAt.shaped, PyData.canLay0, PyData.depth, lay_ints, deep_ints]
theorem eqv_ints : ∀ ns ms : List Int, PyData.eqvAll (ns.map PyData.int) (ms.map PyData.int) = decide (ns = ms)
 | [], [] => by simp [PyData.eqvAll]
 | [], _ :: _ => by simp [PyData.eqvAll]
 | _ :: _, [] => by simp [PyData.eqvAll]
 | a :: r, b :: t => by
  simp only [List.map_cons, PyData.eqvAll, PyData.eqv, eqv_ints r t]
  by_cases h : a = b <;> by_cases h' : r = t <;> simp [h, h']
end L2
namespace L2
open PySem PySem.Spec PyProof.Rows
noncomputable def cscopeB (sc : Scope) (N : List Str) (scope : Scope) (N' : List Str) (n : Nat) (ix : List Nat) : Bool :=
 scope.kind == .function && scope.names.all (fun y => y.2 != .cell) && scope.names.all (fun y => y.2 != .local || scope.names.lookup y.1 == some .local) &&
 scope.names.all (fun y => y.2 != .free || (sc.names.lookup y.1 == some .cell || sc.names.lookup y.1 == some .free)) && scope.names.all (fun y => y.2 != .free || scope.names.lookup y.1 != some .local) &&
 N'.length == n + ix.length && (List.range ix.length).all fun j => match ix[j]?, N'[n + j]? with
  | some i, some x => N[i]? == some x && scope.names.contains (x, .free)
  | _, _ => false
theorem CompScope.of {X : Cx} {sc : Scope} {N : List Str} {scope : Scope} {N' : List Str} {n : Nat} {ix : List Nat} (h : cscopeB sc N scope N' n ix = true) (hs : X.env.scope = sc) (hN : X.N = N) : CompScope X scope N' n ix := by
 unfold cscopeB at h
 simp only [Bool.and_eq_true, List.all_eq_true] at h
 obtain ⟨⟨⟨⟨⟨⟨h1, h2⟩, h3⟩, h4⟩, h5⟩, h6⟩, h7⟩ := h
 subst hs hN
 refine ⟨eq_of_beq h1, fun y hy => by simpa using h2 y hy, fun y hy hl => ?_, fun y hy hf => ?_, fun y hy hl => ?_, eq_of_beq h6, fun j i e => ?_⟩
 ·have := h3 y hy
  rw [hl] at this
  simpa using this
 ·have := h4 y hy
  rw [hf] at this
  simpa using this
 ·have := h5 _ hy
  rw [hl] at this
  simp at this
 ·have hj : j < ix.length := (List.getElem?_eq_some_iff.mp e).1
  have := h7 j (List.mem_range.mpr hj)
  rw [e] at this
  cases hx : N'[n + j]? with
  | none => rw [hx] at this; simp at this
  | some x =>
   rw [hx] at this
   simp only [Bool.and_eq_true] at this
   exact ⟨x, rfl, eq_of_beq this.1, by simpa using this.2⟩
structure Cal (P : Program) (w : World) (K : PySem.W.Frag) (mg : Str -> Option Value) (base : Heap) (k : Nat) (x : Str) (ps : List Str) (sp : Sp) : Prop where
 ex : ∃ f fd, FnOk P w K mg base CX0 k f fd ps sp /\ mg x = some (.ref f) /\ PySem.W.keepIn K (.ref f) = true /\ Binds K fd ps []
section
variable {X : Cx} {k : Nat} {ps : List Str} {sp : Sp} {x : Str} {p pos : Pos} {e : Expr} {es : List Expr} {t : TA}
theorem pe_cal (C : Cal X.prog X.w X.K X.mg X.base k x ps sp) (hr : Room k X.A) (hg : Gl X x) (ha : PA X (e :: es) t) (hdb : (x == ("__debug__" : Str)) = false := by decide) (he : starEach (e :: es) X.env = (false, eval e X.env) :: starEach es X.env := by rfl)
  (hpl : (backTo pos (starEach es X.env)).any (·.1) = false := by rfl) : PE X (.Call (.Name x p) (e :: es) [] pos) (fun σ H Q => t σ H fun vs H1 => sp vs H1 Q E0) := by
 obtain ⟨f, fd, F, hm, hk, hb⟩ := C.ex
 exact (pe_call F hr hg hm hk hb .nil pass0 ha hdb he hpl).mono fun σ H Q q => by
  have e : (fun (vs : List V) (H1 : Hp) => sp (vs ++ []) H1 Q E0) = fun vs H1 => sp vs H1 Q E0 := by funext vs H1; rw [List.append_nil]
  show t σ H fun vs H1 => sp (vs ++ []) H1 Q E0
  rw [e]
  exact q
end
structure Top (mg : Str -> Option Value) : Prop where
 n_len : mg "len" = none
 n_tuple : mg "tuple" = none
 n_list : mg "list" = none
 n_range : mg "range" = none
 n_int : mg "int" = none
 n_bool : mg "bool" = none
 n_isinstance : mg "isinstance" = none
 n_all : mg "all" = none
 n_zip : mg "zip" = none
 n_enumerate : mg "enumerate" = none
 n_min : mg "min" = none
 n_sum : mg "sum" = none
 n_max : mg "max" = none
 n_abs : mg "abs" = none
 n_sorted : mg "sorted" = none
end L2
namespace L2
open PySem PySem.Spec PyProof.Rows
section
variable {X : Cx}
noncomputable def rCat2 : R2 := fun x y H Q => ∃ a b xs ys, x = .ref a /\ y = .ref b /\ H a = some (.tup xs) /\ H b = some (.tup ys) /\ xs.length + ys.length <= sizeLine /\ ∀ p H', Same H H' -> H' p = some (.tup (xs ++ ys)) -> Q (.ref p) H'
theorem op_cat2 : OpR X (binaryOp .Add) rCat2 := by
 intro pins s σ H x y v u Q I rx ry h
 obtain ⟨a, b, xs, ys, rfl, rfl, ha, hb, hz, q⟩ := h
 have ha' : SqT X.K H a xs := SqT.of ha
 have hb' : SqT X.K H b ys := SqT.of hb
 by_cases hx : xs = []
 ·subst hx
  cases rx
  cases ry
  obtain ⟨its, r1, p1, _⟩ := I.tuple ha'
  obtain ⟨its2, r2, p2, _⟩ := I.tuple hb'
  cases r1
  obtain ⟨⟨cls, dd, data, sl⟩, ho, hc, n, hd⟩ := id p1
  obtain ⟨⟨cls2, dd2, data2, sl2⟩, ho2, hc2, n2, hd2⟩ := id p2
  simp only at hc hd hc2 hd2
  subst hc hd hc2 hd2
  exact concat_meets ⟨_, ho, rfl⟩ ⟨_, ho2, rfl⟩ noFill_tuple_add seq_tuple_add PySem.F.slot_tuple_add PySem.F.entry_tuple_add (PySem.F.args_tuple_add_2 _ _)
   (tuple_addW0 a b #[] its2.toArray n n2 dd dd2 sl sl2 rfl) ⟨ho, ho2, ⟨.ref b, H, I, rfl, q b H (Same.refl H) hb⟩⟩
 ·refine op_catT pins s σ H _ _ v u Q I rx ry ⟨a, b, xs, ys, rfl, rfl, ha', hb', hx, hz, fun hy => ?_, fun _ p hp => ?_⟩
  ·subst hy
   exact q a H (Same.refl H) (by rw [List.append_nil]; exact ha)
  ·exact q p _ (same_upd hp) upd_same
end
theorem small1 {n : Nat} (h : n <= 1000) : n < sizeLine := Nat.lt_of_le_of_lt h (by decide)
theorem mapI_len (ns : List Int) : (ns.map V.int).length = ns.length := List.length_map ..
end L2
namespace L2
open PySem PySem.Spec PyProof.Rows
noncomputable def Keep (p q : Addr) (H H' : Hp) : Prop := ∀ b o, H b = some o -> b ≠ p -> b ≠ q -> H' b = some o
noncomputable def num0 (n : Nat) : List Int := (List.range n).map fun (i : Nat) => (i : Int)
end L2
namespace L2
open PySem PySem.Spec PyProof.Rows
theorem rangeV_num0 (n : Nat) : rangeV 0 n = (num0 n).map V.int := by
 unfold rangeV num0
 rw [List.map_map]
 apply List.map_congr_left
 intro i _
 show V.int (0 + (i : Int)) = V.int (i : Int)
 rw [Int.zero_add]
theorem num0_mem {n : Nat} {x : Int} (h : x ∈ num0 n) : 0 <= x /\ x < n := by
 unfold num0 at h
 obtain ⟨i, hi, rfl⟩ := List.mem_map.mp h
 have := List.mem_range.mp hi
 (first | lia | omega)
end L2
namespace L2
open PySem PySem.Spec PyProof.Rows
theorem kit_tt {K : PySem.W.Frag} {a b : String} {r : Bool} (h : (if (Value.type a == Value.type b) = true then some true else if PySem.W.kitMeta b = true then (fastBuiltinMro a).map (·.contains (Value.type b)) else none) = some r) : PySem.W.kitOne K (.type a) (.type b) = some r := h
theorem kit_int_tuple {K : PySem.W.Frag} : PySem.W.kitOne K (.type "int") (.type "tuple") = some false := kit_tt (by decide +kernel)
theorem kit_int_bool {K : PySem.W.Frag} : PySem.W.kitOne K (.type "int") (.type "bool") = some false := kit_tt (by decide +kernel)
theorem kit_int_int {K : PySem.W.Frag} : PySem.W.kitOne K (.type "int") (.type "int") = some true := kit_tt (by decide +kernel)
theorem kit_tuple_tuple {K : PySem.W.Frag} : PySem.W.kitOne K (.type "tuple") (.type "tuple") = some true := kit_tt (by decide +kernel)
theorem pg_pairK {X : Cx} (K : PySem.W.Frag) {i j : Nat} {x y : Str} {px py pt : Pos} {kt : Nat} (hK : X.K = K) (hc : X.calm = true) (hN : X.N.Nodup) (hi : X.N[i]? = some x) (hj : X.N[j]? = some y) (hx : Loc X.env.scope x) (hy : Loc X.env.scope y) (fx : X.fn x = true ∨ X.env.scope.names.lookup x = some .local) (fy : X.fn y = true ∨ X.env.scope.names.lookup y = some .local) :
  PG X (.Tuple [.Name x px, .Name y py] kt pt) (gTup K 2 (gCons (gName i) (gCons (gName j) gNil))) := hK ▸ pg_tup hc (pgs_cons (pg_name hN hi hx fx) (pgs_cons (pg_name hN hj hy fy) pgs_nil))
theorem ix_tupK {X : Cx} (K : PySem.W.Frag) (hK : X.K = K) : IxR X (rIxT K) := hK ▸ ix_tup
theorem ix_listK {X : Cx} (K : PySem.W.Frag) (hK : X.K = K) : IxR X (rIxL K) := hK ▸ ix_list
theorem paired_get {F : V -> V -> Prop} : ∀ {xs ys : List V}, Paired F xs ys -> ∀ {i : Nat} {x y : V}, xs[i]? = some x -> ys[i]? = some y -> F x y
 | _, _, .nil, _, _, _, h, _ => by simp at h
 | _, _, .cons r _, 0, _, _, h, h' => by simp at h h'; subst h h'; exact r
 | _, _, .cons _ t, i + 1, _, _, h, h' => paired_get t (by simpa using h) (by simpa using h')
end L2
namespace L2
open PySem PySem.Spec PyProof.Rows
theorem eqv_tints (ns ms : List Int) : PyData.eqv (.tuple (ns.map PyData.int)) (.tuple (ms.map PyData.int)) = decide (ns = ms) := eqv_ints ns ms
theorem neTT {H : Hp} {a b : Addr} {ns ms : List Int} {Q : VK} (ha : H a = some (.tup (ns.map V.int))) (hb : H b = some (.tup (ms.map V.int))) (e : ns = ms) (h : Q (.bl false) H) : rNeD (.ref a) (.ref b) H Q := by
 refine ⟨_, _, Is.ints ha, Is.ints hb, shaped_tints ns, shaped_tints ms, ?_⟩
 rw [eqv_tints, decide_eq_true e]
 exact h
theorem at_getD {ys : List Int} {i : Int} (h0 : 0 <= i) (h1 : i < ys.length) : atI (ys.map V.int) i = some (.int (ys.getD i.toNat 0)) := by
 have hlt : i.toNat < ys.length := by (first | lia | omega)
 have e : ((i.toNat : Nat) : Int) = i := by (first | lia | omega)
 have := atI_nat (xs := ys.map V.int) (j := i.toNat) (v := .int (ys.getD i.toNat 0)) (by rw [List.getElem?_map, List.getD_eq_getElem?_getD, List.getElem?_eq_getElem hlt]; rfl)
 rwa [e] at this
theorem mem_rangeV {n : Nat} {x : V} (h : x ∈ rangeV 0 n) : ∃ k : Int, x = .int k /\ 0 <= k /\ k < n := by
 rw [rangeV_num0] at h
 obtain ⟨k, hk, rfl⟩ := List.mem_map.mp h
 exact ⟨k, rfl, num0_mem hk⟩
end L2
namespace L2
open PySem PySem.Spec PyProof.Rows
structure Def (K : PySem.W.Frag) (x : Str) (st : Stmt) : Prop where
 ex : ∃ (f : Addr) (oc : Value) (od an : Option Addr) (kV doc pm cdv ct : Value) (osl : Array (Option Value)), PySem.W.nsIn K mainGlobals x = some (some (.ref f)) /\
  K.lookup f = some ⟨oc, od, .func (PySem.W.fnOf x x (defArgs st) (defBody st) (defScope st) .none kV doc pm an cdv ct), osl⟩ /\ PySem.W.codeIn K cdv x = true /\ PySem.W.keepIn K (.ref f) = true
section
variable {K : PySem.W.Frag} {h : Heap} {mg : Str -> Option Value} {x : Str} {st : Stmt}
theorem Def.of {f : Addr} {oc : Value} {od an : Option Addr} {kV doc pm cdv ct : Value} {osl : Array (Option Value)} (a : PySem.W.nsIn K mainGlobals x = some (some (.ref f)))
  (l : K.lookup f = some ⟨oc, od, .func (PySem.W.fnOf x x (defArgs st) (defBody st) (defScope st) .none kV doc pm an cdv ct), osl⟩) (c : PySem.W.codeIn K cdv x = true) (k : PySem.W.keepIn K (.ref f) = true) : Def K x st :=
 ⟨f, oc, od, an, kV, doc, pm, cdv, ct, osl, a, l, c, k⟩
theorem Def.fn (D : Def K x st) (X : K.In h) (G : h.Ns mainGlobals mg) : ∃ f fd, Fun K x x st f fd /\ mg x = some (.ref f) := by
 obtain ⟨f, oc, od, an, kV, doc, pm, cdv, ct, osl, a, l, c, k⟩ := D.ex
 exact ⟨f, _, fun_mk (st := st) l c k, PySem.W.mg_of X G a⟩
end
structure TopK (K : PySem.W.Frag) : Prop where
 k_len : PySem.W.nsIn K mainGlobals "len" = some none
 k_tuple : PySem.W.nsIn K mainGlobals "tuple" = some none
 k_list : PySem.W.nsIn K mainGlobals "list" = some none
 k_range : PySem.W.nsIn K mainGlobals "range" = some none
 k_int : PySem.W.nsIn K mainGlobals "int" = some none
 k_bool : PySem.W.nsIn K mainGlobals "bool" = some none
 k_isinstance : PySem.W.nsIn K mainGlobals "isinstance" = some none
 k_all : PySem.W.nsIn K mainGlobals "all" = some none
 k_zip : PySem.W.nsIn K mainGlobals "zip" = some none
 k_enumerate : PySem.W.nsIn K mainGlobals "enumerate" = some none
 k_min : PySem.W.nsIn K mainGlobals "min" = some none
 k_sum : PySem.W.nsIn K mainGlobals "sum" = some none
 k_max : PySem.W.nsIn K mainGlobals "max" = some none
 k_abs : PySem.W.nsIn K mainGlobals "abs" = some none
 k_sorted : PySem.W.nsIn K mainGlobals "sorted" = some none
theorem TopK.top {K : PySem.W.Frag} {h : Heap} {mg : Str -> Option Value} (T : TopK K) (X : K.In h) (G : h.Ns mainGlobals mg) : Top mg :=
  ⟨PySem.W.mg_none_of X G T.k_len, PySem.W.mg_none_of X G T.k_tuple, PySem.W.mg_none_of X G T.k_list, PySem.W.mg_none_of X G T.k_range, PySem.W.mg_none_of X G T.k_int, PySem.W.mg_none_of X G T.k_bool, PySem.W.mg_none_of X G T.k_isinstance,
   PySem.W.mg_none_of X G T.k_all, PySem.W.mg_none_of X G T.k_zip, PySem.W.mg_none_of X G T.k_enumerate, PySem.W.mg_none_of X G T.k_min, PySem.W.mg_none_of X G T.k_sum, PySem.W.mg_none_of X G T.k_max, PySem.W.mg_none_of X G T.k_abs, PySem.W.mg_none_of X G T.k_sorted⟩
end L2
namespace L2
open PySem PySem.Spec PyProof.Rows
open Sem (wp)
open AutoSeq1 (wpAny_loadPart')
section
variable {prog : Program} {w : World} {A : Around} {E : Value -> Shared -> Prop} {s : Shared}
end
section
variable {X : Cx}
theorem vals_mem : ∀ {ns : List Int} {its : List Value}, Vals (ns.map V.int) its -> ∀ y ∈ its, ∃ n t, n ∈ ns /\ y = Value.int n t
 | [], _, .nil, _, h => by cases h
 | n :: ns, _, .cons r t, y, h => by
  rcases List.mem_cons.mp h with rfl | h
  ·obtain ⟨t, rfl⟩ := r
   exact ⟨n, t, by simp, rfl⟩
  ·obtain ⟨m, t', hm, rfl⟩ := vals_mem t y h
   exact ⟨m, t', by simp [hm], rfl⟩
end
end L2
namespace L2
open PySem PySem.Spec PyProof.Rows
open Sem (wp)
open AutoSeq1 (wpAny_loadPart')
section
variable {prog : Program} {w : World} {A : Around} {E : Value -> Shared -> Prop} {s : Shared}
end
section
variable {X : Cx} {pos : Pos}
end
section
variable {prog : Program} {w : World} {A : Around} {E : Value -> Shared -> Prop} {s : Shared}
end
section
variable {X : Cx}
end
end L2
namespace L2
open PySem PySem.Spec PyProof.Rows
noncomputable def atO (ns : List Int) (x : Int) : Int := ns.getD x.toNat 0
theorem mem_num0 {n : Nat} {x : Int} : x ∈ num0 n ↔ 0 <= x /\ x < n := by
 refine ⟨num0_mem, fun ⟨h0, h1⟩ => ?_⟩
 unfold num0
 exact List.mem_map.mpr ⟨x.toNat, List.mem_range.mpr (by (first | lia | omega)), by (first | lia | omega)⟩
section
variable {m : Nat} {ns ms ks : List Int} {x : Int}
end
end L2
namespace L2
open PySem PySem.Spec PyProof.Rows
noncomputable def itO (ns : List Int) (x : Int) : Nat -> Int
 | 0 => x
 | k + 1 => atO ns (itO ns x k)
noncomputable def orbO (ns : List Int) (x : Int) (k : Nat) : List Int := (List.range k).map (itO ns x)
structure IsRound (ns : List Int) (x : Int) (row : List Int) : Prop where
 ex : ∃ k, row = orbO ns x (k + 1) /\ itO ns x (k + 1) = x
 nd : row.Nodup
section
variable {m : Nat} {ns : List Int} {x y : Int}
open Classical in
noncomputable def rowO (ns : List Int) (x : Int) : List Int := if h : ∃ row, IsRound ns x row then choose h else []
structure MetO (ns : List Int) (m : Nat) (rows : List (List Int)) : Prop where
 nd : rows.flatten.Nodup
 rng : ∀ y ∈ rows.flatten, 0 <= y /\ y < m
 clo : ∀ y ∈ rows.flatten, atO ns y ∈ rows.flatten
 row : ∀ r ∈ rows, ∃ f : Int, 0 <= f /\ f < m /\ r = rowO ns f
end
end L2
namespace L2
open PySem PySem.Spec PyProof.Rows
section
variable {X : Cx}
end
section
variable {prog : Program} {w : World} {A : Around} {E : Value -> Shared -> Prop} {s : Shared}
theorem getItem_tuple_whole {t sl : Addr} {items : Array Value} {vl vu : Value} {lo hi : Option Int} {Q : Value -> Shared -> Prop} (ht : IsTup s.heap t items) (hs : s.heap.IsSliceOf sl vl vu .none) (pl : IsPart vl lo) (pu : IsPart vu hi)
  (hw : HT.sIx items.size 0 lo = 0 /\ HT.sIx items.size items.size hi = items.size) (h : Q (.ref t) s) : wpAny (model prog w) A (getItem (.ref t) (.ref sl)) Q E s := by
 obtain ⟨os, hos, hcs, hds⟩ := id hs
 have hTs : s.TypeIs (.ref sl) "slice" := ⟨os, hos, hcs⟩
 unfold getItem
 try with_reducible refine wpAny_holding ?_
 first | refine wpAny_bind (wpAny_pure ?_) | skip
 refine wpAny_bind (wpAny_sequenceKey ht.typeIs (by decide) ?_)
 refine wpAny_bind (wpAny_callSpecial?_slot (name := Str.ofString "__getitem__") ht.typeIs PyProof.Rows.slot_tuple_getitem
  (wpAny_call_entry PyProof.Rows.slot_tuple_getitem ht.typeIs entry_tuple_getitem ?_ (args_tuple_getitem _ _)))
 show wpAny _ _ (Builtin.Tuple.tupleItemsOf (.ref t) >>= _) _ _ s
 refine wpAny_bind (tupleItemsOf_ ht ?_)
 refine wpAny_bind (wpAny_typeOf hTs ?_)
 rw [if_pos (by decide)]
 refine wpAny_bind (HT.sliceApplied_gen hs pl pu ?_)
 show wpAny _ _ (if (((HT.sIx items.size 0 lo : Nat) : Int) == 0 && (1 : Int) == 1 && (HT.sIx items.size items.size hi - HT.sIx items.size 0 lo) == items.size) = true then _ else _) _ _ s
 rw [if_pos (by rw [hw.1, hw.2]; simp)]
 unfold Builtin.Tuple.tupleIsExact
 refine wpAny_bind (wpAny_bind (wpAny_typeOf ht.typeIs (wpAny_pure ?_)))
 rw [if_pos (by decide)]
 refine wpAny_bind (wpAny_rule ?_)
 exact wpAny_pure ⟨_, rfl, wpAny_pure h⟩
end
section
variable {X : Cx} {e : Expr} {te : TE} {p2 pos : Pos}
end
end L2
namespace L2
open PySem PySem.Spec PyProof.Rows
noncomputable abbrev RowsAt (H : Hp) (zs : List Addr) (rows : List (List Int)) : Prop := Paired (fun (z : Addr) (r : List Int) => H z = some (.tup (r.map V.int))) zs rows
theorem RowsAt.sameT {H H' : Hp} {zs : List Addr} {rows : List (List Int)} (h : RowsAt H zs rows) (s : SameT H H') : RowsAt H' zs rows := Paired.mapP h fun _ _ q => s _ _ q
theorem RowsAt.same {H H' : Hp} {zs : List Addr} {rows : List (List Int)} (h : RowsAt H zs rows) (s : Same H H') : RowsAt H' zs rows := h.sameT s.t
structure Bits (bs : List Bool) (m : Nat) (S : List Int) : Prop where
 len : bs.length = m
 bit : ∀ i, i < m -> bs[i]? = some (decide ((i : Int) ∈ S))
theorem mapR_len (zs : List Addr) : (zs.map V.ref).length = zs.length := List.length_map ..
end L2
namespace L2
open PySem PySem.Spec PyProof.Rows
inductive Ents (P : Params) : List DictEntry -> List (Str × Addr) -> Prop
 | nil : Ents P [] []
 | cons {x : Str} {t : Tok} {f : Addr} {es : List DictEntry} {kvs : List (Str × Addr)} : Ents P es kvs -> Ents P (⟨PyData.keyHash P x, .str x t, .ref f⟩ :: es) ((x, f) :: kvs)
structure GDict (K : PySem.W.Frag) (P : Params) (C : Addr) (kvs : List (Str × Addr)) : Prop where
 ex : ∃ es n, K.lookup C = some { cls := .type "dict", data := .dict es n } /\ Ents P es.toList kvs
 nd : (kvs.map (·.1)).Nodup
theorem Ents.keys {prog : Program} {w : World} : ∀ {es : List DictEntry} {kvs : List (Str × Addr)}, Ents w.params es kvs -> ∀ e ∈ es, ∃ k, (PySem.strKind prog w).is k e.key = true /\ e.hash = (PySem.strKind prog w).hash k
 | _, _, .nil, _, h => by cases h
 | _, _, .cons (x := x) t, e, h => by
  rcases List.mem_cons.mp h with rfl | h
  ·exact ⟨x, by simp [PySem.strKind, Value.isStrOf], rfl⟩
  ·exact Ents.keys t e h
theorem Ents.pairs {prog : Program} {w : World} : ∀ {es : List DictEntry} {kvs : List (Str × Addr)}, Ents w.params es kvs -> Pairs (PySem.strKind prog w) es (kvs.map fun kv => (kv.1, Value.ref kv.2))
 | _, _, .nil => .nil
 | _, _, .cons t => .cons (by simp [PySem.strKind, Value.isStrOf]) rfl (Ents.pairs t)
theorem value_lookup : ∀ (kvs : List (Str × Addr)) (x : Str), valueAt (kvs.map fun kv => (kv.1, Value.ref kv.2)) x = (kvs.lookup x).map Value.ref
 | [], _ => rfl
 | (y, f) :: t, x => by
  have ih := value_lookup t x
  unfold valueAt at ih ⊢
  rw [List.map_cons, List.find?_cons, List.lookup_cons]
  by_cases h : y = x
  ·subst h
   simp
  ·have h2 : (x == y) = false := beq_eq_false_iff_ne.mpr fun z => h z.symm
   simp only [decide_eq_false h, h2]
   exact ih
section
variable {X : Cx}
noncomputable def rGd (K : PySem.W.Frag) (P : Params) : R2 := fun x y H Q => ∃ C kvs z f, x = .ref C /\ y = .str z /\ GDict K P C kvs /\ kvs.lookup z = some f /\ Q (.ref f) H
theorem ix_gd : IxR X (rGd X.K X.w.params) := by
 intro value slice pins s σ H x y v u Q I rx ry h hs
 obtain ⟨C, kvs, z, f, rfl, rfl, ⟨⟨es, n, hk, en⟩, nd⟩, hl, q⟩ := h
 cases rx
 obtain ⟨t, rfl⟩ := ry
 have hg := I.kIn C _ hk
 have hD : s.heap.DictOf (PySem.strKind X.prog X.w) C (kvs.map fun kv => (kv.1, Value.ref kv.2)) :=
  ⟨_, es, n, hg, ⟨rfl, rfl, rfl⟩, rfl, fun e he => en.keys e (by simpa using he), en.pairs, by rw [List.map_map]; exact nd⟩
 have fin : EP X pins σ Q (.ref f) { s with toks := s.toks + 1 } := ⟨.ref f, H, I.tok _, rfl, q⟩
 exact subscriptTail_builtinR (x := .ref f) hD.typeIs PySem.F.slot_dict_getitem.lookup
  (wpAny_getItem_of (k := z) (knd := PySem.strKind X.prog X.w) (Q := fun r s' => r = .ref f /\ EP X pins σ Q r s') (by simp [PySem.strKind, Value.isStrOf]) hD.mapOf (by rw [value_lookup, hl]; rfl) ⟨rfl, fin⟩) hs
end
structure CalF (P : Program) (w : World) (K : PySem.W.Frag) (mg : Str -> Option Value) (base : Heap) (k : Nat) (f : Addr) (ps : List Str) (sp : Sp) : Prop where
 ex : ∃ fd, FnOk P w K mg base CX0 k f fd ps sp /\ PySem.W.keepIn K (.ref f) = true /\ Binds K fd ps []
section
variable {X : Cx} {k : Nat} {x : Str} {p pos : Pos} {e : Expr} {es : List Expr} {t : TA} {tf : TE}
noncomputable def tCallV (P : Program) (w : World) (K : PySem.W.Frag) (mg : Str -> Option Value) (base : Heap) (k : Nat) (tf : TE) (t : TA) : TE := fun σ H Q => tf σ H fun v H1 => ∃ f ps sp, v = .ref f /\ CalF P w K mg base k f ps sp /\ t σ H1 fun vs H2 => sp vs H2 Q E0
theorem pe_callV (hf : PE X (.Name x p) tf) (hr : Room k X.A) (ha : PA X (e :: es) t) (he : starEach (e :: es) X.env = (false, eval e X.env) :: starEach es X.env := by rfl)
  (hpl : (backTo pos (starEach es X.env)).any (·.1) = false := by rfl) : PE X (.Call (.Name x p) (e :: es) [] pos) (tCallV X.prog X.w X.K X.mg X.base k tf t) := by
 intro pins s σ H Q I h
 refine wpAny_Call_Name_kw (thn (hf pins s σ H _ I h) fun v s1 ⟨y, H1, I1, r1, f, ps, sp, ey, ⟨fd, F, hk, hb⟩, q1⟩ => ?_)
 subst ey
 cases (show v = Value.ref f from r1)
 refine PySem.W.callWith_K (h₀ := X.base) I1.ok.mod.kin hk (thn (ha pos pins s1 σ H1 _ I1 q1) fun us s2 ⟨vs, H2, I2, r2, q2⟩ => ⟨I2.kIn, ?_⟩) he hpl
 exact run_fn F hr hb .nil pass0 I2 r2 (by rw [List.append_nil]; exact q2)
end
end L2
namespace L2
open PySem PySem.Spec PyProof.Rows
section
variable {prog : Program} {w : World} {A : Around} {R : Result -> Shared -> Prop} {s : Shared} {elt tg iter tg2 iter2 : Expr} {ifs ifs2 : List Expr} {scope : Scope} {pos : Pos} {it acc : Value} {env : Env}
end
end L2
namespace L2
open PySem PySem.Spec PyProof.Rows
section
variable {X : Cx} {elt tg iter tg2 iter2 : Expr} {ifs ifs2 : List Expr} {scope : Scope} {pos : Pos} {wi wi2 : TI} {g g2 : TG} {tt tt2 : TT} {te : TE} {N' : List Str} {n : Nat} {ix : List Nat}
end
end L2
namespace L2
open PySem PySem.Spec PyProof.Rows
section
variable {X : Cx}
end
end L2
namespace L2
open PySem PySem.Spec PyProof.Rows
end L2
namespace L2
open PySem PySem.Spec PyProof.Rows
section
variable {X : Cx}
noncomputable def rSlA : V -> Option Int -> Option Int -> Hp -> VK -> Prop := fun x lo hi H Q => ∃ a xs, x = .ref a /\ H a = some (.tup xs) /\ ∀ p H', Same H H' -> H' p = some (.tup (cutV xs lo hi)) -> Q (.ref p) H'
theorem sl_tupA : SlR X rSlA := by
 intro pins s σ H x v vl vu lo hi sl Q I rx hs pl pu h
 obtain ⟨a, xs, rfl, ha, q⟩ := h
 by_cases hw : HT.sIx xs.length 0 lo = 0 /\ HT.sIx xs.length xs.length hi = xs.length
 ·cases rx
  obtain ⟨its, r, ht, hz⟩ := I.tuple (SqT.of (K := X.K) ha)
  have hl : its.toArray.size = xs.length := by rw [List.size_toArray]; exact r.length.symm
  refine ⟨"tuple", _, PyProof.Rows.slot_tuple_getitem.lookup, ht.typeIs, ?_⟩
  refine getItem_tuple_whole ht hs pl pu (by rw [hl]; exact hw) ⟨.ref a, H, I, rfl, q a H (Same.refl H) ?_⟩
  unfold cutV
  rw [hw.1, hw.2, List.drop_zero, Nat.sub_zero, List.take_length]
  exact ha
 ·exact sl_tup pins s σ H _ v vl vu lo hi sl Q I rx hs pl pu ⟨a, xs, rfl, SqT.of ha, hw, fun p hp => q p _ (same_upd hp) upd_same⟩
end
section
variable {X : Cx} {elt tg iter tg2 iter2 : Expr} {ifs ifs2 : List Expr} {scope : Scope} {pos : Pos} {wi wi2 : TI} {g g2 : TG} {tt tt2 : TT} {te : TE} {N' : List Str} {n : Nat} {ix : List Nat}
end
end L2
namespace L2
open PySem PySem.Spec PyProof.Rows
noncomputable def freeO (m : Nat) (b : List Int) : List Int := (num0 m).filter fun x => decide (x ∉ b)
structure Beg (m k : Nat) (b : List Int) : Prop where
 len : b.length = k
 nd : b.Nodup
 rng : ∀ y ∈ b, 0 <= y /\ y < m
 free : (freeO m b).length + k = m
end L2
namespace L2
open PySem PySem.Spec PyProof.Rows
theorem num0_succ (n : Nat) : num0 (n + 1) = num0 n ++ [(n : Int)] := by simp [num0, List.range_succ]
end L2
namespace L2
open PySem PySem.Spec PyProof.Rows
theorem RowsAt.get {H : Hp} : ∀ {zs : List Addr} {rows : List (List Int)}, RowsAt H zs rows -> ∀ {i : Nat} {z : Addr}, zs[i]? = some z -> ∃ r, rows[i]? = some r /\ H z = some (.tup (r.map V.int))
 | _, _, .nil, _, _, h => by simp at h
 | _, _, .cons r _, 0, _, h => by simp at h; subst h; exact ⟨_, rfl, r⟩
 | _, _, .cons _ t, i + 1, _, h => RowsAt.get t (i := i) (by simpa using h)
end L2
namespace L2
open PySem PySem.Spec PyProof.Rows
section
variable {X : Cx}
noncomputable def rMaxL : List V -> Hp -> VK -> Prop := fun xs H Q => ∃ (l : Addr) (ns : List Int), xs = [.ref l] /\ H l = some (.lst (ns.map V.int)) /\ ns ≠ [] /\ ∀ M, M ∈ ns -> (∀ a ∈ ns, a <= M) -> Q (.int M) H
noncomputable def rMaxT : List V -> Hp -> VK -> Prop := fun xs H Q => ∃ (l : Addr) (ns : List Int), xs = [.ref l] /\ H l = some (.tup (ns.map V.int)) /\ ns ≠ [] /\ ∀ M, M ∈ ns -> (∀ a ∈ ns, a <= M) -> Q (.int M) H
theorem max_of_best {xs : Array (Int × Tok)} {ns : List Int} (hnum : xs.toList.map (·.1) = ns) (hsz : 0 < xs.size) :
  numAt xs (argBest (fun i j => decide (numAt xs i > numAt xs j)) (xs.size - 1)) ∈ ns /\ ∀ a ∈ ns, a <= numAt xs (argBest (fun i j => decide (numAt xs i > numAt xs j)) (xs.size - 1)) := by
 obtain ⟨h1, h2⟩ := argBest_gt (numAt xs) (xs.size - 1)
 subst hnum
 refine ⟨?_, fun a ha => ?_⟩
 ·rw [numAt_eq]; exact getD_mem (by rw [List.length_map, Array.length_toList]; (first | lia | omega))
 ·obtain ⟨j, hj, rfl⟩ := mem_getD ha
  rw [List.length_map, Array.length_toList] at hj
  rw [<- numAt_eq]; exact h2 j (by (first | lia | omega))
theorem call_maxL (hc : X.calm = true) : CallR X (.builtin "max") rMaxL := by
 intro pins s σ H xs us Q I rs h
 obtain ⟨l, ns, rfl, hH, hne, q⟩ := h
 obtain ⟨u, rfl, ru⟩ := vals1 rs
 cases (show u = Value.ref l from ru)
 obtain ⟨z, its, n, r, hl, e⟩ := I.lstM hH
 have hI := intsAre_of r
 obtain ⟨xs, hxs⟩ := hI.allInts.items
 have hnum : xs.toList.map (·.1) = ns := by rw [<- nums_intItems, <- hxs]; exact hI.numsOf
 have hsz : 0 < xs.size := by
  have : ns.length = xs.size := by rw [<- hnum, List.length_map, Array.length_toList]
  have := List.length_pos_iff.mpr hne
  (first | lia | omega)
 obtain ⟨b1, b2⟩ := max_of_best hnum hsz
 refine max_intList (xs := xs) (I.ok.hd hc) (by rw [<- hxs]; exact ⟨_, e, rfl, n, rfl⟩) hsz fun v h' tk hv hk => ?_
 obtain ⟨t, rfl⟩ := intItems_at hv
 exact ⟨.int _, H, I.kept (t' := tk) hk, ⟨_, rfl⟩, q _ b1 b2⟩
theorem call_maxT (hc : X.calm = true) : CallR X (.builtin "max") rMaxT := by
 intro pins s σ H xs us Q I rs h
 obtain ⟨l, ns, rfl, hH, hne, q⟩ := h
 obtain ⟨u, rfl, ru⟩ := vals1 rs
 cases (show u = Value.ref l from ru)
 obtain ⟨its, r, ht, hz⟩ := I.tuple (SqT.of (K := X.K) hH)
 have hI := intsAre_of r
 obtain ⟨xs, hxs⟩ := hI.allInts.items
 have hnum : xs.toList.map (·.1) = ns := by rw [<- nums_intItems, <- hxs]; exact hI.numsOf
 have hsz : 0 < xs.size := by
  have : ns.length = xs.size := by rw [<- hnum, List.length_map, Array.length_toList]
  have := List.length_pos_iff.mpr hne
  (first | lia | omega)
 obtain ⟨b1, b2⟩ := max_of_best hnum hsz
 have hT : s.heap.IsTuple l (intItems xs) := by rw [<- hxs]; exact ht
 have hlt : l < s.heap.objs.size := by obtain ⟨_, e, _⟩ := hT; exact Heap.lt_size e
 have hT2 : (s.heap.push { cls := .type "tuple_iterator", data := .fields #[.ref l, .int 0 0] }).IsTuple l (intItems xs) := by
  obtain ⟨o, e, r⟩ := hT
  exact ⟨o, Heap.get?_push_of_some _ e, r⟩
 have hh : X.A.handled = none := I.ok.hd hc
 refine call_max_walk (wpAny_pyIter_tuple hT ?_)
 refine ⟨_, _, _, _, _, _, _, rfl, Walks.tuple (A := X.A.in1) hh s.heap.objs.size l (Nat.ne_of_lt hlt) (intItems xs), ⟨⟨_, Heap.get?_push_size _ rfl, rfl, rfl⟩, hT2⟩, fun b hb => ?_, by simpa [intItems] using hsz, CmpOf.ints_gt (numAt xs) (fun _ _ => intItems_at), fun v h' tk hP hk => ?_⟩
 ·show b < (s.heap.push _).objs.size
  rw [Heap.size_push]
  rcases List.mem_cons.mp hb with rfl | hb
  ·exact Nat.lt_succ_self _
  ·rw [List.mem_singleton.mp hb]
   exact Nat.lt_succ_of_lt hlt
 ·have hv : (intItems xs)[argBest (fun i j => decide (numAt xs i > numAt xs j)) (xs.size - 1)]? = some v := by simpa [intItems] using hP
  obtain ⟨t, rfl⟩ := intItems_at hv
  refine ⟨.int _, H, I.kept (t' := tk) (fun b o e => hk b o (fun hm => ?_) (Heap.get?_push_of_some _ e)), ⟨_, rfl⟩, q _ b1 b2⟩
  rw [List.mem_singleton.mp hm] at e
  exact absurd (Heap.lt_size e) (Nat.lt_irrefl _)
end
end L2
namespace L2
open PySem PySem.Spec PyProof.Rows
end L2
namespace L2
open PySem PySem.Spec PyProof.Rows
structure Heaps (ns : List Int) (L : List Int) (es : List Int) : Prop where
 inc : L.Pairwise (· < ·)
 len : es.length = ns.length
 up : ∀ (j : Nat) a, L[j]? = some a -> ∃ k : Nat, ns[k]? = some a /\ es[k]? = some ((j : Int) + 1)
 dn : ∀ (k : Nat) e, es[k]? = some e -> ∃ (j : Nat) (a b : Int), e = (j : Int) + 1 /\ L[j]? = some a /\ ns[k]? = some b /\ a <= b
end L2
namespace L2
open PySem PySem.Spec PyProof.Rows
noncomputable def Cx.compZ (X : Cx) (s₂ : Shared) (H₂ : Hp) (N' : List Str) (scope : Scope) (cl : List (Str × Addr)) (C : Addr) (fp : List Addr) (z : Str) (Z : Addr) : Cx :=
 { X with N := N', s₀ := s₂, H₀ := H₂, env := compEnvC scope ((z, Z) :: cl) C X.env, outer := X.stack, stack := X.stack, ex := fp, fn := fun x => x == z, pn := [], xe := fun _ _ => False }
structure CompScopeZ (X : Cx) (scope : Scope) (N' : List Str) (n : Nat) (ix : List Nat) (z : Str) : Prop where
 kind : scope.kind = .function
 onecell : ∀ y ∈ scope.names, y.2 = .cell -> y.1 = z
 nz : ∀ y : Str, (y, NameKind.free) ∈ scope.names -> y ≠ z
 cf : ∀ (a : Addr) (cl : List (Str × Addr)), cellsFrom a scope.names cl = (z, a) :: cl
 pc : ∀ h : Heap, pushCells h scope.names = h.push { cls := .type "cell", data := .cell none }
 names : ∀ y ∈ scope.names, y.2 = .local -> scope.names.lookup y.1 = some .local
 free : ∀ y ∈ scope.names, y.2 = .free -> X.env.scope.names.lookup y.1 = some .cell ∨ X.env.scope.names.lookup y.1 = some .free
 nodup : ∀ y : Str, (y, NameKind.free) ∈ scope.names -> scope.names.lookup y = some .local -> False
 len : N'.length = n + ix.length
 at_ : ∀ (j i : Nat), ix[j]? = some i -> ∃ x, N'[n + j]? = some x /\ X.N[i]? = some x /\ (x, NameKind.free) ∈ scope.names
theorem newEnvZ {M : Model} {A : Around} {E : Value -> Shared -> Prop} {s : Shared} {z : Str} {scope : Scope} {globals : Addr} {cl : List (Str × Addr)} {qual : Str} {env : Env} {Q : Env -> Shared -> Prop} (hcf : ∀ a, cellsFrom a scope.names cl = (z, a) :: cl)
  (hpc : ∀ h : Heap, pushCells h scope.names = h.push { cls := .type "cell", data := .cell none })
  (hQ : ∀ env' : Env, env' = { scope, locals := s.heap.objs.size, globals, cells := (z, s.heap.objs.size + 1) :: cl, qual, func := none, code := env.code, frame := env.frame, builtins := env.builtins } ->
   Q env' { s with heap := (s.heap.push { cls := .type "dict", data := .dict #[] }).push { cls := .type "cell", data := .cell none } }) :
  wpAny M A (newFunctionEnv scope globals cl [] qual none .none (some env)) Q E s := by
 simp only [newFunctionEnv, Option.isSome_some, if_true]
 refine wpAny_bind (wpAny_alloc ?_)
 refine wpAny_bind (wpAny_layCells _ (fun name kind cells => by cases hkc : kind == NameKind.cell <;> simp [hkc]) _ _ _ _ ?_)
 rw [hcf, hpc]
 simp only [List.forIn_nil]
 have hz : (s.heap.push { cls := .type "dict", data := .dict #[] }).objs.size = s.heap.objs.size + 1 := Heap.size_push ..
 refine wpAny_bind (wpAny_pure (wpAny_pure ?_))
 exact hQ _ (by simp only [hz])
section
variable {X : Cx} {pins : List (Addr × Obj)} {σ : St} {H : Hp} {s : Shared}
theorem of_relabelZ {env : Env} {scope : Scope} {x z : Str} (hn : ∀ y ∈ scope.names, y.2 = .cell -> y.1 = z) (hxz : x ≠ z) (h : (relabel scope env).names.lookup x = some .cell ∨ (relabel scope env).names.lookup x = some .free) : scope.names.lookup x = some .free := by
 rw [relabel_lookup] at h
 cases e : scope.names.lookup x with
 | none => rw [e] at h; rcases h with h | h <;> cases h
 | some k =>
  rw [e] at h
  have hk : k ≠ .cell := fun q => hxz (hn _ (PySem.mem_of_lookup e) q)
  by_cases hf : k = .free
  ·rw [hf]
  ·have hb : (k == NameKind.free) = false := by simpa using hf
   have hr : Option.map (fun k => if (k == NameKind.free && env.scope.kind == .function && env.kindOf x == some .cell) = true then NameKind.cell else k) (some k) = some k := by
    show some (ite _ _ _) = _
    rw [if_neg (by rw [hb]; simp)]
   rw [hr] at h
   rcases h with h | h
   ·cases h; exact absurd rfl hk
   ·exact h
theorem inv_compZ {z : Str} {Z : Addr} {scope : Scope} {N' : List Str} {n : Nat} {ix : List Nat} {cl : List (Str × Addr)} {fp : List Addr} {h₁ : Heap} {acc C : Addr} {na : Nat} {m : Str -> Option Value} {tk : Nat}
  (I : Inv X pins σ H s) (S : CompScopeZ X scope N' n ix z) (hcl1 : ∀ x c, cl.lookup x = some c -> X.env.cells.lookup x = some c) (hcl2 : ∀ y ∈ scope.names, y.2 = .free -> cl.lookup y.1 = X.env.cells.lookup y.1)
  (hf : ∀ b ∈ fp, FpOk X pins H b) (hlt : ∀ b ∈ fp, b < s.heap.objs.size) (ha : s.heap.objs.size <= acc) (hC : s.heap.objs.size <= C) (hne : C ≠ acc) (hZ : s.heap.objs.size <= Z) (hZC : Z ≠ C) (hZa : Z ≠ acc) (hZc : h₁.IsCell Z none)
  (k : ∀ b u, s.heap.get? b = some u -> h₁.get? b = some u) (hacc : h₁.get? acc = some { cls := .type "list", data := .seq ([] : List Value).toArray na }) (hns : h₁.Ns C m) :
  Inv (X.compZ s H N' scope cl C fp z Z) [] (compSt n ix σ) (upd H acc (.lst [])) { s with heap := h₁, toks := tk } := by
 have fr : ∀ b : Addr, s.heap.objs.size <= b -> H b = none := fun b hb => I.hok.fresh hb
 have cellLt : ∀ x c, cl.lookup x = some c -> c < s.heap.objs.size := fun x c e => by
  obtain ⟨v, q⟩ := I.cell x c (hcl1 x c e)
  exact q.lt
 have look : ∀ x c, List.lookup x ((z, Z) :: cl) = some c -> (x = z /\ c = Z) ∨ (x ≠ z /\ cl.lookup x = some c) := fun x c e => by
  rw [List.lookup_cons] at e
  cases hb : x == z with
  | true =>
   rw [hb] at e
   exact .inl ⟨eq_of_beq hb, (Option.some.inj e).symm⟩
  | false =>
   rw [hb] at e
   exact .inr ⟨fun q => by (rw [q, beq_self_eq_true] at hb; cases hb), e⟩
 have look2 : ∀ x, x ≠ z -> List.lookup x ((z, Z) :: cl) = cl.lookup x := fun x hx => by
  rw [List.lookup_cons]
  have hb : (x == z) = false := beq_eq_false_iff_ne.mpr hx
  rw [hb]
 have nZ : ∀ x c, cl.lookup x = some c -> c ≠ Z := fun x c e q => absurd (cellLt x c e) (by rw [q]; exact Nat.not_lt.mpr hZ)
 refine ⟨⟨I.ok.mod, S.kind, I.ok.glob, I.ok.blt, hC, fun x y c e1 e2 => ?inj, fun x hx => ?has, fun x c e e' => ?cab, I.ok.hd, I.ok.frames, .inl rfl, fun b hb => ⟨Nat.ne_of_lt (Nat.lt_of_lt_of_le (hlt b hb) hC), fun x c e => ?exf⟩,
   I.bs, Nat.le_trans I.ok.bsz I.sz, fun b o e hb => ?noex, fun b hb hs => ?exfs, I.stack, I.stkFree⟩,
  rfl, I.bare, Un.laid k ha (fr acc ha), ⟨m, hns, fun i x v e1 e2 e3 => ?loc⟩, fun x c e => ?cell, ?free, fun x c e => ?freeC, fun p hp => absurd (show p ∈ ([] : List (Addr × Obj)) from hp) (by simp), I.hok.laid k ha ⟨Nat.zero_le _, [], na, .nil, hacc⟩, ?len⟩
 case inj =>
  rcases look x c e1 with ⟨h1, h2⟩ | ⟨h1, h2⟩ <;> rcases look y c e2 with ⟨h3, h4⟩ | ⟨h3, h4⟩
  ·rw [h1, h3]
  ·exact absurd h2 (nZ y c h4)
  ·exact absurd h4 (nZ x c h2)
  ·exact I.ok.inj x y c (hcl1 x c h2) (hcl1 y c h4)
 case has =>
  by_cases hxz : x = z
  ·exact ⟨Z, by show List.lookup x ((z, Z) :: cl) = _; rw [hxz, List.lookup_cons, beq_self_eq_true]⟩
  ·have hx' : scope.names.lookup x = some .free := of_relabelZ (env := X.env) S.onecell hxz hx
   have hm := PySem.mem_of_lookup hx'
   obtain ⟨c, e⟩ := I.ok.has x (S.free _ hm rfl)
   exact ⟨c, by show List.lookup x ((z, Z) :: cl) = _; rw [look2 x hxz]; exact (hcl2 _ hm rfl).trans e⟩
 case cab =>
  rcases look x c e' with ⟨_, h2⟩ | ⟨h1, _⟩
  ·rw [h2]; exact hZ
  ·exact absurd (eq_of_beq (show (x == z) = true from e)) h1
 case exf =>
  rcases look x c e with ⟨_, h2⟩ | ⟨_, h2⟩
  ·rw [h2]; exact Nat.ne_of_gt (Nat.lt_of_lt_of_le (hlt b hb) hZ)
  ·exact (hf b hb).2.2.2.2.1 x c (hcl1 x c h2)
 case noex =>
  rcases (hf b hb).2.2.2.1 with z | z
  ·exact I.ok.noex b o e z
  ·exact absurd (Nat.lt_of_lt_of_le (Heap.lt_size e) (Nat.le_trans I.ok.bsz z)) (Nat.lt_irrefl _)
 case exfs =>
  rcases List.mem_cons.mp (I.stkSub b hs) with z | z
  ·exact (hf b hb).2.1 z
  ·exact (hf b hb).2.2.1 z
 case loc =>
  have hi : n <= i := by
   by_cases hi : n <= i
   ·exact hi
   ·unfold compSt at e2
    rw [List.getElem?_append_left (by simp; (first | lia | omega)), List.getElem?_replicate] at e2
    split at e2 <;> cases e2
  obtain ⟨j, rfl⟩ : ∃ j, i = n + j := ⟨i - n, by (first | lia | omega)⟩
  unfold compSt at e2
  rw [List.getElem?_append_right (by simp), List.length_replicate, Nat.add_sub_cancel_left, List.getElem?_map] at e2
  cases ej : ix[j]? with
  | none => rw [ej] at e2; cases e2
  | some q =>
   rw [ej] at e2
   have e2' : σ.getD q none = some v := Option.some.inj e2
   have e2'' : σ[q]? = some (some v) := by
    rw [List.getD_eq_getElem?_getD] at e2'
    cases eq : σ[q]? with
    | none => rw [eq] at e2'; cases e2'
    | some z => rw [eq] at e2'; exact congrArg some e2'
   obtain ⟨y, h1, h2, h3⟩ := S.at_ j q ej
   have ey : y = x := Option.some.inj (h1.symm.trans e1)
   subst ey
   have hk := S.free _ h3 rfl
   obtain ⟨mX, _, hl⟩ := I.loc
   obtain ⟨u, r, l⟩ := hl q y v h2 e2'' (.inr hk)
   refine ⟨u, r, .inr ?_⟩
   have hkc : X.env.kindOf y = some .cell ∨ X.env.kindOf y = some .free := hk
   have l' : ∃ c, X.env.cells.lookup y = some c /\ s.heap.IsCell c (some u) := by
    rcases l with ⟨z, _⟩ | ⟨_, c, ec, hc⟩
    ·rcases hkc with q | q <;> (rw [q] at z; cases z)
    ·exact ⟨c, ec, hc⟩
   obtain ⟨c, ec, o, ho, hd⟩ := l'
   have e3' : Vis (relabel scope X.env) y := e3
   have hyz : y ≠ z := S.nz y h3
   refine ⟨?_, c, by show List.lookup y ((z, Z) :: cl) = _; rw [look2 y hyz]; exact (hcl2 _ h3 rfl).trans ec, o, k _ _ ho, hd⟩
   have nl : scope.names.lookup y ≠ some .local := fun z => ?_
   ·cases el : scope.names.lookup y with
    | none =>
     have : (relabel scope X.env).names.lookup y = none := by rw [relabel_lookup, el]; rfl
     rcases e3' with z | z | z <;> (rw [this] at z; cases z)
    | some kk =>
     have hmem := PySem.mem_of_lookup el
     have ncell : kk ≠ .cell := fun q => hyz (S.onecell _ hmem q)
     have hr : (relabel scope X.env).names.lookup y = some (if (kk == NameKind.free && X.env.scope.kind == .function && X.env.kindOf y == some .cell) = true then .cell else kk) := by rw [relabel_lookup, el]; rfl
     by_cases hkf : kk = .free
     ·subst hkf
      exact relabel_free (env := X.env) el
     ·have hb : (kk == NameKind.free) = false := by simpa using hkf
      have hr' : (relabel scope X.env).names.lookup y = some kk := by rw [hr, hb]; rfl
      rcases e3' with z | z | z
      ·rw [hr'] at z; cases z; exact absurd el nl
      ·rw [hr'] at z; cases z; exact absurd rfl ncell
      ·rw [hr'] at z; cases z; exact absurd rfl hkf
   ·exact S.nodup _ h3 z
 case cell =>
  rcases look x c e with ⟨_, h2⟩ | ⟨_, h2⟩
  ·rw [h2]; exact ⟨none, hZc⟩
  ·obtain ⟨v, o, ho, hd⟩ := I.cell x c (hcl1 x c h2)
   exact ⟨v, o, k _ _ ho, hd⟩
 case free =>
  show upd H acc (.lst []) C = none
  rw [upd_ne hne]; exact fr C hC
 case freeC =>
  show upd H acc (.lst []) c = none
  rcases look x c e with ⟨_, h2⟩ | ⟨_, h2⟩
  ·rw [h2, upd_ne hZa]; exact fr Z hZ
  ·have := cellLt x c h2
   rw [upd_ne (Nat.ne_of_lt (Nat.lt_of_lt_of_le this ha))]
   exact I.freeC x c (hcl1 x c h2)
 case len =>
  show (compSt n ix σ).length = N'.length
  unfold compSt
  rw [List.length_append, List.length_replicate, List.length_map, S.len]
end
section
variable {X : Cx} {elt tg iter : Expr} {ifs : List Expr} {scope : Scope} {pos : Pos} {wi : TI} {g : TG} {tt : TT} {te : TE} {N' : List Str} {n : Nat} {ix : List Nat}
theorem lc_coreZ {z : Str} {pins : List (Addr × Obj)} {σ : St} {H2 : Hp} {s2 : Shared} {cl : List (Str × Addr)} {it : Addr} {fp : List Addr} {tn : Nat -> Heap -> Prop} {J : It} {Q : VK} {R : Value -> Addr -> Result -> Shared -> Prop}
  (hc : X.calm = true) (S : CompScopeZ X scope N' n ix z)
  (hY : ∀ s₂ H₂ cl C fp Z, PG (X.compZ s₂ H₂ N' scope cl C fp z Z) tg g /\ PTs (X.compZ s₂ H₂ N' scope cl C fp z Z) ifs tt /\ PE (X.compZ s₂ H₂ N' scope cl C fp z Z) elt te)
  (I2 : Inv X pins σ H2 s2) (hcl1 : ∀ x c, cl.lookup x = some c -> X.env.cells.lookup x = some c) (hcl2 : ∀ y ∈ scope.names, y.2 = .free -> cl.lookup y.1 = X.env.cells.lookup y.1)
  (T : Turn X.prog X.w X.K tg J fp it tn) (st2 : tn 0 s2.heap) (f2 : ∀ b ∈ fp, FpOk X pins H2 b)
  (hW : LcW J H2 g tt te n ix σ Q)
  (hR : ∀ acc C s' H' m, s'.heap.Ns C m -> Inv X pins σ H' s' -> H' C = none -> C ≠ X.env.locals -> (C ∈ X.ex ∨ X.s₀.heap.objs.size <= C) -> (∀ x c, X.env.cells.lookup x = some c -> c ≠ C) -> (∀ p ∈ X.pn ++ pins, p.1 ≠ C) -> C ∉ X.fs -> Q (.ref acc) H' -> R (.ref acc) C (.ok .next) s') :
  wpAny (model X.prog X.w) X.A (newList []) (fun acc s₃ => wpAny (model X.prog X.w) X.A (newFunctionEnv scope X.env.globals cl [] X.env.qual none .none (some X.env)) (fun cenv s₄ =>
   codeAny (model X.prog X.w) X.A (.compStart (.ListComp elt [⟨tg, iter, ifs, 0⟩] scope pos) 0 (.ref it) acc { cenv with scope := relabel scope X.env }) (R acc cenv.locals) s₄) X.xe s₃) X.xe s2 := by
 refine wpAny_newObj_type (newEnvZ (z := z) (fun a => S.cf a cl) S.pc fun env' he' => ?_)
 subst he'
 dsimp only
 generalize hH2 : s2.heap.push { cls := .type "list", dict := none, data := .seq ([] : List Value).toArray } = G
 have hC : G.objs.size = s2.heap.objs.size + 1 := by rw [<- hH2, Heap.size_push]
 generalize hh1 : (G.push { cls := .type "dict", data := .dict #[] }).push { cls := .type "cell", data := .cell none } = h₁
 have hkp : ∀ b o, G.get? b = some o -> h₁.get? b = some o := fun b o e => hh1 ▸ Heap.get?_push_of_some _ (Heap.get?_push_of_some _ e)
 have hns₁ : h₁.Ns G.objs.size fun _ => none := hh1 ▸ (Heap.Ns.new G (.type "dict")).keeps fun b o e => Heap.get?_push_of_some _ e
 have hZc : h₁.IsCell (G.objs.size + 1) none := by
  rw [<- hh1]
  refine ⟨{ cls := .type "cell", data := .cell none }, ?_, rfl⟩
  have := Heap.get?_push_size (G.push { cls := .type "dict", data := .dict #[] }) (o := { cls := .type "cell", data := .cell none }) rfl
  rwa [Heap.size_push] at this
 have hlt : ∀ b ∈ fp, b < s2.heap.objs.size := fun b hb => by
  obtain ⟨o, e, _⟩ := T.obj _ _ st2 b hb
  exact Heap.lt_size e
 have old : ∀ b o, s2.heap.get? b = some o -> h₁.get? b = some o := fun b o e => hkp b o (hH2 ▸ Heap.get?_push_of_some _ e)
 have hacc : h₁.get? s2.heap.objs.size = some { cls := .type "list", dict := none, data := .seq ([] : List Value).toArray } := hkp _ _ (hH2 ▸ Heap.get?_push_size _ rfl)
 obtain ⟨W, ⟨m0, w0⟩, turn⟩ := hW s2.heap.objs.size (I2.hok.fresh (Nat.le_refl _))
 obtain ⟨hYg, hYt, hYe⟩ := hY s2 H2 cl G.objs.size fp (G.objs.size + 1)
 have fpY : ∀ {H' : Hp}, (∀ b ∈ fp, H' b = none) -> ∀ b ∈ fp, FpOk (X.compZ s2 H2 N' scope cl G.objs.size fp z (G.objs.size + 1)) [] H' b := fun {H'} hn b hb => by
  obtain ⟨_, q1, q2, q3, q4, q5⟩ := f2 b hb
  refine ⟨hn b hb, ?_, fun z => ?_, .inl hb, fun x c e => ?_, fun p hp => absurd (show p ∈ ([] : List (Addr × Obj)) from hp) (by simp)⟩
  ·show b ≠ G.objs.size
   rw [hC]
   exact Nat.ne_of_lt (Nat.lt_succ_of_lt (hlt b hb))
  ·rcases List.mem_cons.mp (I2.stkSub b z) with y | y
   ·exact q1 y
   ·exact q2 y
  ·have e' : List.lookup x ((z, G.objs.size + 1) :: cl) = some c := e
   rw [List.lookup_cons] at e'
   cases hb' : x == z with
   | true =>
    rw [hb'] at e'
    have e2 : G.objs.size + 1 = c := Option.some.inj e'
    rw [<- e2, hC]
    have := hlt b hb
    exact Nat.ne_of_gt (Nat.lt_of_lt_of_le this (Nat.le_trans (Nat.le_succ _) (Nat.le_succ _)))
   | false =>
    rw [hb'] at e'
    exact q4 x c (hcl1 x c e')
 have loop : ∀ s₃ : Shared, s₃ = { s2 with heap := h₁ } ->
   codeAny (model X.prog X.w) X.A (.compLoop (.ListComp elt [⟨tg, iter, ifs, 0⟩] scope pos) 0 (.ref it) (.ref s2.heap.objs.size) (compEnvC scope ((z, G.objs.size + 1) :: cl) G.objs.size X.env)) (R (.ref s2.heap.objs.size) G.objs.size) s₃ := by
  rintro s₃ rfl
  have I4 := inv_compZ (Z := G.objs.size + 1) (tk := s2.toks) I2 S hcl1 hcl2 f2 hlt (Nat.le_refl _) (by rw [hC]; exact Nat.le_succ _) (by rw [hC]; exact Nat.ne_of_gt (Nat.lt_succ_self _)) (by rw [hC]; exact Nat.le_trans (Nat.le_succ _) (Nat.le_succ _)) (Nat.ne_of_gt (Nat.lt_succ_self _)) (by rw [hC]; exact Nat.ne_of_gt (Nat.lt_succ_of_lt (Nat.lt_succ_self _))) hZc old hacc hns₁
  refine compLoop_gen (fun n' s' => ∃ i H', Inv (X.compZ s2 H2 N' scope cl G.objs.size fp z (G.objs.size + 1)) [] (compSt n ix σ) H' s' /\ tn i s'.heap /\ (∀ b ∈ fp, H' b = none) /\ W i n' H') ?_ m0
   ⟨0, _, I4, T.keep _ _ _ st2 fun b hb o e => old b o e, fun b hb => ?_, w0⟩
  ·rintro n' s3 ⟨i, H3, I3, st3, fr3, w3⟩
   rcases turn i n' H3 w3 with ⟨stop, q⟩ | ⟨go, step⟩
   ·refine thn (T.done (X.compZ s2 H2 N' scope cl G.objs.size fp z (G.objs.size + 1)) rfl rfl rfl hc i [] s3 _ H3 _ I3 (fpY fr3) st3 stop) fun r s4 ⟨hr, I5⟩ => ?_
    subst hr
    obtain ⟨mC, hnC, _⟩ := I5.loc
    have IX : Inv X pins σ H3 s4 := I2.call' I5.os I5.base I5.hok I5.bare fun b hb => by
     obtain ⟨_, q1, q2, q3, q4, q5⟩ := f2 b hb
     exact ⟨q3, q1, q4, q5⟩
    refine hR _ _ s4 H3 mC hnC IX I5.free ?_ (.inr ?_) (fun x c e z => ?_) (fun p hp z => ?_) (I2.nofs (by rw [hC]; exact Nat.le_succ _)) q
    ·rw [hC]
     exact Nat.ne_of_gt (Nat.lt_succ_of_lt I2.lt)
    ·rw [hC]
     exact Nat.le_succ_of_le I2.sz
    ·obtain ⟨v, q⟩ := I2.cell x c e
     rw [hC] at z
     exact absurd z (Nat.ne_of_lt (Nat.lt_succ_of_lt q.lt))
    ·rw [hC] at z
     exact absurd z (Nat.ne_of_lt (Nat.lt_succ_of_lt (Heap.lt_size (I2.pin p hp).1)))
   ·refine thn (T.item (X.compZ s2 H2 N' scope cl G.objs.size fp z (G.objs.size + 1)) rfl rfl rfl hc i [] s3 _ H3 _ I3 (fpY fr3) st3 go) fun r s4 ⟨u, hr, h4⟩ => ?_
    subst hr
    refine thn h4 fun _ s5 ⟨x, H5, I5, r5, y5, st5, fr5⟩ => ?_
    have I5' := I5.pinned (fpY fr5) (T.obj _ _ st5)
    refine thn (hYg _ s5 _ H5 x u _ I5' r5 (step x H5 y5)) fun _ s6 ⟨σ6, H6, I6, wk, q6⟩ => ?_
    have back : ∀ {H' : Hp} {s' : Shared}, Inv (X.compZ s2 H2 N' scope cl G.objs.size fp z (G.objs.size + 1)) ([] ++ pinsAt fp s5.heap) σ6 H' s' ->
      Inv (X.compZ s2 H2 N' scope cl G.objs.size fp z (G.objs.size + 1)) [] (compSt n ix σ) H' s' /\ tn (i + 1) s'.heap /\ ∀ b ∈ fp, H' b = none := fun {H' s'} I7 => by
     refine ⟨I7.unpinned.weak wk.1 wk.2, T.keep _ _ _ st5 fun b hb o e => (I7.pin (b, o) (List.mem_append_right _ (List.mem_append_right _ (mem_pinsAt hb e)))).1, fun b hb => ?_⟩
     obtain ⟨o, e, d⟩ := T.obj _ _ st5 b hb
     exact (I7.pin (b, o) (List.mem_append_right _ (List.mem_append_right _ (mem_pinsAt hb e)))).2.1
    refine thn (hYt _ s6 σ6 H6 _ I6 q6) fun ok s7 ⟨H7, I7, q7⟩ => ?_
    cases ok with
    | false =>
     rw [if_neg Bool.false_ne_true] at q7 ⊢
     obtain ⟨m', hm, w7⟩ := q7
     obtain ⟨b1, b2, b3⟩ := back I7
     exact ⟨m', hm, i + 1, H7, b1, b2, b3, w7⟩
    | true =>
     rw [if_pos rfl] at q7 ⊢
     refine thn (hYe _ s7 σ6 H7 _ I7 q7) fun xv s8 ⟨v8, H8, I8, r8, ys, ha, hz, m', hm, w8⟩ => ?_
     refine thn (mt_append _ s8 σ6 H8 (.ref s2.heap.objs.size) [v8] (.ref s2.heap.objs.size) [xv] (fun _ H' => H' = upd H8 s2.heap.objs.size (.lst (ys ++ [v8]))) I8 rfl (.cons r8 .nil) ⟨_, ys, v8, rfl, rfl, ha, hz, rfl⟩) fun _ s9 ⟨_, H9, I9, _, e9⟩ => ?_
     subst e9
     obtain ⟨b1, b2, b3⟩ := back I9
     exact ⟨m', hm, i + 1, _, b1, b2, b3, w8⟩
  ·rw [upd_ne (Nat.ne_of_lt (hlt b hb))]
   exact (f2 b hb).1
 exact codeAny_compStart_list (loop _ rfl) (T.self _ 0 _ _ _ (T.keep _ _ _ st2 fun b hb o e => old b o e) (loop _ rfl))
theorem pe_lcZ {z : Str} (hc : X.calm = true) (S : CompScopeZ X scope N' n ix z) (hi : PI X tg iter wi)
  (hY : ∀ s₂ H₂ cl C fp Z, PG (X.compZ s₂ H₂ N' scope cl C fp z Z) tg g /\ PTs (X.compZ s₂ H₂ N' scope cl C fp z Z) ifs tt /\ PE (X.compZ s₂ H₂ N' scope cl C fp z Z) elt te)
  (hs : ∀ x, foldedSetIterable iter X.env x = pure x := by intro _; rfl) : PE X (.ListComp elt [⟨tg, iter, ifs, 0⟩] scope pos) (tLc wi g tt te n ix) := by
 intro pins s σ H Q I h
 obtain ⟨cl, hcl, hcl1, hcl2⟩ := closure_ok (env := X.env) (scope := scope) fun y hy hf => I.ok.has _ (S.free y hy hf)
 rw [eval_ListComp]
 refine wpAny_comprehension_free (use := none) rfl hs hcl S.kind S.names (thn (hi pins s σ H _ I h) fun v s1 h1 => thn h1 fun itv s2 h2 => ?_)
 obtain ⟨it, fp, tn, J, H2, rfl, I2, T, st2, f2, hW⟩ := h2
 refine lc_coreZ (R := fun acc C => compPost (model X.prog X.w) X.A X.xe none (EP X pins σ Q) acc C) hc S hY I2 hcl1 hcl2 T st2 f2 hW ?_
 intro acc C s' H' m hn IX hf hL h1 h2 h3 h4 q
 exact ⟨m, hn, fun h' sb => ⟨.ref acc, H', IX.turned (t' := s'.toks) (fun b o hb e => sb.extBut b o hb e) hf hL h1 h2 h3, rfl, q⟩⟩
end
end L2
namespace L2
open PySem PySem.Spec PyProof.Rows
mutual
inductive IsK (K : PySem.W.Frag) (H : Hp) : V -> PyData -> Prop
 | non : IsK K H .non .none
 | bl (b : Bool) : IsK K H (.bl b) (.bool b)
 | int (i : Int) : IsK K H (.int i) (.int i)
 | str (x : Str) : IsK K H (.str x) (.str x)
 | tup {a : Addr} {vs : List V} {ds : List PyData} : SqT K H a vs -> IsAllK K H vs ds -> IsK K H (.ref a) (.tuple ds)
 | lst {a : Addr} {vs : List V} {ds : List PyData} : H a = some (.lst vs) -> IsAllK K H vs ds -> IsK K H (.ref a) (.list ds)
inductive IsAllK (K : PySem.W.Frag) (H : Hp) : List V -> List PyData -> Prop
 | nil : IsAllK K H [] []
 | cons {v : V} {vs : List V} {d : PyData} {ds : List PyData} : IsK K H v d -> IsAllK K H vs ds -> IsAllK K H (v :: vs) (d :: ds)
end
section
variable {X : Cx} {pins : List (Addr × Obj)} {σ : St} {H : Hp} {s : Shared}
end
end L2
namespace L2
open PySem PySem.Spec PyProof.Rows
end L2
namespace L2
open PySem PySem.Spec PyProof.Rows
end L2
namespace L2
open PySem PySem.Spec PyProof.Rows
theorem cmul_small {i j : Int} (h0 : -100 <= i) (h1 : i <= 1000) : CMul i j := .inl ⟨Int.lt_of_lt_of_le (by decide) h0, Int.lt_of_le_of_lt h1 (by decide)⟩
end L2
namespace L2
open PySem PySem.Spec PyProof.Rows
section
variable {X : Cx}
end
end L2
namespace L2
open PySem PySem.Spec PyProof.Rows
end L2
namespace L2
open PySem PySem.Spec PyProof.Rows
noncomputable def kinds5 : List Str := ["rounds", "stays", "rises", "highs", "crossed"]
theorem kinds5_cases {kind : Str} (h : kind ∈ kinds5) : kind = "rounds" ∨ kind = "stays" ∨ kind = "rises" ∨ kind = "highs" ∨ kind = "crossed" := by
 unfold kinds5 at h
 simpa using h
end L2
namespace L2
end L2
namespace L2
open PySem PySem.Spec PyProof.Rows
end L2
namespace L2
open PySem PySem.Spec PyProof.Rows
end L2
namespace L2
open PySem PySem.Spec PyProof.Rows
theorem GDict.of {K : PySem.W.Frag} {P : Params} {C : Addr} {kvs : List (Str × Addr)} {es : Array DictEntry} {n : Nat} (l : K.lookup C = some { cls := .type "dict", data := .dict es n }) (en : Ents P es.toList kvs) (nd : (kvs.map (·.1)).Nodup) : GDict K P C kvs := ⟨⟨es, n, l, en⟩, nd⟩
theorem CalF.of {P : Program} {w : World} {K : PySem.W.Frag} {mg : Str -> Option Value} {base : Heap} {k k' : Nat} {x : Str} {f : Addr} {ps : List Str} {sp : Sp} (C : Cal P w K mg base k x ps sp) (h : mg x = some (.ref f)) (hk : k <= k') : CalF P w K mg base k' f ps sp := by
 obtain ⟨f', fd, F, hm, kp, hb⟩ := C.ex
 rw [h] at hm
 cases hm
 exact ⟨fd, F.mono hk, kp, hb⟩
end L2
namespace L2
open PySem PySem.Spec PyProof.Rows
theorem op_powW {X : Cx} : OpR X (binaryOp .Pow) (rI (fun i j => 0 <= j /\ (Builtin.Int.intBits i : Int) * j <= 2 ^ 27) fun i j => .int (i ^ j.toNat)) := opI fun _ _ _ _ _ _ _ hc q => pow_int hc.1 hc.2 q
structure TopX (mg : Str -> Option Value) : Prop where
 n_str : mg "str" = none
 n_repr : mg "repr" = none
 n_divmod : mg "divmod" = none
structure TopXK (K : PySem.W.Frag) : Prop where
 k_str : PySem.W.nsIn K mainGlobals "str" = some none
 k_repr : PySem.W.nsIn K mainGlobals "repr" = some none
 k_divmod : PySem.W.nsIn K mainGlobals "divmod" = some none
theorem TopXK.top {K : PySem.W.Frag} {h : Heap} {mg : Str -> Option Value} (T : TopXK K) (X : K.In h) (G : h.Ns mainGlobals mg) : TopX mg :=
 ⟨PySem.W.mg_none_of X G T.k_str, PySem.W.mg_none_of X G T.k_repr, PySem.W.mg_none_of X G T.k_divmod⟩
noncomputable def Pot2 (H : Hp) (p : Addr) : Prop := ∃ own mixed : Int, H p = some (.lst [.int own, .int mixed]) /\ 0 <= own /\ 0 <= mixed /\ mixed < 18446744073709551557
theorem Pot2.same {p : Addr} {H H' : Hp} (h : Pot2 H p) (s : Same H H') : Pot2 H' p := by
 obtain ⟨o, m, h1, h2⟩ := h
 exact ⟨o, m, s _ _ h1, h2⟩
theorem Pot2.keepT {p : Addr} {H H' : Hp} (h : Pot2 H p) (k : Keep p p H H') {a : Addr} {xs : List V} (ha : H a = some (.tup xs)) : H' a = some (.tup xs) := by
 obtain ⟨o, m, h1, h2⟩ := h
 have : a ≠ p := ne_of ha h1 (by intro z; cases z)
 exact k a _ ha this this
theorem Pot2.ne_new {p l : Addr} {H : Hp} (h : Pot2 H p) (hl : H l = none) : l ≠ p := by
 obtain ⟨o, m, h1, h2⟩ := h
 intro e
 rw [e, h1] at hl
 cases hl
noncomputable def spPot2 (K : PySem.W.Frag) : Sp := fun vs H Q _ => ∃ (a : Addr) (ns : List Int) (k : Int), vs = [.ref a, .int k] /\ SqL K H a (ns.map V.int) /\ 0 <= k /\ k <= 1000 /\ ∀ p H', Same H H' -> Pot2 H' p -> H p = none -> Q (.ref p) H'
noncomputable def spNext2 : Sp := fun vs H Q _ => ∃ (p : Addr) (m : Int), vs = [.ref p, .int m] /\ 0 < m /\ m < 1073741824 /\ Pot2 H p /\ ∀ d H', 0 <= d -> d < m -> Pot2 H' p -> Keep p p H H' -> Q (.int d) H'
theorem far2_bits : Builtin.Int.intBits (((10 : Int) ^ (60 : Int).toNat) ^ (15 : Int).toNat) <= 3616 := by
 have h10 : Builtin.Int.intBits (10 : Int) <= 4 := intBits_le_iff.mpr (by decide)
 have h1 : Builtin.Int.intBits ((10 : Int) ^ (60 : Int).toNat) <= 241 := intBits_pow_le h10 60
 exact intBits_pow_le h1 15
theorem far2_pow : (Builtin.Int.intBits ((10 : Int) ^ (60 : Int).toNat) : Int) * 15 <= 2 ^ 27 := by
 have h10 : Builtin.Int.intBits (10 : Int) <= 4 := intBits_le_iff.mpr (by decide)
 have h1 : Builtin.Int.intBits ((10 : Int) ^ (60 : Int).toNat) <= 241 := intBits_pow_le h10 60
 (first | lia | omega)
theorem far2_pos : (0 : Int) < ((10 : Int) ^ (60 : Int).toNat) ^ (15 : Int).toNat := Int.pow_pos (Int.pow_pos (by decide))
theorem pot2_bits {F r k e : Int} (hF : Builtin.Int.intBits F <= 3616) (r0 : 0 <= r) (r1 : r < F) (k0 : 0 <= k) (k1 : k <= 1000) (e0 : 0 <= e) (e1 : e <= 1) : (Builtin.Int.intBits (2 * r + e + 7919 * k + 13) : Int) * 3 <= 2 ^ 27 := by
 have h1 := intBits_le_iff.mp hF
 have h3 : 2 ^ 3616 * 2 + 7920000 <= 2 ^ 3700 := by decide +kernel
 have h2 : Builtin.Int.intBits (2 * r + e + 7919 * k + 13) <= 3700 := by
  refine intBits_le_iff.mpr ?_
  generalize (2 : Nat) ^ 3616 = N at *
  generalize (2 : Nat) ^ 3700 = M at *
  (first | lia | omega)
 (first | lia | omega)
end L2
namespace L2
open PySem PySem.Spec PyProof.Rows
noncomputable def AlikeW (H : Hp) : Nat -> V -> V -> Prop
 | 0, x, y => ∃ a : Int, x = .int a /\ y = .int a
 | n + 1, x, y => (∃ a : Int, x = .int a /\ y = .int a) ∨ ∃ a b xs ys, x = .ref a /\ y = .ref b /\ H a = some (.tup xs) /\ H b = some (.tup ys) /\ xs.length < sizeLine /\ Paired (AlikeW H n) xs ys
theorem AlikeW.sameT {H H' : Hp} (s : SameT H H') : ∀ {n : Nat} {x y : V}, AlikeW H n x y -> AlikeW H' n x y
 | 0, _, _, h => h
 | n + 1, _, _, .inl h => .inl h
 | n + 1, _, _, .inr ⟨a, b, xs, ys, e1, e2, h1, h2, h3, pr⟩ => .inr ⟨a, b, xs, ys, e1, e2, s _ _ h1, s _ _ h2, h3, Paired.mapP pr fun _ _ q => AlikeW.sameT s q⟩
noncomputable def spSameW (n : Nat) : Sp := fun vs H Q _ => ∃ x y, vs = [x, y] /\ AlikeW H n x y /\ ∀ H', Same H H' -> Q (.bl true) H'
theorem lc_zip_trueW {K : PySem.W.Frag} {a b : Addr} {xs ys : List V} {te : TE} {σ : L2.St} {H1 : Hp} {Q : VK} (hxy : xs.length = ys.length) (small : xs.length < sizeLine) (Fx : ∀ {H}, Same H1 H -> SqT K H a xs) (Fy : ∀ {H}, Same H1 H -> SqT K H b ys)
  (he : ∀ (i : Nat) x y, xs[i]? = some x -> ys[i]? = some y -> ∀ H, Same H1 H -> ∀ Q' : VK, (∀ H', Same H H' -> Q' (.bl true) H') -> te [some x, some y] H Q')
  (fin : ∀ acc H', H1 acc = none -> Same H1 H' -> H' acc = some (.lst ((List.replicate xs.length true).map V.bl)) -> Q (.ref acc) H') :
  LcW (Itz K a b) H1 (gTup K 2 (gCons (gName 0) (gCons (gName 1) gNil))) tNoTest te 2 [] σ Q := by
 intro acc ha
 refine ⟨fun i m H => m = xs.length - i /\ i <= xs.length /\ Same H1 H /\ H acc = some (.lst ((List.replicate i true).map V.bl)), ⟨xs.length, by simp, Nat.zero_le _, same_upd ha, upd_same⟩, ?_⟩
 rintro i m H ⟨rfl, hi, sm, hacc⟩
 by_cases hlt : i < xs.length
 ·have hlt' : i < ys.length := by (first | lia | omega)
  refine .inr ⟨⟨xs, ys, xs[i], ys[i], Fx sm, Fy sm, List.getElem?_eq_getElem hlt, List.getElem?_eq_getElem hlt'⟩, fun v H' y => ?_⟩
  obtain ⟨t, x, y, ht, rfl, rfl, hv⟩ := y
  obtain ⟨e1, e2⟩ := hv xs ys (Fx sm) (Fy sm)
  refine ⟨t, _, rfl, SqT.of upd_same, rfl, x, _, rfl, y, _, rfl, rfl, ⟨rfl, fun j v e => ?_⟩, ?_⟩
  ·match j, e with
   | 0, e => cases e
   | 1, e => cases e
   | j + 2, e => cases e
  ·unfold tNoTest
   dsimp only
   rw [if_pos rfl]
   refine he i x y e1 e2 _ (sm.trans (same_upd ht)) _ fun H4 s4 => ?_
   have h4 : H4 acc = some (.lst ((List.replicate i true).map V.bl)) := s4 _ _ (by rw [upd_ne (ne_of_none hacc ht)]; exact hacc)
   refine ⟨_, h4, by simp; (first | lia | omega), xs.length - (i + 1), by (first | lia | omega), rfl, hlt, ?_, ?_⟩
   ·exact same_updR ((sm.trans (same_upd ht)).trans s4) ha
   ·rw [upd_same, List.replicate_succ', List.map_append]
    rfl
 ·have e : i = xs.length := by (first | lia | omega)
  subst e
  exact .inl ⟨⟨xs, ys, Fx sm, Fy sm, .inl (List.getElem?_eq_none (Nat.le_refl _))⟩, fin acc H ha sm hacc⟩
theorem lc_growF {J : It} {Ok : Hp -> Prop} {xs : List V} {tt : TT} {te : TE} {ix : List Nat} {σ : L2.St} {H1 : Hp} {Q : VK} (Y : Yields J Ok xs) (small : xs.length < sizeLine) (p : V -> Bool) (R : V -> V -> Hp -> Prop) (hR : ∀ x v H H', SameT H H' -> R x v H -> R x v H') (hok : ∀ H, Same H1 H -> Ok H)
  (ht : ∀ x ∈ xs, ∀ H, Same H1 H -> ∀ Q' : Bool -> Hp -> Prop, Q' (p x) H -> tt (some x :: ix.map fun i => σ.getD i none) H Q')
  (he : ∀ x ∈ xs, p x = true -> ∀ H, Same H1 H -> ∀ Q' : VK, (∀ v H', Same H H' -> R x v H' -> Q' v H') -> te (some x :: ix.map fun i => σ.getD i none) H Q')
  (fin : ∀ acc ys H', H1 acc = none -> Same H1 H' -> H' acc = some (.lst ys) -> Paired (fun x v => R x v H') (xs.filter p) ys -> Q (.ref acc) H') :
  LcW J H1 (gName 0) tt te 1 ix σ Q := by
 intro acc ha
 refine ⟨fun i m H => m = xs.length - i /\ i <= xs.length /\ Same H1 H /\ ∃ ys, H acc = some (.lst ys) /\ Paired (fun x v => R x v H) ((xs.take i).filter p) ys, ⟨xs.length, by simp, Nat.zero_le _, same_upd ha, [], upd_same, .nil⟩, ?_⟩
 rintro i m H ⟨rfl, hi, sm, ys, hacc, pr⟩
 have o := hok _ sm
 have hlen : ys.length <= i := by
  rw [<- Paired.length pr]
  exact Nat.le_trans (List.length_filter_le _ _) (by rw [List.length_take]; (first | lia | omega))
 by_cases hlt : i < xs.length
 ·refine .inr ⟨Y.go i _ o hlt, fun x H' y => ?_⟩
  obtain ⟨rfl, hx⟩ := Y.yld i _ x H' o hlt y
  have hmem : x ∈ xs := List.mem_of_getElem? hx
  have htk : xs.take (i + 1) = xs.take i ++ [x] := by
   rw [List.take_succ, hx]; rfl
  refine ⟨⟨rfl, fun j v e => ?_⟩, ?_⟩
  ·cases j with
   | zero => cases e
   | succ j => exact e
  ·refine ht x hmem _ sm _ ?_
   cases hp : p x with
   | false =>
    rw [if_neg Bool.false_ne_true]
    refine ⟨xs.length - (i + 1), by (first | lia | omega), rfl, hlt, sm, ys, hacc, ?_⟩
    rw [htk, List.filter_append]
    simpa [hp] using pr
   | true =>
    rw [if_pos rfl]
    refine he x hmem hp _ sm _ fun v H4 s4 r4 => ?_
    have h4 : H4 acc = some (.lst ys) := s4 _ _ hacc
    refine ⟨ys, h4, by (first | lia | omega), xs.length - (i + 1), by (first | lia | omega), rfl, hlt, same_updR (sm.trans s4) ha, ys ++ [v], upd_same, ?_⟩
    have st : SameT H4 (upd H4 acc (.lst (ys ++ [v]))) := sameT_lst h4
    rw [htk, List.filter_append, show [x].filter p = [x] by simp [hp]]
    exact Paired.snoc (Paired.mapP pr fun x' v' r' => hR _ _ _ _ (s4.t.trans st) r') (hR _ _ _ _ st r4)
 ·have e : i = xs.length := by (first | lia | omega)
  subst e
  refine .inl ⟨Y.stop _ o, ?_⟩
  rw [List.take_length] at pr
  exact fin acc ys H ha sm hacc pr
end L2
namespace L2
open PySem PySem.Spec PyProof.Rows
noncomputable def numF (lo : Int) (n : Nat) : List Int := (List.range n).map fun (i : Nat) => lo + (i : Int)
theorem rangeV_numF (lo : Int) (n : Nat) : rangeV lo n = (numF lo n).map V.int := by
 unfold rangeV numF
 rw [List.map_map]
 rfl
noncomputable def prsAt (m : Nat) (k : Int) : List (Int × Int) := (numF (k + 1) ((m : Int) - (k + 1)).toNat).map fun j => (k, j)
noncomputable def prsZ (m i : Nat) : List (Int × Int) := (num0 i).flatMap (prsAt m)
noncomputable def rowP (kj : Int × Int) : List Int := [kj.1, kj.2]
noncomputable def onesZ (n : Nat) : List (List Int) := (num0 n).map fun k => [k]
noncomputable def partsZ (kind : Str) (m : Nat) : List (List Int) := if kind = "crossed" then (prsZ m m).map rowP else if kind = "rises" then onesZ (m - 1) else onesZ m
theorem prsZ_succ (m i : Nat) : prsZ m (i + 1) = prsZ m i ++ prsAt m i := by
 unfold prsZ
 rw [num0_succ, List.flatMap_append]
 simp
theorem prsAt_len {m : Nat} {k : Int} (h : 0 <= k) : (prsAt m k).length <= m := by
 unfold prsAt numF
 simp
 (first | lia | omega)
theorem prsZ_len (m : Nat) : ∀ i : Nat, (prsZ m i).length <= i * m
 | 0 => by simp [prsZ, num0]
 | i + 1 => by
  rw [prsZ_succ, List.length_append]
  have := prsZ_len m i
  have := prsAt_len (m := m) (k := (i : Int)) (by (first | lia | omega))
  rw [Nat.succ_mul]
  (first | lia | omega)
theorem num0_lenP (n : Nat) : (num0 n).length = n := by simp [num0]
theorem partsZ_len {kind : Str} {m : Nat} (hm : m <= 60) : (partsZ kind m).length <= 3600 := by
 unfold partsZ
 split
 ·rw [List.length_map]
  refine Nat.le_trans (prsZ_len m m) ?_
  exact Nat.mul_le_mul hm hm
 ·split
  ·unfold onesZ; rw [List.length_map, num0_lenP]; (first | lia | omega)
  ·unfold onesZ; rw [List.length_map, num0_lenP]; (first | lia | omega)
noncomputable def RTab (g : Int -> List Int) (x v : V) (H : Hp) : Prop := ∃ (k : Int) (z : Addr), x = .int k /\ v = .ref z /\ H z = some (.tup ((g k).map V.int))
theorem tab_rows {H : Hp} {g : Int -> List Int} : ∀ {ks : List Int} {vs : List V}, Paired (fun x v => RTab g x v H) (ks.map V.int) vs -> ∃ zs : List Addr, vs = zs.map V.ref /\ RowsAt H zs (ks.map g)
 | [], _, .nil => ⟨[], rfl, .nil⟩
 | k :: ks, _, .cons p t => by
  obtain ⟨k', z, e1, rfl, h⟩ := p
  cases e1
  obtain ⟨zs, rfl, R⟩ := tab_rows t
  exact ⟨z :: zs, rfl, .cons h R⟩
noncomputable def spLawParts : Sp := fun vs H Q _ => ∃ (kind : Str) (m : Nat), vs = [.str kind, .int m] /\ kind ∈ kinds5 /\ m <= 60 /\ ∀ p zs H', Same H H' -> H' p = some (.lst (zs.map V.ref)) -> RowsAt H' zs (partsZ kind m) -> Q (.ref p) H'
theorem num0_rises (m : Nat) : (num0 m).filter (fun k => decide (k + 1 < (m : Int))) = num0 (m - 1) := by
 cases m with
 | zero => rfl
 | succ m =>
  rw [num0_succ, List.filter_append]
  rw [List.filter_eq_self.mpr fun k hk => by have := (num0_mem hk); simp; (first | lia | omega)]
  simp
end L2
namespace L2
open PySem PySem.Spec PyProof.Rows
theorem Paired.append {α β : Type} {F : α -> β -> Prop} : ∀ {l1 l2 : List α} {v1 v2 : List β}, Paired F l1 v1 -> Paired F l2 v2 -> Paired F (l1 ++ l2) (v1 ++ v2)
 | _, _, _, _, .nil, h => h
 | _, _, _, _, .cons r t, h => .cons r (Paired.append t h)
end L2
namespace L2
open PySem PySem.Spec PyProof.Rows
noncomputable abbrev Sm (x : Int) (n : Nat) : Prop := Builtin.Int.intBits x <= n
theorem Sm.of {x : Int} {n : Nat} (h : x.natAbs < 2 ^ n) : Sm x n := intBits_le_iff.mpr h
theorem Sm.lt {x : Int} {n : Nat} (h : Sm x n) : x.natAbs < 2 ^ n := intBits_le_iff.mp h
theorem Sm.mono {x : Int} {m n : Nat} (h : Sm x m) (k : m <= n) : Sm x n := Nat.le_trans h k
theorem Sm.mul {x y : Int} {m n : Nat} (h : Sm x m) (k : Sm y n) : Sm (x * y) (m + n) := by
 refine Sm.of ?_
 rw [Int.natAbs_mul, Nat.pow_add]
 have h1 := h.lt
 have h2 := k.lt
 exact Nat.lt_of_le_of_lt (Nat.mul_le_mul_right _ (Nat.le_of_lt h1)) (Nat.mul_lt_mul_of_pos_left h2 (Nat.two_pow_pos _))
theorem Sm.le {x y : Int} {n : Nat} (h : Sm y n) (k : x.natAbs <= y.natAbs) : Sm x n := Sm.of (Nat.lt_of_le_of_lt k h.lt)
theorem op_mulC {X : Cx} : OpR X (binaryOp .Mult) (rI (fun i j => Sm i 8000 /\ Sm j 8000) fun i j => .int (i * j)) := opI fun _ _ _ _ _ _ _ hc q => mul_int q (IntMulOk.of_le hc.1 hc.2 (by decide))
theorem op_fdivC {X : Cx} : OpR X (binaryOp .FloorDiv) (rI (fun _ j => 0 < j /\ Sm j 8000) fun i j => .int (i / j)) := opI fun i j _ _ _ _ _ hc q => by
 have e : i / j = i.fdiv j := (Int.fdiv_eq_ediv_of_nonneg _ (Int.le_of_lt hc.1)).symm
 rw [e] at q
 have h1 := hc.1
 refine floordiv_int (by (first | lia | omega)) q (.inl (PyProof.noPylong_of_log2 ?_))
 have h0 : j.natAbs ≠ 0 := by (first | lia | omega)
 rw [Nat.log2_lt h0]
 exact (hc.2.mono (by decide)).lt
noncomputable def gcdZ (a b : Int) : Int := (Int.gcd a b : Int)
noncomputable def lowZ (a b : Int) : Int × Int := (a / gcdZ a b, b / gcdZ a b)
theorem gcdZ_pos {a b : Int} (h : 0 < b) : 0 < gcdZ a b := by
 unfold gcdZ
 have := Int.gcd_pos_of_ne_zero_right (a := a) (b := b) (by (first | lia | omega))
 (first | lia | omega)
theorem gcdZ_le {a b : Int} (h : 0 < b) : gcdZ a b <= b := Int.le_of_dvd h (Int.gcd_dvd_right ..)
theorem gcdZ_step {a b : Int} (h : 0 < b) : gcdZ b (a % b) = gcdZ a b := by
 unfold gcdZ
 have e : a % b = a + b * (-(a / b)) := by
  have := Int.mul_ediv_add_emod a b
  have e2 : b * (-(a / b)) = -(b * (a / b)) := Int.mul_neg ..
  (first | lia | omega)
 rw [e, Int.gcd_add_mul_left_right, Int.gcd_comm]
theorem gcdZ_zero {a : Int} (h : 0 <= a) : gcdZ a 0 = a := by
 unfold gcdZ
 rw [Int.gcd_zero_right]
 (first | lia | omega)
theorem gcdZ_comm (a b : Int) : gcdZ a b = gcdZ b a := by
 unfold gcdZ
 rw [Int.gcd_comm]
theorem gcdZ_abs (a b : Int) : gcdZ (if a < 0 then -a else a) b = gcdZ a b := by
 unfold gcdZ Int.gcd
 congr 2
 split <;> (first | lia | omega)
noncomputable abbrev Shr (H : Hp) (z : Addr) (p : Int × Int) : Prop := H z = some (.tup [.int p.1, .int p.2])
structure ShB (p : Int × Int) (n : Nat) : Prop where
 pos : 0 < p.2
 s1 : Sm p.1 n
 s2 : Sm p.2 n
noncomputable def tmZ (p q : Int × Int) : Int × Int := lowZ (p.1 * q.1) (p.2 * q.2)
noncomputable def spGcd : Sp := fun vs H Q _ => ∃ a b : Int, vs = [.int a, .int b] /\ 0 < b /\ Q (.int (gcdZ a b)) H
noncomputable def spLow : Sp := fun vs H Q _ => ∃ a b : Int, vs = [.int a, .int b] /\ 0 < b /\ Sm b 8000 /\ ∀ z H', Same H H' -> Shr H' z (lowZ a b) -> Q (.ref z) H'
noncomputable def spSh (g : Int × Int -> Int × Int -> Int × Int) : Sp := fun vs H Q _ => ∃ (x y : Addr) (p q : Int × Int), vs = [.ref x, .ref y] /\ Shr H x p /\ Shr H y q /\ ShB p 3900 /\ ShB q 3900 /\ ∀ z H', Same H H' -> Shr H' z (g p q) -> Q (.ref z) H'
end L2
namespace L2
open PySem PySem.Spec PyProof.Rows
end L2
namespace L2
open PySem PySem.Spec PyProof.Rows
theorem low_1 {d : Int} (h : 0 < d) : lowZ 1 d = (1, d) := by
 unfold lowZ gcdZ
 rw [show (Int.gcd 1 d : Nat) = 1 from by rw [Int.one_gcd]]
 simp
end L2
namespace L2
open PySem PySem.Spec PyProof.Rows
end L2
namespace L2
open PySem PySem.Spec PyProof.Rows
noncomputable def zscopeB (sc : Scope) (N : List Str) (scope : Scope) (N' : List Str) (n : Nat) (ix : List Nat) (z : Str) : Bool :=
 scope.kind == .function && scope.names.all (fun y => y.2 != .cell || y.1 == z) && scope.names.all (fun y => y.2 != .free || y.1 != z) && scope.names.all (fun y => y.2 != .local || scope.names.lookup y.1 == some .local) &&
 scope.names.all (fun y => y.2 != .free || (sc.names.lookup y.1 == some .cell || sc.names.lookup y.1 == some .free)) && scope.names.all (fun y => y.2 != .free || scope.names.lookup y.1 != some .local) &&
 N'.length == n + ix.length && (List.range ix.length).all fun j => match ix[j]?, N'[n + j]? with
  | some i, some x => N[i]? == some x && scope.names.contains (x, .free)
  | _, _ => false
theorem CompScopeZ.of {X : Cx} {sc : Scope} {N : List Str} {scope : Scope} {N' : List Str} {n : Nat} {ix : List Nat} {z : Str} (h : zscopeB sc N scope N' n ix z = true) (hs : X.env.scope = sc) (hN : X.N = N) (hcf : ∀ (a : Addr) (cl : List (Str × Addr)), cellsFrom a scope.names cl = (z, a) :: cl)
  (hpc : ∀ h : Heap, pushCells h scope.names = h.push { cls := .type "cell", data := .cell none }) : CompScopeZ X scope N' n ix z := by
 unfold zscopeB at h
 simp only [Bool.and_eq_true, List.all_eq_true] at h
 obtain ⟨⟨⟨⟨⟨⟨⟨h1, h2⟩, h2'⟩, h3⟩, h4⟩, h5⟩, h6⟩, h7⟩ := h
 subst hs hN
 refine ⟨eq_of_beq h1, fun y hy hc => ?_, fun y hy => ?_, hcf, hpc, fun y hy hl => ?_, fun y hy hf => ?_, fun y hy hl => ?_, eq_of_beq h6, fun j i e => ?_⟩
 ·have := h2 y hy
  rw [hc] at this
  simpa using this
 ·have := h2' _ hy
  simpa using this
 ·have := h3 y hy
  rw [hl] at this
  simpa using this
 ·have := h4 y hy
  rw [hf] at this
  simpa using this
 ·have := h5 _ hy
  rw [hl] at this
  simp at this
 ·have hj : j < ix.length := (List.getElem?_eq_some_iff.mp e).1
  have := h7 j (List.mem_range.mpr hj)
  rw [e] at this
  cases hx : N'[n + j]? with
  | none => rw [hx] at this; simp at this
  | some x =>
   rw [hx] at this
   simp only [Bool.and_eq_true] at this
   exact ⟨x, rfl, eq_of_beq this.1, by simpa using this.2⟩
theorem piK_list {X : Cx} {tg l : Expr} {tl : TE} (K : PySem.W.Frag) (hK : X.K = K) (hl : PE X l tl) : PI X tg l (iList K tl) := hK ▸ pi_list hl
noncomputable def insZ (o : List Int) (k : Nat) (i : Nat) : List Int := o.take i ++ [(k : Int)] ++ o.drop i
noncomputable def insR (k : Nat) (o : List Int) : List (List Int) := (List.range (k + 1)).map (insZ o k)
noncomputable def allI : Nat -> List (List Int)
 | 0 => [[]]
 | k + 1 => (allI k).flatMap (insR k)
noncomputable def rndF (o : List Int) (k : Int) : Nat -> Int -> List Int -> Option (List Int)
 | 0, _, _ => none
 | f + 1, x, acc => if x = k then some acc else if 0 <= x /\ x < o.length then rndF o k f (o.getD x.toNat 0) (acc ++ [x]) else none
noncomputable def rndZ (o : List Int) (k : Int) : Option (List Int) := rndF o k 10 (o.getD k.toNat 0) [k]
noncomputable def hasZ (kind : Str) (p : List Int) (o : List Int) : Bool :=
 let k := p.getD 0 0
 if kind = "rounds" then ((rndZ o k).getD []).all fun y => decide (y <= k)
 else if kind = "stays" then decide (o.getD k.toNat 0 = k)
 else if kind = "rises" then decide (o.getD k.toNat 0 < o.getD (k.toNat + 1) 0)
 else if kind = "highs" then (o.take (k.toNat + 1)).all fun y => decide (y <= o.getD k.toNat 0)
 else decide (o.getD (p.getD 1 0).toNat 0 < o.getD k.toNat 0)
noncomputable def PartOk (kind : Str) (p : List Int) (n : Nat) : Prop := (∃ k : Nat, p.getD 0 0 = (k : Int) /\ 0 < p.length /\ k < n /\ (kind = "rises" -> k + 1 < n)) /\ (kind = "crossed" -> ∃ j : Nat, p.getD 1 0 = (j : Int) /\ 1 < p.length /\ j < n)
theorem take_min {α : Type} (l : List α) (k : Nat) : l.take (min k l.length) = l.take k := by
 by_cases h : k <= l.length
 ·rw [Nat.min_eq_left h]
 ·rw [Nat.min_eq_right (by (first | lia | omega)), List.take_length, List.take_of_length_le (by (first | lia | omega))]
theorem cutV_takeI (ns : List Int) (k : Nat) : cutV (ns.map V.int) none (some (k : Int)) = (ns.take k).map V.int := by
 unfold cutV
 rw [HT.sIx_none, HT.sIx_nat, List.drop_zero, Nat.sub_zero, take_min, List.map_take]
theorem cutV_dropI (ns : List Int) (k : Nat) : cutV (ns.map V.int) (some (k : Int)) none = (ns.drop k).map V.int := by
 unfold cutV
 rw [HT.sIx_none, HT.sIx_nat, mapI_len, <- List.map_drop, <- List.map_take]
 congr 1
 by_cases h : k <= ns.length
 ·rw [Nat.min_eq_left h, List.take_of_length_le (by rw [List.length_drop]; exact Nat.le_refl _)]
 ·rw [Nat.min_eq_right (by (first | lia | omega)), List.drop_length, List.drop_of_length_le (by (first | lia | omega))]
  simp
theorem rndF_mem {o : List Int} {k : Int} : ∀ {f : Nat} {x : Int} {acc r : List Int}, rndF o k f x acc = some r -> k ∈ acc -> k ∈ r
 | 0, _, _, _, h, _ => nomatch h
 | f + 1, x, acc, r, h, m => by
  unfold rndF at h
  split at h
  ·cases h; exact m
  ·split at h
   ·exact rndF_mem h (List.mem_append_left _ m)
   ·cases h
theorem rndZ_mem {o : List Int} {k : Int} {r : List Int} (h : rndZ o k = some r) : k ∈ r := rndF_mem h (by simp)
theorem max_all {r : List Int} {k M : Int} (hk : k ∈ r) (hM : M ∈ r) (h : ∀ a ∈ r, a <= M) : decide (V.int M = V.int k) = r.all fun y => decide (y <= k) := by
 by_cases e : M = k
 ·subst e
  rw [decide_eq_true rfl]
  symm
  rw [List.all_eq_true]
  intro y hy
  exact decide_eq_true (h y hy)
 ·rw [decide_eq_false (fun z => e (V.int.inj z))]
  symm
  rw [List.all_eq_false]
  refine ⟨M, hM, fun z => e ?_⟩
  have := of_decide_eq_true z
  have := h k hk
  (first | lia | omega)
noncomputable def spRnd : Sp := fun vs H Q _ => ∃ (a : Addr) (o : List Int) (k : Nat) (r : List Int), vs = [.ref a, .int k] /\ H a = some (.tup (o.map V.int)) /\ k < o.length /\ rndZ o k = some r /\ ∀ L H', Same H H' -> H' L = some (.lst (r.map V.int)) -> Q (.ref L) H'
noncomputable def spHas : Sp := fun vs H Q _ => ∃ (kind : Str) (p a : Addr) (ps o : List Int), vs = [.str kind, .ref p, .ref a] /\ kind ∈ kinds5 /\ H p = some (.tup (ps.map V.int)) /\ H a = some (.tup (o.map V.int)) /\ PartOk kind ps o.length /\ (kind = "rounds" -> (rndZ o (ps.getD 0 0)).isSome = true) /\ ∀ H', Same H H' -> Q (.bl (hasZ kind ps o)) H'
end L2
namespace L2
open PySem PySem.Spec PyProof.Rows
noncomputable def vInt (v : V) : Int := match v with | .int i => i | _ => 0
theorem vInt_map (ns : List Int) : (ns.map V.int).map vInt = ns := by
 rw [List.map_map]
 exact List.map_id' _
theorem RowsAt.mem {H : Hp} : ∀ {zs : List Addr} {rows : List (List Int)}, RowsAt H zs rows -> ∀ {z : Addr}, z ∈ zs -> ∃ r ∈ rows, H z = some (.tup (r.map V.int))
 | _, _, .nil, _, h => nomatch h
 | _, _, .cons (b := r) h t, z, hz => by
  rcases List.mem_cons.mp hz with rfl | hz
  ·exact ⟨r, by simp, h⟩
  ·obtain ⟨r', h1, h2⟩ := RowsAt.mem t hz
   exact ⟨r', List.mem_cons_of_mem _ h1, h2⟩
theorem map_int_inj {a b : List Int} (h : a.map V.int = b.map V.int) : a = b := by
 have := congrArg (List.map vInt) h
 rwa [vInt_map, vInt_map] at this
theorem all_len7 : ∀ n < 7, ∀ o ∈ allI n, o.length = n := by decide +kernel
theorem all_rnd7 : ∀ n < 7, ∀ o ∈ allI n, ∀ k < n, (rndZ o (k : Nat)).isSome = true := by decide +kernel
theorem all_cnt7 : ∀ n < 7, (allI n).length <= 720 /\ 0 < (allI n).length := by decide +kernel
theorem parts_ok7 : ∀ n : Nat, n < 7 -> ∀ kind ∈ kinds5, ∀ p ∈ partsZ kind n, (0 < p.length /\ 0 <= p.getD 0 0 /\ (p.getD 0 0).toNat < n /\ (kind = "rises" -> (p.getD 0 0).toNat + 1 < n)) /\ (kind = "crossed" -> 1 < p.length /\ 0 <= p.getD 1 0 /\ (p.getD 1 0).toNat < n) := by decide +kernel
theorem part_ok7 {n : Nat} {kind : Str} {p : List Int} (hn : n < 7) (hk : kind ∈ kinds5) (hp : p ∈ partsZ kind n) : PartOk kind p n := by
 obtain ⟨⟨a1, a2, a3, a4⟩, b⟩ := parts_ok7 n hn kind hk p hp
 refine ⟨⟨(p.getD 0 0).toNat, by (first | lia | omega), a1, a3, a4⟩, fun e => ?_⟩
 obtain ⟨b1, b2, b3⟩ := b e
 exact ⟨(p.getD 1 0).toNat, by (first | lia | omega), b1, b3⟩
noncomputable def oneA (kind : Str) (N : Int) (p : List Int) : Int × Int := (1, if kind = "rounds" then N - p.getD 0 0 else if kind = "stays" then N else if kind = "highs" then p.getD 0 0 + 1 else 2)
theorem parts_cnt7 : ∀ n : Nat, n < 7 -> ∀ kind ∈ kinds5, (partsZ kind n).length <= 100 := by decide +kernel
theorem parts_pos : ∀ n : Nat, n < 61 -> 2 <= n -> ∀ kind ∈ kinds5, 0 < (partsZ kind n).length := by decide +kernel
theorem parts_len1 {kind : Str} {m : Nat} : ∀ r ∈ partsZ kind m, 0 < r.length := fun r hr => by
 unfold partsZ at hr
 split at hr
 ·obtain ⟨_, _, rfl⟩ := List.mem_map.mp hr
  exact Nat.succ_pos _
 ·split at hr
  all_goals
   unfold onesZ at hr
   obtain ⟨_, _, rfl⟩ := List.mem_map.mp hr
   exact Nat.succ_pos _
noncomputable def spAllI7 : Sp := fun vs H Q _ => ∃ n : Nat, vs = [.int n] /\ n < 7 /\ ∀ p zs H', Same H H' -> H' p = some (.lst (zs.map V.ref)) -> RowsAt H' zs (allI n) -> Q (.ref p) H'
noncomputable def spOneA : Sp := fun vs H Q _ => ∃ (kind : Str) (N : Int) (p : Addr) (ps : List Int), vs = [.str kind, .int N, .ref p] /\ kind ∈ kinds5 /\ H p = some (.tup (ps.map V.int)) /\ 0 < ps.length /\ ∀ z H', Same H H' -> Shr H' z (oneA kind N ps) -> Q (.ref z) H'
noncomputable def spShK (g : Int -> List Int -> Int) : Sp := fun vs H Q _ => ∃ (N : Int) (p : Addr) (ps : List Int), vs = [.int N, .ref p] /\ H p = some (.tup (ps.map V.int)) /\ 0 < ps.length /\ ∀ z H', Same H H' -> Shr H' z (1, g N ps) -> Q (.ref z) H'
end L2
namespace L2
open PySem PySem.Spec PyProof.Rows
section
variable {κ : Type} [DecidableEq κ]
noncomputable def valV (kvs : List (κ × V)) (k : κ) : Option V := (kvs.find? fun kv => decide (kv.1 = k)).map (·.2)
noncomputable def putK (kvs : List (κ × V)) (k : κ) (v : V) : List (κ × V) :=
 if (kvs.any fun kv => decide (kv.1 = k)) = true then kvs.map (fun kv => if kv.1 = k then (kv.1, v) else kv) else kvs ++ [(k, v)]
theorem valV_pos {p : κ × V} {r : List (κ × V)} {k : κ} (e : p.1 = k) : valV (p :: r) k = some p.2 := by simp [valV, List.find?_cons, e]
theorem valV_neg {p : κ × V} {r : List (κ × V)} {k : κ} (e : ¬ p.1 = k) : valV (p :: r) k = valV r k := by simp [valV, List.find?_cons, e]
theorem valV_any (k : κ) : ∀ kvs : List (κ × V), (kvs.any fun kv => decide (kv.1 = k)) = (valV kvs k).isSome
 | [] => rfl
 | p :: r => by
  rw [List.any_cons]
  by_cases e : p.1 = k
  ·simp only [valV_pos e, decide_eq_true e, Bool.true_or, Option.isSome_some]
  ·rw [valV_neg e, decide_eq_false e, Bool.false_or]; exact valV_any k r
theorem valV_map (k j : κ) (y : V) : ∀ kvs : List (κ × V), valV (kvs.map fun kv => if kv.1 = k then (kv.1, y) else kv) j = (valV kvs j).map fun x => if j = k then y else x
 | [] => rfl
 | p :: r => by
  have ih := valV_map k j y r
  rw [List.map_cons]
  by_cases h : p.1 = k
  ·rw [if_pos h]
   by_cases e : p.1 = j
   ·rw [valV_pos (p := (p.1, y)) e, valV_pos e, Option.map_some, if_pos (e.symm.trans h)]
   ·rw [valV_neg (p := (p.1, y)) e, valV_neg e, ih]
  ·rw [if_neg h]
   by_cases e : p.1 = j
   ·rw [valV_pos (p := p) e, valV_pos e, Option.map_some, if_neg (fun z => h (e.trans z))]
   ·rw [valV_neg (p := p) e, valV_neg e, ih]
theorem valV_snoc (k j : κ) (y : V) : ∀ kvs : List (κ × V), valV kvs k = none -> valV (kvs ++ [(k, y)]) j = if j = k then some y else valV kvs j
 | [], _ => by
  by_cases e : k = j
  ·rw [if_pos e.symm]; exact valV_pos (p := (k, y)) e
  ·rw [if_neg (fun z => e z.symm)]; exact valV_neg (p := (k, y)) e
 | p :: r, hn => by
  rw [List.cons_append]
  have hk : ¬ p.1 = k := fun z => by rw [valV_pos z] at hn; cases hn
  rw [valV_neg hk] at hn
  have ih := valV_snoc k j y r hn
  by_cases e : p.1 = j
  ·rw [valV_pos e, valV_pos e, if_neg (fun z => hk (e.trans z))]
  ·rw [valV_neg e, valV_neg e, ih]
theorem valV_put (kvs : List (κ × V)) (k j : κ) (y : V) : valV (putK kvs k y) j = if j = k then some y else valV kvs j := by
 unfold putK
 by_cases a : (kvs.any fun kv => decide (kv.1 = k)) = true
 ·rw [if_pos a, valV_map]
  rw [valV_any] at a
  by_cases e : j = k
  ·obtain ⟨x, hx⟩ := Option.isSome_iff_exists.mp a
   rw [if_pos e, e, hx, Option.map_some, if_pos rfl]
  ·rw [if_neg e]
   cases valV kvs j with
   | none => rfl
   | some x => rw [Option.map_some, if_neg e]
 ·rw [if_neg a]
  refine valV_snoc k j y kvs ?_
  rw [valV_any] at a
  cases q : valV kvs k with
  | none => rfl
  | some x => rw [q] at a; exact (a rfl).elim
theorem length_putK (kvs : List (κ × V)) (k : κ) (v : V) : (putK kvs k v).length <= kvs.length + 1 := by
 unfold putK
 split
 ·rw [List.length_map]; (first | lia | omega)
 ·rw [List.length_append, List.length_cons, List.length_nil]; (first | lia | omega)
theorem RelO.isSome_eq {o : Option V} {u : Option Value} (r : RelO o u) : o.isSome = u.isSome := by
 cases o with
 | none => cases u with
  | none => rfl
  | some _ => exact (show False from r).elim
 | some _ => cases u with
  | none => exact (show False from r).elim
  | some _ => rfl
theorem KV.val {kvs : List (κ × V)} {vs : List (κ × Value)} (r : KV kvs vs) (k : κ) : RelO (valV kvs k) (valueAt vs k) := by
 unfold KV at r
 induction r with
 | nil => exact True.intro
 | @cons p q ps qs h t ih =>
  obtain ⟨h1, h2⟩ := h
  by_cases e : p.1 = k
  ·have e' : q.1 = k := h1.symm.trans e
   have b : valueAt (q :: qs) k = some q.2 := by simp [valueAt, List.find?_cons, e']
   rw [valV_pos e, b]; exact h2
  ·have e' : ¬ q.1 = k := fun z => e (h1.trans z)
   have b : valueAt (q :: qs) k = valueAt qs k := by simp [valueAt, List.find?_cons, e']
   rw [valV_neg e, b]; exact ih
end
theorem kV_is {P : Program} {w : World} {k : Key} {u : Value} (r : RelV (kV k) u) : (mixKind P w).is k u = true := by
 cases k with
 | inl i => obtain ⟨t, e⟩ := (show ∃ t, u = Value.int i t from r); subst e; exact mixKind_int P w i t
 | inr x => obtain ⟨t, e⟩ := (show ∃ t, u = Value.str x t from r); subst e; exact mixKind_str P w x t
theorem items_are {P : Program} {w : World} : ∀ {ks : List Key} {us : List Value}, Vals (ks.map kV) us -> ItemsAre (mixKind P w) ks us
 | [], _, r => by rw [List.map_nil] at r; cases r; exact .nil
 | k :: ks, _, r => by
  rw [List.map_cons] at r
  cases r with
  | cons h t => exact .cons (kV_is h) (items_are t)
noncomputable abbrev KT (H : Hp) : List (List Key × V) -> List (List Key × Addr × Value) -> Prop := Paired fun p q => p.1 = q.1 /\ H q.2.1 = some (.tup (p.1.map kV)) /\ RelV p.2 q.2.2
theorem KT.val {H : Hp} {kvs : List (List Key × V)} {xs : List (List Key × Addr × Value)} (r : KT H kvs xs) (k : List Key) : RelO (valV kvs k) ((atKey xs k).map (·.2)) := by
 induction r with
 | nil => exact True.intro
 | @cons p q ps qs h t ih =>
  obtain ⟨h1, _, h2⟩ := h
  by_cases e : p.1 = k
  ·have e' : q.1 = k := h1.symm.trans e
   have b : atKey (q :: qs) k = some q.2 := by simp [atKey, List.find?_cons, e']
   rw [valV_pos e, b]; exact h2
  ·have e' : ¬ q.1 = k := fun z => e (h1.trans z)
   have b : atKey (q :: qs) k = atKey qs k := by simp [atKey, List.find?_cons, e']
   rw [valV_neg e, b]; exact ih
theorem KT.repl {H : Hp} {kvs : List (List Key × V)} {xs : List (List Key × Addr × Value)} (r : KT H kvs xs) (k : List Key) {y : V} {u : Value} (ry : RelV y u) :
  KT H (kvs.map fun kv => if kv.1 = k then (kv.1, y) else kv) (xs.map (putAt k u)) := by
 induction r with
 | nil => exact .nil
 | @cons p q ps qs h t ih =>
  rw [List.map_cons, List.map_cons]
  refine .cons ?_ ih
  obtain ⟨h1, h2, h3⟩ := h
  unfold putAt
  by_cases e : p.1 = k
  ·rw [if_pos e, if_pos (h1.symm.trans e)]; exact ⟨h1, h2, ry⟩
  ·rw [if_neg e, if_neg (fun z => e (h1.trans z))]; exact ⟨h1, h2, h3⟩
theorem KT.put {H : Hp} {kvs : List (List Key × V)} {xs : List (List Key × Addr × Value)} (r : KT H kvs xs) (k : List Key) {b : Addr} {y : V} {u : Value} (hb : H b = some (.tup (k.map kV))) (ry : RelV y u) :
  KT H (putK kvs k y) (storedH xs k b u) := by
 have e : (kvs.any fun kv => decide (kv.1 = k)) = (atKey xs k).isSome := by
  rw [valV_any, (r.val k).isSome_eq, Option.isSome_map]
 unfold putK storedH
 rw [e]
 by_cases q : (atKey xs k).isSome = true
 ·rw [if_pos q, if_pos q]; exact r.repl k ry
 ·rw [if_neg q, if_neg q]; exact Paired.snoc r ⟨rfl, hb, ry⟩
theorem KT.keeps {H H' : Hp} {kvs : List (List Key × V)} {xs : List (List Key × Addr × Value)} (r : KT H kvs xs) (ht : ∀ b ys, H b = some (.tup ys) -> H' b = some (.tup ys)) : KT H' kvs xs :=
 Paired.mapP r fun _ _ z => ⟨z.1, ht _ _ z.2.1, z.2.2⟩
section
variable {P : Program} {w : World} {H : Hp} {h : Heap} {a : Addr}
theorem rd_of {u : HO} (ok : HOk P w H h) (e : Rd H a u) : ObjOk P w H h a u := e.ok ok
theorem dk_rd {kvs : List (Key × V)} (ok : HOk P w H h) (e : Rd H a (.dK kvs)) : kvs.length <= sizeLine /\ (a == sysModules) = false /\ ∃ vs, KV kvs vs /\ h.DictOf (mixKind P w) a vs :=
 show ObjOk P w H h a (.dK kvs) from rd_of ok e
theorem dk_of {kvs : List (Key × V)} (ok : HOk P w H h) (e : H a = some (.dK kvs)) : kvs.length <= sizeLine /\ (a == sysModules) = false /\ ∃ vs, KV kvs vs /\ h.DictOf (mixKind P w) a vs := dk_rd ok (.inl e)
theorem key_of {ks : List Key} (ok : HOk P w H h) (e : H a = some (.tup (ks.map kV))) : (tupleKind (mixKind P w)).is h ks a := by
 obtain ⟨_, its, r, o, h1, h2, ⟨n, h3⟩, _⟩ := (show ObjOk P w H h a (.tup (ks.map kV)) from ok a _ e)
 exact ⟨o, its.toArray, n, h1, h2, h3, by simpa using items_are r⟩
theorem dt_rd {kvs : List (List Key × V)} (ok : HOk P w H h) (e : Rd H a (.dT kvs)) : kvs.length <= sizeLine /\ (a == sysModules) = false /\
  ∃ xs, KT H kvs xs /\ h.DictOfH (tupleKind (mixKind P w)) a xs := by
 obtain ⟨z, y, xs, r, o, es, ep, h1, h2, h3, h4, h5⟩ := (show ObjOk P w H h a (.dT kvs) from rd_of ok e)
 refine ⟨z, y, xs, r, o, es, ep, h1, h2, h3, h4, fun x hx => ?_, h5⟩
 have all : ∀ {l : List (List Key × V)} {m : List (List Key × Addr × Value)}, KT H l m -> ∀ x ∈ m, (tupleKind (mixKind P w)).is h x.1 x.2.1 := by
  intro l m q
  induction q with
  | nil => intro x hx; exact nomatch hx
  | @cons p q ps qs hq t ih =>
   intro x hx
   rcases List.mem_cons.mp hx with e | hx
   ·subst e
    exact key_of ok (by rw [<- hq.1]; exact hq.2.1)
   ·exact ih x hx
 exact all r x hx
theorem dt_of {kvs : List (List Key × V)} (ok : HOk P w H h) (e : H a = some (.dT kvs)) : kvs.length <= sizeLine /\ (a == sysModules) = false /\
  ∃ xs, KT H kvs xs /\ h.DictOfH (tupleKind (mixKind P w)) a xs := dt_rd ok (.inl e)
end
noncomputable def DGet (H : Hp) (a : Addr) (y : V) (r : Option V) : Prop :=
 (∃ kvs k, Rd H a (.dK kvs) /\ y = kV k /\ r = valV kvs k) ∨ ∃ kvs k b, Rd H a (.dT kvs) /\ y = .ref b /\ H b = some (.tup (k.map kV)) /\ r = valV kvs k
theorem DGet.k {H : Hp} {a : Addr} {kvs : List (Key × V)} {k : Key} (e : H a = some (.dK kvs)) : DGet H a (kV k) (valV kvs k) := .inl ⟨kvs, k, .inl e, rfl, rfl⟩
theorem DGet.t {H : Hp} {a b : Addr} {kvs : List (List Key × V)} {k : List Key} (e : H a = some (.dT kvs)) (eb : H b = some (.tup (k.map kV))) : DGet H a (.ref b) (valV kvs k) := .inr ⟨kvs, k, b, .inl e, rfl, eb, rfl⟩
section
variable {X : Cx} {pins : List (Addr × Obj)} {σ : St} {H : Hp} {s : Shared} {a : Addr} {y v : V} {u r : Value} {o : Option V} {A : Around} {E : Value -> Shared -> Prop}
theorem Inv.big (I : Inv X pins σ H s) : sysModules < s.heap.objs.size := by
 have h : mainGlobals < s.heap.objs.size := (I.mod.glob.keeps I.bk).lt
 exact Nat.lt_trans (by decide) h
theorem d_getItem {Q : Value -> Shared -> Prop} (hu : A.units + 1 < cLine) (I : Inv X pins σ H s) (g : DGet H a y (some v)) (ry : RelV y u) (h : ∀ w' s', Inv X pins σ H s' -> RelV v w' -> Q w' s') :
  wpAny (model X.prog X.w) A (getItem (.ref a) u) Q E s := by
 rcases g with ⟨kvs, k, e, ey, l⟩ | ⟨kvs, k, b, e, ey, eb, l⟩
 ·subst ey
  obtain ⟨z, hd, vs, rel, dd⟩ := dk_rd I.hok e
  obtain ⟨w', hw, rw'⟩ := RelO.some_of (v := v) (o := valueAt vs k) (by rw [l]; exact rel.val k)
  exact wpAny_getItem_of (kV_is ry) dd.mapOf hw (h w' _ (I.tok _) rw')
 ·subst ey
  cases (show u = Value.ref b from ry)
  obtain ⟨z, hd, xs, rel, dd⟩ := dt_rd I.hok e
  obtain ⟨w', hw, rw'⟩ := RelO.some_of (v := v) (o := (atKey xs k).map (·.2)) (by rw [l]; exact rel.val k)
  obtain ⟨p, hp, hp2⟩ := Option.map_eq_some_iff.mp hw
  refine wpAny_getItem_heap (tupleKind_room_in1 hu) (key_of I.hok eb) dd hp ?_
  rw [hp2]
  exact h w' _ (I.tok _) rw'
theorem d_write {h' : Heap} {t' : Nat} {ob : HO} (I : Inv X pins σ H s) (mu : Mut (H a)) (hs : Heap.SameBut a s.heap h') (he : ∃ q, h'.get? a = some q) (new : ObjOk X.prog X.w (upd H a ob) h' a ob) :
  Inv X pins σ (upd H a ob) { s with heap := h', toks := t' } :=
 I.write (x := a) (e := a) mu (.inl rfl) (fun b q hb z => (hs.2 b hb).trans z) he new
theorem dk_new {P : Program} {w : World} {H' : Hp} {h' : Heap} {kvs : List (Key × V)} {vs : List (Key × Value)} (z : kvs.length <= sizeLine) (hd : (a == sysModules) = false) (rel : KV kvs vs) (dd : h'.DictOf (mixKind P w) a vs) :
  ObjOk P w H' h' a (.dK kvs) := ⟨z, hd, vs, rel, dd⟩
end
section
variable {X : Cx} {pins : List (Addr × Obj)} {σ : St} {H : Hp} {s : Shared} {a : Addr} {kvs : List (Key × V)} {k : Key} {u : Value} {A : Around} {E : Value -> Shared -> Prop}
end
noncomputable def NoSl (i : Expr) : Prop := ∀ ov iv, subscripted i false ov iv = operate [ov, iv] (getItem ov iv)
theorem subD_of {prog : Program} {w : World} {A : Around} {E : Value -> Shared -> Prop} {s : Shared} {env : Env} {value slice : Expr} {pos : Pos} {T id : String} {Q : Value -> Shared -> Prop}
  (hl : typeLookup (.type T) "__getitem__" = pure (some (.builtin id))) (hs : NoSl slice)
  (h : wpAny (model prog w) A (eval value env) (fun o s₁ => wpAny (model prog w) A (eval slice env) (fun i s₂ => s₂.TypeIs o T /\ wpAny (model prog w) A (getItem o i) Q E s₂) E s₁) E s) :
  wpAny (model prog w) A (eval (.Subscript value slice pos) env) Q E s := by
 refine Subscript_ (wpAny_mono h (fun o s₁ h₁ => wpAny_mono h₁ (fun i s₂ h₂ => ?_) fun _ _ x => x) fun _ _ x => x)
 obtain ⟨hT, h₂⟩ := h₂
 unfold subscriptTail
 refine wpAny_bind ?_
 rw [getitemInPython_of_ne hT.not_modules]
 refine wpAny_bind (wpAny_specialOf hT hl ?_)
 have fin : wpAny (model prog w) A (subscripted slice false o i) (fun r s₃ => wpAny (model prog w) A (letTemporaryGo value o r >>= fun _ => pure r) Q E s₃) E s₂ := by
  rw [hs o i]
  exact wpAny_operating (wpAny_mono h₂ (fun r s₃ h₃ => wpAny_bind (wpAny_letTemporaryGo (wpAny_pure h₃))) fun _ _ x => x)
 first
  | exact wpAny_pure (wpAny_bind fin)
  | exact wpAny_bind (wpAny_pure (wpAny_bind fin))
  | exact wpAny_bind fin
theorem dict_typeIs {X : Cx} {pins : List (Addr × Obj)} {σ : St} {H : Hp} {s : Shared} {a : Addr} {y : V} {o : Option V} (I : Inv X pins σ H s) (g : DGet H a y o) : s.TypeIs (.ref a) "dict" := by
 rcases g with ⟨kvs, k, e, _, _⟩ | ⟨kvs, k, b, e, _, _, _⟩
 ·obtain ⟨_, _, vs, _, dd⟩ := dk_rd I.hok e
  exact dd.typeIs
 ·obtain ⟨_, _, xs, _, dd⟩ := dt_rd I.hok e
  exact dd.typeIs
noncomputable def tDGet (td ty : TE) : TE := fun σ H Q => td σ H fun x H1 => ty σ H1 fun y H2 => ∃ a v, x = .ref a /\ DGet H2 a y (some v) /\ Q v H2
section
variable {X : Cx} {o i e value : Expr} {pos pos' tpos : Pos} {td ty tv : TE}
theorem pe_dget (hu : X.A.units + 1 < cLine) (ho : PE X o td) (hi : PE X i ty) (hs : NoSl i) : PE X (.Subscript o i pos) (tDGet td ty) := by
 intro pins s σ H Q I h
 refine subD_of PySem.F.slot_dict_getitem.lookup hs (thn (ho pins s σ H _ I h) fun u s1 ⟨x, H1, I1, rx, q1⟩ => thn (hi pins s1 σ H1 _ I1 q1) fun iv s2 ⟨y, H2, I2, ry, a, v, ex, g, q2⟩ => ?_)
 subst ex
 obtain rfl : u = Value.ref a := rx
 exact ⟨dict_typeIs I2 g, d_getItem hu I2 g ry fun w' s3 I3 rw' => ⟨v, H2, I3, rw', q2⟩⟩
end
theorem dk_empty {P : Program} {w : World} {H : Hp} (h : Heap) (hb : sysModules < h.objs.size) : ObjOk P w H (h.push { cls := .type "dict", data := .dict #[] }) h.objs.size (.dK []) :=
 ⟨Nat.zero_le _, beq_eq_false_iff_ne.mpr (Ne.symm (Nat.ne_of_lt hb)), [], .nil, Heap.DictOf.new h⟩
theorem dt_empty {P : Program} {w : World} {H : Hp} (h : Heap) (hb : sysModules < h.objs.size) : ObjOk P w H (h.push { cls := .type "dict", data := .dict #[] }) h.objs.size (.dT []) :=
 ⟨Nat.zero_le _, beq_eq_false_iff_ne.mpr (Ne.symm (Nat.ne_of_lt hb)), [], .nil, _, #[], 0, Heap.get?_push_size _ rfl, ⟨rfl, rfl, rfl⟩, rfl, rfl, List.nodup_nil⟩
section
variable {X : Cx} {pos : Pos}
end
structure M1 (X : Cx) (o : Expr) (m : Str) (apos : Pos) (e : Expr) (cpos : Pos) : Prop where
 base : attributeBase o m X.env (eval o X.env) = eval o X.env
 few : ((backTo cpos (starEach [e] X.env)).all (fun x => !x.1) && (backToKw cpos (keywordEach [] X.env)).all (fun x => x.1.isSome)
  && decide (([e] : List Expr).length + ([] : List Keyword).length + (if ([] : List Keyword).isEmpty then 0 else 1) < 30)) = true
 line : (apos.endLine == cpos.line) = true
 trees : backTo cpos (starEach [e] X.env) = [(false, eval e X.env)]
structure M2 (X : Cx) (o : Expr) (m : Str) (apos : Pos) (e f : Expr) (cpos : Pos) : Prop where
 base : attributeBase o m X.env (eval o X.env) = eval o X.env
 few : ((backTo cpos (starEach [e, f] X.env)).all (fun x => !x.1) && (backToKw cpos (keywordEach [] X.env)).all (fun x => x.1.isSome)
  && decide (([e, f] : List Expr).length + ([] : List Keyword).length + (if ([] : List Keyword).isEmpty then 0 else 1) < 30)) = true
 line : (apos.endLine == cpos.line) = true
 trees : backTo cpos (starEach [e, f] X.env) = [(false, eval e X.env), (false, eval f X.env)]
section
variable {X : Cx} {pins : List (Addr × Obj)} {σ : St} {H : Hp} {s : Shared} {a : Addr} {y d : V} {u r : Value} {o : Option V} {A : Around} {E : Value -> Shared -> Prop}
end
section
variable {X : Cx} {o e f : Expr} {apos cpos : Pos} {td ty tx : TE}
end
section
variable {X : Cx} {pins : List (Addr × Obj)} {σ : St} {H : Hp} {s : Shared} {a : Addr} {kvs : List (Key × V)} {A : Around} {E : Value -> Shared -> Prop}
end
section
variable {X : Cx} {pins : List (Addr × Obj)} {σ : St} {H : Hp} {s : Shared} {a : Addr} {y : V} {u : Value} {A : Around} {E : Value -> Shared -> Prop}
end
end L2
namespace L2
open PySem PySem.Spec PyProof.Rows
end L2
namespace St
open PySem
theorem below_go (xs : Array Nat) (j : Nat) (hr : xs.toList.Pairwise (· < ·)) : ∀ (fuel lo hi : Nat), hi - lo <= fuel -> lo <= hi -> hi <= xs.size -> (∀ i (h : i < xs.size), i < lo -> xs[i] < j) -> (∀ i (h : i < xs.size), hi <= i -> j <= xs[i]) ->
  SetTable.below.go xs j fuel lo hi <= xs.size /\ (∀ i (h : i < xs.size), i < SetTable.below.go xs j fuel lo hi -> xs[i] < j) /\ ∀ i (h : i < xs.size), SetTable.below.go xs j fuel lo hi <= i -> j <= xs[i] := by
 intro fuel
 induction fuel with
 | zero =>
  intro lo hi hf hl hh h1 h2
  unfold SetTable.below.go
  exact ⟨by (first | lia | omega), h1, fun i h g => h2 i h (by (first | lia | omega))⟩
 | succ fuel ih =>
  intro lo hi hf hl hh h1 h2
  unfold SetTable.below.go
  by_cases c : lo < hi
  ·rw [if_pos c]
   have hm : (lo + hi) / 2 < xs.size := by (first | lia | omega)
   have hg : xs.getD ((lo + hi) / 2) j = xs[(lo + hi) / 2] := by
    rw [Array.getD_eq_getD_getElem?, Array.getElem?_eq_getElem hm]
    rfl
   have mono : ∀ i k (hi : i < xs.size) (hk : k < xs.size), i < k -> xs[i] < xs[k] := fun i k hi hk hik => by
    have := List.pairwise_iff_getElem.mp hr i k (by simpa using hi) (by simpa using hk) hik
    simpa using this
   dsimp only
   rw [hg]
   by_cases d : xs[(lo + hi) / 2] < j
   ·rw [if_pos d]
    refine ih _ _ (by (first | lia | omega)) (by (first | lia | omega)) hh (fun i h g => ?_) h2
    rcases Nat.lt_or_ge i ((lo + hi) / 2) with e | e
    ·exact Nat.lt_trans (mono _ _ h hm e) d
    ·have : i = (lo + hi) / 2 := by (first | lia | omega)
     subst this
     exact d
   ·rw [if_neg d]
    refine ih _ _ (by (first | lia | omega)) (by (first | lia | omega)) (by (first | lia | omega)) h1 (fun i h g => ?_)
    rcases Nat.lt_or_ge ((lo + hi) / 2) i with e | e
    ·have := mono _ _ hm h e
     (first | lia | omega)
    ·have : i = (lo + hi) / 2 := by (first | lia | omega)
     subst this
     (first | lia | omega)
  ·rw [if_neg c]
   exact ⟨by (first | lia | omega), h1, fun i h g => h2 i h (by (first | lia | omega))⟩
theorem below_spec {xs : Array Nat} (hr : xs.toList.Pairwise (· < ·)) (j : Nat) : SetTable.below xs j <= xs.size /\ (∀ i (h : i < xs.size), i < SetTable.below xs j -> xs[i] < j) /\ ∀ i (h : i < xs.size), SetTable.below xs j <= i -> j <= xs[i] :=
 below_go xs j hr xs.size 0 xs.size (by (first | lia | omega)) (Nat.zero_le _) (Nat.le_refl _) (fun i h g => by (first | lia | omega)) (fun i h g => by (first | lia | omega))
theorem below_at {xs : Array Nat} (hr : xs.toList.Pairwise (· < ·)) {i j : Nat} (h : xs[i]? = some j) : SetTable.below xs j = i := by
 obtain ⟨hi, e⟩ := Array.getElem?_eq_some_iff.mp h
 obtain ⟨b0, b1, b2⟩ := below_spec hr j
 rcases Nat.lt_trichotomy (SetTable.below xs j) i with g | g | g
 ·have := b2 (SetTable.below xs j) (by (first | lia | omega)) (Nat.le_refl _)
  have m := List.pairwise_iff_getElem.mp hr _ i (by simpa using (by (first | lia | omega) : SetTable.below xs j < xs.size)) (by simpa using hi) g
  simp at m
  (first | lia | omega)
 ·exact g
 ·have := b1 i hi g
  (first | lia | omega)
theorem below_next {xs : Array Nat} (hr : xs.toList.Pairwise (· < ·)) {i j : Nat} (h : xs[i]? = some j) : SetTable.below xs (j + 1) = i + 1 := by
 obtain ⟨hi, e⟩ := Array.getElem?_eq_some_iff.mp h
 obtain ⟨b0, b1, b2⟩ := below_spec hr (j + 1)
 rcases Nat.lt_trichotomy (SetTable.below xs (j + 1)) (i + 1) with g | g | g
 ·have := b2 i hi (by (first | lia | omega))
  (first | lia | omega)
 ·exact g
 ·have h1 := b1 (i + 1) (by (first | lia | omega)) g
  have m := List.pairwise_iff_getElem.mp hr i (i + 1) (by simpa using hi) (by simpa using (by (first | lia | omega) : i + 1 < xs.size)) (by (first | lia | omega))
  simp at m
  (first | lia | omega)
theorem below_zero {xs : Array Nat} (hr : xs.toList.Pairwise (· < ·)) : SetTable.below xs 0 = 0 := by
 obtain ⟨b0, b1, _⟩ := below_spec hr 0
 rcases Nat.eq_zero_or_pos (SetTable.below xs 0) with e | e
 ·exact e
 ·have := b1 0 (by (first | lia | omega)) e
  (first | lia | omega)
theorem ins_list {α : Type} (xs : Array α) (p : Nat) (x : α) : (SetTable.insertAt xs p x).toList = xs.toList.take p ++ x :: xs.toList.drop p := by
 unfold SetTable.insertAt
 simp [List.take_of_length_le]
theorem ins_perm {α : Type} (xs : Array α) (p : Nat) (x : α) : (SetTable.insertAt xs p x).toList.Perm (x :: xs.toList) := by
 rw [ins_list]
 have : (xs.toList.take p ++ xs.toList.drop p) = xs.toList := List.take_append_drop _ _
 conv => rhs; rw [<- this]
 exact List.perm_middle
theorem ins_size {α : Type} (xs : Array α) (p : Nat) (x : α) : (SetTable.insertAt xs p x).size = xs.size + 1 := by
 rw [<- Array.length_toList, (ins_perm xs p x).length_eq, List.length_cons, Array.length_toList]
theorem ins_rise {xs : Array Nat} (hr : xs.toList.Pairwise (· < ·)) {j : Nat} (hn : j ∉ xs.toList) : (SetTable.insertAt xs (SetTable.below xs j) j).toList.Pairwise (· < ·) := by
 obtain ⟨b0, b1, b2⟩ := below_spec hr j
 rw [ins_list]
 have lo : ∀ y ∈ xs.toList.take (SetTable.below xs j), y < j := fun y hy => by
  obtain ⟨i, hi⟩ := List.getElem?_of_mem hy
  rw [List.getElem?_take] at hi
  split at hi
  ·rename_i c
   rw [Array.getElem?_toList] at hi
   obtain ⟨hs, e⟩ := Array.getElem?_eq_some_iff.mp hi
   rw [<- e]
   exact b1 i hs c
  ·cases hi
 have hi : ∀ y ∈ xs.toList.drop (SetTable.below xs j), j < y := fun y hy => by
  obtain ⟨i, hi⟩ := List.getElem?_of_mem hy
  rw [List.getElem?_drop, Array.getElem?_toList] at hi
  obtain ⟨hs, e⟩ := Array.getElem?_eq_some_iff.mp hi
  have g := b2 _ hs (by (first | lia | omega))
  rw [e] at g
  rcases Nat.lt_or_eq_of_le g with g | g
  ·exact g
  ·exact absurd (by rw [g]; exact List.mem_of_mem_drop hy) hn
 refine List.pairwise_append.mpr ⟨hr.sublist (List.take_sublist _ _), List.pairwise_cons.mpr ⟨hi, hr.sublist (List.drop_sublist _ _)⟩, fun a ha b hb => ?_⟩
 rcases List.mem_cons.mp hb with rfl | hb
 ·exact lo a ha
 ·exact Nat.lt_trans (lo a ha) (hi b hb)
noncomputable def lcg (M x : Nat) : Nat := (5 * x + 1) % M
noncomputable def orb (M : Nat) : Nat -> Nat -> Nat
 | 0, x => x
 | n + 1, x => orb M n (lcg M x)
theorem orb_add (M : Nat) : ∀ a b x, orb M (a + b) x = orb M b (orb M a x)
 | 0, b, x => by rw [Nat.zero_add]; rfl
 | a + 1, b, x => by
  rw [show a + 1 + b = (a + b) + 1 by (first | lia | omega)]
  exact orb_add M a b (lcg M x)
noncomputable def bitsO (M : Nat) : Nat -> Nat -> Nat -> Nat
 | 0, _, acc => acc
 | n + 1, x, acc => bitsO M n (lcg M x) (acc ||| (1 <<< x))
theorem bits_at (M : Nat) : ∀ (n x acc r : Nat), (bitsO M n x acc).testBit r = true -> acc.testBit r = true ∨ ∃ m, m < n /\ orb M m x = r
 | 0, x, acc, r, h => .inl h
 | n + 1, x, acc, r, h => by
  rcases bits_at M n (lcg M x) _ r h with g | ⟨m, h1, h2⟩
  ·rw [Nat.testBit_or, Bool.or_eq_true] at g
   rcases g with g | g
   ·exact .inl g
   ·rw [Nat.one_shiftLeft, Nat.testBit_two_pow] at g
    exact .inr ⟨0, by (first | lia | omega), of_decide_eq_true g⟩
  ·exact .inr ⟨m + 1, by (first | lia | omega), h2⟩
noncomputable def masks : List Nat := [7, 31, 127, 511, 2047]
theorem orb_all : ∀ m ∈ masks, bitsO (m + 1) (m + 1) 0 0 = 2 ^ (m + 1) - 1 /\ orb (m + 1) (m + 1) 0 = 0 := by decide +kernel
theorem orb_from {m : Nat} (hm : m ∈ masks) {x r : Nat} (hx : x <= m) (hr : r <= m) : ∃ n, n <= m /\ orb (m + 1) n x = r := by
 obtain ⟨h1, h2⟩ := orb_all m hm
 have key : ∀ r, r <= m -> ∃ n, n < m + 1 /\ orb (m + 1) n 0 = r := fun r hr => by
  have : (bitsO (m + 1) (m + 1) 0 0).testBit r = true := by
   rw [h1, Nat.testBit_two_pow_sub_one]
   exact decide_eq_true (by (first | lia | omega))
  rcases bits_at _ _ _ _ _ this with g | g
  ·rw [Nat.zero_testBit] at g
   cases g
  ·exact g
 obtain ⟨a, ha, ea⟩ := key x hx
 obtain ⟨b, hb, eb⟩ := key r hr
 rcases Nat.lt_or_ge b a with c | c
 ·refine ⟨m + 1 - a + b, by (first | lia | omega), ?_⟩
  rw [<- ea, <- orb_add, show a + (m + 1 - a + b) = (m + 1) + b by (first | lia | omega), orb_add, h2]
  exact eb
 ·refine ⟨b - a, by (first | lia | omega), ?_⟩
  rw [<- ea, <- orb_add, show a + (b - a) = b by (first | lia | omega)]
  exact eb
noncomputable def lin (m : Nat) : Nat -> Nat × Nat -> Nat × Nat
 | 0, p => p
 | n + 1, p => lin m n (SetTable.leap m p.1 p.2)
theorem lin_add (m : Nat) : ∀ a b p, lin m (a + b) p = lin m b (lin m a p)
 | 0, b, x => by rw [Nat.zero_add]; rfl
 | a + 1, b, x => by
  rw [show a + 1 + b = (a + b) + 1 by (first | lia | omega)]
  exact lin_add m a b _
theorem lin_per (m : Nat) : ∀ n p, (lin m n p).2 = p.2 / 32 ^ n
 | 0, p => by simp [lin]
 | n + 1, p => by
  show (lin m n (SetTable.leap m p.1 p.2)).2 = _
  rw [lin_per m n]
  show p.2 / 32 / 32 ^ n = _
  rw [Nat.div_div_eq_div_mul, Nat.pow_succ, Nat.mul_comm]
theorem lin_orb (m : Nat) : ∀ n x, lin m n (x, 0) = (orb (m + 1) n x, 0)
 | 0, x => rfl
 | n + 1, x => by
  show lin m n (SetTable.leap m x 0) = _
  have e : SetTable.leap m x 0 = (lcg (m + 1) x, 0) := by
   unfold SetTable.leap lcg
   simp [Nat.mul_comm]
  rw [e]
  exact lin_orb m n _
theorem lin_le (m : Nat) : ∀ n p, p.1 <= m -> (lin m n p).1 <= m
 | 0, p, h => h
 | n + 1, p, _ => lin_le m n _ (Nat.le_of_lt_succ (Nat.mod_lt _ (Nat.succ_pos m)))
theorem lin_all {m : Nat} (hm : m ∈ masks) {p : Nat × Nat} (h1 : p.1 <= m) (h2 : p.2 < 2 ^ 64) {r : Nat} (hr : r <= m) : ∃ n, n < m + 15 /\ (lin m n p).1 = r := by
 have e : lin m 13 p = ((lin m 13 p).1, 0) := by
  have := lin_per m 13 p
  rw [Nat.div_eq_of_lt (Nat.lt_trans h2 (by decide))] at this
  exact Prod.ext rfl this
 obtain ⟨n, hn, en⟩ := orb_from hm (lin_le m 13 p h1) hr
 refine ⟨13 + n, by (first | lia | omega), ?_⟩
 rw [lin_add, e, lin_orb]
 exact en
end St
namespace St
open PySem
structure Tb (t : SetTable) (n : Nat) : Prop where
 size : t.place.size = n
 nod : t.dummies = #[]
 rise : t.place.toList.Pairwise (· < ·)
 mask : t.mask ∈ masks
 room : n <= t.mask
theorem Tb.fits {t : SetTable} {n : Nat} (T : Tb t n) : t.fits n = true := by
 unfold SetTable.fits SetTable.fill
 rw [T.nod, T.size]
 have := T.room
 simp
 (first | lia | omega)
theorem slot_nd {t : SetTable} (nd : t.dummies = #[]) (j : Nat) : t.slot j = if t.place[SetTable.below t.place j]? == some j then .live (SetTable.below t.place j) else .empty := by
 unfold SetTable.slot
 have e : SetTable.has t.dummies j = false := by
  rw [nd]
  rfl
 rw [e]
 simp
theorem slot_live {t : SetTable} (nd : t.dummies = #[]) (hr : t.place.toList.Pairwise (· < ·)) {j : Nat} : (∃ i, t.slot j = .live i) ↔ j ∈ t.place.toList := by
 rw [slot_nd nd]
 constructor
 ·rintro ⟨i, h⟩
  split at h
  ·rename_i c
   have := beq_iff_eq.mp c
   rw [<- Array.getElem?_toList] at this
   exact List.mem_of_getElem? this
  ·cases h
 ·intro h
  obtain ⟨i, hi⟩ := List.getElem?_of_mem h
  rw [Array.getElem?_toList] at hi
  have b := below_at hr hi
  rw [b, hi]
  exact ⟨i, by simp⟩
theorem slot_cases {t : SetTable} (nd : t.dummies = #[]) (j : Nat) : t.slot j = .empty ∨ ∃ i, i < t.place.size /\ t.slot j = .live i := by
 rw [slot_nd nd]
 split
 ·rename_i c
  have := beq_iff_eq.mp c
  obtain ⟨h, _⟩ := Array.getElem?_eq_some_iff.mp this
  exact .inr ⟨_, h, rfl⟩
 ·exact .inl rfl
theorem nd_len : ∀ {l1 l2 : List Nat}, l1.Nodup -> (∀ x ∈ l1, x ∈ l2) -> l1.length <= l2.length
 | [], _, _, _ => Nat.zero_le _
 | x :: l, l2, h, hs => by
  rw [List.nodup_cons] at h
  have hx := hs x List.mem_cons_self
  have := nd_len (l1 := l) (l2 := l2.erase x) h.2 fun y hy => (List.mem_erase_of_ne (show y ≠ x from fun e => h.1 (by rw [<- e]; exact hy))).mpr (hs y (List.mem_cons_of_mem _ hy))
  rw [List.length_erase_of_mem hx] at this
  have := List.length_pos_of_mem hx
  rw [List.length_cons]
  (first | lia | omega)
section
variable {t : SetTable} {hashAt : Nat -> Int} {h : Int}
noncomputable def nxt (t : SetTable) (i perturb : Nat) : SetTable.Probe := { j := i, more := SetTable.runEnd t.mask i - i, i := i, perturb := perturb, dummy := none }
theorem probe_line (nd : t.dummies = #[]) (hne : ∀ i, i < t.place.size -> (hashAt i == h) = false) : ∀ (k F j i per : Nat), k + 1 <= F ->
  (∃ j', SetTable.probe.go t hashAt h F { j := j, more := k, i := i, perturb := per, dummy := none } = some (.empty j' none) /\ t.slot j' = .empty) ∨
  ((∃ q, t.slot j = .live q) /\ SetTable.probe.go t hashAt h F { j := j, more := k, i := i, perturb := per, dummy := none } = SetTable.probe.go t hashAt h (F - (k + 1)) (nxt t (SetTable.leap t.mask i per).1 (SetTable.leap t.mask i per).2)) := by
 intro k
 induction k with
 | zero =>
  intro F j i per hF
  obtain ⟨F, rfl⟩ : ∃ f, F = f + 1 := ⟨F - 1, by (first | lia | omega)⟩
  rcases slot_cases nd j with e | ⟨q, hq, e⟩
  ·left
   unfold SetTable.probe.go
   rw [e]
   exact ⟨j, rfl, e⟩
  ·right
   refine ⟨⟨q, e⟩, ?_⟩
   conv => lhs; unfold SetTable.probe.go
   rw [e]
   dsimp only
   rw [hne q hq]
   unfold SetTable.advance
   simp [nxt]
 | succ k ih =>
  intro F j i per hF
  obtain ⟨F, rfl⟩ : ∃ f, F = f + 1 := ⟨F - 1, by (first | lia | omega)⟩
  rcases slot_cases nd j with e | ⟨q, hq, e⟩
  ·left
   unfold SetTable.probe.go
   rw [e]
   exact ⟨j, rfl, e⟩
  ·have step : SetTable.probe.go t hashAt h (F + 1) { j := j, more := k + 1, i := i, perturb := per, dummy := none } = SetTable.probe.go t hashAt h F { j := j + 1, more := k, i := i, perturb := per, dummy := none } := by
    conv => lhs; unfold SetTable.probe.go
    rw [e]
    dsimp only
    rw [hne q hq]
    unfold SetTable.advance
    simp
   rcases ih F (j + 1) i per (by (first | lia | omega)) with ⟨j', h1, h2⟩ | ⟨_, h2⟩
   ·left
    exact ⟨j', step.trans h1, h2⟩
   ·right
    refine ⟨⟨q, e⟩, step.trans ?_⟩
    rw [h2, show F + 1 - (k + 1 + 1) = F - (k + 1) by (first | lia | omega)]
theorem run_le (m i : Nat) : SetTable.runEnd m i - i <= 9 := by
 unfold SetTable.runEnd
 split <;> (first | lia | omega)
theorem probe_lines (nd : t.dummies = #[]) (hne : ∀ i, i < t.place.size -> (hashAt i == h) = false) : ∀ (n F i per : Nat), 10 * n <= F ->
  (∃ j', SetTable.probe.go t hashAt h F (nxt t i per) = some (.empty j' none) /\ t.slot j' = .empty) ∨ ∀ k, k < n -> ∃ q, t.slot (lin t.mask k (i, per)).1 = .live q := by
 intro n
 induction n with
 | zero => exact fun F i per _ => .inr fun k hk => by (first | lia | omega)
 | succ n ih =>
  intro F i per hF
  have hl := run_le t.mask i
  rcases probe_line (hashAt := hashAt) (h := h) nd hne (SetTable.runEnd t.mask i - i) F i i per (by (first | lia | omega)) with ⟨j', h1, h2⟩ | ⟨h1, h2⟩
  ·exact .inl ⟨j', h1, h2⟩
  ·rcases ih (F - (SetTable.runEnd t.mask i - i + 1)) (SetTable.leap t.mask i per).1 (SetTable.leap t.mask i per).2 (by (first | lia | omega)) with ⟨j', g1, g2⟩ | g
   ·exact .inl ⟨j', h2.trans g1, g2⟩
   ·refine .inr fun k hk => ?_
    cases k with
    | zero => exact h1
    | succ k => exact g k (by (first | lia | omega))
theorem probe_free {n : Nat} (T : Tb t n) (hne : ∀ i, i < n -> (hashAt i == h) = false) : ∃ j, t.probe hashAt h (t.probeStart h) = some (.empty j none) /\ j ∉ t.place.toList := by
 have hb : SetTable.bits h < 2 ^ 64 := by
  unfold SetTable.bits
  have := Int.emod_lt_of_pos h (by decide : (0 : Int) < 2 ^ 64)
  have := Int.emod_nonneg h (by decide : (2 ^ 64 : Int) ≠ 0)
  (first | lia | omega)
 have hi : SetTable.bits h % (t.mask + 1) <= t.mask := Nat.le_of_lt_succ (Nat.mod_lt _ (Nat.succ_pos _))
 rcases probe_lines (t := t) (hashAt := hashAt) (h := h) T.nod (by rw [T.size]; exact hne) (SetTable.turns t.mask) (10 * SetTable.turns t.mask) (SetTable.bits h % (t.mask + 1)) (SetTable.bits h) (Nat.le_refl _) with ⟨j, h1, h2⟩ | g
 ·refine ⟨j, h1, fun hj => ?_⟩
  obtain ⟨i, e⟩ := (slot_live T.nod T.rise).mpr hj
  rw [h2] at e
  cases e
 ·exfalso
  have all : ∀ r, r ∈ List.range (t.mask + 1) -> r ∈ t.place.toList := fun r hr => by
   obtain ⟨k, hk, e⟩ := lin_all T.mask (p := (SetTable.bits h % (t.mask + 1), SetTable.bits h)) hi hb (r := r) (by have := List.mem_range.mp hr; (first | lia | omega))
   have := g k hk
   rw [e] at this
   exact (slot_live T.nod T.rise).mp this
  have := nd_len List.nodup_range all
  rw [List.length_range, Array.length_toList, T.size] at this
  have := T.room
  (first | lia | omega)
end
theorem fm_set {k : Nat} : ∀ {l : List (Option Nat)} {j : Nat}, l[j]? = some none -> ((l.set j (some k)).filterMap id).Perm (k :: l.filterMap id)
 | [], _, h => by cases h
 | x :: l, 0, h => by
  cases h
  exact List.Perm.refl _
 | x :: l, j + 1, h => by
  rw [List.set_cons_succ]
  cases x with
  | none => exact fm_set (l := l) h
  | some y =>
   rw [List.filterMap_cons_some (f := id) (b := y) rfl, List.filterMap_cons_some (f := id) (b := y) rfl]
   exact ((fm_set (l := l) h).cons y).trans (List.Perm.swap _ _ _)
theorem fm_all : ∀ {l : List (Option Nat)}, (∀ x ∈ l, x.isSome = true) -> (l.filterMap id).length = l.length
 | [], _ => rfl
 | none :: l, h => by have := h none (by simp); cases this
 | some y :: l, h => by
  rw [List.filterMap_cons_some (f := id) (b := y) rfl, List.length_cons, List.length_cons, fm_all fun x hx => h x (List.mem_cons_of_mem _ hx)]
theorem free_lines {m : Nat} {owner : Array (Option Nat)} : ∀ (n i per : Nat), (∃ j, SetTable.layClean.free m owner n i per = some j /\ owner[j]? = some none) ∨ ∀ k, k < n -> (owner.getD (lin m k (i, per)).1 (some 0)).isSome = true := by
 intro n
 induction n with
 | zero => exact fun i per => .inr fun k hk => by (first | lia | omega)
 | succ n ih =>
  intro i per
  unfold SetTable.layClean.free
  cases e : (List.range (SetTable.runEnd m i + 1 - i)).find? fun k => (owner.getD (i + k) (some 0)).isNone with
  | some k =>
   left
   refine ⟨i + k, rfl, ?_⟩
   have := List.find?_some e
   rw [Array.getD_eq_getD_getElem?] at this
   cases q : owner[i + k]? with
   | none => rw [q] at this; cases this
   | some x =>
    rw [q] at this
    cases x with
    | none => rfl
    | some y => cases this
  | none =>
   dsimp only
   rcases ih (SetTable.leap m i per).1 (SetTable.leap m i per).2 with ⟨j, h1, h2⟩ | g
   ·exact .inl ⟨j, h1, h2⟩
   ·refine .inr fun k hk => ?_
    cases k with
    | zero =>
     have := List.find?_eq_none.mp e 0 (List.mem_range.mpr (by unfold SetTable.runEnd; split <;> (first | lia | omega)))
     rw [Nat.add_zero] at this
     show (owner.getD i (some 0)).isSome = true
     cases q : owner.getD i (some 0) with
     | none => rw [q] at this; exact absurd rfl this
     | some _ => rfl
    | succ k => exact g k (by (first | lia | omega))
theorem lay_step {m k : Nat} (hm : m ∈ masks) {owner : Array (Option Nat)} (hs : owner.size = m + 1) (hp : (owner.toList.filterMap id).Perm (List.range k)) (hk : k <= m) (h : Int) :
  ∃ j, SetTable.layClean.free m owner (SetTable.turns m) (SetTable.bits h % (m + 1)) (SetTable.bits h) = some j /\ (owner.setIfInBounds j (some k)).size = m + 1 /\ ((owner.setIfInBounds j (some k)).toList.filterMap id).Perm (List.range (k + 1)) := by
 have hb : SetTable.bits h < 2 ^ 64 := by
  unfold SetTable.bits
  have := Int.emod_lt_of_pos h (by decide : (0 : Int) < 2 ^ 64)
  have := Int.emod_nonneg h (by decide : (2 ^ 64 : Int) ≠ 0)
  (first | lia | omega)
 have hi : SetTable.bits h % (m + 1) <= m := Nat.le_of_lt_succ (Nat.mod_lt _ (Nat.succ_pos _))
 rcases free_lines (m := m) (owner := owner) (SetTable.turns m) (SetTable.bits h % (m + 1)) (SetTable.bits h) with ⟨j, h1, h2⟩ | g
 ·refine ⟨j, h1, by simp [hs], ?_⟩
  rw [Array.toList_setIfInBounds, List.range_succ]
  exact (fm_set (by rw [Array.getElem?_toList]; exact h2)).trans ((hp.cons k).trans (List.perm_append_singleton _ _).symm)
 ·exfalso
  have all : ∀ x ∈ owner.toList, x.isSome = true := fun x hx => by
   obtain ⟨r, hr⟩ := List.getElem?_of_mem hx
   rw [Array.getElem?_toList] at hr
   obtain ⟨hr1, hr2⟩ := Array.getElem?_eq_some_iff.mp hr
   obtain ⟨n, hn, e⟩ := lin_all hm (p := (SetTable.bits h % (m + 1), SetTable.bits h)) hi hb (r := r) (by (first | lia | omega))
   have := g n hn
   rw [e, Array.getD_eq_getD_getElem?, hr] at this
   exact this
  have := fm_all all
  rw [hp.length_eq, List.length_range, Array.length_toList, hs] at this
  (first | lia | omega)
theorem lay_fold {m : Nat} (hm : m ∈ masks) : ∀ (hs : List Int) (owner : Array (Option Nat)) (k : Nat), owner.size = m + 1 -> (owner.toList.filterMap id).Perm (List.range k) -> k + hs.length <= m + 1 ->
  ∃ owner', (hs.foldl (init := some (owner, k)) fun acc h => do
   let (owner, k) <- acc
   let j <- SetTable.layClean.free m owner (SetTable.turns m) (SetTable.bits h % (m + 1)) (SetTable.bits h)
   pure (owner.setIfInBounds j (some k), k + 1)) = some (owner', k + hs.length) /\ owner'.size = m + 1 /\ (owner'.toList.filterMap id).Perm (List.range (k + hs.length))
 | [], owner, k, h1, h2, _ => ⟨owner, rfl, h1, h2⟩
 | h :: hs, owner, k, h1, h2, h3 => by
  rw [List.length_cons] at h3
  obtain ⟨j, e, g1, g2⟩ := lay_step hm h1 h2 (by (first | lia | omega)) h
  rw [List.foldl_cons]
  have : (do
   let (owner, k) <- some (owner, k)
   let j <- SetTable.layClean.free m owner (SetTable.turns m) (SetTable.bits h % (m + 1)) (SetTable.bits h)
   pure (owner.setIfInBounds j (some k), k + 1)) = some (owner.setIfInBounds j (some k), k + 1) := by
   show (SetTable.layClean.free m owner (SetTable.turns m) (SetTable.bits h % (m + 1)) (SetTable.bits h)).bind _ = _
   rw [e]
   rfl
  rw [this]
  obtain ⟨o', q1, q2, q3⟩ := lay_fold hm hs _ _ g1 g2 (by (first | lia | omega))
  rw [show k + (h :: hs).length = k + 1 + hs.length by rw [List.length_cons]; (first | lia | omega)]
  exact ⟨o', q1, q2, q3⟩
theorem laid_ok {m : Nat} (hm : m ∈ masks) (fg mv : Nat) (led plain : Bool) (hs : Array Int) (hl : hs.size <= m) :
  ∃ t order, SetTable.laid m fg mv led plain hs = some (t, order) /\ Tb t hs.size /\ t.led = led /\ t.plain = plain /\ t.mask = m /\ order.toList.Perm (List.range hs.size) := by
 have h0 : (((Array.replicate (m + 1) none : Array (Option Nat)).toList).filterMap id).Perm (List.range 0) := by
  have : ((Array.replicate (m + 1) none : Array (Option Nat)).toList).filterMap id = [] := by simp
  rw [this]
  exact .nil
 obtain ⟨ow, e, s1, s2⟩ := lay_fold hm hs.toList (Array.replicate (m + 1) none) 0 (by simp) h0 (by simp; (first | lia | omega))
 rw [Nat.zero_add, Array.length_toList] at e s2
 unfold SetTable.laid SetTable.layClean
 rw [<- Array.foldl_toList, e]
 refine ⟨_, _, rfl, ?_⟩
 have live : ∀ (l : List Nat), (l.filterMap fun j => (ow.getD j none).map (j, ·)).map (·.1) = l.filter fun j => (ow.getD j none).isSome := fun l => by
  induction l with
  | nil => rfl
  | cons j l ih =>
   rw [List.filterMap_cons, List.filter_cons]
   cases q : ow.getD j none with
   | none => simpa using ih
   | some y => simpa using ih
 have live2 : ((List.range (m + 1)).filterMap fun j => (ow.getD j none).map (j, ·)).map (·.2) = ow.toList.filterMap id := by
  have g : ow.toList = (List.range (m + 1)).map fun j => ow.getD j none := by
   refine List.ext_getElem (by simp [s1]) fun i h1 h2 => ?_
   have hi : i < ow.size := by simpa using h1
   simp [Array.getD_eq_getD_getElem?, hi]
  rw [g]
  generalize List.range (m + 1) = l
  induction l with
  | nil => rfl
  | cons j l ih =>
   rw [List.filterMap_cons, List.map_cons, List.filterMap_cons]
   cases q : ow.getD j none with
   | none => simpa using ih
   | some y => simpa using ih
 have hsz : ((List.range (m + 1)).filterMap fun j => (ow.getD j none).map (j, ·)).length = hs.size := by
  have := congrArg List.length live2
  rw [List.length_map, s2.length_eq, List.length_range] at this
  exact this
 refine ⟨⟨?_, rfl, ?_, hm, hl⟩, rfl, rfl, rfl, ?_⟩
 ·show ((((List.range (m + 1)).filterMap fun j => (ow.getD j none).map (j, ·)).map (·.1)).toArray).size = _
  rw [List.size_toArray, List.length_map, hsz]
 ·show ((((List.range (m + 1)).filterMap fun j => (ow.getD j none).map (j, ·)).map (·.1)).toArray).toList.Pairwise (· < ·)
  rw [live]
  exact List.Pairwise.filter _ List.pairwise_lt_range
 ·show ((((List.range (m + 1)).filterMap fun j => (ow.getD j none).map (j, ·)).map (·.2)).toArray).toList.Perm _
  rw [live2]
  exact s2
end St
namespace St
open PySem PyProof.Rows
noncomputable def SetH (b : Bool) (h : Heap) (a : Addr) (L : List (Int × Value)) : Prop :=
 ∃ o es ep t, h.get? a = some o /\ o.ExactSet /\ o.data = .set es ep t /\ Tb t es.size /\ es.size * 5 < t.mask * 3 /\ t.plain = true /\ t.led = b /\ es.toList.Perm L
theorem SetH.keep {b : Bool} {h h' : Heap} {a : Addr} {L : List (Int × Value)} (x : SetH b h a L) (e : ∀ o, h.get? a = some o -> h'.get? a = some o) : SetH b h' a L := by
 obtain ⟨o, es, ep, t, h1, r⟩ := x
 exact ⟨o, es, ep, t, e _ h1, r⟩
theorem put_eq {t : SetTable} (nd : t.dummies = #[]) (j : Nat) : t.put j = ({ t with place := SetTable.insertAt t.place (SetTable.below t.place j) j }, SetTable.below t.place j) := by
 unfold SetTable.put
 have e : SetTable.has t.dummies j = false := by
  rw [nd]
  rfl
 dsimp only
 rw [e]
 simp
theorem full_cases {m n : Nat} (hm : m ∈ masks) (h1 : n * 5 < m * 3) (h2 : (n + 1) * 5 ≥ m * 3) (h3 : n + 1 <= 1200) : SetTable.sizeAbove (SetTable.grown (n + 1)) - 1 ∈ masks /\ n + 1 <= SetTable.sizeAbove (SetTable.grown (n + 1)) - 1 /\ (n + 1) * 5 < (SetTable.sizeAbove (SetTable.grown (n + 1)) - 1) * 3 /\ ¬ SetTable.sizeAbove (SetTable.grown (n + 1)) > sizeLine := by
 have : m = 7 ∨ m = 31 ∨ m = 127 ∨ m = 511 ∨ m = 2047 := by simpa [masks] using hm
 rcases this with rfl | rfl | rfl | rfl | rfl
 ·have : n = 4 := by (first | lia | omega)
  subst this
  decide
 ·have : n = 18 := by (first | lia | omega)
  subst this
  decide
 ·have : n = 76 := by (first | lia | omega)
  subst this
  decide
 ·have : n = 306 := by (first | lia | omega)
  subst this
  decide
 ·(first | lia | omega)
section
variable {prog : Program} {w : World} {A : Around} {E : Value -> Shared -> Prop} {s : Shared}
theorem filt_perm {es : Array (Int × Value)} {order : Array Nat} (hp : order.toList.Perm (List.range es.size)) : (order.filterMap (es[·]?)).toList.Perm es.toList := by
 rw [Array.toList_filterMap]
 have e : (List.range es.size).filterMap (es[·]?) = es.toList := by
  have : es.toList = (List.range es.size).filterMap (es.toList[·]?) := by
   rw [<- Array.length_toList]
   generalize es.toList = l
   induction l with
   | nil => rfl
   | cons x l ih =>
    rw [List.length_cons, List.range_succ_eq_map, List.filterMap_cons, List.filterMap_map]
    show x :: l = x :: _
    congr 1
  conv => rhs; rw [this]
  simp
 rw [<- e]
 exact hp.filterMap _
end
end St
namespace St
open PySem PyProof.Rows
noncomputable def hT (ns : List Int) : Int := reduceHash (Builtin.Tuple.tupleHashOf (ns.map hashInt))
section
variable {prog : Program} {w : World} {A : Around} {E : Value -> Shared -> Prop} {s : Shared}
end
section
variable {prog : Program} {w : World} {A : Around} {R : Result -> Shared -> Prop} {I : Addr} {fp wr : List Addr} {G : Array GenState -> Array GenState -> Prop} {n : Nat} {P : Nat -> Value -> Prop} {Sw : Nat -> Shared -> Prop} {b : Bool}
end
end St
namespace St
open PySem PyProof.Rows
noncomputable def leads (w : World) : Bool := !w.params.followText "set-order"
noncomputable def freshS (w : World) : Obj := { cls := .type "set", dict := none, data := .set #[] 0 (.fresh 0 0 (leads w)) }
section
variable {prog : Program} {w : World} {A : Around} {E : Value -> Shared -> Prop} {s : Shared}
theorem code_new (a : Value) {Q₁ : Value -> Shared -> Prop} (h : Q₁ (.ref s.heap.objs.size) { s with heap := s.heap.push (freshS w) }) :
  codeAny (model prog w) A (.call (.builtin "set.__new__") ⟨[.type "set", a], []⟩) (wants Q₁ E) s := by
 refine codeAny_of_tree ?_
 show wpAny _ A.in1 (do checkBuiltinCall "set.__new__" ⟨[.type "set", a], []⟩; again (.builtin "set.__new__" ⟨[.type "set", a], []⟩)) _ _ s
 refine wpAny_bind (wpAny_of_eq (F.newCall_set_1 a) (wpAny_pure ⟨plainId_quiet F.plain_set_new _, codeAny_builtin F.entry_set_new ?_⟩))
 rw [Around.under_plainId F.plain_set_new _]
 unfold Builtin.«set.__new__» Builtin.Frozenset.newClass
 have hsub := sub_set_self
 obtain ⟨hp, g, d, tk, os⟩ := s
 dsimp only
 wp_walk
 refine wpAny_askSetting (wpAny_pure ?_)
 dsimp only
 simp only [newObj]
 refine wpAny_bind (wpAny_alloc (wpAny_pure ?_))
 exact wpAny_pure h
theorem fresh_setH {h : Heap} {a : Addr} (e : h.get? a = some (freshS w)) : SetH (leads w) h a [] :=
 ⟨_, #[], 0, _, e, ⟨rfl, rfl, rfl⟩, rfl, ⟨rfl, rfl, .nil, show 7 ∈ masks by decide, Nat.zero_le _⟩, show 0 * 5 < 7 * 3 by decide, rfl, rfl, .nil⟩
end
end St
namespace St
open PySem PyProof.Rows
theorem entry_set_iter : entryFor table "set.__iter__" = some Builtin.«frozenset.__iter__» := entryFor_alias (id' := "frozenset.__iter__") (by kernel_rfl) rfl (by decide +kernel) (by kernel_rfl)
theorem slot_sit_next : Slot "set_iterator" "__next__" "set_iterator.__next__" :=
 .of (owner := "set_iterator") (n := "__next__") (by rw [typeLookup_type, builtinLookup_eq_fast]; kernel_rfl) (by decide +kernel) (by decide +kernel) (by decide +kernel)
  (by first | exact .inl (by decide +kernel) | exact .inr (by decide +kernel)) (by rw [isSubtype_type]; kernel_rfl)
theorem slot_sit_iter : Slot "set_iterator" "__iter__" "set_iterator.__iter__" :=
 .of (owner := "set_iterator") (n := "__iter__") (by rw [typeLookup_type, builtinLookup_eq_fast]; kernel_rfl) (by decide +kernel) (by decide +kernel) (by decide +kernel)
  (by first | exact .inl (by decide +kernel) | exact .inr (by decide +kernel)) (by rw [isSubtype_type]; kernel_rfl)
theorem entry_sit_next : entryFor table "set_iterator.__next__" = some Builtin.«set_iterator.__next__» := entryFor_of_tree (by kernel_rfl)
theorem entry_sit_iter : entryFor table "set_iterator.__iter__" = some Builtin.«dict_keyiterator.__iter__» := entryFor_alias (id' := "dict_keyiterator.__iter__") (by kernel_rfl) rfl (by decide +kernel) (by kernel_rfl)
theorem owner_sit : Manifest.owners.lookup (String.ofList ['r', 'o', 't', 'a', 'r', 'e', 't', 'i', '_', 't', 'e', 's'].reverse) = some Manifest.sig_set_iterator := by kernel_rfl
theorem args_sit_next (a : Value) : argsOk "set_iterator.__next__" ⟨[a], []⟩ := by
 unfold argsOk; rw [signature?_of (id := "set_iterator.__next__") (n := ['_', '_', 't', 'x', 'e', 'n', '_', '_']) (o := ['r', 'o', 't', 'a', 'r', 'e', 't', 'i', '_', 't', 'e', 's']) (by kernel_rfl) owner_sit]; kernel_rfl
theorem args_sit_iter (a : Value) : argsOk "set_iterator.__iter__" ⟨[a], []⟩ := by
 unfold argsOk; rw [signature?_of (id := "set_iterator.__iter__") (n := ['_', '_', 'r', 'e', 't', 'i', '_', '_']) (o := ['r', 'o', 't', 'a', 'r', 'e', 't', 'i', '_', 't', 'e', 's']) (by kernel_rfl) owner_sit]; kernel_rfl
theorem er_perm {α : Type} : ∀ {l : List α} {i : Nat} (h : i < l.length), (l[i] :: l.eraseIdx i).Perm l
 | x :: l, 0, _ => List.Perm.refl _
 | x :: l, i + 1, h => by
  have := er_perm (l := l) (i := i) (by simpa using h)
  exact (List.Perm.swap _ _ _).trans (this.cons x)
theorem pick_perm {α : Type} (next : Nat -> Nat) : ∀ (fuel k : Nat) (left : List α) (out : Array α), left.length <= fuel -> (pickOrder.go next fuel k left out).toList.Perm (out.toList ++ left)
 | 0, k, left, out, h => by
  have : left = [] := List.length_eq_zero_iff.mp (by (first | lia | omega))
  subst this
  rw [List.append_nil]
  exact List.Perm.refl _
 | fuel + 1, k, left, out, h => by
  unfold pickOrder.go
  cases e : left[next k % left.length]? with
  | none =>
   have : left = [] := by
    rcases left with _ | ⟨x, l⟩
    ·rfl
    ·rw [List.getElem?_eq_getElem (Nat.mod_lt _ (by simp))] at e
     cases e
   subst this
   rw [List.append_nil]
  | some x =>
   obtain ⟨hi, hx⟩ := List.getElem?_eq_some_iff.mp e
   refine (pick_perm next fuel (k + 1) _ _ ?_).trans ?_
   ·rw [List.length_eraseIdx_of_lt hi]
    (first | lia | omega)
   ·rw [Array.toList_push, List.append_assoc]
    refine List.Perm.append_left _ ?_
    rw [<- hx]
    exact er_perm hi
noncomputable def wkO (w : World) (S : Addr) (ep : Nat) (es : Array (Int × Value)) : Array (Int × Value) := if leads w = true then es else pickOrder (w.params.setOrder S ep) es
theorem wk_perm {w : World} {S : Addr} {ep : Nat} {es : Array (Int × Value)} : (wkO w S ep es).toList.Perm es.toList := by
 unfold wkO
 split
 ·exact List.Perm.refl _
 ·unfold pickOrder
  have := pick_perm (w.params.setOrder S ep) es.size 0 es.toList #[] (by simp)
  simpa using this
theorem wk_size {w : World} {S : Addr} {ep : Nat} {es : Array (Int × Value)} : (wkO w S ep es).size = es.size := by
 rw [<- Array.length_toList, wk_perm.length_eq, Array.length_toList]
noncomputable def slAt (w : World) (t : SetTable) (i : Nat) : Nat := if leads w = true then (if i = 0 then 0 else t.place.getD (i - 1) 0 + 1) else 0
noncomputable def itOb (w : World) (S : Addr) (n ep : Nat) (t : SetTable) (i : Nat) : Obj := { cls := .type "set_iterator", dict := none, data := .fields #[.int (slAt w t i) 0, .int i 0, .ref S, .int n 0, .int ep 0], slots := #[] }
section
variable {prog : Program} {w : World} {A : Around} {E : Value -> Shared -> Prop} {s : Shared} {S I : Addr} {o : Obj} {es : Array (Int × Value)} {ep : Nat} {t : SetTable}
theorem sl_next (T : Tb t es.size) {i : Nat} (hi : i < es.size) (hl : leads w = true) : SetTable.below t.place (slAt w t i) = i := by
 unfold slAt
 rw [if_pos hl]
 rcases Nat.eq_zero_or_pos i with e | e
 ·rw [if_pos e, e]
  exact below_zero T.rise
 ·rw [if_neg (by (first | lia | omega))]
  have hj : i - 1 < t.place.size := by rw [T.size]; (first | lia | omega)
  have := below_next T.rise (i := i - 1) (Array.getElem?_eq_getElem hj)
  rw [Array.getD_eq_getD_getElem?, Array.getElem?_eq_getElem hj]
  show SetTable.below t.place (t.place[i - 1] + 1) = i
  rw [this]
  (first | lia | omega)
theorem wp_setNext {i : Nat} {e : Int × Value} {Q : Option (Value × Nat) -> Shared -> Prop} (ho : s.heap.get? S = some o) (hd : o.data = .set es ep t) (T : Tb t es.size) (hp : t.plain = true) (hb : t.led = leads w) (hx : (wkO w S ep es)[i]? = some e)
  (q : Q (some (e.2, slAt w t (i + 1))) s) : wpAny (model prog w) A (setNext S (slAt w t i) i ep) Q E s := by
 obtain ⟨hi, _⟩ := Array.getElem?_eq_some_iff.mp hx
 rw [wk_size] at hi
 unfold setNext
 refine wpAny_bind (wpAny_setState_of ho hd T.fits ?_)
 dsimp only
 unfold setsByText
 refine wpAny_bind (wpAny_bind (wpAny_askSetting (wpAny_pure ?_)))
 show wpAny _ _ (if w.params.followText "set-order" = true then _ else _) _ _ s
 cases hf : w.params.followText "set-order" with
 | true =>
  have hl : leads w = false := by unfold leads; rw [hf]; rfl
  simp only [if_true, bne_self_eq_false, Bool.false_eq_true, if_false]
  refine wpAny_bind ?_
  unfold setWalk
  refine wpAny_bind (wpAny_setState_of ho hd T.fits ?_)
  dsimp only
  unfold setsByText
  refine wpAny_bind (wpAny_bind (wpAny_askSetting (wpAny_pure ?_)))
  show wpAny _ _ (if w.params.followText "set-order" = true then _ else _) _ _ s
  rw [hf]
  simp only [if_true]
  refine wpAny_bind (wpAny_askSetting (wpAny_pure (wpAny_pure ?_)))
  have ew : wkO w S ep es = pickOrder (w.params.setOrder S ep) es := if_neg (by rw [hl]; exact Bool.false_ne_true)
  rw [ew] at hx
  show Q (((pickOrder (w.params.setOrder S ep) es)[i]?).map fun e => (e.2, slAt w t i)) s
  rw [hx]
  have es1 : slAt w t i = slAt w t (i + 1) := by
   unfold slAt
   rw [if_neg (by rw [hl]; exact Bool.false_ne_true), if_neg (by rw [hl]; exact Bool.false_ne_true)]
  rw [es1]
  exact q
 | false =>
  have hl : leads w = true := by unfold leads; rw [hf]; rfl
  have ew : wkO w S ep es = es := if_pos hl
  rw [ew] at hx
  rw [hl] at hb
  simp only [Bool.false_eq_true, if_false]
  have hn := sl_next (w := w) T hi hl
  have hsl : ∀ j, t.place[i]? = some j -> slAt w t (i + 1) = j + 1 := fun j hj => by
   unfold slAt
   rw [if_pos hl, if_neg (by (first | lia | omega)), Nat.add_sub_cancel, Array.getD_eq_getD_getElem?, hj]
   rfl
  obtain ⟨pj, hpl⟩ : ∃ pj, t.place[i]? = some pj := ⟨_, Array.getElem?_eq_getElem (by rw [T.size]; exact hi)⟩
  rw [hsl _ hpl] at q
  generalize slAt w t i = sl at hn ⊢
  obtain ⟨mk, pl, du, fi, ld, mv, pn⟩ := t
  simp only at hp hb hn hpl q
  subst hp hb
  refine wpAny_ite_split (fun hab => absurd (show false = true from hab) Bool.false_ne_true) (fun _ => ?_)
  refine wpAny_bind (wpAny_of_eq (a := ()) rfl (wpAny_pure ?_))
  dsimp only
  rw [hn, hx, hpl]
  exact q
theorem wp_setNextEnd {Q : Option (Value × Nat) -> Shared -> Prop} (ho : s.heap.get? S = some o) (hd : o.data = .set es ep t) (T : Tb t es.size) (hp : t.plain = true) (hb : t.led = leads w)
  (q : Q none s) : wpAny (model prog w) A (setNext S (slAt w t es.size) es.size ep) Q E s := by
 unfold setNext
 refine wpAny_bind (wpAny_setState_of ho hd T.fits ?_)
 dsimp only
 unfold setsByText
 refine wpAny_bind (wpAny_bind (wpAny_askSetting (wpAny_pure ?_)))
 show wpAny _ _ (if w.params.followText "set-order" = true then _ else _) _ _ s
 cases hf : w.params.followText "set-order" with
 | true =>
  have hl : leads w = false := by unfold leads; rw [hf]; rfl
  simp only [if_true, bne_self_eq_false, Bool.false_eq_true, if_false]
  refine wpAny_bind ?_
  unfold setWalk
  refine wpAny_bind (wpAny_setState_of ho hd T.fits ?_)
  dsimp only
  unfold setsByText
  refine wpAny_bind (wpAny_bind (wpAny_askSetting (wpAny_pure ?_)))
  show wpAny _ _ (if w.params.followText "set-order" = true then _ else _) _ _ s
  rw [hf]
  simp only [if_true]
  refine wpAny_bind (wpAny_askSetting (wpAny_pure (wpAny_pure ?_)))
  have ew : wkO w S ep es = pickOrder (w.params.setOrder S ep) es := if_neg (by rw [hl]; exact Bool.false_ne_true)
  have hz := wk_size (w := w) (S := S) (ep := ep) (es := es)
  rw [ew] at hz
  show Q (((pickOrder (w.params.setOrder S ep) es)[es.size]?).map fun e => (e.2, slAt w t es.size)) s
  rw [Array.getElem?_eq_none (by (first | lia | omega))]
  exact q
 | false =>
  have hl : leads w = true := by unfold leads; rw [hf]; rfl
  rw [hl] at hb
  simp only [Bool.false_eq_true, if_false]
  have hn : SetTable.below t.place (slAt w t es.size) = es.size := by
   unfold slAt
   rw [if_pos hl]
   rcases Nat.eq_zero_or_pos es.size with e | e
   ·rw [if_pos e, e]
    exact below_zero T.rise
   ·rw [if_neg (by (first | lia | omega))]
    have hj : es.size - 1 < t.place.size := by rw [T.size]; (first | lia | omega)
    have := below_next T.rise (i := es.size - 1) (Array.getElem?_eq_getElem hj)
    rw [Array.getD_eq_getD_getElem?, Array.getElem?_eq_getElem hj]
    show SetTable.below t.place (t.place[es.size - 1] + 1) = es.size
    rw [this]
    (first | lia | omega)
  generalize slAt w t es.size = sl at hn ⊢
  obtain ⟨mk, pl, du, fi, ld, mv, pn⟩ := t
  simp only at hp hb hn
  subst hp hb
  refine wpAny_ite_split (fun hab => absurd (show false = true from hab) Bool.false_ne_true) (fun _ => ?_)
  refine wpAny_bind (wpAny_of_eq (a := ()) rfl (wpAny_pure ?_))
  dsimp only
  rw [hn, Array.getElem?_eq_none (Nat.le_refl _)]
  exact q
theorem wp_setDrawn {Q : Bool -> Shared -> Prop} (ho : s.heap.get? S = some o) (hd : o.data = .set es ep t) (T : Tb t es.size) (hp : t.plain = true) (q : Q false s) : wpAny (model prog w) A (setDrawn S) Q E s := by
 unfold setDrawn
 refine wpAny_bind (wpAny_setState_of ho hd T.fits ?_)
 dsimp only
 unfold setsByText
 refine wpAny_bind (wpAny_bind (wpAny_askSetting (wpAny_pure (wpAny_pure ?_))))
 obtain ⟨mk, pl, du, fi, ld, mv, pn⟩ := t
 simp only at hp
 subst hp
 generalize (Setting.mk (model prog w).prog (model prog w).w.params).params.followText "set-order" = b
 cases b
 ·exact q
 ·exact q
theorem sit_iter {Q : Value -> Shared -> Prop} (ho : s.heap.get? S = some o) (hex : o.ExactSet) (hd : o.data = .set es ep t) (T : Tb t es.size) (hp : t.plain = true)
  (q : Q (.ref s.heap.objs.size) { s with heap := s.heap.push (itOb w S es.size ep t 0) }) : wpAny (model prog w) A (pyIter (.ref S)) Q E s := by
 have hT0 : s.TypeIs (.ref S) "set" := ⟨o, ho, hex.1⟩
 refine wpAny_pyIter_slot hT0 F.slot_set_iter (wpAny_call_entry F.slot_set_iter hT0 entry_set_iter ?_ (F.args_set_iter_1 _))
 unfold Builtin.«frozenset.__iter__»
 refine wpAny_bind (wpAny_of_eq (a := S) rfl ?_)
 refine wpAny_bind ?_
 unfold Builtin.Frozenset.sizeOf
 refine wpAny_bind (wpAny_setEntries_of ho hd T.fits (wpAny_pure ?_))
 refine wpAny_bind (wp_setDrawn ho hd T hp ?_)
 simp only [Bool.false_eq_true, if_false]
 refine wpAny_bind (wpAny_pure ?_)
 refine wpAny_bind (wpAny_setEpoch_of ho hd T.fits ?_)
 have hs : slAt w t 0 = 0 := by unfold slAt; split <;> rfl
 refine wpAny_bind (wpAny_newObj_type (wpAny_pure ⟨_, rfl, "set_iterator", _, ⟨_, Heap.get?_push_size _ rfl, rfl⟩, slot_sit_next.lookup, ?_⟩))
 unfold itOb at q
 rw [hs] at q
 simpa [rawInt] using q
theorem sit_next {i : Nat} {e : Int × Value} {Q : Option Value -> Shared -> Prop} (hit : s.heap.get? I = some (itOb w S es.size ep t i)) (hSI : S ≠ I) (ho : s.heap.get? S = some o) (hd : o.data = .set es ep t) (T : Tb t es.size) (hp : t.plain = true) (hb : t.led = leads w) (hx : (wkO w S ep es)[i]? = some e)
  (q : ∀ h', h'.get? I = some (itOb w S es.size ep t (i + 1)) -> Heap.SameBut I s.heap h' -> Q (some e.2) { s with heap := h' }) : wpAny (model prog w) A (pyNext (.ref I)) Q E s := by
 have tI : s.TypeIs (.ref I) "set_iterator" := ⟨_, hit, rfl⟩
 unfold pyNext
 refine wpAny_bind (wpAny_attempt (wpAny_callSpecial?_slot (name := Str.ofString "__next__") tI slot_sit_next (wpAny_call_entry slot_sit_next tI entry_sit_next ?_ (args_sit_next _))))
 unfold Builtin.«set_iterator.__next__»
 refine wpAny_bind (wpAny_pure (wpAny_bind (wpAny_fieldsOf hit rfl ?_)))
 dsimp only
 refine wpAny_bind (wpAny_setEntries_of ho hd T.fits ?_)
 rw [if_neg (by simp)]
 refine wpAny_bind (wp_setNext ho hd T hp hb hx ?_)
 dsimp only
 refine wpAny_bind (wpAny_setField_rec hit (by simp) fun h1 (e1 : _) (k1 : Heap.SameBut I s.heap h1) => ?_)
 refine wpAny_bind (wpAny_setField_rec e1 (by simp) fun h2 (e2 : _) (k2 : Heap.SameBut I h1 h2) => ?_)
 have e3 : h2.get? I = some (itOb w S es.size ep t (i + 1)) := by
  unfold itOb
  rw [show ((i + 1 : Nat) : Int) = (i : Int) + 1 by (first | lia | omega)]
  simpa [rawInt] using e2
 exact wpAny_pure ⟨_, rfl, wpAny_pure (q h2 e3 (k1.trans k2))⟩
theorem sit_end {Q : Option Value -> Shared -> Prop} (hh : A.handled = none) (hit : s.heap.get? I = some (itOb w S es.size ep t es.size)) (ho : s.heap.get? S = some o) (hd : o.data = .set es ep t) (T : Tb t es.size) (hp : t.plain = true) (hb : t.led = leads w)
  (q : ∀ h', Heap.ExtBut I s.heap h' -> Q none { s with heap := h' }) : wpAny (model prog w) A (pyNext (.ref I)) Q E s := by
 have tI : s.TypeIs (.ref I) "set_iterator" := ⟨_, hit, rfl⟩
 unfold pyNext
 refine wpAny_bind (wpAny_attempt (wpAny_callSpecial?_slot (name := Str.ofString "__next__") tI slot_sit_next (wpAny_call_entry slot_sit_next tI entry_sit_next ?_ (args_sit_next _))))
 unfold Builtin.«set_iterator.__next__»
 refine wpAny_bind (wpAny_pure (wpAny_bind (wpAny_fieldsOf hit rfl ?_)))
 dsimp only
 refine wpAny_bind (wpAny_setEntries_of ho hd T.fits ?_)
 rw [if_neg (by simp)]
 refine wpAny_bind (wp_setNextEnd ho hd T hp hb ?_)
 dsimp only
 refine wpAny_bind (wpAny_setField hit rfl (by simp) ?_)
 refine wpAny_bind ?_
 simp only [newExc, newTuple]
 refine wpAny_bind (wpAny_newObj_type (wpAny_bind (m := firstArgMember _ _) (wpAny_of_eq (a := Value.none) (by first | rfl | (simp only [firstArgMember]; rfl)) (wpAny_newObj_type ?_ (by size_fits)))) (by size_fits))
 simp only [raiseNew]
 refine wpAny_bind (wpAny_handled ?_)
 rw [show A.in1.handled = none from hh]
 refine wpAny_bind (wpAny_pure (wpAny_throw ?_))
 refine wpAny_bind (wpAny_isInstance (T := "StopIteration") (b := true) ⟨_, Heap.get?_push_size _ rfl, rfl⟩ isSubtype_stop (wpAny_pure ?_))
 exact q _ (((Heap.SameBut.update ..).extBut.push _).push _)
theorem sit_self {i : Nat} {Q : Value -> Shared -> Prop} (hit : s.heap.get? I = some (itOb w S es.size ep t i)) (q : Q (.ref I) s) : wpAny (model prog w) A (pyIter (.ref I)) Q E s := by
 have tI : s.TypeIs (.ref I) "set_iterator" := ⟨_, hit, rfl⟩
 refine wpAny_pyIter_slot tI slot_sit_iter (wpAny_call_entry slot_sit_iter tI entry_sit_iter ?_ (args_sit_iter _))
 show wpAny _ _ (ret (.ref I)) _ _ s
 exact wpAny_pure ⟨_, rfl, "set_iterator", _, tI, slot_sit_next.lookup, q⟩
theorem set_hint (hT0 : s.TypeIs (.ref S) "set") {Q : Bool -> Shared -> Prop} (h : Q false s) : wpAny (model prog w) A (Builtin.List.listLengthHint (.ref S)) Q E s := by
 unfold Builtin.List.listLengthHint
 refine wpAny_bind (wpAny_specialOf hT0 F.slot_set_len.lookup ?_)
 generalize hid : ("set.__len__" : String) = id0
 wp_delta
 rw [show splitId id0 = some ("set", "__len__") from by subst hid; decide +kernel]
 subst hid
 refine wpAny_bind (wpAny_isInstance (T := "set") (b := true) hT0 (by rw [isSubtype_type]; kernel_rfl) ?_)
 refine wpAny_ite_split (fun hab => absurd hab (by decide)) (fun _ => ?_)
 refine wpAny_ite_split (fun _ => ?_) (fun hab => absurd (by decide +kernel) hab)
 refine wpAny_bind (wpAny_typeOf hT0 ?_)
 exact wpAny_pure h
end
theorem sit_walks {prog : Program} {w : World} {A : Around} (hh : A.handled = none) {I S : Addr} (hne : S ≠ I) {o : Obj} {es : Array (Int × Value)} {ep : Nat} {t : SetTable} (hd : o.data = .set es ep t) (T : Tb t es.size) (hp : t.plain = true) (hb : t.led = leads w) :
  Walks prog w A I [I, S] [I] es.size (fun i v => ∃ e, (wkO w S ep es)[i]? = some e /\ v = e.2) (fun i h => h.get? I = some (itOb w S es.size ep t i) /\ h.get? S = some o) where
 sub := fun b hb => by simp at hb; simp [hb]
 frame := fun _ _ _ st hk => ⟨hk I (by simp) _ st.1, hk S (by simp) _ st.2⟩
 item := fun i s Q E hi st hQ => by
  obtain ⟨e, hx⟩ : ∃ e, (wkO w S ep es)[i]? = some e := ⟨_, Array.getElem?_eq_getElem (by rw [wk_size]; exact hi)⟩
  refine sit_next st.1 hne st.2 hd T hp hb hx fun h' hit' hs' => ?_
  exact hQ _ h' s.toks ⟨_, hx, rfl⟩ ⟨hit', hs'.extBut S _ hne st.2⟩ fun b o hb e => hs'.extBut b o (fun h => hb (by simp [h])) e
 done := fun s Q E st hQ => sit_end hh st.1 st.2 hd T hp hb fun h' he' => hQ h' s.toks fun b o hb e => he' b o (fun h => hb (by simp [h])) e
 self := fun _ _ _ _ st hQ => sit_self st.1 hQ
theorem set_src {prog : Program} {w : World} {S : Addr} {o : Obj} {es : Array (Int × Value)} {ep : Nat} {t : SetTable} (hex : o.ExactSet) (hd : o.data = .set es ep t) (T : Tb t es.size) (hp : t.plain = true) (hb : t.led = leads w) :
  PySem.W.KdlSrc prog w "set" S S es.size (fun i v => ∃ e, (wkO w S ep es)[i]? = some e /\ v = e.2) (fun h => h.get? S = some o) where
 type := fun _ hm => ⟨o, hm, hex.1⟩
 there := fun _ hm => ⟨Heap.lt_size hm, Heap.lt_size hm⟩
 keep := fun _ _ hm hk => hk S (.inl rfl) _ hm
 notList := by decide
 notTuple := by decide
 hint := fun _ _ _ _ hm hq => set_hint ⟨o, hm, hex.1⟩ hq
 iter := fun _ _ hh hm => ⟨_, _, (fun _ _ hq => sit_iter hm hex hd T hp hq), sit_walks hh (Nat.ne_of_lt (Heap.lt_size hm)) hd T hp hb, ⟨Heap.get?_push_size _ rfl, Heap.get?_push_of_some _ hm⟩⟩
end St
namespace St
open PySem PyProof.Rows
noncomputable def SetI (b : Bool) (h : Heap) (a : Addr) (ks : List Int) : Prop := ∃ L, SetH b h a L /\ ks.Nodup /\ Paired (fun (k : Int) (e : Int × Value) => e.1 = hashInt k /\ ∃ t, e.2 = .int k t) ks L
theorem SetI.keep {b : Bool} {h h' : Heap} {a : Addr} {ks : List Int} (x : SetI b h a ks) (e : ∀ o, h.get? a = some o -> h'.get? a = some o) : SetI b h' a ks := by
 obtain ⟨L, h1, r⟩ := x
 exact ⟨L, h1.keep e, r⟩
theorem prd_app {α β : Type} {F : α -> β -> Prop} : ∀ {l1 l2 : List α} {v1 v2 : List β}, Paired F l1 v1 -> Paired F l2 v2 -> Paired F (l1 ++ l2) (v1 ++ v2)
 | _, _, _, _, .nil, h => h
 | _, _, _, _, .cons r t, h => .cons r (prd_app t h)
theorem prd_mem {α β : Type} {F : α -> β -> Prop} : ∀ {l : List α} {v : List β}, Paired F l v -> ∀ e ∈ v, ∃ a ∈ l, F a e
 | _, _, .nil, _, h => by cases h
 | _, _, .cons (a := a) r t, e, h => by
  rcases List.mem_cons.mp h with rfl | h
  ·exact ⟨a, List.mem_cons_self, r⟩
  ·obtain ⟨x, h1, h2⟩ := prd_mem t e h
   exact ⟨x, List.mem_cons_of_mem _ h1, h2⟩
theorem prd_memL {α β : Type} {F : α -> β -> Prop} : ∀ {l : List α} {v : List β}, Paired F l v -> ∀ a ∈ l, ∃ e ∈ v, F a e
 | _, _, .nil, _, h => by cases h
 | _, _, .cons (b := e) r t, a, h => by
  rcases List.mem_cons.mp h with rfl | h
  ·exact ⟨e, List.mem_cons_self, r⟩
  ·obtain ⟨x, h1, h2⟩ := prd_memL t a h
   exact ⟨x, List.mem_cons_of_mem _ h1, h2⟩
theorem relay_ok {m : Nat} {t : SetTable} {es : Array (Int × Value)} (T : Tb t es.size) (m1 : SetTable.sizeAbove m - 1 ∈ masks) (m2 : es.size <= SetTable.sizeAbove m - 1) :
  ∃ es2 t2, relayAll t es m = (es2, t2, false) /\ es2.toList.Perm es.toList /\ Tb t2 es2.size /\ t2.led = t.led /\ t2.plain = t.plain /\ t2.mask = SetTable.sizeAbove m - 1 := by
 obtain ⟨t2, order, l1, l2, l3, l4, l5, l6⟩ := laid_ok m1 t.finger (t.movedTo (SetTable.sizeAbove m - 1)) t.led t.plain (es.map (·.1)) (by rw [Array.size_map]; exact m2)
 rw [Array.size_map] at l2 l6
 have P2 := filt_perm (es := es) l6
 have e2 : (order.filterMap (es[·]?)).size = es.size := by rw [<- Array.length_toList, P2.length_eq, Array.length_toList]
 have l2' : Tb t2 (order.filterMap (es[·]?)).size := by rw [e2]; exact l2
 refine ⟨order.filterMap (es[·]?), t2, ?_, P2, l2', l3, l4, l5⟩
 unfold relayAll
 have lr : t.relaid (es.map (·.1)) m = some (t2, order) := l1
 rw [lr]
 dsimp only
 have hc : coversAll order es.size = true := by
  unfold coversAll
  rw [List.isPerm_iff]
  exact l6
 rw [hc, l2'.fits]
 rfl
section
variable {prog : Program} {w : World} {A : Around} {E : Value -> Shared -> Prop} {s : Shared}
theorem wp_addI {b : Bool} {a : Addr} {ks : List Int} {k : Int} {tk0 : Tok} {Q : Bool -> Shared -> Prop} (hS : SetI b s.heap a ks) (hl : ks.length + 1 <= 1200)
  (q : ∀ r h', Heap.SameBut a s.heap h' -> SetI b h' a (if k ∈ ks then ks else ks ++ [k]) -> Q r { s with heap := h' }) : wpAny (model prog w) A (setAddHashed a (.int k tk0) (hashInt k)) Q E s := by
 obtain ⟨L, ⟨o, es, ep, t, ho, hex, hd, T, hf, hp, hb, hL⟩, nd, pr⟩ := hS
 have hes : es.size = ks.length := by rw [<- Array.length_toList, hL.length_eq, Paired.length pr]
 have hent : ∀ e ∈ es.toList, ∃ x ∈ ks, e.1 = hashInt x /\ ∃ t, e.2 = .int x t := fun e he => prd_mem pr e (hL.mem_iff.mp he)
 have hel : ElemsOf (intKind prog w) es.toList := fun e he => by
  obtain ⟨x, _, h1, t', h2⟩ := hent e he
  refine ⟨⟨x, ?_, h1⟩, ?_⟩
  ·rw [h2]
   exact intKind_is _ _ _ _
  ·rw [h2]
   rfl
 have hbd : es.size < scanBound := by
  unfold scanBound
  (first | lia | omega)
 unfold setAddHashed setAddHashedIn
 refine wpAny_holding (wpAny_bind (wpAny_setState_of ho hd T.fits ?_))
 dsimp only
 rw [byScan_of (knd := intKind prog w) (x := .int k tk0) rfl hbd hel]
 simp only [↓reduceIte]
 unfold setAddByScan
 refine wpAny_bind ?_
 refine wpAny_bind (wpAny_rule ?_)
 refine wpAny_bind (wpAny_setScan_of (knd := intKind prog w) (k := k) (intKind_is _ _ _ _) ho hd T.fits hel ?_)
 cases hr : List.findIdx? (fun e => (intKind prog w).is k e.2) es.toList with
 | some j =>
  dsimp only
  obtain ⟨hj, hpj, _⟩ := List.findIdx?_eq_some_iff_getElem.mp hr
  have hk : k ∈ ks := by
   obtain ⟨x, hx, _, t', h2⟩ := hent _ (List.getElem_mem hj)
   rw [h2] at hpj
   have := (intKind prog w).inj _ k x hpj (intKind_is _ _ _ _)
   rw [this]
   exact hx
  refine wpAny_pure (wpAny_pure ?_)
  have := q false s.heap (Heap.SameBut.refl a s.heap) (by rw [if_pos hk]; exact ⟨L, ⟨o, es, ep, t, ho, hex, hd, T, hf, hp, hb, hL⟩, nd, pr⟩)
  exact this
 | none =>
  dsimp only
  have hk : k ∉ ks := fun hk => by
   obtain ⟨e, he, _, t', h2⟩ := prd_memL pr k hk
   have := List.findIdx?_eq_none_iff.mp hr e (hL.mem_iff.mpr he)
   rw [h2, intKind_is] at this
   cases this
  have q := q true
  rw [if_neg hk] at q
  obtain ⟨j, ej, hj⟩ := probe_free (t := t) (hashAt := fun _ => hashInt k + 1) (h := hashInt k) T (fun i _ => beq_eq_false_iff_ne.mpr (by (first | lia | omega)))
  have hroom : es.size + 1 <= t.mask := by
   have h7 : ∀ m ∈ masks, 7 <= m := by decide
   have := h7 _ T.mask
   (first | lia | omega)
  have e1 : (SetTable.insertAt es (SetTable.below t.place j) (hashInt k, Value.int k tk0)).size = es.size + 1 := ins_size ..
  have T1 : Tb { t with place := SetTable.insertAt t.place (SetTable.below t.place j) j } (SetTable.insertAt es (SetTable.below t.place j) (hashInt k, Value.int k tk0)).size :=
   ⟨by rw [e1]; show (SetTable.insertAt t.place _ j).size = _; rw [ins_size, T.size], T.nod, ins_rise T.rise hj, T.mask, by rw [e1]; exact hroom⟩
  have elay : layNew t es (hashInt k) (.int k tk0) = (SetTable.insertAt es (SetTable.below t.place j) (hashInt k, Value.int k tk0), { t with place := SetTable.insertAt t.place (SetTable.below t.place j) j }, false, false) := by
   unfold layNew SetTable.freeSlot
   rw [ej]
   dsimp only
   rw [put_eq T.nod]
   dsimp only [Option.getD_none, Option.isSome_none]
   unfold SetTable.orStandIn
   rw [T1.fits]
   rfl
  rw [elay]
  dsimp only
  refine wpAny_bind (wpAny_of_eq (a := ()) rfl ?_)
  rw [if_pos hp]
  have P1 : (SetTable.insertAt es (SetTable.below t.place j) (hashInt k, Value.int k tk0)).toList.Perm (L ++ [(hashInt k, .int k tk0)]) := (ins_perm ..).trans ((hL.cons _).trans (List.perm_append_singleton _ _).symm)
  have fin : ∀ h', SetH b h' a (L ++ [(hashInt k, .int k tk0)]) -> SetI b h' a (ks ++ [k]) := fun h' x => ⟨_, x, List.nodup_append.mpr ⟨nd, by simp, fun y hy z hz e => hk (by rw [List.mem_singleton.mp hz] at e; rw [<- e]; exact hy)⟩, prd_app pr (.cons ⟨rfl, tk0, rfl⟩ .nil)⟩
  refine wpAny_bind (wpAny_of_eq (a := true) rfl ?_)
  simp only [if_true]
  refine wpAny_bind (wpAny_storeSet_of ho hd ?_ (by rw [e1, sizeLine_eq]; (first | lia | omega)))
  have hg1 : (s.heap.update a (Obj.putSet (SetTable.insertAt es (SetTable.below t.place j) (hashInt k, Value.int k tk0)) { t with place := SetTable.insertAt t.place (SetTable.below t.place j) j })).get? a = some { o with data := .set (SetTable.insertAt es (SetTable.below t.place j) (hashInt k, Value.int k tk0)) (ep + 1) { t with place := SetTable.insertAt t.place (SetTable.below t.place j) j } } := by
   have := Heap.get?_update_self (Obj.putSet (SetTable.insertAt es (SetTable.below t.place j) (hashInt k, Value.int k tk0)) { t with place := SetTable.insertAt t.place (SetTable.below t.place j) j }) ho (by rw [putSet_of _ _ hd]; rfl)
   rw [putSet_of _ _ hd] at this
   exact this
  have sb1 : Heap.SameBut a s.heap (s.heap.update a (Obj.putSet (SetTable.insertAt es (SetTable.below t.place j) (hashInt k, Value.int k tk0)) { t with place := SetTable.insertAt t.place (SetTable.below t.place j) j })) := Heap.SameBut.update ..
  generalize s.heap.update a (Obj.putSet (SetTable.insertAt es (SetTable.below t.place j) (hashInt k, Value.int k tk0)) { t with place := SetTable.insertAt t.place (SetTable.below t.place j) j }) = h1 at hg1 sb1 ⊢
  have hmask : ({ t with place := SetTable.insertAt t.place (SetTable.below t.place j) j } : SetTable).mask = t.mask := rfl
  have hpl : ({ t with place := SetTable.insertAt t.place (SetTable.below t.place j) j } : SetTable).plain = true := hp
  have hld : ({ t with place := SetTable.insertAt t.place (SetTable.below t.place j) j } : SetTable).led = b := hb
  generalize ({ t with place := SetTable.insertAt t.place (SetTable.below t.place j) j } : SetTable) = t1 at hg1 T1 hmask hpl hld ⊢
  generalize SetTable.insertAt es (SetTable.below t.place j) (hashInt k, Value.int k tk0) = es1 at e1 T1 P1 hg1 ⊢
  have hfill : t1.fill = es.size + 1 := by
   unfold SetTable.fill
   rw [T1.nod, T1.size, e1]
   rfl
  by_cases c : (!false && t1.tooFull) = true
  ·rw [if_pos c]
   have hfull : (es.size + 1) * 5 ≥ t.mask * 3 := by
    unfold SetTable.tooFull at c
    rw [hfill, hmask] at c
    simpa using c
   obtain ⟨m1, m2, m3, m4⟩ := full_cases T.mask hf hfull (by (first | lia | omega))
   rw [<- e1] at m1 m2 m3
   obtain ⟨es2, t2, er, p2, T2, r3, r4, r5⟩ := relay_ok T1 m1 m2
   rw [er]
   dsimp only
   have e2 : es2.size = es1.size := by rw [<- Array.length_toList, p2.length_eq, Array.length_toList]
   refine wpAny_bind (wpAny_of_eq (a := ()) rfl ?_)
   refine wpAny_bind (wpAny_storeSet_of (s := { s with heap := h1 }) hg1 rfl ?_ (by rw [e2, e1, sizeLine_eq]; (first | lia | omega)))
   have hg2 : (h1.update a (Obj.putSet es2 t2)).get? a = some { o with data := .set es2 (ep + 1 + 1) t2 } := by
    have := Heap.get?_update_self (Obj.putSet es2 t2) hg1 (by rw [putSet_of _ _ rfl]; rfl)
    rw [putSet_of (ep := ep + 1) (es := es1) (t := t1) _ _ rfl] at this
    exact this
   exact wpAny_pure (wpAny_pure (q _ (sb1.trans (Heap.SameBut.update ..)) (fin _ ⟨_, es2, _, t2, hg2, hex, rfl, T2, by rw [e2, r5]; exact m3, by rw [r4, hpl], by rw [r3, hld], p2.trans P1⟩)))
  ·rw [if_neg c]
   have hnf : ¬ (es.size + 1) * 5 ≥ t.mask * 3 := fun g => c (by
    unfold SetTable.tooFull
    rw [hfill, hmask]
    simpa using g)
   exact wpAny_pure (wpAny_pure (q h1 sb1 (fin _ ⟨_, es1, _, t1, hg1, hex, rfl, T1, by rw [e1, hmask]; (first | lia | omega), hpl, hld, P1⟩)))
end
end St
namespace St
open PySem PyProof.Rows
noncomputable def SetOf (b : Bool) (h : Heap) (a : Addr) (ns : List Int) : Prop := ∃ ks, SetI b h a ks /\ (∀ x, x ∈ ks ↔ x ∈ ns) /\ ks.length <= ns.length
theorem SetOf.keep {b : Bool} {h h' : Heap} {a : Addr} {ns : List Int} (x : SetOf b h a ns) (e : ∀ o, h.get? a = some o -> h'.get? a = some o) : SetOf b h' a ns := by
 obtain ⟨ks, h1, r⟩ := x
 exact ⟨ks, h1.keep e, r⟩
theorem fresh_setOf {w : World} {h : Heap} {a : Addr} (e : h.get? a = some (freshS w)) : SetOf (leads w) h a [] :=
 ⟨[], ⟨[], fresh_setH e, .nil, .nil⟩, fun _ => Iff.rfl, Nat.le_refl _⟩
section
variable {prog : Program} {w : World} {A : Around} {R : Result -> Shared -> Prop} {I : Addr} {fp wr : List Addr} {G : Array GenState -> Array GenState -> Prop} {n : Nat} {P : Nat -> Value -> Prop} {Sw : Nat -> Shared -> Prop} {b : Bool}
theorem loop_setI (W : WalksS prog w A.in1 I fp wr G n P Sw) (S : Addr) (hSf : S ∉ fp) (ns : List Int) (hln : ns.length = n) (hv : ∀ i v, P i v -> ∃ k t, ns[i]? = some k /\ v = .int k t) (hn : n <= 1200) :
  ∀ (k i : Nat) (s : Shared), n - i = k -> i <= n -> Sw i s -> SetOf b s.heap S (ns.take i) ->
   (∀ s', Moved (S :: wr) G s s' -> SetOf b s'.heap S ns -> R (.ok (.ret .none)) s') ->
   codeAny (model prog w) A (.builtin "set.update.loop" ⟨[.ref S, .ref I], []⟩) R s := by
 have hSw : S ∉ wr := fun h => hSf (W.sub _ h)
 have hsub : ∀ b ∈ wr, b ∈ S :: wr := fun b hb => List.mem_cons_of_mem _ hb
 intro k
 induction k with
 | zero =>
  intro i s hk hi hst hS hR
  have hin : i = n := by (first | lia | omega)
  subst hin
  refine codeAny_builtin PyProof.Rows.F.entry_set_update_loop ?_
  rw [Around.under_plainId PyProof.Rows.F.plain_set_update_loop _]
  show wpAny _ A.in1 (pyNext (.ref I) >>= _) _ _ s
  refine wpAny_bind (W.done s _ _ hst fun s' hm => ?_)
  show wpAny _ A.in1 (ret Value.none) _ _ s'
  rw [<- hln, List.take_length] at hS
  exact wpAny_pure (hR s' (hm.mono hsub) (hS.keep fun o e => hm.heap S _ hSw e))
 | succ k ih =>
  intro i s hk hi hst hS hR
  have hlt : i < n := by (first | lia | omega)
  refine codeAny_builtin PyProof.Rows.F.entry_set_update_loop ?_
  rw [Around.under_plainId PyProof.Rows.F.plain_set_update_loop _]
  show wpAny _ A.in1 (pyNext (.ref I) >>= _) _ _ s
  refine wpAny_bind (W.item i s _ _ hlt hst fun v s' hP hst' hm => ?_)
  obtain ⟨kx, tx, hkx, rfl⟩ := hv i v hP
  obtain ⟨ks, hSk, hmem, hle⟩ : SetOf b s'.heap S (ns.take i) := hS.keep fun o e => hm.heap S _ hSw e
  have hle' : ks.length <= i := by
   rw [List.length_take] at hle
   (first | lia | omega)
  show wpAny _ A.in1 (holding [.int kx tx] (setAdd S (.int kx tx)) >>= _) _ _ s'
  refine wpAny_bind (wpAny_holding ?_)
  unfold setAdd
  refine wpAny_holding ?_
  refine wpAny_bind (wpAny_pyHash_int ?_)
  refine wp_addI (s := { s' with toks := s'.toks + 1 }) hSk (by (first | lia | omega)) fun r h' hsb hS2 => ?_
  have etk : ns.take (i + 1) = ns.take i ++ [kx] := by
   rw [List.take_succ, hkx]
   rfl
  have hSi : SetOf b h' S (ns.take (i + 1)) := by
   refine ⟨_, hS2, fun x => ?_, ?_⟩
   ·rw [etk, List.mem_append, List.mem_singleton]
    by_cases c : kx ∈ ks
    ·rw [if_pos c, hmem]
     refine ⟨.inl, fun h => h.elim id fun e => ?_⟩
     rw [e]
     exact (hmem _).mp c
    ·rw [if_neg c, List.mem_append, List.mem_singleton, hmem]
   ·rw [List.length_take] at hle ⊢
    split
    ·(first | lia | omega)
    ·rw [List.length_append]
     show ks.length + 1 <= _
     (first | lia | omega)
  have htk : s'.toks <= s'.toks + 1 := Nat.le_succ _
  refine wpAny_pure ⟨plainId_quiet PyProof.Rows.F.plain_set_update_loop _, ih (i + 1) _ (by (first | lia | omega)) hlt (W.frame _ s' _ _ hst' htk fun c hc o e => ?_) hSi fun s'' hm'' hS'' => ?_⟩
  ·rw [hsb.2 c (fun z : c = S => hSf (by rw [<- z]; exact hc))]
   exact e
  ·refine hR s'' (Moved.trans W.gtrans ((hm.mono hsub).then_heap htk fun c o hc e => ?_) hm'') hS''
   rw [hsb.2 c (fun z : c = S => hc (by rw [z]; exact List.mem_cons_self))]
   exact e
end
theorem ia_get : ∀ {vs : List Value} {ns : List Int}, IntsAre vs ns -> ∀ {i : Nat} {v : Value}, vs[i]? = some v -> ∃ k t, ns[i]? = some k /\ v = .int k t := by
 intro vs ns h
 induction h with
 | nil => intro i v e; simp at e
 | cons x t _ ih =>
  intro i v e
  cases i with
  | zero => exact ⟨x, t, rfl, (Option.some.inj e).symm⟩
  | succ i => exact ih e
section
variable {prog : Program} {w : World} {A : Around} {E : Value -> Shared -> Prop} {s : Shared}
end
section
variable {prog : Program} {w : World} {A : Around} {E : Value -> Shared -> Prop} {s : Shared}
theorem sub_list_set : isSubtype (.type "list") (.type "set") = pure false := by rw [isSubtype_type]; kernel_rfl
theorem sub_list_frozenset : isSubtype (.type "list") (.type "frozenset") = pure false := by rw [isSubtype_type]; kernel_rfl
set_option maxRecDepth 100000 in
set_option maxHeartbeats 3200000 in
theorem call_setIL {l : Addr} {items : Array Value} {ns : List Int} {Q : Value -> Shared -> Prop} (hh : A.handled = none) (hl : s.heap.IsList l items) (hn : items.size <= 1200) (hi : IntsAre items.toList ns)
  (h : ∀ (h' : Heap) (tk : Nat), SetOf (leads w) h' s.heap.objs.size ns -> (∀ b o, b < s.heap.objs.size -> s.heap.get? b = some o -> h'.get? b = some o) -> Q (.ref s.heap.objs.size) { s with heap := h', toks := tk }) :
  wpAny (model prog w) A (call (.type "set") [.ref l]) Q E s := by
 have hln : ns.length = items.size := by rw [<- hi.length, Array.length_toList]
 obtain ⟨c, tl, hmro⟩ := F.called_set.mro
 have hmade := F.called_set.made
 have hsub := F.called_set.sub
 refine wpAny_call (codeAny_of_tree ?_)
 show wpAny _ _ (callAny (.type "set") _) _ _ _
 refine wpAny_pure ⟨Code.quiet_builtin _ (by decide +kernel), codeAny_builtin F.entry_type_call ?_⟩
 rw [Around.under_plain (weight_type_call_type "set" [.ref l] []) rfl]
 have h1 := F.called_set.notType
 have h2 := F.called_set.canCreate
 have hct := F.typeCall_set_1 (.ref l)
 repeat (any_goals (first | assumption | wp_step))
 refine codeAny_mono (code_new (.ref l) (E := E) (Q₁ := fun obj s₁ => obj = .ref s.heap.objs.size /\ s₁ = { s with heap := s.heap.push (freshS w) }) ⟨rfl, rfl⟩) fun r s₁ hr => ?_
 cases r with
 | error e => exact hr
 | ok fl =>
  cases fl with
  | ret obj =>
   obtain ⟨rfl, rfl⟩ := hr
   have hS : (s.heap.push (freshS w)).get? s.heap.objs.size = some (freshS w) := Heap.get?_push_size _ rfl
   have hT0 : Shared.TypeIs { s with heap := s.heap.push (freshS w) } (.ref s.heap.objs.size) "set" := ⟨_, hS, rfl⟩
   have hli := F.called_set.init.lookup
   have hbi := F.called_set.init.bind (.ref s.heap.objs.size)
   repeat (any_goals (first | assumption | wp_step))
   refine codeAny_mono (codeAny_call_builtin (R := wants (fun r s₂ => r = .none /\ ∃ h' tk, s₂ = { s with heap := h', toks := tk } /\
     SetOf (leads w) h' s.heap.objs.size ns /\
     (∀ b o, b < s.heap.objs.size -> s.heap.get? b = some o -> h'.get? b = some o)) E) F.called_set.init.plain F.entry_set_init (check_set_init_1 hT0 ?_)) fun r₂ s₂ hr₂ => ?_
   ·obtain ⟨ol, hol, hcl, nl, hdl⟩ := hl
    obtain ⟨ocls, odict, odata, oslots⟩ := ol
    simp only at hcl hdl
    subst hcl; subst hdl
    have hol' : (s.heap.push (freshS w)).get? l = some { cls := .type "list", dict := odict, data := .seq items nl, slots := oslots } := Heap.get?_push_of_some _ hol
    have hsls := sub_list_set
    have hslf := sub_list_frozenset
    have hne : (Value.type "list" == Value.type "dict") = false := by decide
    have hl1 : (s.heap.push (freshS w)).IsList l items := ⟨_, hol', rfl, nl, rfl⟩
    unfold Builtin.«set.__init__» noKeywords Builtin.Frozenset.updateFrom
    generalize hPI : pyIter = PI
    wp_walk
    subst hPI
    refine wpAny_pyIter_list hl1 ?_
    refine wpAny_bind (wpAny_runValue ?_)
    have hlS : l < s.heap.objs.size := Heap.lt_size hol
    have hh3 : A.in1.in1.in1.handled = none := by simp [hh]
    have hneI : l ≠ (s.heap.push (freshS w)).objs.size := by
     rw [Heap.size_push]; exact Nat.ne_of_lt (Nat.lt_succ_of_lt hlS)
    have hSf : s.heap.objs.size ∉ [(s.heap.push (freshS w)).objs.size, l] := by
     rw [Heap.size_push]; simp only [List.mem_cons, List.mem_singleton, List.not_mem_nil, or_false, not_or]
     exact ⟨Nat.ne_of_lt (Nat.lt_succ_self _), Nat.ne_of_gt hlS⟩
    refine loop_setI (b := leads w) ((Walks.list hh3 _ l hneI items).toS) s.heap.objs.size hSf ns hln (fun i v hv => ?_) hn (items.size - 0) 0 _ (by (first | lia | omega)) (Nat.zero_le _)
     ⟨⟨_, Heap.get?_push_size _ rfl, rfl, rfl⟩, ⟨_, Heap.get?_push_of_some _ hol', rfl, nl, rfl⟩⟩ (fresh_setOf (Heap.get?_push_of_some _ hS)) ?hR
    ·exact ia_get hi (show items.toList[i]? = some v by rw [Array.getElem?_toList]; exact hv)
    case hR =>
     intro s' hm hS'
     obtain ⟨h', g', d', tk', os'⟩ := s'
     have eg : g' = s.gens := hm.gens
     have ed : d' = s.drawn := hm.drawn
     have eo : os' = s.os := hm.os
     subst eg; subst ed; subst eo
     show wpAny _ _ _ _ _ _
     refine wpAny_pure ?_
     show wpAny _ _ (ret Value.none) _ _ _
     refine wpAny_pure ⟨rfl, h', tk', rfl, hS', fun b o hb e => ?_⟩
     have hb1 : b ≠ s.heap.objs.size := Nat.ne_of_lt hb
     have hb2 : b ≠ (s.heap.push (freshS w)).objs.size := by
      rw [Heap.size_push]; exact Nat.ne_of_lt (Nat.lt_succ_of_lt hb)
     exact hm.heap b o (by simp only [List.mem_cons, List.mem_singleton, List.not_mem_nil, or_false, not_or]; exact ⟨hb1, hb2⟩) (Heap.get?_push_of_some _ (Heap.get?_push_of_some _ e))
   ·cases r₂ with
    | error e => exact hr₂
    | ok fl₂ =>
     cases fl₂ with
     | ret r =>
      obtain ⟨rfl, h', tk, rfl, hS', hk'⟩ := hr₂
      repeat (any_goals (first | assumption | wp_step))
      exact h _ _ hS' hk'
     | _ => exact hr₂.elim
  | _ => exact hr.elim
end
end St
namespace L2
open PySem PySem.Spec PyProof.Rows
end L2
namespace L2
open PySem PySem.Spec PyProof.Rows
end L2
namespace L2
open PySem PySem.Spec PyProof.Rows
noncomputable def kD : Key -> PyData
 | .inl i => .int i
 | .inr x => .str x
mutual
inductive IsY (S : Addr -> Prop) (H : Hp) : V -> PyData -> Prop
 | non : IsY S H .non .none
 | bl (b : Bool) : IsY S H (.bl b) (.bool b)
 | int (i : Int) : IsY S H (.int i) (.int i)
 | str (x : Str) : IsY S H (.str x) (.str x)
 | tup {a : Addr} {vs : List V} {ds : List PyData} : H a = some (.tup vs) -> IsAllY S H vs ds -> IsY S H (.ref a) (.tuple ds)
 | lst {a : Addr} {vs : List V} {ds : List PyData} : H a = some (.lst vs) -> S a -> IsAllY S H vs ds -> IsY S H (.ref a) (.list ds)
 | d0 {a : Addr} : H a = some (.dK []) -> IsY S H (.ref a) (.dict [])
 | d1 {a : Addr} {k : Key} {v : V} {d : PyData} : H a = some (.dK [(k, v)]) -> IsY S H v d -> IsY S H (.ref a) (.dict [(kD k, d)])
inductive IsAllY (S : Addr -> Prop) (H : Hp) : List V -> List PyData -> Prop
 | nil : IsAllY S H [] []
 | cons {v : V} {vs : List V} {d : PyData} {ds : List PyData} : IsY S H v d -> IsAllY S H vs ds -> IsAllY S H (v :: vs) (d :: ds)
end
section
variable {X : Cx} {pins : List (Addr × Obj)} {σ : St} {H : Hp} {s : Shared}
end
end L2
namespace L2
open PySem PySem.Spec PyProof.Rows
end L2
namespace L2
open PySem PySem.Spec PyProof.Rows
end L2
namespace L2
open PySem PySem.Spec PyProof.Rows
end L2
namespace L2
open PySem PySem.Spec PyProof.Rows
end L2
namespace L2
open PySem PySem.Spec PyProof.Rows
end L2
namespace L2
open PySem PySem.Spec PyProof.Rows
end L2
namespace L2
open PySem PySem.Spec PyProof.Rows
end L2
namespace L2
open PySem PySem.Spec PyProof.Rows
noncomputable def lit : Nat -> Expr -> Option PyData
 | 0, _ => none
 | _ + 1, .Constant .none _ _ => some .none
 | _ + 1, .Constant (.bool b) _ _ => some (.bool b)
 | _ + 1, .Constant (.int i) _ _ => some (.int i)
 | _ + 1, .Constant (.str x) _ _ => some (.str x)
 | _ + 1, .UnaryOp .USub (.Constant (.int i) _ _) _ => some (.int (-i))
 | n + 1, .Tuple es _ _ => if es.length <= 100 then (es.mapM (lit n)).map PyData.tuple else none
 | n + 1, .List es _ => if es.length <= 100 then (es.mapM (lit n)).map PyData.list else none
 | _ + 1, .Dict [] [] _ => some (.dict [])
 | _ + 1, _ => none
end L2
namespace Srt
open PySem PyProof.Rows
noncomputable def gallop' : Bool -> Keyed -> Array Keyed -> Nat -> Nat -> Nat -> StateT SortSt Sem (Option Nat) := sortPriv% PySem.Builtin.gallop
section
variable {M : Model} {A : Around} {E : Value -> Shared -> Prop} {s : Shared}
noncomputable def Looks (M : Model) (A : Around) (E : Value -> Shared -> Prop) (s : Shared) (st : SortSt) (left : Bool) (key : Keyed) (arr : Array Keyed) (base n : Nat) (B : Nat -> Bool) : Prop :=
 ∀ (i : Nat) (Q : Option Bool -> SortSt -> Prop), i < n -> Q (some (B i)) st -> wpS M A E s (elem' arr (base + i) >>= fun x => if left = true then lt' x key else lt' key x >>= fun o => pure (Option.map not o)) Q st
theorem wpS_gallop {st : SortSt} {left : Bool} {key : Keyed} {arr : Array Keyed} {base n hint : Nat} {B : Nat -> Bool} {Q : Option Nat -> SortSt -> Prop} (hB : Looks M A E s st left key arr base n B) (hm : ∀ i j, i <= j -> j < n -> B j = true -> B i = true) (hh : hint < n)
  (h : ∀ k, k <= n -> (∀ i, i < k -> B i = true) -> (∀ i, k <= i -> i < n -> B i = false) -> Q (some k) st) : wpS M A E s (gallop' left key arr base n hint) Q st := by
 unfold gallop'
 refine wpS_bind (hB hint _ hh ?_)
 dsimp only
 cases hb0 : B hint with
 | true =>
  rw [if_pos rfl]
  refine wpS_bind (wpS_mono (wpS_forRange (I := fun x c st' => st' = st /\ ∃ la ofs, c = (none, la, ofs) /\ la < ofs /\ la < n - hint /\ x + 1 <= ofs /\ B (hint + la) = true)
   (Q := fun c st' => st' = st /\ ∃ la ofs, c = (none, la, ofs) /\ la < ofs /\ la < n - hint /\ B (hint + la) = true /\ (n - hint <= ofs ∨ B (hint + ofs) = false)) ?step ?fin ⟨rfl, 0, 1, rfl, by (first | lia | omega), by (first | lia | omega), by (first | lia | omega), hb0⟩) ?post)
  case fin =>
   rintro c st' ⟨rfl, la, ofs, rfl, a, b, d, e⟩
   rw [Nat.max_eq_right (Nat.zero_le _)] at d
   exact ⟨rfl, la, ofs, rfl, a, b, e, .inl (by (first | lia | omega))⟩
  case step =>
   rintro x c st' _ hx ⟨rfl, la, ofs, rfl, a, b, d, e⟩
   dsimp only
   by_cases hge : ofs ≥ n - hint
   ·rw [if_pos hge]
    exact wpS_pure ⟨rfl, la, ofs, rfl, a, b, e, .inl hge⟩
   ·rw [if_neg hge]
    refine wpS_bind (hB (hint + ofs) _ (by (first | lia | omega)) ?_)
    dsimp only
    cases hb : B (hint + ofs) with
    | true =>
     rw [if_neg (by decide)]
     exact wpS_pure ⟨rfl, _, _, rfl, by (first | lia | omega), by (first | lia | omega), by (first | lia | omega), hb⟩
    | false =>
     rw [if_pos (show (!false) = true from rfl)]
     exact wpS_pure ⟨rfl, la, ofs, rfl, a, b, e, .inr hb⟩
  case post =>
   rintro c st' ⟨rfl, la, ofs, rfl, a, b, e, hor⟩
   dsimp only
   have h1 : hint + la + 1 <= hint + min ofs (n - hint) := by (first | lia | omega)
   have h2 : hint + min ofs (n - hint) <= n := by (first | lia | omega)
   have hl : ∀ i, i < hint + la + 1 -> B i = true := fun i hi => hm i (hint + la) (by (first | lia | omega)) (by (first | lia | omega)) e
   have hr : ∀ i, hint + min ofs (n - hint) <= i -> i < n -> B i = false := fun i h1 h2 => by
    rcases hor with ho | ho
    ·(first | lia | omega)
    ·cases hi2 : B i with
     | false => rfl
     | true =>
      by_cases hlt : ofs < n - hint
      ·rw [hm (hint + ofs) i (by (first | lia | omega)) h2 hi2] at ho; cases ho
      ·(first | lia | omega)
   generalize hint + la + 1 = lo0 at h1 hl ⊢
   generalize hint + min ofs (n - hint) = hi0 at h1 h2 hr ⊢
   refine wpS_bind (wpS_mono (wpS_forRange (I := fun x c st'' => st'' = st' /\ ∃ lo hi, c = (none, lo, hi) /\ lo <= hi /\ hi <= n /\ hi - lo <= n - x /\ (∀ i, i < lo -> B i = true) /\ ∀ i, hi <= i -> i < n -> B i = false)
    (Q := fun c st'' => st'' = st' /\ ∃ lo hi, c = (none, lo, hi) /\ lo = hi /\ hi <= n /\ (∀ i, i < lo -> B i = true) /\ ∀ i, hi <= i -> i < n -> B i = false) ?step ?fin ⟨rfl, lo0, hi0, rfl, h1, h2, by (first | lia | omega), hl, hr⟩) ?post)
   case fin =>
    rintro c st'' ⟨rfl, lo, hi, rfl, a, b, d, e, f⟩
    rw [Nat.max_eq_right (Nat.zero_le _)] at d
    exact ⟨rfl, lo, hi, rfl, by (first | lia | omega), b, e, f⟩
   case step =>
    rintro x c st'' _ hx ⟨rfl, lo, hi, rfl, a, b, d, e, f⟩
    dsimp only
    by_cases hge : lo ≥ hi
    ·rw [if_pos hge]
     exact wpS_pure ⟨rfl, lo, hi, rfl, by (first | lia | omega), b, e, f⟩
    ·rw [if_neg hge]
     refine wpS_bind (hB (lo + (hi - lo) / 2) _ (by (first | lia | omega)) ?_)
     dsimp only
     cases hb : B (lo + (hi - lo) / 2) with
     | true =>
      rw [if_pos rfl]
      exact wpS_pure ⟨rfl, _, _, rfl, by (first | lia | omega), b, by (first | lia | omega), fun i hi' => hm i _ (by (first | lia | omega)) (by (first | lia | omega)) hb, f⟩
     | false =>
      rw [if_neg (by decide)]
      refine wpS_pure ⟨rfl, _, _, rfl, by (first | lia | omega), by (first | lia | omega), by (first | lia | omega), e, fun i h1 h2 => ?_⟩
      cases hi2 : B i with
      | false => rfl
      | true => rw [hm _ i h1 h2 hi2] at hb; cases hb
   case post =>
    rintro c st'' ⟨rfl, lo, hi, rfl, rfl, b, e, f⟩
    dsimp only
    exact wpS_pure (h lo b e f)
 | false =>
  rw [if_neg (by decide)]
  refine wpS_bind (wpS_mono (wpS_forRange (I := fun x c st' => st' = st /\ ∃ la ofs, c = (none, la, ofs) /\ la < ofs /\ la <= hint /\ x + 1 <= ofs /\ B (hint - la) = false)
   (Q := fun c st' => st' = st /\ ∃ la ofs, c = (none, la, ofs) /\ la < ofs /\ la <= hint /\ B (hint - la) = false /\ (hint + 1 <= ofs ∨ B (hint - ofs) = true)) ?step ?fin ⟨rfl, 0, 1, rfl, by (first | lia | omega), by (first | lia | omega), by (first | lia | omega), hb0⟩) ?post)
  case fin =>
   rintro c st' ⟨rfl, la, ofs, rfl, a, b, d, e⟩
   rw [Nat.max_eq_right (Nat.zero_le _)] at d
   exact ⟨rfl, la, ofs, rfl, a, b, e, .inl (by (first | lia | omega))⟩
  case step =>
   rintro x c st' _ hx ⟨rfl, la, ofs, rfl, a, b, d, e⟩
   dsimp only
   by_cases hge : ofs ≥ hint + 1
   ·rw [if_pos hge]
    exact wpS_pure ⟨rfl, la, ofs, rfl, a, b, e, .inl hge⟩
   ·rw [if_neg hge]
    refine wpS_bind (hB (hint - ofs) _ (by (first | lia | omega)) ?_)
    dsimp only
    cases hb : B (hint - ofs) with
    | true =>
     rw [if_pos rfl]
     exact wpS_pure ⟨rfl, la, ofs, rfl, a, b, e, .inr hb⟩
    | false =>
     rw [if_neg (by decide)]
     exact wpS_pure ⟨rfl, _, _, rfl, by (first | lia | omega), by (first | lia | omega), by (first | lia | omega), hb⟩
  case post =>
   rintro c st' ⟨rfl, la, ofs, rfl, a, b, e, hor⟩
   dsimp only
   have h1 : hint + 1 - min ofs (hint + 1) <= hint - la := by (first | lia | omega)
   have h2 : hint - la <= n := by (first | lia | omega)
   have hl : ∀ i, i < hint + 1 - min ofs (hint + 1) -> B i = true := fun i hi => by
    rcases hor with ho | ho
    ·(first | lia | omega)
    ·by_cases hlt : ofs < hint + 1
     ·exact hm i (hint - ofs) (by (first | lia | omega)) (by (first | lia | omega)) ho
     ·(first | lia | omega)
   have hr : ∀ i, hint - la <= i -> i < n -> B i = false := fun i h1 h2 => by
    cases hi2 : B i with
    | false => rfl
    | true => rw [hm (hint - la) i (by (first | lia | omega)) h2 hi2] at e; cases e
   generalize hint + 1 - min ofs (hint + 1) = lo0 at h1 hl ⊢
   generalize hint - la = hi0 at h1 h2 hr ⊢
   refine wpS_bind (wpS_mono (wpS_forRange (I := fun x c st'' => st'' = st' /\ ∃ lo hi, c = (none, lo, hi) /\ lo <= hi /\ hi <= n /\ hi - lo <= n - x /\ (∀ i, i < lo -> B i = true) /\ ∀ i, hi <= i -> i < n -> B i = false)
    (Q := fun c st'' => st'' = st' /\ ∃ lo hi, c = (none, lo, hi) /\ lo = hi /\ hi <= n /\ (∀ i, i < lo -> B i = true) /\ ∀ i, hi <= i -> i < n -> B i = false) ?step ?fin ⟨rfl, lo0, hi0, rfl, h1, h2, by (first | lia | omega), hl, hr⟩) ?post)
   case fin =>
    rintro c st'' ⟨rfl, lo, hi, rfl, a, b, d, e, f⟩
    rw [Nat.max_eq_right (Nat.zero_le _)] at d
    exact ⟨rfl, lo, hi, rfl, by (first | lia | omega), b, e, f⟩
   case step =>
    rintro x c st'' _ hx ⟨rfl, lo, hi, rfl, a, b, d, e, f⟩
    dsimp only
    by_cases hge : lo ≥ hi
    ·rw [if_pos hge]
     exact wpS_pure ⟨rfl, lo, hi, rfl, by (first | lia | omega), b, e, f⟩
    ·rw [if_neg hge]
     refine wpS_bind (hB (lo + (hi - lo) / 2) _ (by (first | lia | omega)) ?_)
     dsimp only
     cases hb : B (lo + (hi - lo) / 2) with
     | true =>
      rw [if_pos rfl]
      exact wpS_pure ⟨rfl, _, _, rfl, by (first | lia | omega), b, by (first | lia | omega), fun i hi' => hm i _ (by (first | lia | omega)) (by (first | lia | omega)) hb, f⟩
     | false =>
      rw [if_neg (by decide)]
      refine wpS_pure ⟨rfl, _, _, rfl, by (first | lia | omega), by (first | lia | omega), by (first | lia | omega), e, fun i h1 h2 => ?_⟩
      cases hi2 : B i with
      | false => rfl
      | true => rw [hm _ i h1 h2 hi2] at hb; cases hb
   case post =>
    rintro c st'' ⟨rfl, lo, hi, rfl, rfl, b, e, f⟩
    dsimp only
    exact wpS_pure (h lo b e f)
end
end Srt
namespace Srt
open PySem PyProof.Rows
noncomputable def mergeLo' : Array Keyed -> Array Keyed -> StateT SortSt Sem (Array Keyed) := sortPriv% PySem.Builtin.mergeLo
noncomputable def mergeHi' : Array Keyed -> Array Keyed -> StateT SortSt Sem (Array Keyed) := sortPriv% PySem.Builtin.mergeHi
noncomputable abbrev withG (st : SortSt) (g : Nat) : SortSt := SortSt.mk' (kindOf st) (arrOf st) (pendingOf st) g (failedOf st)
end Srt
namespace Srt
open PySem PyProof.Rows
section
variable {O : KeyOrd} (kf : Keyed -> O.α)
noncomputable def Up (l : List Keyed) : Prop := l.Pairwise fun p q => O.kle (kf p) (kf q)
noncomputable def KeysUp (a : Array Keyed) : Prop := ∀ (i j : Nat) (p q : Keyed), i <= j -> a[i]? = some p -> a[j]? = some q -> O.kle (kf p) (kf q)
theorem KeysUp.up {a : Array Keyed} (h : KeysUp kf a) : Up kf a.toList := by
 refine List.pairwise_iff_getElem.mpr fun i j hi hj hij => ?_
 exact h i j _ _ (Nat.le_of_lt hij) (by rw [Array.getElem?_eq_getElem (by simpa using hi)]; simp) (by rw [Array.getElem?_eq_getElem (by simpa using hj)]; simp)
noncomputable def Res (a b r : Array Keyed) : Prop := r.toList.Perm (a.toList ++ b.toList) /\ Up kf r.toList
structure Way (a b out : Array Keyed) (ia ib : Nat) : Prop where
 perm : out.toList.Perm (a.toList.take ia ++ b.toList.take ib)
 up : Up kf out.toList
 la : ∀ p ∈ out.toList, ∀ q, a[ia]? = some q -> O.kle (kf p) (kf q)
 lb : ∀ p ∈ out.toList, ∀ q, b[ib]? = some q -> O.kle (kf p) (kf q)
theorem ext_list (a : Array Keyed) (i : Nat) : (a.extract i a.size).toList = a.toList.drop i := by
 rw [Array.toList_extract]
 simp only [List.extract]
 exact List.take_of_length_le (by simp)
theorem ext_mid (a : Array Keyed) (i k : Nat) : (a.extract i (i + k)).toList = (a.toList.drop i).take k := by
 rw [Array.toList_extract]
 simp [List.extract]
variable {kf}
theorem mem_drop_key {a : Array Keyed} (ha : KeysUp kf a) {i : Nat} {q : Keyed} (hq : q ∈ a.toList.drop i) {p : Keyed} (hp : a[i]? = some p) : O.kle (kf p) (kf q) := by
 obtain ⟨j, hj⟩ := List.getElem?_of_mem hq
 rw [List.getElem?_drop] at hj
 exact ha i (i + j) p q (by (first | lia | omega)) hp (by rw [<- hj]; simp)
theorem up_append {l m : List Keyed} (hl : Up kf l) (hm : Up kf m) (h : ∀ p ∈ l, ∀ q ∈ m, O.kle (kf p) (kf q)) : Up kf (l ++ m) := List.pairwise_append.mpr ⟨hl, hm, h⟩
theorem up_drop {a : Array Keyed} (ha : KeysUp kf a) (i : Nat) : Up kf (a.toList.drop i) := (ha.up).sublist (List.drop_sublist _ _)
theorem Way.done {a b out : Array Keyed} {ia : Nat} (ha : KeysUp kf a) (w : Way kf a b out ia b.size) : Res kf a b (out ++ a.extract ia a.size ++ b.extract b.size b.size) := by
 have e : (out ++ a.extract ia a.size ++ b.extract b.size b.size).toList = out.toList ++ a.toList.drop ia := by
  rw [Array.toList_append, Array.toList_append, ext_list, ext_list]
  simp
 refine ⟨?_, ?_⟩
 ·rw [e]
  have hp := w.perm
  rw [List.take_of_length_le (by simp : b.toList.length <= b.size)] at hp
  refine (hp.append_right _).trans ?_
  rw [List.append_assoc]
  refine (List.Perm.append_left _ List.perm_append_comm).trans ?_
  rw [<- List.append_assoc, List.take_append_drop]
 ·rw [e]
  refine up_append w.up (up_drop ha ia) fun p hp q hq => ?_
  obtain ⟨j, hj⟩ := List.getElem?_of_mem hq
  rw [List.getElem?_drop] at hj
  have hlt : ia < a.size := by
   have := (List.getElem?_eq_some_iff.mp hj).1
   simp at this
   (first | lia | omega)
  have h0 : a[ia]? = some a[ia] := Array.getElem?_eq_getElem hlt
  exact KeyOrd.kle_trans (w.la p hp _ h0) (mem_drop_key ha hq h0)
theorem Way.last {a b out : Array Keyed} {ia ib : Nat} (ha : KeysUp kf a) (hb : KeysUp kf b) (w : Way kf a b out ia ib) (h1 : ia + 1 = a.size) (hib : ib < b.size) (hl : ∀ p q, a[ia]? = some p -> q ∈ b.toList -> O.kle (kf q) (kf p)) :
  Res kf a b (out ++ b.extract ib b.size ++ a.extract ia a.size) := by
 have e : (out ++ b.extract ib b.size ++ a.extract ia a.size).toList = out.toList ++ (b.toList.drop ib ++ a.toList.drop ia) := by
  rw [Array.toList_append, Array.toList_append, ext_list, ext_list, List.append_assoc]
 have h0 : a[ia]? = some a[ia] := Array.getElem?_eq_getElem (by (first | lia | omega))
 have hb0 : b[ib]? = some b[ib] := Array.getElem?_eq_getElem hib
 refine ⟨?_, ?_⟩
 ·rw [e]
  refine (w.perm.append_right _).trans ?_
  rw [List.append_assoc]
  have p1 : (b.toList.take ib ++ (b.toList.drop ib ++ a.toList.drop ia)).Perm (a.toList.drop ia ++ b.toList) := by
   rw [<- List.append_assoc, List.take_append_drop]
   exact List.perm_append_comm
  refine (List.Perm.append_left _ p1).trans ?_
  rw [<- List.append_assoc, List.take_append_drop]
 ·rw [e]
  refine up_append w.up (up_append (up_drop hb ib) (up_drop ha ia) fun p hp q hq => ?_) fun p hp q hq => ?_
  ·have := mem_drop_key ha hq h0
   exact KeyOrd.kle_trans (hl _ p h0 (List.mem_of_mem_drop hp)) this
  ·rcases List.mem_append.mp hq with h | h
   ·exact KeyOrd.kle_trans (w.lb p hp _ hb0) (mem_drop_key hb h hb0)
   ·exact KeyOrd.kle_trans (w.la p hp _ h0) (mem_drop_key ha h h0)
theorem take_succ_at {a : Array Keyed} {i : Nat} {p : Keyed} (h : a[i]? = some p) : a.toList.take (i + 1) = a.toList.take i ++ [p] := by
 rw [List.take_succ]
 have : a.toList[i]? = some p := by rw [<- h]; simp
 rw [this]
 rfl
theorem Way.pushB {a b out : Array Keyed} {ia ib : Nat} {p : Keyed} (hb : KeysUp kf b) (w : Way kf a b out ia ib) (hp : b[ib]? = some p) (h : ∀ q, a[ia]? = some q -> O.kle (kf p) (kf q)) : Way kf a b (out.push p) ia (ib + 1) := by
 refine ⟨?_, ?_, fun x hx q hq => ?_, fun x hx q hq => ?_⟩
 ·rw [Array.toList_push, take_succ_at hp, <- List.append_assoc]
  exact w.perm.append_right _
 ·rw [Array.toList_push]
  refine up_append w.up (List.pairwise_singleton _ _) fun x hx y hy => ?_
  rw [List.mem_singleton.mp hy]
  exact w.lb x hx p hp
 ·rw [Array.toList_push] at hx
  rcases List.mem_append.mp hx with h' | h'
  ·exact w.la x h' q hq
  ·rw [List.mem_singleton.mp h']
   exact h q hq
 ·rw [Array.toList_push] at hx
  rcases List.mem_append.mp hx with h' | h'
  ·exact KeyOrd.kle_trans (w.lb x h' p hp) (hb ib (ib + 1) p q (by (first | lia | omega)) hp hq)
  ·rw [List.mem_singleton.mp h']
   exact hb ib (ib + 1) p q (by (first | lia | omega)) hp hq
theorem Way.pushA {a b out : Array Keyed} {ia ib : Nat} {p : Keyed} (ha : KeysUp kf a) (w : Way kf a b out ia ib) (hp : a[ia]? = some p) (h : ∀ q, b[ib]? = some q -> O.kle (kf p) (kf q)) : Way kf a b (out.push p) (ia + 1) ib := by
 refine ⟨?_, ?_, fun x hx q hq => ?_, fun x hx q hq => ?_⟩
 ·rw [Array.toList_push, take_succ_at hp, List.append_assoc]
  refine (w.perm.append_right _).trans ?_
  rw [List.append_assoc]
  exact List.Perm.append_left _ List.perm_append_comm
 ·rw [Array.toList_push]
  refine up_append w.up (List.pairwise_singleton _ _) fun x hx y hy => ?_
  rw [List.mem_singleton.mp hy]
  exact w.la x hx p hp
 ·rw [Array.toList_push] at hx
  rcases List.mem_append.mp hx with h' | h'
  ·exact KeyOrd.kle_trans (w.la x h' p hp) (ha ia (ia + 1) p q (by (first | lia | omega)) hp hq)
  ·rw [List.mem_singleton.mp h']
   exact ha ia (ia + 1) p q (by (first | lia | omega)) hp hq
 ·rw [Array.toList_push] at hx
  rcases List.mem_append.mp hx with h' | h'
  ·exact w.lb x h' q hq
  ·rw [List.mem_singleton.mp h']
   exact h q hq
theorem Way.manyA {a b : Array Keyed} {ia ib : Nat} (ha : KeysUp kf a) : ∀ {k : Nat} {out : Array Keyed}, Way kf a b out ia ib -> ia + k <= a.size -> (∀ i p q, i < k -> a[ia + i]? = some p -> b[ib]? = some q -> O.kle (kf p) (kf q)) -> Way kf a b (out ++ a.extract ia (ia + k)) (ia + k) ib
 | 0, out, w, _, _ => by
  have e : out ++ a.extract ia (ia + 0) = out := by simp; (first | lia | omega)
  rw [e]
  exact w
 | k + 1, out, w, hk, h => by
  have ih := Way.manyA ha (k := k) w (by (first | lia | omega)) fun i p q hi => h i p q (by (first | lia | omega))
  have h0 : a[ia + k]? = some a[ia + k] := Array.getElem?_eq_getElem (by (first | lia | omega))
  have := ih.pushA ha h0 fun q hq => h k _ q (by (first | lia | omega)) h0 hq
  have e : (out ++ a.extract ia (ia + k)).push a[ia + k] = out ++ a.extract ia (ia + (k + 1)) := by
   apply Array.ext'
   rw [Array.toList_push, Array.toList_append, Array.toList_append, ext_mid, ext_mid, List.take_succ, List.append_assoc]
   congr 1
   rw [List.getElem?_drop]
   have : a.toList[ia + k]? = some a[ia + k] := by rw [<- h0]; simp
   rw [this]
   rfl
  rw [e] at this
  exact this
theorem Way.manyB {a b : Array Keyed} {ia ib : Nat} (hb : KeysUp kf b) : ∀ {k : Nat} {out : Array Keyed}, Way kf a b out ia ib -> ib + k <= b.size -> (∀ i p q, i < k -> b[ib + i]? = some p -> a[ia]? = some q -> O.kle (kf p) (kf q)) -> Way kf a b (out ++ b.extract ib (ib + k)) ia (ib + k)
 | 0, out, w, _, _ => by
  have e : out ++ b.extract ib (ib + 0) = out := by simp; (first | lia | omega)
  rw [e]
  exact w
 | k + 1, out, w, hk, h => by
  have ih := Way.manyB hb (k := k) w (by (first | lia | omega)) fun i p q hi => h i p q (by (first | lia | omega))
  have h0 : b[ib + k]? = some b[ib + k] := Array.getElem?_eq_getElem (by (first | lia | omega))
  have := ih.pushB hb h0 fun q hq => h k _ q (by (first | lia | omega)) h0 hq
  have e : (out ++ b.extract ib (ib + k)).push b[ib + k] = out ++ b.extract ib (ib + (k + 1)) := by
   apply Array.ext'
   rw [Array.toList_push, Array.toList_append, Array.toList_append, ext_mid, ext_mid, List.take_succ, List.append_assoc]
   congr 1
   rw [List.getElem?_drop]
   have : b.toList[ib + k]? = some b[ib + k] := by rw [<- h0]; simp
   rw [this]
   rfl
  rw [e] at this
  exact this
end
end Srt
namespace Srt
open PySem PyProof.Rows
section
variable {M : Model} {A : Around} {E : Value -> Shared -> Prop} {s : Shared}
structure Cmp (M : Model) (A : Around) (E : Value -> Shared -> Prop) (s : Shared) (kd : SortKind) (O : KeyOrd) (kf : Keyed -> O.α) (okk : Keyed -> Prop) : Prop where
 lt : ∀ (x y : Keyed) (st : SortSt) (Q : Option Bool -> SortSt -> Prop), okk x -> okk y -> kindOf st = kd -> Q (some (O.blt (kf x) (kf y))) st -> wpS M A E s (lt' x y) Q st
theorem wpS_elem {arr : Array Keyed} {i : Nat} {p : Keyed} {st : SortSt} {Q : Keyed -> SortSt -> Prop} (h : arr[i]? = some p) (q : Q p st) : wpS M A E s (elem' arr i) Q st := by
 rw [elem'_eq, h]
 exact wpS_pure q
variable {O : KeyOrd} {kf : Keyed -> O.α} {okk : Keyed -> Prop} {kd : SortKind}
noncomputable def RunUp (kf : Keyed -> O.α) (a : Array Keyed) (lo hi : Nat) : Prop := ∀ (i j : Nat) (p q : Keyed), lo <= i -> i <= j -> j < hi -> a[i]? = some p -> a[j]? = some q -> O.kle (kf p) (kf q)
theorem KeysUp.run {a : Array Keyed} (h : KeysUp kf a) (lo hi : Nat) : RunUp kf a lo hi := fun i j p q _ h2 _ => h i j p q h2
theorem gallopR0 (C : Cmp M A E s kd O kf okk) {st : SortSt} (hk : kindOf st = kd) {key : Keyed} {arr : Array Keyed} {base n hint : Nat} {Q : Option Nat -> SortSt -> Prop} (ok : ∀ p ∈ arr.toList, okk p) (okq : okk key) (ha : RunUp kf arr base (base + n)) (hn : base + n <= arr.size) (hh : hint < n)
  (h : ∀ k, k <= n -> (∀ i p, i < k -> arr[base + i]? = some p -> O.kle (kf p) (kf key)) -> (∀ i p, k <= i -> i < n -> arr[base + i]? = some p -> O.klt (kf key) (kf p)) -> Q (some k) st) : wpS M A E s (gallop' false key arr base n hint) Q st := by
 have at_ : ∀ i, i < n -> ∃ p, arr[base + i]? = some p := fun i hi => ⟨arr[base + i], Array.getElem?_eq_getElem (by (first | lia | omega))⟩
 have mem : ∀ {i : Nat} {p : Keyed}, arr[i]? = some p -> p ∈ arr.toList := fun {i p} h => List.mem_of_getElem? (i := i) (by rw [<- h]; simp)
 refine wpS_gallop (B := fun i => match arr[base + i]? with | some p => !O.blt (kf key) (kf p) | none => false) (fun i Q' hi q => ?_) (fun i j hij hj hB => ?_) hh fun k hk1 h1 h2 => ?_
 ·obtain ⟨p, hp⟩ := at_ i hi
  try dsimp only at q
  rw [hp] at q
  refine wpS_bind (wpS_elem hp ?_)
  rw [if_neg (by decide)]
  refine wpS_bind (C.lt key p st _ okq (ok p (mem hp)) hk ?_)
  exact wpS_pure q
 ·obtain ⟨p, hp⟩ := at_ i (by (first | lia | omega))
  obtain ⟨p', hp'⟩ := at_ j hj
  try dsimp only at hB ⊢
  rw [hp'] at hB
  rw [hp]
  have hB : O.blt (kf key) (kf p') = false := by simpa using hB
  have := KeyOrd.kle_trans (ha (base + i) (base + j) p p' (by (first | lia | omega)) (by (first | lia | omega)) (by (first | lia | omega)) hp hp') hB
  show (!O.blt (kf key) (kf p)) = true
  rw [show O.blt (kf key) (kf p) = false from this]
  rfl
 ·refine h k hk1 (fun i p hi hp => ?_) fun i p h3 h4 hp => ?_
  ·have := h1 i hi
   try dsimp only at this
   rw [hp] at this
   show O.blt (kf key) (kf p) = false
   simpa using this
  ·have := h2 i h3 h4
   try dsimp only at this
   rw [hp] at this
   show O.blt (kf key) (kf p) = true
   simpa using this
theorem gallopL0 (C : Cmp M A E s kd O kf okk) {st : SortSt} (hk : kindOf st = kd) {key : Keyed} {arr : Array Keyed} {base n hint : Nat} {Q : Option Nat -> SortSt -> Prop} (ok : ∀ p ∈ arr.toList, okk p) (okq : okk key) (ha : RunUp kf arr base (base + n)) (hn : base + n <= arr.size) (hh : hint < n)
  (h : ∀ k, k <= n -> (∀ i p, i < k -> arr[base + i]? = some p -> O.klt (kf p) (kf key)) -> (∀ i p, k <= i -> i < n -> arr[base + i]? = some p -> O.kle (kf key) (kf p)) -> Q (some k) st) : wpS M A E s (gallop' true key arr base n hint) Q st := by
 have at_ : ∀ i, i < n -> ∃ p, arr[base + i]? = some p := fun i hi => ⟨arr[base + i], Array.getElem?_eq_getElem (by (first | lia | omega))⟩
 have mem : ∀ {i : Nat} {p : Keyed}, arr[i]? = some p -> p ∈ arr.toList := fun {i p} h => List.mem_of_getElem? (i := i) (by rw [<- h]; simp)
 refine wpS_gallop (B := fun i => match arr[base + i]? with | some p => O.blt (kf p) (kf key) | none => false) (fun i Q' hi q => ?_) (fun i j hij hj hB => ?_) hh fun k hk1 h1 h2 => ?_
 ·obtain ⟨p, hp⟩ := at_ i hi
  try dsimp only at q
  rw [hp] at q
  refine wpS_bind (wpS_elem hp ?_)
  rw [if_pos rfl]
  exact C.lt p key st _ (ok p (mem hp)) okq hk q
 ·obtain ⟨p, hp⟩ := at_ i (by (first | lia | omega))
  obtain ⟨p', hp'⟩ := at_ j hj
  try dsimp only at hB ⊢
  rw [hp'] at hB
  rw [hp]
  exact KeyOrd.klt_of_kle_of_klt (ha (base + i) (base + j) p p' (by (first | lia | omega)) (by (first | lia | omega)) (by (first | lia | omega)) hp hp') hB
 ·refine h k hk1 (fun i p hi hp => ?_) fun i p h3 h4 hp => ?_
  ·have := h1 i hi
   try dsimp only at this
   rw [hp] at this
   exact this
  ·have := h2 i h3 h4
   try dsimp only at this
   rw [hp] at this
   exact this
theorem gallopR (C : Cmp M A E s kd O kf okk) {st : SortSt} (hk : kindOf st = kd) {key : Keyed} {arr : Array Keyed} {base n hint : Nat} {Q : Option Nat -> SortSt -> Prop} (ok : ∀ p ∈ arr.toList, okk p) (okq : okk key) (ha : KeysUp kf arr) (hn : base + n <= arr.size) (hh : hint < n)
  (h : ∀ k, k <= n -> (∀ i p, i < k -> arr[base + i]? = some p -> O.kle (kf p) (kf key)) -> (∀ i p, k <= i -> i < n -> arr[base + i]? = some p -> O.klt (kf key) (kf p)) -> Q (some k) st) : wpS M A E s (gallop' false key arr base n hint) Q st := gallopR0 C hk ok okq (ha.run _ _) hn hh h
theorem gallopL (C : Cmp M A E s kd O kf okk) {st : SortSt} (hk : kindOf st = kd) {key : Keyed} {arr : Array Keyed} {base n hint : Nat} {Q : Option Nat -> SortSt -> Prop} (ok : ∀ p ∈ arr.toList, okk p) (okq : okk key) (ha : KeysUp kf arr) (hn : base + n <= arr.size) (hh : hint < n)
  (h : ∀ k, k <= n -> (∀ i p, i < k -> arr[base + i]? = some p -> O.klt (kf p) (kf key)) -> (∀ i p, k <= i -> i < n -> arr[base + i]? = some p -> O.kle (kf key) (kf p)) -> Q (some k) st) : wpS M A E s (gallop' true key arr base n hint) Q st := gallopL0 C hk ok okq (ha.run _ _) hn hh h
end
end Srt
namespace Srt
open PySem PyProof.Rows
section
variable {M : Model} {A : Around} {E : Value -> Shared -> Prop} {s : Shared}
variable {O : KeyOrd} {kf : Keyed -> O.α} {okk : Keyed -> Prop} {kd : SortKind}
theorem Way.done' {a b out : Array Keyed} {ia ib : Nat} (w : Way kf a b out ia ib) (ha : KeysUp kf a) (e : ib = b.size) : Res kf a b (out ++ a.extract ia a.size ++ b.extract ib b.size) := by
 subst e
 exact w.done ha
theorem wpS_ite_jp {τ α : Type} {c : Prop} [Decidable c] {y : Nat} {Q : α -> τ -> Prop} {st : τ} {G : Nat -> StateT τ Sem α} (k : ∀ g3, wpS M A E s (G g3) Q st) : ∀ u, wpS M A E s (if c then G u else G y) Q st := fun u => by
 split
 ·exact k _
 ·exact k _
theorem wpS_ite_jp2 {τ α : Type} {c : Prop} [Decidable c] {d e : Nat -> Prop} [∀ i, Decidable (d i)] [∀ i, Decidable (e i)] {X Y J : Array Keyed -> Nat -> StateT τ Sem α} {i0 : Nat} {o0 : Array Keyed} {P : Nat -> Array Keyed -> Prop} {C : Array Keyed -> Nat -> Prop} {Q : α -> τ -> Prop} {st : τ}
  (hX : ∀ i o, P i o -> c -> d i -> wpS M A E s (X o i) Q st) (hY : ∀ i o, P i o -> ¬ d i -> ¬ e i) (h1 : ∀ i o, P i o -> ¬ d i -> C o i) (h0 : ¬ c -> C o0 i0) (k : ∀ o i, C o i -> wpS M A E s (J o i) Q st) :
  ∀ i1 o1, P i1 o1 -> wpS M A E s (if c then if d i1 then X o1 i1 else if e i1 then Y o1 i1 else J o1 i1 else J o0 i0) Q st := fun i1 o1 hP => by
 by_cases hc : c
 ·rw [if_pos hc]
  by_cases hd : d i1
  ·rw [if_pos hd]
   exact hX i1 o1 hP hc hd
  ·rw [if_neg hd, if_neg (hY i1 o1 hP hd)]
   exact k _ _ (h1 i1 o1 hP hd)
 ·rw [if_neg hc]
  exact k _ _ (h0 hc)
theorem wpS_ite_jp3 {τ α : Type} {c : Prop} [Decidable c] {d : Nat -> Prop} [∀ i, Decidable (d i)] {X J : Array Keyed -> Nat -> StateT τ Sem α} {i0 : Nat} {o0 : Array Keyed} {P : Nat -> Array Keyed -> Prop} {C : Array Keyed -> Nat -> Prop} {Q : α -> τ -> Prop} {st : τ}
  (hX : ∀ i o, P i o -> c -> d i -> wpS M A E s (X o i) Q st) (h1 : ∀ i o, P i o -> ¬ d i -> C o i) (h0 : ¬ c -> C o0 i0) (k : ∀ o i, C o i -> wpS M A E s (J o i) Q st) :
  ∀ i1 o1, P i1 o1 -> wpS M A E s (if c then if d i1 then X o1 i1 else J o1 i1 else J o0 i0) Q st := fun i1 o1 hP => by
 by_cases hc : c
 ·rw [if_pos hc]
  by_cases hd : d i1
  ·rw [if_pos hd]
   exact hX i1 o1 hP hc hd
  ·rw [if_neg hd]
   exact k _ _ (h1 i1 o1 hP hd)
 ·rw [if_neg hc]
  exact k _ _ (h0 hc)
set_option maxHeartbeats 4000000 in
theorem wpS_mergeLo (C : Cmp M A E s kd O kf okk) {st : SortSt} (hk : kindOf st = kd) {a b : Array Keyed} {Q : Array Keyed -> SortSt -> Prop} (oka : ∀ p ∈ a.toList, okk p) (okb : ∀ p ∈ b.toList, okk p) (ha : KeysUp kf a) (hb : KeysUp kf b) (na : 0 < a.size) (nb : 0 < b.size)
  (h0 : ∀ p q, b[0]? = some p -> a[0]? = some q -> O.kle (kf p) (kf q)) (hl : ∀ p q, a[a.size - 1]? = some p -> q ∈ b.toList -> O.klt (kf q) (kf p))
  (h : ∀ r g, Res kf a b r -> Q r (withG st g)) : wpS M A E s (mergeLo' a b) Q st := by
 unfold mergeLo'
 have hb0 : b[0]? = some b[0] := Array.getElem?_eq_getElem nb
 refine wpS_bind (wpS_lift (wpAny_rule ⟨rfl, ?_⟩))
 try dsimp only
 refine wpS_bind (wpS_elem hb0 ?_)
 try dsimp only
 have hz : withG st (gallopOf st) = st := rfl
 have w0 : Way kf a b #[b[0]] 0 1 := by
  have e : Way kf a b #[] 0 0 := ⟨by simp, List.Pairwise.nil, fun p hp => by simp at hp, fun p hp => by simp at hp⟩
  exact e.pushB hb hb0 fun q hq => h0 _ q hb0 hq
 by_cases e1 : (1 == b.size) = true
 ·rw [if_pos e1]
  have e1' : 1 = b.size := by simpa using e1
  rw [e1'] at w0
  have := h _ (gallopOf st) (w0.done ha)
  rw [hz, <- e1'] at this
  rw [<- e1']
  exact wpS_pure this
 rw [if_neg e1]
 have e1' : 1 ≠ b.size := by simpa using e1
 by_cases e2 : (0 + 1 == a.size) = true
 ·rw [if_pos e2]
  have e2' : 0 + 1 = a.size := by simpa using e2
  have := h _ (gallopOf st) (w0.last ha hb e2' (by (first | lia | omega)) fun p q hp hq => KeyOrd.kle_of_klt (hl p q (by rw [<- e2']; exact hp) hq))
  rw [hz] at this
  exact wpS_pure this
 rw [if_neg e2]
 have e2' : 0 + 1 ≠ a.size := by simpa using e2
 refine wpS_bind (wpS_get ?_)
 try dsimp only
 have hlast : ∀ {out : Array Keyed} {ia ib : Nat}, Way kf a b out ia ib -> ia + 1 = a.size -> ib < b.size -> Res kf a b (out ++ b.extract ib b.size ++ a.extract ia a.size) := fun w e hi => w.last ha hb e hi fun p q hp hq => KeyOrd.kle_of_klt (hl p q (by rw [<- e]; exact hp) hq)
 have mema : ∀ {i : Nat} {p : Keyed}, a[i]? = some p -> okk p := fun {i p} h => oka p (List.mem_of_getElem? (i := i) (by rw [<- h]; simp))
 have memb : ∀ {i : Nat} {p : Keyed}, b[i]? = some p -> okk p := fun {i p} h => okb p (List.mem_of_getElem? (i := i) (by rw [<- h]; simp))
 refine wpS_bind (wpS_mono (wpS_forRange (I := fun x c st' => (∃ g0, st' = withG st g0) /\ ∃ out ia ib g, c = (none, out, ia, ib, g) /\ Way kf a b out ia ib /\ ia + 1 < a.size /\ ib < b.size /\ x + 1 <= ia + ib)
  (Q := fun c st' => (∃ g0, st' = withG st g0) /\ ∃ r, c.1 = some r /\ Res kf a b r) ?step ?fin ⟨⟨_, hz.symm⟩, _, _, _, _, rfl, w0, by (first | lia | omega), by (first | lia | omega), by (first | lia | omega)⟩) ?post)
 case fin =>
  rintro c st' ⟨_, out, ia, ib, g, rfl, w, h1, h2, h3⟩
  rw [Nat.max_eq_right (Nat.zero_le _)] at h3
  (first | lia | omega)
 case post =>
  rintro ⟨c1, c2⟩ st' ⟨⟨g0, rfl⟩, r, hc, hr⟩
  dsimp only at hc
  subst hc
  exact wpS_pure (h r g0 hr)
 case step =>
  rintro x c st' _ hx ⟨⟨g0, rfl⟩, out0, ia0, ib0, g, rfl, w00, h10, h20, h30⟩
  dsimp only
  refine wpS_bind (wpS_mono (wpS_forRange (I := fun y c st'' => st'' = withG st g0 /\ ∃ out ia ib ac bc, c = (none, out, ia, ib, ac, bc) /\ Way kf a b out ia ib /\ ia + 1 < a.size /\ ib < b.size /\ y + (ia0 + ib0) <= ia + ib)
   (Q := fun c st'' => st'' = withG st g0 /\ ((∃ r, c.1 = some r /\ Res kf a b r) ∨ ∃ out ia ib ac bc, c = (none, out, ia, ib, ac, bc) /\ Way kf a b out ia ib /\ ia + 1 < a.size /\ ib < b.size /\ ia0 + ib0 + 1 <= ia + ib)) ?step1 ?fin1 ⟨rfl, _, _, _, _, _, rfl, w00, h10, h20, by (first | lia | omega)⟩) ?post1)
  case fin1 =>
   rintro c st' ⟨rfl, out, ia, ib, ac, bc, rfl, w, h1, h2, h3⟩
   rw [Nat.max_eq_right (Nat.zero_le _)] at h3
   exact ⟨rfl, .inr ⟨_, _, _, _, _, rfl, w, h1, h2, by (first | lia | omega)⟩⟩
  case step1 =>
   rintro y c st' _ hy ⟨rfl, out, ia, ib, ac, bc, rfl, w, h1, h2, h3⟩
   dsimp only
   have hpb : b[ib]? = some b[ib] := Array.getElem?_eq_getElem h2
   have hpa : a[ia]? = some a[ia] := Array.getElem?_eq_getElem (by (first | lia | omega))
   refine wpS_bind (wpS_elem hpb ?_)
   refine wpS_bind (wpS_elem hpa ?_)
   refine wpS_bind (C.lt _ _ _ _ (memb hpb) (mema hpa) hk ?_)
   dsimp only
   cases hbl : O.blt (kf b[ib]) (kf a[ia]) with
   | true =>
    rw [if_pos rfl]
    refine wpS_bind (wpS_elem hpb ?_)
    have w' := w.pushB hb hpb fun q hq => by
     rw [hpa] at hq
     cases hq
     exact KeyOrd.kle_of_klt hbl
    by_cases e : (ib + 1 == b.size) = true
    ·rw [if_pos e]
     have e' : ib + 1 = b.size := by simpa using e
     have := (e' ▸ w' : Way kf a b _ ia b.size).done ha
     rw [<- e'] at this
     refine wpS_pure ⟨rfl, .inl ⟨_, rfl, ?_⟩⟩
     rw [<- e']
     exact this
    ·rw [if_neg e]
     have e' : ib + 1 ≠ b.size := by simpa using e
     by_cases e3 : bc + 1 ≥ g
     ·rw [if_pos e3]
      exact wpS_pure ⟨rfl, .inr ⟨_, _, _, _, _, rfl, w', h1, by (first | lia | omega), by (first | lia | omega)⟩⟩
     ·rw [if_neg e3]
      exact wpS_pure ⟨rfl, _, _, _, _, _, rfl, w', h1, by (first | lia | omega), by (first | lia | omega)⟩
   | false =>
    rw [if_neg (by decide)]
    refine wpS_bind (wpS_elem hpa ?_)
    have w' := w.pushA ha hpa fun q hq => by
     rw [hpb] at hq
     cases hq
     exact hbl
    by_cases e : (ia + 1 + 1 == a.size) = true
    ·rw [if_pos e]
     have e' : ia + 1 + 1 = a.size := by simpa using e
     exact wpS_pure ⟨rfl, .inl ⟨_, rfl, hlast w' e' h2⟩⟩
    ·rw [if_neg e]
     have e' : ia + 1 + 1 ≠ a.size := by simpa using e
     by_cases e3 : ac + 1 ≥ g
     ·rw [if_pos e3]
      exact wpS_pure ⟨rfl, .inr ⟨_, _, _, _, _, rfl, w', by (first | lia | omega), h2, by (first | lia | omega)⟩⟩
     ·rw [if_neg e3]
      exact wpS_pure ⟨rfl, _, _, _, _, _, rfl, w', by (first | lia | omega), h2, by (first | lia | omega)⟩
  case post1 =>
   rintro c st' ⟨rfl, ⟨r, hc, hr⟩ | ⟨out1, ia1, ib1, ac, bc, rfl, w1, h11, h21, h31⟩⟩
   ·obtain ⟨c1, c2⟩ := c
    dsimp only at hc
    subst hc
    exact wpS_pure ⟨⟨_, rfl⟩, _, rfl, hr⟩
   ·dsimp only
    refine wpS_bind (wpS_lift (wpAny_rule ⟨rfl, ?_⟩))
    refine wpS_bind (wpS_mono (wpS_forRange (I := fun y c st'' => (∃ g1, st'' = withG st g1) /\ ∃ out ia ib g ac bc, c = (none, out, ia, ib, g, ac, bc) /\ Way kf a b out ia ib /\ ia + 1 < a.size /\ ib < b.size /\ ia0 + ib0 + 1 <= ia + ib)
     (Q := fun c st'' => (∃ g1, st'' = withG st g1) /\ ((∃ r, c.1 = some r /\ Res kf a b r) ∨ ∃ out ia ib g ac bc, c = (none, out, ia, ib, g, ac, bc) /\ Way kf a b out ia ib /\ ia + 1 < a.size /\ ib < b.size /\ ia0 + ib0 + 1 <= ia + ib)) ?step2 ?fin2 ⟨⟨_, rfl⟩, _, _, _, _, _, _, rfl, w1, h11, h21, h31⟩) ?post2)
    case fin2 =>
     rintro c st' ⟨hg, hc⟩
     exact ⟨hg, .inr hc⟩
    case post2 =>
     rintro c st' ⟨⟨g1, rfl⟩, ⟨r, hc, hr⟩ | ⟨out2, ia2, ib2, g2, ac2, bc2, rfl, w2, h12, h22, h32⟩⟩
     ·obtain ⟨c1, c2⟩ := c
      dsimp only at hc
      subst hc
      exact wpS_pure ⟨⟨_, rfl⟩, _, rfl, hr⟩
     ·dsimp only
      refine wpS_bind (wpS_modify ?_)
      exact wpS_pure ⟨⟨_, rfl⟩, _, _, _, _, rfl, w2, h12, h22, by (first | lia | omega)⟩
    case step2 =>
     rintro y c st' _ hy ⟨⟨g1, rfl⟩, out, ia, ib, g', ac', bc', rfl, w, h1, h2, h3⟩
     dsimp only
     have hpb : b[ib]? = some b[ib] := Array.getElem?_eq_getElem h2
     generalize g' - 1 = u
     revert u
     refine wpS_ite_jp ?_
     intro g3
     refine wpS_bind (wpS_modify ?_)
     refine wpS_bind (wpS_elem hpb ?_)
     refine wpS_bind (gallopR C (st := withG st g3) hk oka (memb hpb) ha (by (first | lia | omega)) (by (first | lia | omega)) fun k hkn hle hgt => ?_)
     have kless : k < a.size - ia := by
      rcases Nat.lt_or_ge k (a.size - ia) with h' | h'
      ·exact h'
      ·exfalso
       have hz2 : a[a.size - 1]? = some a[a.size - 1] := Array.getElem?_eq_getElem (by (first | lia | omega))
       have := hle (a.size - ia - 1) a[a.size - 1] (by (first | lia | omega)) (by rw [show ia + (a.size - ia - 1) = a.size - 1 by (first | lia | omega)]; exact hz2)
       exact KeyOrd.not_klt_of_kle this (hl _ _ hz2 (List.mem_of_getElem? (i := ib) (by rw [<- hpb]; simp)))
     have wA := w.manyA ha (k := k) (by (first | lia | omega)) fun i p q hi hp hq => by
      rw [hpb] at hq
      cases hq
      exact hle i p hi hp
     have nx : ∀ q, a[ia + k]? = some q -> O.kle (kf b[ib]) (kf q) := fun q hq => KeyOrd.kle_of_klt (hgt k q (Nat.le_refl _) kless hq)
     dsimp only
     have hP : Way kf a b (out ++ a.extract ia (ia + k)) (ia + k) ib /\ (∀ q, a[ia + k]? = some q -> O.kle (kf b[ib]) (kf q)) /\ ia + k < a.size /\ ia <= ia + k := ⟨wA, nx, by (first | lia | omega), by (first | lia | omega)⟩
     have hC0 : Way kf a b out ia ib /\ (∀ q, a[ia]? = some q -> O.kle (kf b[ib]) (kf q)) ∨ k > 0 := by
      rcases Nat.eq_zero_or_pos k with z | z
      ·exact .inl ⟨w, fun q hq => KeyOrd.kle_of_klt (hgt 0 q (by (first | lia | omega)) (by (first | lia | omega)) hq)⟩
      ·exact .inr z
     clear wA nx
     revert hP
     generalize ia + k = i1
     generalize out ++ a.extract ia i1 = o1
     revert i1 o1
     refine wpS_ite_jp2 (C := fun o i => Way kf a b o i ib /\ (∀ q, a[i]? = some q -> O.kle (kf b[ib]) (kf q)) /\ i + 1 < a.size /\ ia <= i) (fun i1 o1 hP _ e4 => ?_) (fun i1 o1 hP _ => ?_) (fun i1 o1 hP e4 => ?_) (fun ek => ?_) ?_
     ·exact wpS_pure ⟨⟨_, rfl⟩, .inl ⟨_, rfl, hlast hP.1 (by simpa using e4) h2⟩⟩
     ·have := hP.2.2.1
      simp
      (first | lia | omega)
     ·have e4' : i1 + 1 ≠ a.size := by simpa using e4
      exact ⟨hP.1, hP.2.1, by have := hP.2.2.1; (first | lia | omega), hP.2.2.2⟩
     ·rcases hC0 with ⟨c1, c2⟩ | c
      ·exact ⟨c1, c2, h1, Nat.le_refl _⟩
      ·exact absurd c ek
     ·rintro o1 i1 ⟨wA, nx, hi1, hi2⟩
      refine wpS_bind (wpS_elem hpb ?_)
      have wB := wA.pushB hb hpb nx
      by_cases e5 : (ib + 1 == b.size) = true
      ·rw [if_pos e5]
       exact wpS_pure ⟨⟨_, rfl⟩, .inl ⟨_, rfl, wB.done' ha (by simpa using e5)⟩⟩
      rw [if_neg e5]
      have e5' : ib + 1 ≠ b.size := by simpa using e5
      have hpa : a[i1]? = some a[i1] := Array.getElem?_eq_getElem (by (first | lia | omega))
      obtain ⟨ax, hax⟩ : ∃ ax, ax = a[i1] := ⟨_, rfl⟩
      refine wpS_bind (wpS_elem hpa ?_)
      refine wpS_bind (gallopL C (st := withG st g3) hk okb (mema hpa) hb (by (first | lia | omega)) (by (first | lia | omega)) fun k1 hkn1 hlt1 hge1 => ?_)
      dsimp only
      have wC := wB.manyB hb (k := k1) (by (first | lia | omega)) fun i p q hi hp hq => by
       rw [hpa] at hq
       cases hq
       exact KeyOrd.kle_of_klt (hlt1 i p hi hp)
      have hC0 : (∀ q, b[ib + 1]? = some q -> O.kle (kf ax) (kf q)) ∨ k1 > 0 := by
       rcases Nat.eq_zero_or_pos k1 with z | z
       ·rw [hax]
        exact .inl fun q hq => hge1 0 q (by (first | lia | omega)) (by (first | lia | omega)) hq
       ·exact .inr z
      have hP : Way kf a b (o1.push b[ib] ++ b.extract (ib + 1) (ib + 1 + k1)) i1 (ib + 1 + k1) /\ (ib + 1 + k1 ≠ b.size -> ∀ q, b[ib + 1 + k1]? = some q -> O.kle (kf ax) (kf q)) /\ ib + 1 + k1 <= b.size /\ ib + 1 <= ib + 1 + k1 := ⟨wC, fun e6' q hq => by rw [hax]; exact hge1 k1 q (Nat.le_refl _) (by (first | lia | omega)) hq, by (first | lia | omega), by (first | lia | omega)⟩
      clear wC hlt1 hge1 hkn1
      revert hP
      generalize ib + 1 + k1 = j1
      generalize o1.push b[ib] ++ b.extract (ib + 1) j1 = o2
      revert j1 o2
      refine wpS_ite_jp3 (C := fun o j => Way kf a b o i1 j /\ (∀ q, b[j]? = some q -> O.kle (kf ax) (kf q)) /\ j < b.size /\ ib + 1 <= j) (fun j1 o2 hP _ e6 => ?_) (fun j1 o2 hP e6 => ?_) (fun ek1 => ?_) ?_
      ·exact wpS_pure ⟨⟨_, rfl⟩, .inl ⟨_, rfl, hP.1.done' ha (by simpa using e6)⟩⟩
      ·have e6' : j1 ≠ b.size := by simpa using e6
       exact ⟨hP.1, hP.2.1 e6', by have := hP.2.2.1; (first | lia | omega), hP.2.2.2⟩
      ·rcases hC0 with c1 | c
       ·exact ⟨wB, c1, by (first | lia | omega), Nat.le_refl _⟩
       ·exact absurd c ek1
      ·rintro o2 j1 ⟨wC, nx2, hj1, hj2⟩
       rw [hax] at nx2
       refine wpS_bind (wpS_elem hpa ?_)
       have wD := wC.pushA ha hpa nx2
       by_cases e7 : (i1 + 1 + 1 == a.size) = true
       ·rw [if_pos e7]
        exact wpS_pure ⟨⟨_, rfl⟩, .inl ⟨_, rfl, hlast wD (by simpa using e7) (by (first | lia | omega))⟩⟩
       rw [if_neg e7]
       have e7' : i1 + 1 + 1 ≠ a.size := by simpa using e7
       by_cases e8 : (decide (k < 7) && decide (k1 < 7)) = true
       ·rw [if_pos e8]
        exact wpS_pure ⟨⟨_, rfl⟩, .inr ⟨_, _, _, _, _, _, rfl, wD, by (first | lia | omega), by (first | lia | omega), by (first | lia | omega)⟩⟩
       ·rw [if_neg e8]
        exact wpS_pure ⟨⟨_, rfl⟩, _, _, _, _, _, _, rfl, wD, by (first | lia | omega), by (first | lia | omega), by (first | lia | omega)⟩
end
end Srt
namespace Srt
open PySem PyProof.Rows
section
variable {O : KeyOrd} (kf : Keyed -> O.α)
structure WayH (a b out : Array Keyed) (na nb : Nat) : Prop where
 perm : out.toList.reverse.Perm (a.toList.drop na ++ b.toList.drop nb)
 up : Up kf out.toList.reverse
 la : ∀ p ∈ out.toList, ∀ q ∈ a.toList.take na, O.kle (kf q) (kf p)
 lb : ∀ p ∈ out.toList, ∀ q ∈ b.toList.take nb, O.kle (kf q) (kf p)
variable {kf}
theorem ext_zero (a : Array Keyed) (i : Nat) : (a.extract 0 i).toList = a.toList.take i := by
 rw [Array.toList_extract]
 simp [List.extract]
theorem up_take {a : Array Keyed} (ha : KeysUp kf a) (i : Nat) : Up kf (a.toList.take i) := (ha.up).sublist (List.take_sublist _ _)
theorem take_le_drop {a : Array Keyed} (ha : KeysUp kf a) {i : Nat} {p q : Keyed} (hq : q ∈ a.toList.take i) (hp : p ∈ a.toList.drop i) : O.kle (kf q) (kf p) := by
 have h := ha.up
 rw [<- List.take_append_drop i a.toList] at h
 exact (List.pairwise_append.mp h).2.2 q hq p hp
theorem take_le_at {a : Array Keyed} (ha : KeysUp kf a) {i j : Nat} {p q : Keyed} (hq : q ∈ a.toList.take i) (hp : a[j]? = some p) (hij : i <= j + 1) : O.kle (kf q) (kf p) := by
 obtain ⟨m, hm⟩ := List.getElem?_of_mem hq
 have hlt : m < i := by
  have := (List.getElem?_eq_some_iff.mp hm).1
  rw [List.length_take] at this
  (first | lia | omega)
 rw [List.getElem?_take_of_lt hlt] at hm
 exact ha m j q p (by (first | lia | omega)) (by rw [<- hm]; simp) hp
theorem WayH.done {a b out : Array Keyed} {na nb : Nat} (w : WayH kf a b out na nb) (hb : KeysUp kf b) (e : na = 0) : Res kf a b (a.extract 0 na ++ b.extract 0 nb ++ out.reverse) := by
 subst e
 have e : (a.extract 0 0 ++ b.extract 0 nb ++ out.reverse).toList = b.toList.take nb ++ out.toList.reverse := by
  rw [Array.toList_append, Array.toList_append, ext_zero, ext_zero, Array.toList_reverse]
  simp
 refine ⟨?_, ?_⟩
 ·rw [e]
  refine (List.Perm.append_left _ w.perm).trans ?_
  rw [List.drop_zero, <- List.append_assoc]
  refine (List.Perm.append_right _ List.perm_append_comm).trans ?_
  rw [List.append_assoc, List.take_append_drop]
 ·rw [e]
  exact up_append (up_take hb nb) w.up fun p hp q hq => w.lb q (List.mem_reverse.mp hq) p hp
theorem WayH.first {a b out : Array Keyed} {na nb : Nat} (w : WayH kf a b out na nb) (ha : KeysUp kf a) (hb : KeysUp kf b) (h : ∀ p ∈ b.toList.take nb, ∀ q ∈ a.toList, O.kle (kf p) (kf q)) : Res kf a b (b.extract 0 nb ++ a.extract 0 na ++ out.reverse) := by
 have e : (b.extract 0 nb ++ a.extract 0 na ++ out.reverse).toList = b.toList.take nb ++ (a.toList.take na ++ out.toList.reverse) := by
  rw [Array.toList_append, Array.toList_append, ext_zero, ext_zero, Array.toList_reverse, List.append_assoc]
 refine ⟨?_, ?_⟩
 ·rw [e]
  refine (List.Perm.append_left _ (List.Perm.append_left _ w.perm)).trans ?_
  rw [<- List.append_assoc (a.toList.take na), List.take_append_drop, <- List.append_assoc]
  refine (List.Perm.append_right _ List.perm_append_comm).trans ?_
  rw [List.append_assoc, List.take_append_drop]
 ·rw [e]
  refine up_append (up_take hb nb) (up_append (up_take ha na) w.up fun p hp q hq => w.la q (List.mem_reverse.mp hq) p hp) fun p hp q hq => ?_
  rcases List.mem_append.mp hq with h' | h'
  ·exact h p hp q (List.mem_of_mem_take h')
  ·exact w.lb q (List.mem_reverse.mp h') p hp
theorem drop_mid (l : List Keyed) {i j : Nat} (h : i <= j) : (l.drop i).take (j - i) ++ l.drop j = l.drop i := by
 have := List.take_append_drop (j - i) (l.drop i)
 rw [List.drop_drop, show i + (j - i) = j by (first | lia | omega)] at this
 exact this
theorem WayH.addA {a b out out' : Array Keyed} {na na' nb : Nat} (w : WayH kf a b out na nb) (ha : KeysUp kf a) (hle : na' <= na) (e : out'.toList.reverse = (a.toList.drop na').take (na - na') ++ out.toList.reverse)
  (h : ∀ p ∈ (a.toList.drop na').take (na - na'), ∀ q ∈ b.toList.take nb, O.kle (kf q) (kf p)) : WayH kf a b out' na' nb := by
 have mid : ∀ p ∈ (a.toList.drop na').take (na - na'), p ∈ a.toList.take na := fun p hp => by
  rw [<- List.drop_take] at hp
  exact List.mem_of_mem_drop hp
 have spl : ∀ p ∈ out'.toList, p ∈ (a.toList.drop na').take (na - na') ∨ p ∈ out.toList := fun p hp => by
  have : p ∈ out'.toList.reverse := List.mem_reverse.mpr hp
  rw [e] at this
  exact (List.mem_append.mp this).imp id List.mem_reverse.mp
 refine ⟨?_, ?_, fun p hp q hq => ?_, fun p hp q hq => ?_⟩
 ·rw [e]
  refine (List.Perm.append_left _ w.perm).trans ?_
  rw [<- List.append_assoc, drop_mid _ hle]
 ·rw [e]
  refine up_append (ha.up.sublist ((List.take_sublist _ _).trans (List.drop_sublist _ _))) w.up fun p hp q hq => w.la q (List.mem_reverse.mp hq) p (mid p hp)
 ·rcases spl p hp with h' | h'
  ·exact take_le_drop ha hq (List.mem_of_mem_take h')
  ·refine w.la p h' q ?_
   rw [show na' = min na' na by (first | lia | omega), <- List.take_take] at hq
   exact List.mem_of_mem_take hq
 ·rcases spl p hp with h' | h'
  ·exact h p h' q hq
  ·exact w.lb p h' q hq
theorem WayH.flip {a b out : Array Keyed} {na nb : Nat} (w : WayH kf a b out na nb) : WayH kf b a out nb na := ⟨w.perm.trans List.perm_append_comm, w.up, w.lb, w.la⟩
theorem one_mid {a : Array Keyed} {n : Nat} {p : Keyed} (hp : a[n]? = some p) : (a.toList.drop n).take (n + 1 - n) = [p] := by
 have h1 : a.toList[n]? = some p := by rw [<- hp]; simp
 have h2 : n < a.toList.length := (List.getElem?_eq_some_iff.mp h1).1
 rw [show n + 1 - n = 1 by (first | lia | omega), List.drop_eq_getElem_cons h2, (List.getElem?_eq_some_iff.mp h1).2]
 rfl
theorem WayH.pushA {a b out : Array Keyed} {na nb : Nat} {p : Keyed} (w : WayH kf a b out na nb) (ha : KeysUp kf a) (h0 : 0 < na) (hp : a[na - 1]? = some p) (h : ∀ q ∈ b.toList.take nb, O.kle (kf q) (kf p)) : WayH kf a b (out.push p) (na - 1) nb := by
 have e := one_mid hp
 rw [show na - 1 + 1 = na by (first | lia | omega)] at e
 refine w.addA ha (by (first | lia | omega)) ?_ fun x hx q hq => ?_
 ·rw [e, Array.toList_push]
  simp
 ·rw [e] at hx
  rw [List.mem_singleton.mp hx]
  exact h q hq
theorem WayH.manyA {a b out : Array Keyed} {na n1 nb : Nat} (w : WayH kf a b out na nb) (ha : KeysUp kf a) (hle : n1 <= na) (h : ∀ i p, n1 <= i -> i < na -> a[i]? = some p -> ∀ q ∈ b.toList.take nb, O.kle (kf q) (kf p)) : WayH kf a b (out ++ (a.extract n1 na).reverse) n1 nb := by
 have e := ext_mid a n1 (na - n1)
 rw [show n1 + (na - n1) = na by (first | lia | omega)] at e
 refine w.addA ha hle ?_ fun x hx q hq => ?_
 ·rw [Array.toList_append, Array.toList_reverse, e]
  simp
 ·obtain ⟨m, hm⟩ := List.getElem?_of_mem hx
  have hlt : m < na - n1 := by
   have := (List.getElem?_eq_some_iff.mp hm).1
   rw [List.length_take] at this
   (first | lia | omega)
  rw [List.getElem?_take_of_lt hlt, List.getElem?_drop] at hm
  exact h (n1 + m) x (by (first | lia | omega)) (by (first | lia | omega)) (by rw [<- hm]; simp) q hq
end
end Srt
namespace Srt
open PySem PyProof.Rows
section
variable {M : Model} {A : Around} {E : Value -> Shared -> Prop} {s : Shared}
variable {O : KeyOrd} {kf : Keyed -> O.α} {okk : Keyed -> Prop} {kd : SortKind}
theorem at_take {a : Array Keyed} {i : Nat} {q : Keyed} (hq : q ∈ a.toList.take i) : ∃ m, m < i /\ a[m]? = some q := by
 obtain ⟨m, hm⟩ := List.getElem?_of_mem hq
 have hlt : m < i := by
  have := (List.getElem?_eq_some_iff.mp hm).1
  rw [List.length_take] at this
  (first | lia | omega)
 rw [List.getElem?_take_of_lt hlt] at hm
 exact ⟨m, hlt, by rw [<- hm]; simp⟩
set_option maxHeartbeats 4000000 in
theorem wpS_mergeHi (C : Cmp M A E s kd O kf okk) {st : SortSt} (hk : kindOf st = kd) {a b : Array Keyed} {Q : Array Keyed -> SortSt -> Prop} (oka : ∀ p ∈ a.toList, okk p) (okb : ∀ p ∈ b.toList, okk p) (ha : KeysUp kf a) (hb : KeysUp kf b) (na1 : 0 < a.size) (nb1 : 0 < b.size)
  (h0 : ∀ p q, b[0]? = some p -> a[0]? = some q -> O.klt (kf p) (kf q)) (hl : ∀ p q, a[a.size - 1]? = some p -> q ∈ b.toList -> O.klt (kf q) (kf p))
  (h : ∀ r g, Res kf a b r -> Q r (withG st g)) : wpS M A E s (mergeHi' a b) Q st := by
 unfold mergeHi'
 have hb0 : b[0]? = some b[0] := Array.getElem?_eq_getElem nb1
 have ha0 : a[0]? = some a[0] := Array.getElem?_eq_getElem na1
 have hal : a[a.size - 1]? = some a[a.size - 1] := Array.getElem?_eq_getElem (by (first | lia | omega))
 have hfirst : ∀ {out : Array Keyed} {na nb : Nat}, WayH kf a b out na nb -> nb = 1 -> Res kf a b (b.extract 0 nb ++ a.extract 0 na ++ out.reverse) := fun w e => w.first ha hb fun p hp q hq => by
  subst e
  have g1 := take_le_at hb hp hb0 (by (first | lia | omega))
  obtain ⟨m, hm⟩ := List.getElem?_of_mem hq
  exact KeyOrd.kle_trans g1 (KeyOrd.kle_trans (KeyOrd.kle_of_klt (h0 _ _ hb0 ha0)) (ha 0 m _ _ (by (first | lia | omega)) ha0 (by rw [<- hm]; simp)))
 have mema : ∀ {i : Nat} {p : Keyed}, a[i]? = some p -> okk p := fun {i p} h => oka p (List.mem_of_getElem? (i := i) (by rw [<- h]; simp))
 have memb : ∀ {i : Nat} {p : Keyed}, b[i]? = some p -> okk p := fun {i p} h => okb p (List.mem_of_getElem? (i := i) (by rw [<- h]; simp))
 have hz : withG st (gallopOf st) = st := rfl
 have w0 : WayH kf a b #[a[a.size - 1]] (a.size - 1) b.size := by
  have e : WayH kf a b #[] a.size b.size := ⟨by simp, List.Pairwise.nil, fun p hp => by simp at hp, fun p hp => by simp at hp⟩
  exact e.pushA ha na1 hal fun q hq => KeyOrd.kle_of_klt (hl _ q hal (List.mem_of_mem_take hq))
 refine wpS_bind (wpS_lift (wpAny_rule ⟨rfl, ?_⟩))
 try dsimp only
 refine wpS_bind (wpS_elem hal ?_)
 try dsimp only
 by_cases e1 : (a.size - 1 == 0) = true
 ·rw [if_pos e1]
  have := h _ (gallopOf st) (w0.done hb (by simpa using e1))
  rw [hz] at this
  exact wpS_pure this
 rw [if_neg e1]
 have e1' : a.size - 1 ≠ 0 := by simpa using e1
 by_cases e2 : (b.size == 1) = true
 ·rw [if_pos e2]
  have := h _ (gallopOf st) (hfirst w0 (by simpa using e2))
  rw [hz] at this
  exact wpS_pure this
 rw [if_neg e2]
 have e2' : b.size ≠ 1 := by simpa using e2
 refine wpS_bind (wpS_get ?_)
 try dsimp only
 refine wpS_bind (wpS_mono (wpS_forRange (I := fun x c st' => (∃ g0, st' = withG st g0) /\ ∃ out na nb g, c = (none, na, nb, out, g) /\ WayH kf a b out na nb /\ 1 <= na /\ 2 <= nb /\ na <= a.size /\ nb <= b.size /\ x + 1 + (na + nb) <= a.size + b.size)
  (Q := fun c st' => (∃ g0, st' = withG st g0) /\ ∃ r, c.1 = some r /\ Res kf a b r) ?step ?fin ⟨⟨_, hz.symm⟩, _, _, _, _, rfl, w0, by (first | lia | omega), by (first | lia | omega), by (first | lia | omega), by (first | lia | omega), by (first | lia | omega)⟩) ?post)
 case fin =>
  rintro c st' ⟨_, out, na, nb, g, rfl, w, h1, h2, h1', h2', h3⟩
  rw [Nat.max_eq_right (Nat.zero_le _)] at h3
  (first | lia | omega)
 case post =>
  rintro ⟨c1, c2⟩ st' ⟨⟨g0, rfl⟩, r, hc, hr⟩
  dsimp only at hc
  subst hc
  exact wpS_pure (h r g0 hr)
 case step =>
  rintro x c st' _ hx ⟨⟨g0, rfl⟩, out0, na0, nb0, g, rfl, w00, h10, h20, h10', h20', h30⟩
  dsimp only
  refine wpS_bind (wpS_mono (wpS_forRange (I := fun y c st'' => st'' = withG st g0 /\ ∃ out na nb ac bc, c = (none, na, nb, out, ac, bc) /\ WayH kf a b out na nb /\ 1 <= na /\ 2 <= nb /\ na <= a.size /\ nb <= b.size /\ y + (na + nb) <= na0 + nb0)
   (Q := fun c st'' => st'' = withG st g0 /\ ((∃ r, c.1 = some r /\ Res kf a b r) ∨ ∃ out na nb ac bc, c = (none, na, nb, out, ac, bc) /\ WayH kf a b out na nb /\ 1 <= na /\ 2 <= nb /\ na <= a.size /\ nb <= b.size /\ na + nb + 1 <= na0 + nb0)) ?step1 ?fin1 ⟨rfl, _, _, _, _, _, rfl, w00, h10, h20, h10', h20', by (first | lia | omega)⟩) ?post1)
  case fin1 =>
   rintro c st' ⟨rfl, out, na, nb, ac, bc, rfl, w, h1, h2, h1', h2', h3⟩
   rw [Nat.max_eq_right (Nat.zero_le _)] at h3
   exact ⟨rfl, .inr ⟨_, _, _, _, _, rfl, w, h1, h2, h1', h2', by (first | lia | omega)⟩⟩
  case step1 =>
   rintro y c st' _ hy ⟨rfl, out, na, nb, ac, bc, rfl, w, h1, h2, h1', h2', h3⟩
   dsimp only
   have hpb : b[nb - 1]? = some b[nb - 1] := Array.getElem?_eq_getElem (by (first | lia | omega))
   have hpa : a[na - 1]? = some a[na - 1] := Array.getElem?_eq_getElem (by (first | lia | omega))
   refine wpS_bind (wpS_elem hpb ?_)
   refine wpS_bind (wpS_elem hpa ?_)
   refine wpS_bind (C.lt _ _ _ _ (memb hpb) (mema hpa) hk ?_)
   dsimp only
   cases hbl : O.blt (kf b[nb - 1]) (kf a[na - 1]) with
   | true =>
    rw [if_pos rfl]
    refine wpS_bind (wpS_elem hpa ?_)
    have w' := w.pushA ha (by (first | lia | omega)) hpa fun q hq => KeyOrd.kle_trans (take_le_at hb hq hpb (by (first | lia | omega))) (KeyOrd.kle_of_klt hbl)
    by_cases e : (na - 1 == 0) = true
    ·rw [if_pos e]
     exact wpS_pure ⟨rfl, .inl ⟨_, rfl, w'.done hb (by simpa using e)⟩⟩
    ·rw [if_neg e]
     have e' : na - 1 ≠ 0 := by simpa using e
     by_cases e3 : ac + 1 ≥ g
     ·rw [if_pos e3]
      exact wpS_pure ⟨rfl, .inr ⟨_, _, _, _, _, rfl, w', by (first | lia | omega), by (first | lia | omega), by (first | lia | omega), by (first | lia | omega), by (first | lia | omega)⟩⟩
     ·rw [if_neg e3]
      exact wpS_pure ⟨rfl, _, _, _, _, _, rfl, w', by (first | lia | omega), by (first | lia | omega), by (first | lia | omega), by (first | lia | omega), by (first | lia | omega)⟩
   | false =>
    rw [if_neg (by decide)]
    refine wpS_bind (wpS_elem hpb ?_)
    have w' := (w.flip.pushA hb (by (first | lia | omega)) hpb fun q hq => KeyOrd.kle_trans (take_le_at ha hq hpa (by (first | lia | omega))) hbl).flip
    by_cases e : (nb - 1 == 1) = true
    ·rw [if_pos e]
     exact wpS_pure ⟨rfl, .inl ⟨_, rfl, hfirst w' (by simpa using e)⟩⟩
    ·rw [if_neg e]
     have e' : nb - 1 ≠ 1 := by simpa using e
     by_cases e3 : bc + 1 ≥ g
     ·rw [if_pos e3]
      exact wpS_pure ⟨rfl, .inr ⟨_, _, _, _, _, rfl, w', by (first | lia | omega), by (first | lia | omega), by (first | lia | omega), by (first | lia | omega), by (first | lia | omega)⟩⟩
     ·rw [if_neg e3]
      exact wpS_pure ⟨rfl, _, _, _, _, _, rfl, w', by (first | lia | omega), by (first | lia | omega), by (first | lia | omega), by (first | lia | omega), by (first | lia | omega)⟩
  case post1 =>
   rintro c st' ⟨rfl, ⟨r, hc, hr⟩ | ⟨out1, na1, nb1, ac, bc, rfl, w1, h11, h21, h11', h21', h31⟩⟩
   ·obtain ⟨c1, c2⟩ := c
    dsimp only at hc
    subst hc
    exact wpS_pure ⟨⟨_, rfl⟩, _, rfl, hr⟩
   ·dsimp only
    refine wpS_bind (wpS_lift (wpAny_rule ⟨rfl, ?_⟩))
    refine wpS_bind (wpS_mono (wpS_forRange (I := fun y c st'' => (∃ g1, st'' = withG st g1) /\ ∃ out na nb g ac bc, c = (none, na, nb, out, g, ac, bc) /\ WayH kf a b out na nb /\ 1 <= na /\ 2 <= nb /\ na <= a.size /\ nb <= b.size /\ na + nb + 1 <= na0 + nb0)
     (Q := fun c st'' => (∃ g1, st'' = withG st g1) /\ ((∃ r, c.1 = some r /\ Res kf a b r) ∨ ∃ out na nb g ac bc, c = (none, na, nb, out, g, ac, bc) /\ WayH kf a b out na nb /\ 1 <= na /\ 2 <= nb /\ na <= a.size /\ nb <= b.size /\ na + nb + 1 <= na0 + nb0)) ?step2 ?fin2 ⟨⟨_, rfl⟩, _, _, _, _, _, _, rfl, w1, h11, h21, h11', h21', h31⟩) ?post2)
    case fin2 =>
     rintro c st' ⟨hg, hc⟩
     exact ⟨hg, .inr hc⟩
    case post2 =>
     rintro c st' ⟨⟨g1, rfl⟩, ⟨r, hc, hr⟩ | ⟨out2, na2, nb2, g2, ac2, bc2, rfl, w2, h12, h22, h12', h22', h32⟩⟩
     ·obtain ⟨c1, c2⟩ := c
      dsimp only at hc
      subst hc
      exact wpS_pure ⟨⟨_, rfl⟩, _, rfl, hr⟩
     ·dsimp only
      refine wpS_bind (wpS_modify ?_)
      exact wpS_pure ⟨⟨_, rfl⟩, _, _, _, _, rfl, w2, h12, h22, h12', h22', by (first | lia | omega)⟩
    case step2 =>
     rintro y c st' _ hy ⟨⟨g1, rfl⟩, out, na, nb, g', ac', bc', rfl, w, h1, h2, h1', h2', h3⟩
     dsimp only
     have hpb : b[nb - 1]? = some b[nb - 1] := Array.getElem?_eq_getElem (by (first | lia | omega))
     obtain ⟨bx, hbx⟩ : ∃ bx, bx = b[nb - 1] := ⟨_, rfl⟩
     generalize g' - 1 = u
     revert u
     refine wpS_ite_jp ?_
     intro g3
     refine wpS_bind (wpS_modify ?_)
     refine wpS_bind (wpS_elem hpb ?_)
     refine wpS_bind (gallopR C (st := withG st g3) hk oka (memb hpb) ha (by (first | lia | omega)) (by (first | lia | omega)) fun at_ hkn hle hgt => ?_)
     have fA : ∀ q ∈ a.toList.take at_, O.kle (kf q) (kf b[nb - 1]) := fun q hq => by
      obtain ⟨m, hm1, hm2⟩ := at_take hq
      exact hle m q hm1 (by rw [Nat.zero_add]; exact hm2)
     dsimp only
     have wA := w.manyA ha (n1 := at_) (by (first | lia | omega)) fun i p hi1 hi2 hp q hq => by
      have g1 := hgt i p hi1 hi2 (by rw [Nat.zero_add]; exact hp)
      exact KeyOrd.kle_trans (take_le_at hb hq hpb (by (first | lia | omega))) (KeyOrd.kle_of_klt g1)
     have hP : WayH kf a b (out ++ (a.extract at_ na).reverse) at_ nb /\ (∀ q ∈ a.toList.take at_, O.kle (kf q) (kf bx)) /\ at_ <= na := ⟨wA, by rw [hbx]; exact fA, by (first | lia | omega)⟩
     have hC0 : (∀ q ∈ a.toList.take na, O.kle (kf q) (kf bx)) ∨ na - at_ > 0 := by
      rcases Nat.eq_zero_or_pos (na - at_) with z | z
      ·rw [show na = at_ by (first | lia | omega), hbx]
       exact .inl fA
      ·exact .inr z
     revert hP
     clear wA fA hle hgt hkn
     generalize hac : na - at_ = ac at hC0 ⊢
     clear hac
     generalize out ++ (a.extract at_ na).reverse = o1
     revert at_ o1
     refine wpS_ite_jp3 (C := fun o n1 => WayH kf a b o n1 nb /\ (∀ q ∈ a.toList.take n1, O.kle (kf q) (kf bx)) /\ n1 ≠ 0 /\ n1 <= na) (fun n1 o1 hP _ e4 => ?_) (fun n1 o1 hP e4 => ?_) (fun ek => ?_) ?_
     ·exact wpS_pure ⟨⟨_, rfl⟩, .inl ⟨_, rfl, hP.1.done hb (by simpa using e4)⟩⟩
     ·exact ⟨hP.1, hP.2.1, by simpa using e4, hP.2.2⟩
     ·rcases hC0 with c1 | c
      ·exact ⟨w, c1, by (first | lia | omega), Nat.le_refl _⟩
      ·exact absurd c ek
     ·rintro o1 n1 ⟨wA, fA, e4', hn1⟩
      rw [hbx] at fA
      refine wpS_bind (wpS_elem hpb ?_)
      have wB := (wA.flip.pushA hb (by (first | lia | omega)) hpb fA).flip
      by_cases e5 : (nb - 1 == 1) = true
      ·rw [if_pos e5]
       exact wpS_pure ⟨⟨_, rfl⟩, .inl ⟨_, rfl, hfirst wB (by simpa using e5)⟩⟩
      rw [if_neg e5]
      have e5' : nb - 1 ≠ 1 := by simpa using e5
      have hpa : a[n1 - 1]? = some a[n1 - 1] := Array.getElem?_eq_getElem (by (first | lia | omega))
      refine wpS_bind (wpS_elem hpa ?_)
      refine wpS_bind (gallopL C (st := withG st g3) hk okb (mema hpa) hb (by (first | lia | omega)) (by (first | lia | omega)) fun bt hbn hlt1 hge1 => ?_)
      dsimp only
      have fB : ∀ q ∈ b.toList.take bt, O.kle (kf q) (kf a[n1 - 1]) := fun q hq => by
       obtain ⟨m, hm1, hm2⟩ := at_take hq
       exact KeyOrd.kle_of_klt (hlt1 m q hm1 (by rw [Nat.zero_add]; exact hm2))
      by_cases ek1 : nb - 1 - bt > 0
      ·rw [if_pos ek1]
       have wC := (wB.flip.manyA hb (n1 := bt) (by (first | lia | omega)) fun i p hi1 hi2 hp q hq => by
        have g1 := hge1 i p hi1 hi2 (by rw [Nat.zero_add]; exact hp)
        exact KeyOrd.kle_trans (take_le_at ha hq hpa (by (first | lia | omega))) g1).flip
       by_cases e6 : (bt == 1) = true
       ·rw [if_pos e6]
        exact wpS_pure ⟨⟨_, rfl⟩, .inl ⟨_, rfl, hfirst wC (by simpa using e6)⟩⟩
       rw [if_neg e6]
       have e6' : bt ≠ 1 := by simpa using e6
       have e9 : bt ≠ 0 := fun hz9 => by
        have g1 := hge1 0 b[0] (by (first | lia | omega)) (by (first | lia | omega)) (by rw [Nat.zero_add]; exact hb0)
        exact KeyOrd.not_klt_of_kle (KeyOrd.kle_trans (ha 0 (n1 - 1) _ _ (by (first | lia | omega)) ha0 hpa) g1) (h0 _ _ hb0 ha0)
       rw [if_neg (show ¬ ((bt == 0) = true) by simpa using e9)]
       refine wpS_bind (wpS_elem hpa ?_)
       have wD := wC.pushA ha (by (first | lia | omega)) hpa fB
       by_cases e7 : (n1 - 1 == 0) = true
       ·rw [if_pos e7]
        exact wpS_pure ⟨⟨_, rfl⟩, .inl ⟨_, rfl, wD.done hb (by simpa using e7)⟩⟩
       rw [if_neg e7]
       have e7' : n1 - 1 ≠ 0 := by simpa using e7
       by_cases e8 : (decide (ac < 7) && decide (nb - 1 - bt < 7)) = true
       ·rw [if_pos e8]
        exact wpS_pure ⟨⟨_, rfl⟩, .inr ⟨_, _, _, _, _, _, rfl, wD, by (first | lia | omega), by (first | lia | omega), by (first | lia | omega), by (first | lia | omega), by (first | lia | omega)⟩⟩
       ·rw [if_neg e8]
        exact wpS_pure ⟨⟨_, rfl⟩, _, _, _, _, _, _, rfl, wD, by (first | lia | omega), by (first | lia | omega), by (first | lia | omega), by (first | lia | omega), by (first | lia | omega)⟩
      ·rw [if_neg ek1]
       have fB' : ∀ q ∈ b.toList.take (nb - 1), O.kle (kf q) (kf a[n1 - 1]) := by
        rw [show nb - 1 = bt by (first | lia | omega)]
        exact fB
       refine wpS_bind (wpS_elem hpa ?_)
       have wD := wB.pushA ha (by (first | lia | omega)) hpa fB'
       by_cases e7 : (n1 - 1 == 0) = true
       ·rw [if_pos e7]
        exact wpS_pure ⟨⟨_, rfl⟩, .inl ⟨_, rfl, wD.done hb (by simpa using e7)⟩⟩
       rw [if_neg e7]
       have e7' : n1 - 1 ≠ 0 := by simpa using e7
       by_cases e8 : (decide (ac < 7) && decide (nb - 1 - bt < 7)) = true
       ·rw [if_pos e8]
        exact wpS_pure ⟨⟨_, rfl⟩, .inr ⟨_, _, _, _, _, _, rfl, wD, by (first | lia | omega), by (first | lia | omega), by (first | lia | omega), by (first | lia | omega), by (first | lia | omega)⟩⟩
       ·rw [if_neg e8]
        exact wpS_pure ⟨⟨_, rfl⟩, _, _, _, _, _, _, rfl, wD, by (first | lia | omega), by (first | lia | omega), by (first | lia | omega), by (first | lia | omega), by (first | lia | omega)⟩
end
end Srt
namespace Srt
open PySem PyProof.Rows
noncomputable def put (m : List Keyed) (at_ : Nat) (a : Array Keyed) : Array Keyed := m.zipIdx.foldl (fun a pj => a.setIfInBounds (at_ + pj.2) pj.1) a
theorem put_go : ∀ (m : List Keyed) (k at_ : Nat) (a : Array Keyed), at_ + k + m.length <= a.size ->
  ((m.zipIdx k).foldl (fun a pj => a.setIfInBounds (at_ + pj.2) pj.1) a).toList = a.toList.take (at_ + k) ++ (m ++ a.toList.drop (at_ + k + m.length))
 | [], k, at_, a, _ => by simp
 | p :: m, k, at_, a, h => by
  rw [List.zipIdx_cons, List.foldl_cons]
  have h' : at_ + (k + 1) + m.length <= (a.setIfInBounds (at_ + k) p).size := by
   rw [Array.size_setIfInBounds]
   simp only [List.length_cons] at h
   (first | lia | omega)
  rw [put_go m (k + 1) at_ _ h', Array.toList_setIfInBounds]
  simp only [List.length_cons] at h ⊢
  have hl : at_ + k < a.toList.length := by simp; (first | lia | omega)
  have e1 : (a.toList.set (at_ + k) p).take (at_ + (k + 1)) = a.toList.take (at_ + k) ++ [p] := by
   rw [show at_ + (k + 1) = at_ + k + 1 by (first | lia | omega), List.take_succ, List.take_set_of_le (Nat.le_refl _), List.getElem?_set_self hl]
   rfl
  have e2 : (a.toList.set (at_ + k) p).drop (at_ + (k + 1) + m.length) = a.toList.drop (at_ + k + (m.length + 1)) := by
   rw [List.drop_set_of_lt (by (first | lia | omega))]
   congr 1
   (first | lia | omega)
  rw [e1, e2, List.append_assoc]
  rfl
theorem put_list {m : List Keyed} {at_ : Nat} {a : Array Keyed} (h : at_ + m.length <= a.size) : (put m at_ a).toList = a.toList.take at_ ++ (m ++ a.toList.drop (at_ + m.length)) := by
 have := put_go m 0 at_ a (by (first | lia | omega))
 rw [Nat.add_zero] at this
 exact this
end Srt
namespace Srt
open PySem PyProof.Rows
section
variable {O : KeyOrd} {kf : Keyed -> O.α}
theorem put_at {r arr : Array Keyed} {lo : Nat} (h : lo + r.size <= arr.size) (j : Nat) : (put r.toList lo arr)[j]? = if lo <= j /\ j < lo + r.size then r[j - lo]? else arr[j]? := by
 have e := put_list (m := r.toList) (at_ := lo) (a := arr) (by simpa using h)
 have g : (put r.toList lo arr)[j]? = (put r.toList lo arr).toList[j]? := by simp
 have lt : (arr.toList.take lo).length = lo := by simp; (first | lia | omega)
 have lr : r.toList.length = r.size := by simp
 rw [g, e]
 by_cases h1 : j < lo
 ·rw [if_neg (by (first | lia | omega)), List.getElem?_append_left (by rw [lt]; exact h1), List.getElem?_take_of_lt h1]
  simp
 ·rw [List.getElem?_append_right (by rw [lt]; (first | lia | omega)), lt]
  by_cases h2 : j < lo + r.size
  ·rw [if_pos ⟨by (first | lia | omega), h2⟩, List.getElem?_append_left (by rw [lr]; (first | lia | omega))]
   simp
  ·rw [if_neg (by (first | lia | omega)), List.getElem?_append_right (by rw [lr]; (first | lia | omega)), List.getElem?_drop, lr, show lo + r.size + (j - lo - r.size) = j by (first | lia | omega)]
   simp
theorem put_run {r arr : Array Keyed} {sa lo hi sb : Nat} (hsz : r.size = hi - lo) (hlo : lo <= hi) (hsa : sa <= lo) (hhi : hi <= sb) (hin : sb <= arr.size) (ur : Up kf r.toList)
  (r1 : RunUp kf arr sa lo) (r2 : RunUp kf arr hi sb)
  (pre : ∀ i p, sa <= i -> i < lo -> arr[i]? = some p -> ∀ q ∈ r.toList, O.kle (kf p) (kf q))
  (post : ∀ j q, hi <= j -> j < sb -> arr[j]? = some q -> ∀ p ∈ r.toList, O.kle (kf p) (kf q))
  (far : ∀ i j p q, sa <= i -> i < lo -> hi <= j -> j < sb -> arr[i]? = some p -> arr[j]? = some q -> O.kle (kf p) (kf q)) : RunUp kf (put r.toList lo arr) sa sb := by
 intro i j p q h1 h2 h3 hp hq
 rw [put_at (by (first | lia | omega))] at hp hq
 have mem : ∀ {m : Nat} {p : Keyed}, r[m]? = some p -> p ∈ r.toList := fun {m p} h => List.mem_of_getElem? (i := m) (by rw [<- h]; simp)
 by_cases a1 : lo <= i /\ i < lo + r.size
 ·rw [if_pos a1] at hp
  by_cases a2 : lo <= j /\ j < lo + r.size
  ·rw [if_pos a2] at hq
   by_cases hij : i = j
   ·subst hij
    rw [hp] at hq
    cases hq
    exact KeyOrd.kle_refl _
   ·have l1 : r.toList[i - lo]? = some p := by rw [<- hp]; simp
    have l2 : r.toList[j - lo]? = some q := by rw [<- hq]; simp
    obtain ⟨b1, c1⟩ := List.getElem?_eq_some_iff.mp l1
    obtain ⟨b2, c2⟩ := List.getElem?_eq_some_iff.mp l2
    have := List.pairwise_iff_getElem.mp ur (i - lo) (j - lo) b1 b2 (by (first | lia | omega))
    rw [c1, c2] at this
    exact this
  ·rw [if_neg a2] at hq
   exact post j q (by (first | lia | omega)) h3 hq p (mem hp)
 ·rw [if_neg a1] at hp
  by_cases a2 : lo <= j /\ j < lo + r.size
  ·rw [if_pos a2] at hq
   exact pre i p h1 (by (first | lia | omega)) hp q (mem hq)
  ·rw [if_neg a2] at hq
   by_cases b1 : i < lo
   ·by_cases b2 : j < lo
    ·exact r1 i j p q h1 h2 b2 hp hq
    ·exact far i j p q h1 b1 (by (first | lia | omega)) h3 hp hq
   ·exact r2 i j p q (by (first | lia | omega)) h2 h3 hp hq
end
end Srt
namespace Srt
open PySem PyProof.Rows
section
variable {O : KeyOrd} {kf : Keyed -> O.α}
theorem ext_at {a : Array Keyed} {i j m : Nat} (hj : j <= a.size) (hm : m < j - i) : (a.extract i j)[m]? = a[i + m]? := by
 rw [Array.getElem?_extract_of_lt (by (first | lia | omega))]
 exact (Array.getElem?_eq_getElem _).symm
theorem ext_mem {a : Array Keyed} {i j : Nat} (hj : j <= a.size) {q : Keyed} (h : q ∈ (a.extract i j).toList) : ∃ m, i <= m /\ m < j /\ a[m]? = some q := by
 obtain ⟨m, hm⟩ := List.getElem?_of_mem h
 have hl : m < j - i := by
  have := (List.getElem?_eq_some_iff.mp hm).1
  simp at this
  (first | lia | omega)
 have : (a.extract i j)[m]? = some q := by rw [<- hm]; exact (Array.getElem?_toList).symm
 rw [ext_at hj hl] at this
 exact ⟨i + m, by (first | lia | omega), by (first | lia | omega), this⟩
theorem ext_up {a : Array Keyed} {i j : Nat} (hj : j <= a.size) (h : RunUp kf a i j) : KeysUp kf (a.extract i j) := by
 intro m n p q hmn hp hq
 have hl : n < j - i := by
  have := (Array.getElem?_eq_some_iff.mp hq).1
  simp at this
  (first | lia | omega)
 rw [ext_at hj (by (first | lia | omega))] at hp
 rw [ext_at hj hl] at hq
 exact h _ _ p q (by (first | lia | omega)) (by (first | lia | omega)) (by (first | lia | omega)) hp hq
theorem put_perm {r arr : Array Keyed} {lo mid hi : Nat} (h1 : lo <= mid) (h2 : mid <= hi) (h3 : hi <= arr.size) (hr : r.toList.Perm ((arr.extract lo mid).toList ++ (arr.extract mid hi).toList)) : (put r.toList lo arr).Perm arr := by
 have hsz : r.toList.length = hi - lo := by
  rw [hr.length_eq]
  simp
  (first | lia | omega)
 rw [Array.perm_iff_toList_perm, put_list (by (first | lia | omega)), hsz, show lo + (hi - lo) = hi by (first | lia | omega)]
 refine (List.Perm.append_left _ (List.Perm.append_right _ hr)).trans ?_
 have e1 := ext_mid arr lo (mid - lo)
 have e2 := ext_mid arr mid (hi - mid)
 rw [show lo + (mid - lo) = mid by (first | lia | omega)] at e1
 rw [show mid + (hi - mid) = hi by (first | lia | omega)] at e2
 rw [e1, e2, List.append_assoc, drop_mid _ h2, drop_mid _ h1, List.take_append_drop]
end
end Srt
namespace Srt
open PySem PyProof.Rows
section
variable {M : Model} {A : Around} {E : Value -> Shared -> Prop} {s : Shared} {O : KeyOrd} {kf : Keyed -> O.α} {okk : Keyed -> Prop} {kd : SortKind}
noncomputable def ka (kf : Keyed -> O.α) (a : Array Keyed) (i : Nat) : O.α := kf (a[i]?.getD (.none, .none))
theorem ka_congr {a b : Array Keyed} {i j : Nat} (h : a[i]? = b[j]?) : ka kf a i = ka kf b j := by
 unfold ka
 rw [h]
theorem ka_at {a : Array Keyed} {i : Nat} {p : Keyed} (h : a[i]? = some p) : ka kf a i = kf p := by
 unfold ka
 rw [h]
 rfl
theorem ka_mir {a : Array Keyed} {i j : Nat} (hj : j <= a.size) (k : Nat) : ka kf (mirror a i j ((j - i) / 2)) k = if i <= k /\ k < j then ka kf a (i + j - 1 - k) else ka kf a k := by
 have e := getElem?_mirror_all (i := i) hj k
 by_cases c : i <= k /\ k < j
 ·rw [if_pos c] at e ⊢
  exact ka_congr e
 ·rw [if_neg c] at e ⊢
  exact ka_congr e
theorem ka_mirE {a : Array Keyed} {i j : Nat} (hj : j <= a.size) (he : ∀ k, i <= k -> k < j -> ka kf a k = ka kf a (j - 1)) (k : Nat) : ka kf (mirror a i j ((j - i) / 2)) k = ka kf a k := by
 rw [ka_mir hj]
 by_cases c : i <= k /\ k < j
 ·rw [if_pos c, he _ (by (first | lia | omega)) (by (first | lia | omega)), he k c.1 c.2]
 ·rw [if_neg c]
theorem ka_bub {a : Array Keyed} {src d : Nat} (hs : src < a.size) (hd : d <= src) (k : Nat) : ka kf (bubble a src d) k = if k = src - d then ka kf a src else if src - d < k /\ k <= src then ka kf a (k - 1) else ka kf a k := by
 have e := getElem?_bubble hs d hd k
 by_cases c : k = src - d
 ·rw [if_pos c] at e ⊢
  exact ka_congr e
 ·rw [if_neg c] at e ⊢
  by_cases c2 : src - d < k /\ k <= src
  ·rw [if_pos c2] at e ⊢
   exact ka_congr e
  ·rw [if_neg c2] at e ⊢
   exact ka_congr e
noncomputable def Sd (kf : Keyed -> O.α) (a : Array Keyed) (lo n : Nat) : Prop := ∀ i j, i <= j -> j < n -> O.kle (ka kf a (lo + i)) (ka kf a (lo + j))
noncomputable def Fd (kf : Keyed -> O.α) (a : Array Keyed) (lo n : Nat) : Prop := ∀ i j, i <= j -> j < n -> O.kle (ka kf a (lo + j)) (ka kf a (lo + i))
theorem Sd.one {a : Array Keyed} {lo : Nat} : Sd kf a lo 1 := fun i j h1 h2 => by
 have : i = j := by (first | lia | omega)
 subst this
 exact KeyOrd.kle_refl _
theorem Sd.more {a : Array Keyed} {lo n : Nat} (h : Sd kf a lo n) (h1 : 1 <= n) (e : O.kle (ka kf a (lo + n - 1)) (ka kf a (lo + n))) : Sd kf a lo (n + 1) := fun i j hij hj => by
 by_cases c : j < n
 ·exact h i j hij c
 ·have hj' : j = n := by (first | lia | omega)
  subst hj'
  by_cases ci : i = j
  ·subst ci
   exact KeyOrd.kle_refl _
  ·have := h i (j - 1) (by (first | lia | omega)) (by (first | lia | omega))
   rw [show lo + (j - 1) = lo + j - 1 by (first | lia | omega)] at this
   exact KeyOrd.kle_trans this e
theorem Fd.more {a : Array Keyed} {lo n : Nat} (h : Fd kf a lo n) (h1 : 1 <= n) (e : O.kle (ka kf a (lo + n)) (ka kf a (lo + n - 1))) : Fd kf a lo (n + 1) := fun i j hij hj => by
 by_cases c : j < n
 ·exact h i j hij c
 ·have hj' : j = n := by (first | lia | omega)
  subst hj'
  by_cases ci : i = j
  ·subst ci
   exact KeyOrd.kle_refl _
  ·have := h i (j - 1) (by (first | lia | omega)) (by (first | lia | omega))
   rw [show lo + (j - 1) = lo + j - 1 by (first | lia | omega)] at this
   exact KeyOrd.kle_trans e this
structure Wk (kd : SortKind) (a0 : Array Keyed) (lo : Nat) (pd : Array (Nat × Nat × Nat)) (st : SortSt) : Prop where
 perm : (arrOf st).Perm a0
 kind : kindOf st = kd
 failed : failedOf st = none
 pend : pendingOf st = pd
 pre : ∀ i, i < lo -> (arrOf st)[i]? = a0[i]?
variable {a0 : Array Keyed} {lo : Nat} {pd : Array (Nat × Nat × Nat)} {st : SortSt}
theorem Wk.size (B : Wk kd a0 lo pd st) : (arrOf st).size = a0.size := B.perm.size_eq
theorem Wk.mir (B : Wk kd a0 lo pd st) {i j : Nat} (h1 : lo <= i) (h2 : j <= a0.size) : Wk kd a0 lo pd (setArr st (mirror (arrOf st) i j ((j - i) / 2))) := by
 refine ⟨(mirror_perm _ _ _ _).trans B.perm, B.kind, B.failed, B.pend, fun k hk => ?_⟩
 show (mirror (arrOf st) i j ((j - i) / 2))[k]? = _
 rw [getElem?_mirror_all (by rw [B.size]; exact h2), if_neg (by (first | lia | omega))]
 exact B.pre k hk
theorem Wk.bub (B : Wk kd a0 lo pd st) {src d : Nat} (h1 : lo + d <= src) (h2 : src < a0.size) : Wk kd a0 lo pd (setArr st (bubble (arrOf st) src d)) := by
 refine ⟨(bubble_perm _ _ _).trans B.perm, B.kind, B.failed, B.pend, fun k hk => ?_⟩
 show (bubble (arrOf st) src d)[k]? = _
 rw [getElem?_bubble (by rw [B.size]; exact h2) d (by (first | lia | omega)), if_neg (by (first | lia | omega)), if_neg (by (first | lia | omega))]
 exact B.pre k hk
theorem Wk.ok (B : Wk kd a0 lo pd st) (ok : ∀ p ∈ a0.toList, okk p) {i : Nat} {p : Keyed} (h : (arrOf st)[i]? = some p) : okk p := by
 refine ok p ((Array.perm_iff_toList_perm.mp B.perm).mem_iff.mp (List.mem_of_getElem? (i := i) ?_))
 rw [<- h]
 simp
theorem ltA (C : Cmp M A E s kd O kf okk) (ok : ∀ p ∈ a0.toList, okk p) (B : Wk kd a0 lo pd st) {i j : Nat} (hi : i < a0.size) (hj : j < a0.size) {Q : Option Bool -> SortSt -> Prop} (h : Q (some (O.blt (ka kf (arrOf st) i) (ka kf (arrOf st) j))) st) : wpS M A E s (ltAt' i j) Q st := by
 obtain ⟨p1, e1⟩ : ∃ p, (arrOf st)[i]? = some p := ⟨_, Array.getElem?_eq_getElem (by rw [B.size]; exact hi)⟩
 obtain ⟨p2, e2⟩ : ∃ p, (arrOf st)[j]? = some p := ⟨_, Array.getElem?_eq_getElem (by rw [B.size]; exact hj)⟩
 rw [ka_at e1, ka_at e2] at h
 rw [ltAt'_eq]
 refine wpS_bind (wpS_get ?_)
 refine wpS_bind (wpS_elem e1 ?_)
 refine wpS_bind (wpS_elem e2 ?_)
 exact C.lt _ _ st _ (B.ok ok e1) (B.ok ok e2) B.kind h
theorem revA {i j : Nat} {Q : Unit -> SortSt -> Prop} (h : Q () (setArr st (mirror (arrOf st) i j ((j - i) / 2)))) : wpS M A E s (reverseSlice' i j) Q st := by
 rw [reverseSlice'_eq]
 exact wpS_modify h
end
end Srt
namespace Srt
open PySem PyProof.Rows
section
variable {M : Model} {A : Around} {E : Value -> Shared -> Prop} {s : Shared} {O : KeyOrd} {kf : Keyed -> O.α} {okk : Keyed -> Prop} {kd : SortKind} {a0 : Array Keyed} {lo : Nat} {pd : Array (Nat × Nat × Nat)} {st : SortSt}
theorem countA (C : Cmp M A E s kd O kf okk) (ok : ∀ p ∈ a0.toList, okk p) (B : Wk kd a0 lo pd st) {nrem : Nat} (hn : lo + nrem <= a0.size) (h1 : 1 <= nrem) {Q : Option Nat -> SortSt -> Prop}
  (h : ∀ m st', Wk kd a0 lo pd st' -> 1 <= m -> m <= nrem -> Sd kf (arrOf st') lo m -> Q (some m) st') : wpS M A E s (countRun' lo nrem) Q st := by
 unfold countRun'
 refine wpS_bind (wpS_mono (wpS_forRange (I := fun x c st' => st' = st /\ c = (none, x) /\ Sd kf (arrOf st) lo x) (Q := fun c st' => st' = st /\ ∃ n, c = (none, n) /\ 1 <= n /\ n <= nrem /\ Sd kf (arrOf st) lo n /\ (n = nrem ∨ O.klt (ka kf (arrOf st) (lo + n)) (ka kf (arrOf st) (lo + n - 1)))) ?step ?fin ⟨rfl, rfl, Sd.one⟩) ?post)
 case fin =>
  rintro c st' ⟨rfl, rfl, hs⟩
  rw [show max 1 nrem = nrem by (first | lia | omega)] at hs ⊢
  exact ⟨rfl, nrem, rfl, h1, Nat.le_refl _, hs, .inl rfl⟩
 case step =>
  rintro x c st' hx1 hx2 ⟨rfl, rfl, hs⟩
  dsimp only
  refine wpS_bind (ltA C ok B (by (first | lia | omega)) (by (first | lia | omega)) ?_)
  cases hb : O.blt (ka kf (arrOf st') (lo + x)) (ka kf (arrOf st') (lo + x - 1)) with
  | true =>
   dsimp only
   rw [if_pos rfl]
   exact wpS_pure ⟨rfl, x, rfl, hx1, by (first | lia | omega), hs, .inr hb⟩
  | false =>
   dsimp only
   rw [if_neg (by decide)]
   exact wpS_pure ⟨rfl, rfl, hs.more hx1 hb⟩
 case post =>
  rintro c st' ⟨rfl, n, rfl, hn1, hn2, hs, hor⟩
  dsimp only
  by_cases hnn : n = nrem
  ·rw [if_pos (by simpa using hnn)]
   exact wpS_pure (h n st' B hn1 hn2 hs)
  rw [if_neg (by simpa using hnn)]
  have hlt := hor.resolve_left hnn
  by_cases hgt : n > 1
  ·rw [if_pos hgt]
   refine wpS_bind (ltA C ok B (by (first | lia | omega)) (by (first | lia | omega)) ?_)
   cases hr : O.blt (ka kf (arrOf st') lo) (ka kf (arrOf st') (lo + n - 1)) with
   | true =>
    dsimp only
    rw [if_pos rfl]
    exact wpS_pure (h n st' B hn1 hn2 hs)
   | false =>
    dsimp only
    rw [if_neg (by decide)]
    refine wpS_bind (revA ?_)
    have hall : ∀ k, lo <= k -> k < lo + n -> ka kf (arrOf st') k = ka kf (arrOf st') (lo + n - 1) := fun k k1 k2 => by
     have a1 := hs 0 (k - lo) (by (first | lia | omega)) (by (first | lia | omega))
     have a2 := hs (k - lo) (n - 1) (by (first | lia | omega)) (by (first | lia | omega))
     rw [show lo + (k - lo) = k by (first | lia | omega)] at a1 a2
     rw [show lo + (n - 1) = lo + n - 1 by (first | lia | omega)] at a2
     rw [Nat.add_zero] at a1
     exact KeyOrd.kle_antisymm a2 (KeyOrd.kle_trans hr a1)
    have BB := B.mir (i := lo) (j := lo + n) (Nat.le_refl _) (by (first | lia | omega))
    have hF : Fd kf (arrOf (setArr st' (mirror (arrOf st') lo (lo + n) ((lo + n - lo) / 2)))) lo (n + 1) := by
     intro i j hij hj
     show O.kle (ka kf (mirror (arrOf st') lo (lo + n) ((lo + n - lo) / 2)) _) (ka kf (mirror (arrOf st') lo (lo + n) ((lo + n - lo) / 2)) _)
     rw [ka_mirE (by rw [B.size]; (first | lia | omega)) hall, ka_mirE (by rw [B.size]; (first | lia | omega)) hall]
     by_cases c : j < n
     ·rw [hall (lo + i) (by (first | lia | omega)) (by (first | lia | omega)), hall (lo + j) (by (first | lia | omega)) (by (first | lia | omega))]
      exact KeyOrd.kle_refl _
     ·have ej : j = n := by (first | lia | omega)
      subst ej
      by_cases ci : i = j
      ·subst ci
       exact KeyOrd.kle_refl _
      ·rw [hall (lo + i) (by (first | lia | omega)) (by (first | lia | omega))]
       exact KeyOrd.kle_of_klt hlt
    generalize setArr st' (mirror (arrOf st') lo (lo + n) ((lo + n - lo) / 2)) = st2 at BB hF ⊢
    clear hall hr
    refine wpS_bind (wpS_lift (wpAny_rule ⟨rfl, ?_⟩))
    refine wpS_bind (wpS_mono (wpS_forRange (I := fun x c st3 => ∃ neq, c = (none, x, neq) /\ Wk kd a0 lo pd st3 /\ Fd kf (arrOf st3) lo x /\ neq + 1 <= x /\ (∀ i, lo + x - (neq + 1) <= i -> i < lo + x -> ka kf (arrOf st3) i = ka kf (arrOf st3) (lo + x - 1))) (Q := fun c st3 => ∃ m neq, c = (none, m, neq) /\ Wk kd a0 lo pd st3 /\ n + 1 <= m /\ m <= nrem /\ Fd kf (arrOf st3) lo m /\ neq + 1 <= m /\ (∀ i, lo + m - (neq + 1) <= i -> i < lo + m -> ka kf (arrOf st3) i = ka kf (arrOf st3) (lo + m - 1))) ?step2 ?fin2 ⟨0, rfl, BB, hF, by (first | lia | omega), fun i _ _ => by congr 1; (first | lia | omega)⟩) ?post2)
    case fin2 =>
     rintro c st3 ⟨neq, rfl, B3, F3, hq, he⟩
     rw [show max (n + 1) nrem = nrem by (first | lia | omega)] at F3 hq he ⊢
     exact ⟨nrem, neq, rfl, B3, by (first | lia | omega), Nat.le_refl _, F3, hq, he⟩
    case step2 =>
     rintro x c st3 hx1 hx2 ⟨neq, rfl, B3, F3, hq, he⟩
     dsimp only
     have hsz : lo + x <= (arrOf st3).size := by rw [B3.size]; (first | lia | omega)
     refine wpS_bind (ltA C ok B3 (by (first | lia | omega)) (by (first | lia | omega)) ?_)
     cases hb : O.blt (ka kf (arrOf st3) (lo + x)) (ka kf (arrOf st3) (lo + x - 1)) with
     | true =>
      dsimp only
      rw [if_pos rfl]
      have F4 := F3.more (by (first | lia | omega)) (KeyOrd.kle_of_klt hb)
      by_cases hneq : neq > 0
      ·rw [if_pos hneq]
       refine wpS_bind (revA (wpS_pure ⟨0, rfl, B3.mir (by (first | lia | omega)) (by (first | lia | omega)), fun i j hij hj => ?_, by (first | lia | omega), fun i _ _ => by congr 1; (first | lia | omega)⟩))
       show O.kle (ka kf (mirror (arrOf st3) _ _ _) _) (ka kf (mirror (arrOf st3) _ _ _) _)
       rw [ka_mirE hsz he, ka_mirE hsz he]
       exact F4 i j hij hj
      ·rw [if_neg hneq]
       exact wpS_pure ⟨0, rfl, B3, F4, by (first | lia | omega), fun i _ _ => by congr 1; (first | lia | omega)⟩
     | false =>
      dsimp only
      rw [if_neg (by decide)]
      refine wpS_bind (ltA C ok B3 (by (first | lia | omega)) (by (first | lia | omega)) ?_)
      cases hb2 : O.blt (ka kf (arrOf st3) (lo + x - 1)) (ka kf (arrOf st3) (lo + x)) with
      | true =>
       dsimp only
       rw [if_pos rfl]
       exact wpS_pure ⟨x, neq, rfl, B3, by (first | lia | omega), by (first | lia | omega), F3, hq, he⟩
      | false =>
       dsimp only
       rw [if_neg (by decide)]
       have ex : ka kf (arrOf st3) (lo + x) = ka kf (arrOf st3) (lo + x - 1) := O.total _ _ hb hb2
       refine wpS_pure ⟨neq + 1, rfl, B3, F3.more (by (first | lia | omega)) hb2, by (first | lia | omega), fun i i1 i2 => ?_⟩
       rw [show lo + (x + 1) - 1 = lo + x by (first | lia | omega)]
       by_cases ci : i = lo + x
       ·rw [ci]
       ·rw [ex]
        exact he i (by (first | lia | omega)) (by (first | lia | omega))
    case post2 =>
     rintro c st3 ⟨m, neq, rfl, B3, hm1, hm2, F3, hq, he⟩
     dsimp only
     have hsz : lo + m <= (arrOf st3).size := by rw [B3.size]; (first | lia | omega)
     by_cases hneq : neq > 0
     ·rw [if_pos hneq]
      refine wpS_bind (revA ?_)
      have B4 := B3.mir (i := lo + m - (neq + 1)) (j := lo + m) (by (first | lia | omega)) (by (first | lia | omega))
      have F4 : Fd kf (arrOf (setArr st3 (mirror (arrOf st3) (lo + m - (neq + 1)) (lo + m) ((lo + m - (lo + m - (neq + 1))) / 2)))) lo m := fun i j hij hj => by
       show O.kle (ka kf (mirror (arrOf st3) _ _ _) _) (ka kf (mirror (arrOf st3) _ _ _) _)
       rw [ka_mirE hsz he, ka_mirE hsz he]
       exact F3 i j hij hj
      generalize setArr st3 (mirror (arrOf st3) (lo + m - (neq + 1)) (lo + m) ((lo + m - (lo + m - (neq + 1))) / 2)) = st4 at B4 F4 ⊢
      refine wpS_bind (revA ?_)
      have B5 := B4.mir (i := lo) (j := lo + m) (Nat.le_refl _) (by (first | lia | omega))
      have S5 : Sd kf (arrOf (setArr st4 (mirror (arrOf st4) lo (lo + m) ((lo + m - lo) / 2)))) lo m := fun i j hij hj => by
       show O.kle (ka kf (mirror (arrOf st4) _ _ _) _) (ka kf (mirror (arrOf st4) _ _ _) _)
       rw [ka_mir (by rw [B4.size]; (first | lia | omega)), ka_mir (by rw [B4.size]; (first | lia | omega)), if_pos (by (first | lia | omega)), if_pos (by (first | lia | omega)), show lo + (lo + m) - 1 - (lo + i) = lo + (m - 1 - i) by (first | lia | omega), show lo + (lo + m) - 1 - (lo + j) = lo + (m - 1 - j) by (first | lia | omega)]
       exact F4 _ _ (by (first | lia | omega)) (by (first | lia | omega))
      generalize setArr st4 (mirror (arrOf st4) lo (lo + m) ((lo + m - lo) / 2)) = st5 at B5 S5 ⊢
      refine wpS_bind (wpS_mono (wpS_forRange (I := fun x c st6 => st6 = st5 /\ c = (none, x) /\ Sd kf (arrOf st5) lo x) (Q := fun c st6 => st6 = st5 /\ ∃ k, c = (none, k) /\ 1 <= k /\ k <= nrem /\ Sd kf (arrOf st5) lo k) ?step3 ?fin3 ⟨rfl, rfl, S5⟩) ?post3)
      case fin3 =>
       rintro c st6 ⟨rfl, rfl, hs6⟩
       rw [show max m nrem = nrem by (first | lia | omega)] at hs6 ⊢
       exact ⟨rfl, nrem, rfl, by (first | lia | omega), Nat.le_refl _, hs6⟩
      case step3 =>
       rintro x c st6 hx1 hx2 ⟨rfl, rfl, hs6⟩
       dsimp only
       refine wpS_bind (ltA C ok B5 (by (first | lia | omega)) (by (first | lia | omega)) ?_)
       cases hb : O.blt (ka kf (arrOf st6) (lo + x)) (ka kf (arrOf st6) (lo + x - 1)) with
       | true =>
        dsimp only
        rw [if_pos rfl]
        exact wpS_pure ⟨rfl, x, rfl, by (first | lia | omega), by (first | lia | omega), hs6⟩
       | false =>
        dsimp only
        rw [if_neg (by decide)]
        exact wpS_pure ⟨rfl, rfl, hs6.more (by (first | lia | omega)) hb⟩
      case post3 =>
       rintro c st6 ⟨rfl, k, rfl, hk1, hk2, hs6⟩
       exact wpS_pure (h k _ B5 hk1 hk2 hs6)
     ·rw [if_neg hneq]
      have B4 := B3
      have F4 := F3
      generalize st3 = st4 at B4 F4 ⊢
      refine wpS_bind (revA ?_)
      have B5 := B4.mir (i := lo) (j := lo + m) (Nat.le_refl _) (by (first | lia | omega))
      have S5 : Sd kf (arrOf (setArr st4 (mirror (arrOf st4) lo (lo + m) ((lo + m - lo) / 2)))) lo m := fun i j hij hj => by
       show O.kle (ka kf (mirror (arrOf st4) _ _ _) _) (ka kf (mirror (arrOf st4) _ _ _) _)
       rw [ka_mir (by rw [B4.size]; (first | lia | omega)), ka_mir (by rw [B4.size]; (first | lia | omega)), if_pos (by (first | lia | omega)), if_pos (by (first | lia | omega)), show lo + (lo + m) - 1 - (lo + i) = lo + (m - 1 - i) by (first | lia | omega), show lo + (lo + m) - 1 - (lo + j) = lo + (m - 1 - j) by (first | lia | omega)]
       exact F4 _ _ (by (first | lia | omega)) (by (first | lia | omega))
      generalize setArr st4 (mirror (arrOf st4) lo (lo + m) ((lo + m - lo) / 2)) = st5 at B5 S5 ⊢
      refine wpS_bind (wpS_mono (wpS_forRange (I := fun x c st6 => st6 = st5 /\ c = (none, x) /\ Sd kf (arrOf st5) lo x) (Q := fun c st6 => st6 = st5 /\ ∃ k, c = (none, k) /\ 1 <= k /\ k <= nrem /\ Sd kf (arrOf st5) lo k) ?step3 ?fin3 ⟨rfl, rfl, S5⟩) ?post3)
      case fin3 =>
       rintro c st6 ⟨rfl, rfl, hs6⟩
       rw [show max m nrem = nrem by (first | lia | omega)] at hs6 ⊢
       exact ⟨rfl, nrem, rfl, by (first | lia | omega), Nat.le_refl _, hs6⟩
      case step3 =>
       rintro x c st6 hx1 hx2 ⟨rfl, rfl, hs6⟩
       dsimp only
       refine wpS_bind (ltA C ok B5 (by (first | lia | omega)) (by (first | lia | omega)) ?_)
       cases hb : O.blt (ka kf (arrOf st6) (lo + x)) (ka kf (arrOf st6) (lo + x - 1)) with
       | true =>
        dsimp only
        rw [if_pos rfl]
        exact wpS_pure ⟨rfl, x, rfl, by (first | lia | omega), by (first | lia | omega), hs6⟩
       | false =>
        dsimp only
        rw [if_neg (by decide)]
        exact wpS_pure ⟨rfl, rfl, hs6.more (by (first | lia | omega)) hb⟩
      case post3 =>
       rintro c st6 ⟨rfl, k, rfl, hk1, hk2, hs6⟩
       exact wpS_pure (h k _ B5 hk1 hk2 hs6)
  ·rw [if_neg hgt]
   have BB := B
   have hF : Fd kf (arrOf st') lo (n + 1) := by
    have e1 : n = 1 := by (first | lia | omega)
    subst e1
    intro i j hij hj
    by_cases ci : i = j
    ·subst ci
     exact KeyOrd.kle_refl _
    ·have ei : i = 0 := by (first | lia | omega)
     have ej : j = 1 := by (first | lia | omega)
     subst ei ej
     exact KeyOrd.kle_of_klt hlt
   generalize st' = st2 at BB hF ⊢
   refine wpS_bind (wpS_lift (wpAny_rule ⟨rfl, ?_⟩))
   refine wpS_bind (wpS_mono (wpS_forRange (I := fun x c st3 => ∃ neq, c = (none, x, neq) /\ Wk kd a0 lo pd st3 /\ Fd kf (arrOf st3) lo x /\ neq + 1 <= x /\ (∀ i, lo + x - (neq + 1) <= i -> i < lo + x -> ka kf (arrOf st3) i = ka kf (arrOf st3) (lo + x - 1))) (Q := fun c st3 => ∃ m neq, c = (none, m, neq) /\ Wk kd a0 lo pd st3 /\ n + 1 <= m /\ m <= nrem /\ Fd kf (arrOf st3) lo m /\ neq + 1 <= m /\ (∀ i, lo + m - (neq + 1) <= i -> i < lo + m -> ka kf (arrOf st3) i = ka kf (arrOf st3) (lo + m - 1))) ?step2 ?fin2 ⟨0, rfl, BB, hF, by (first | lia | omega), fun i _ _ => by congr 1; (first | lia | omega)⟩) ?post2)
   case fin2 =>
    rintro c st3 ⟨neq, rfl, B3, F3, hq, he⟩
    rw [show max (n + 1) nrem = nrem by (first | lia | omega)] at F3 hq he ⊢
    exact ⟨nrem, neq, rfl, B3, by (first | lia | omega), Nat.le_refl _, F3, hq, he⟩
   case step2 =>
    rintro x c st3 hx1 hx2 ⟨neq, rfl, B3, F3, hq, he⟩
    dsimp only
    have hsz : lo + x <= (arrOf st3).size := by rw [B3.size]; (first | lia | omega)
    refine wpS_bind (ltA C ok B3 (by (first | lia | omega)) (by (first | lia | omega)) ?_)
    cases hb : O.blt (ka kf (arrOf st3) (lo + x)) (ka kf (arrOf st3) (lo + x - 1)) with
    | true =>
     dsimp only
     rw [if_pos rfl]
     have F4 := F3.more (by (first | lia | omega)) (KeyOrd.kle_of_klt hb)
     by_cases hneq : neq > 0
     ·rw [if_pos hneq]
      refine wpS_bind (revA (wpS_pure ⟨0, rfl, B3.mir (by (first | lia | omega)) (by (first | lia | omega)), fun i j hij hj => ?_, by (first | lia | omega), fun i _ _ => by congr 1; (first | lia | omega)⟩))
      show O.kle (ka kf (mirror (arrOf st3) _ _ _) _) (ka kf (mirror (arrOf st3) _ _ _) _)
      rw [ka_mirE hsz he, ka_mirE hsz he]
      exact F4 i j hij hj
     ·rw [if_neg hneq]
      exact wpS_pure ⟨0, rfl, B3, F4, by (first | lia | omega), fun i _ _ => by congr 1; (first | lia | omega)⟩
    | false =>
     dsimp only
     rw [if_neg (by decide)]
     refine wpS_bind (ltA C ok B3 (by (first | lia | omega)) (by (first | lia | omega)) ?_)
     cases hb2 : O.blt (ka kf (arrOf st3) (lo + x - 1)) (ka kf (arrOf st3) (lo + x)) with
     | true =>
      dsimp only
      rw [if_pos rfl]
      exact wpS_pure ⟨x, neq, rfl, B3, by (first | lia | omega), by (first | lia | omega), F3, hq, he⟩
     | false =>
      dsimp only
      rw [if_neg (by decide)]
      have ex : ka kf (arrOf st3) (lo + x) = ka kf (arrOf st3) (lo + x - 1) := O.total _ _ hb hb2
      refine wpS_pure ⟨neq + 1, rfl, B3, F3.more (by (first | lia | omega)) hb2, by (first | lia | omega), fun i i1 i2 => ?_⟩
      rw [show lo + (x + 1) - 1 = lo + x by (first | lia | omega)]
      by_cases ci : i = lo + x
      ·rw [ci]
      ·rw [ex]
       exact he i (by (first | lia | omega)) (by (first | lia | omega))
   case post2 =>
    rintro c st3 ⟨m, neq, rfl, B3, hm1, hm2, F3, hq, he⟩
    dsimp only
    have hsz : lo + m <= (arrOf st3).size := by rw [B3.size]; (first | lia | omega)
    by_cases hneq : neq > 0
    ·rw [if_pos hneq]
     refine wpS_bind (revA ?_)
     have B4 := B3.mir (i := lo + m - (neq + 1)) (j := lo + m) (by (first | lia | omega)) (by (first | lia | omega))
     have F4 : Fd kf (arrOf (setArr st3 (mirror (arrOf st3) (lo + m - (neq + 1)) (lo + m) ((lo + m - (lo + m - (neq + 1))) / 2)))) lo m := fun i j hij hj => by
      show O.kle (ka kf (mirror (arrOf st3) _ _ _) _) (ka kf (mirror (arrOf st3) _ _ _) _)
      rw [ka_mirE hsz he, ka_mirE hsz he]
      exact F3 i j hij hj
     generalize setArr st3 (mirror (arrOf st3) (lo + m - (neq + 1)) (lo + m) ((lo + m - (lo + m - (neq + 1))) / 2)) = st4 at B4 F4 ⊢
     refine wpS_bind (revA ?_)
     have B5 := B4.mir (i := lo) (j := lo + m) (Nat.le_refl _) (by (first | lia | omega))
     have S5 : Sd kf (arrOf (setArr st4 (mirror (arrOf st4) lo (lo + m) ((lo + m - lo) / 2)))) lo m := fun i j hij hj => by
      show O.kle (ka kf (mirror (arrOf st4) _ _ _) _) (ka kf (mirror (arrOf st4) _ _ _) _)
      rw [ka_mir (by rw [B4.size]; (first | lia | omega)), ka_mir (by rw [B4.size]; (first | lia | omega)), if_pos (by (first | lia | omega)), if_pos (by (first | lia | omega)), show lo + (lo + m) - 1 - (lo + i) = lo + (m - 1 - i) by (first | lia | omega), show lo + (lo + m) - 1 - (lo + j) = lo + (m - 1 - j) by (first | lia | omega)]
      exact F4 _ _ (by (first | lia | omega)) (by (first | lia | omega))
     generalize setArr st4 (mirror (arrOf st4) lo (lo + m) ((lo + m - lo) / 2)) = st5 at B5 S5 ⊢
     refine wpS_bind (wpS_mono (wpS_forRange (I := fun x c st6 => st6 = st5 /\ c = (none, x) /\ Sd kf (arrOf st5) lo x) (Q := fun c st6 => st6 = st5 /\ ∃ k, c = (none, k) /\ 1 <= k /\ k <= nrem /\ Sd kf (arrOf st5) lo k) ?step3 ?fin3 ⟨rfl, rfl, S5⟩) ?post3)
     case fin3 =>
      rintro c st6 ⟨rfl, rfl, hs6⟩
      rw [show max m nrem = nrem by (first | lia | omega)] at hs6 ⊢
      exact ⟨rfl, nrem, rfl, by (first | lia | omega), Nat.le_refl _, hs6⟩
     case step3 =>
      rintro x c st6 hx1 hx2 ⟨rfl, rfl, hs6⟩
      dsimp only
      refine wpS_bind (ltA C ok B5 (by (first | lia | omega)) (by (first | lia | omega)) ?_)
      cases hb : O.blt (ka kf (arrOf st6) (lo + x)) (ka kf (arrOf st6) (lo + x - 1)) with
      | true =>
       dsimp only
       rw [if_pos rfl]
       exact wpS_pure ⟨rfl, x, rfl, by (first | lia | omega), by (first | lia | omega), hs6⟩
      | false =>
       dsimp only
       rw [if_neg (by decide)]
       exact wpS_pure ⟨rfl, rfl, hs6.more (by (first | lia | omega)) hb⟩
     case post3 =>
      rintro c st6 ⟨rfl, k, rfl, hk1, hk2, hs6⟩
      exact wpS_pure (h k _ B5 hk1 hk2 hs6)
    ·rw [if_neg hneq]
     have B4 := B3
     have F4 := F3
     generalize st3 = st4 at B4 F4 ⊢
     refine wpS_bind (revA ?_)
     have B5 := B4.mir (i := lo) (j := lo + m) (Nat.le_refl _) (by (first | lia | omega))
     have S5 : Sd kf (arrOf (setArr st4 (mirror (arrOf st4) lo (lo + m) ((lo + m - lo) / 2)))) lo m := fun i j hij hj => by
      show O.kle (ka kf (mirror (arrOf st4) _ _ _) _) (ka kf (mirror (arrOf st4) _ _ _) _)
      rw [ka_mir (by rw [B4.size]; (first | lia | omega)), ka_mir (by rw [B4.size]; (first | lia | omega)), if_pos (by (first | lia | omega)), if_pos (by (first | lia | omega)), show lo + (lo + m) - 1 - (lo + i) = lo + (m - 1 - i) by (first | lia | omega), show lo + (lo + m) - 1 - (lo + j) = lo + (m - 1 - j) by (first | lia | omega)]
      exact F4 _ _ (by (first | lia | omega)) (by (first | lia | omega))
     generalize setArr st4 (mirror (arrOf st4) lo (lo + m) ((lo + m - lo) / 2)) = st5 at B5 S5 ⊢
     refine wpS_bind (wpS_mono (wpS_forRange (I := fun x c st6 => st6 = st5 /\ c = (none, x) /\ Sd kf (arrOf st5) lo x) (Q := fun c st6 => st6 = st5 /\ ∃ k, c = (none, k) /\ 1 <= k /\ k <= nrem /\ Sd kf (arrOf st5) lo k) ?step3 ?fin3 ⟨rfl, rfl, S5⟩) ?post3)
     case fin3 =>
      rintro c st6 ⟨rfl, rfl, hs6⟩
      rw [show max m nrem = nrem by (first | lia | omega)] at hs6 ⊢
      exact ⟨rfl, nrem, rfl, by (first | lia | omega), Nat.le_refl _, hs6⟩
     case step3 =>
      rintro x c st6 hx1 hx2 ⟨rfl, rfl, hs6⟩
      dsimp only
      refine wpS_bind (ltA C ok B5 (by (first | lia | omega)) (by (first | lia | omega)) ?_)
      cases hb : O.blt (ka kf (arrOf st6) (lo + x)) (ka kf (arrOf st6) (lo + x - 1)) with
      | true =>
       dsimp only
       rw [if_pos rfl]
       exact wpS_pure ⟨rfl, x, rfl, by (first | lia | omega), by (first | lia | omega), hs6⟩
      | false =>
       dsimp only
       rw [if_neg (by decide)]
       exact wpS_pure ⟨rfl, rfl, hs6.more (by (first | lia | omega)) hb⟩
     case post3 =>
      rintro c st6 ⟨rfl, k, rfl, hk1, hk2, hs6⟩
      exact wpS_pure (h k _ B5 hk1 hk2 hs6)
end
end Srt
namespace Srt
open PySem PyProof.Rows
section
variable {M : Model} {A : Around} {E : Value -> Shared -> Prop} {s : Shared} {O : KeyOrd} {kf : Keyed -> O.α} {okk : Keyed -> Prop} {kd : SortKind} {a0 : Array Keyed} {lo : Nat} {pd : Array (Nat × Nat × Nat)} {st : SortSt}
theorem binA (C : Cmp M A E s kd O kf okk) (ok : ∀ p ∈ a0.toList, okk p) (B : Wk kd a0 lo pd st) {n m : Nat} (hn : lo + n <= a0.size) (hm : m <= n) (hs : Sd kf (arrOf st) lo m) {Q : Bool -> SortSt -> Prop}
  (h : ∀ st', Wk kd a0 lo pd st' -> Sd kf (arrOf st') lo n -> Q true st') : wpS M A E s (binarySort' lo n m) Q st := by
 unfold binarySort'
 refine wpS_bind (wpS_mono (wpS_forRange (I := fun k c st' => c = (none, ()) /\ Wk kd a0 lo pd st' /\ Sd kf (arrOf st') lo (min k n)) (Q := fun c st' => c = (none, ()) /\ Wk kd a0 lo pd st' /\ Sd kf (arrOf st') lo n) ?step ?fin ⟨rfl, B, ?init⟩) ?post)
 case post =>
  rintro c st' ⟨rfl, B', hs'⟩
  exact wpS_pure (h st' B' hs')
 case init =>
  intro i j hij hj
  by_cases c : m = 0
  ·have e : i = j := by (first | lia | omega)
   subst e
   exact KeyOrd.kle_refl _
  ·exact hs i j hij (by (first | lia | omega))
 case fin =>
  rintro c st' ⟨hc, B', hs'⟩
  rw [show min (max (max m 1) n) n = n by (first | lia | omega)] at hs'
  exact ⟨hc, B', hs'⟩
 case step =>
  rintro k c st' hk1 hk2 ⟨rfl, B', hs'⟩
  rw [show min k n = k by (first | lia | omega)] at hs'
  refine wpS_bind (wpS_mono (wpS_forRange (I := fun x c st2 => st2 = st' /\ ∃ l r, c = (none, l, r) /\ l <= r /\ r <= k /\ r - l <= k - x /\ (∀ i, i < l -> O.kle (ka kf (arrOf st') (lo + i)) (ka kf (arrOf st') (lo + k))) /\ (∀ i, r <= i -> i < k -> O.klt (ka kf (arrOf st') (lo + k)) (ka kf (arrOf st') (lo + i))))
   (Q := fun c st2 => st2 = st' /\ ∃ l r, c = (none, l, r) /\ l <= k /\ (∀ i, i < l -> O.kle (ka kf (arrOf st') (lo + i)) (ka kf (arrOf st') (lo + k))) /\ (∀ i, l <= i -> i < k -> O.klt (ka kf (arrOf st') (lo + k)) (ka kf (arrOf st') (lo + i)))) ?st2 ?fi2 ⟨rfl, 0, k, rfl, by (first | lia | omega), by (first | lia | omega), by (first | lia | omega), fun i hi => by (first | lia | omega), fun i i1 i2 => by (first | lia | omega)⟩) ?po2)
  case fi2 =>
   rintro c st2 ⟨rfl, l, r, rfl, h1, h2, h3, h4, h5⟩
   have e : l = r := by (first | lia | omega)
   subst e
   exact ⟨rfl, l, l, rfl, h2, h4, h5⟩
  case st2 =>
   rintro x c st2 _ hx ⟨rfl, l, r, rfl, h1, h2, h3, h4, h5⟩
   dsimp only
   by_cases hge : l ≥ r
   ·rw [if_pos hge]
    have e : l = r := by (first | lia | omega)
    subst e
    exact wpS_pure ⟨rfl, l, l, rfl, h2, h4, h5⟩
   ·rw [if_neg hge]
    refine wpS_bind (ltA C ok B' (by (first | lia | omega)) (by (first | lia | omega)) ?_)
    cases hb : O.blt (ka kf (arrOf st2) (lo + k)) (ka kf (arrOf st2) (lo + (l + r) / 2)) with
    | true =>
     dsimp only
     rw [if_pos rfl]
     exact wpS_pure ⟨rfl, l, (l + r) / 2, rfl, by (first | lia | omega), by (first | lia | omega), by (first | lia | omega), h4, fun i i1 i2 => KeyOrd.klt_of_klt_of_kle hb (hs' _ _ i1 i2)⟩
    | false =>
     dsimp only
     rw [if_neg (by decide)]
     exact wpS_pure ⟨rfl, (l + r) / 2 + 1, r, rfl, by (first | lia | omega), by (first | lia | omega), by (first | lia | omega), fun i i1 => KeyOrd.kle_trans (hs' i ((l + r) / 2) (by (first | lia | omega)) (by (first | lia | omega))) hb, h5⟩
  case po2 =>
   rintro c st2 ⟨rfl, l, r, rfl, h1, h2, h3⟩
   dsimp only
   have hz : lo + k < (arrOf st2).size := by rw [B'.size]; (first | lia | omega)
   refine wpS_bind (show wpS M A E s (moveDown' (lo + k) (lo + l)) _ st2 from ?_)
   rw [moveDown'_eq]
   refine wpS_modify (wpS_pure ⟨rfl, B'.bub (by (first | lia | omega)) (by (first | lia | omega)), ?_⟩)
   rw [show min (k + 1) n = k + 1 by (first | lia | omega)]
   intro i j hij hj
   show O.kle (ka kf (bubble (arrOf st2) (lo + k) (lo + k - (lo + l))) (lo + i)) (ka kf (bubble (arrOf st2) (lo + k) (lo + k - (lo + l))) (lo + j))
   rw [ka_bub hz (by (first | lia | omega)), ka_bub hz (by (first | lia | omega)), show lo + k - (lo + k - (lo + l)) = lo + l by (first | lia | omega)]
   by_cases ci : i < l
   ·rw [if_neg (by (first | lia | omega)), if_neg (by (first | lia | omega))]
    by_cases cj : j < l
    ·rw [if_neg (by (first | lia | omega)), if_neg (by (first | lia | omega))]
     exact hs' i j hij (by (first | lia | omega))
    ·by_cases ej : j = l
     ·rw [if_pos (by (first | lia | omega))]
      exact h2 i ci
     ·rw [if_neg (by (first | lia | omega)), if_pos (by (first | lia | omega)), show lo + j - 1 = lo + (j - 1) by (first | lia | omega)]
      exact hs' i (j - 1) (by (first | lia | omega)) (by (first | lia | omega))
   ·by_cases ei : i = l
    ·rw [if_pos (by (first | lia | omega))]
     by_cases ej : j = l
     ·rw [if_pos (by (first | lia | omega))]
      exact KeyOrd.kle_refl _
     ·rw [if_neg (by (first | lia | omega)), if_pos (by (first | lia | omega)), show lo + j - 1 = lo + (j - 1) by (first | lia | omega)]
      exact KeyOrd.kle_of_klt (h3 (j - 1) (by (first | lia | omega)) (by (first | lia | omega)))
    ·rw [if_neg (by (first | lia | omega)), if_pos (by (first | lia | omega)), if_neg (by (first | lia | omega)), if_pos (by (first | lia | omega)), show lo + j - 1 = lo + (j - 1) by (first | lia | omega), show lo + i - 1 = lo + (i - 1) by (first | lia | omega)]
     exact hs' (i - 1) (j - 1) (by (first | lia | omega)) (by (first | lia | omega))
end
end Srt
namespace Srt
open PySem PyProof.Rows
noncomputable def mergeAt' : Nat -> StateT SortSt Sem Bool := sortPriv% PySem.Builtin.mergeAt
section
variable {M : Model} {A : Around} {E : Value -> Shared -> Prop} {s : Shared} {O : KeyOrd} {kf : Keyed -> O.α} {okk : Keyed -> Prop} {kd : SortKind} {st : SortSt}
theorem RunUp.join {a : Array Keyed} {x y z : Nat} (r1 : RunUp kf a x y) (r2 : RunUp kf a y z) (h : ∀ i j p q, x <= i -> i < y -> y <= j -> j < z -> a[i]? = some p -> a[j]? = some q -> O.kle (kf p) (kf q)) : RunUp kf a x z := fun i j p q h1 h2 h3 hp hq => by
 by_cases c1 : j < y
 ·exact r1 i j p q h1 h2 c1 hp hq
 ·by_cases c2 : i < y
  ·exact h i j p q h1 c2 (by (first | lia | omega)) h3 hp hq
  ·exact r2 i j p q (by (first | lia | omega)) h2 h3 hp hq
theorem RunUp.sub {a : Array Keyed} {x y x' y' : Nat} (r : RunUp kf a x y) (h1 : x <= x') (h2 : y' <= y) : RunUp kf a x' y' := fun i j p q a1 a2 a3 hp hq => r i j p q (by (first | lia | omega)) a2 (by (first | lia | omega)) hp hq
theorem mergeA (C : Cmp M A E s kd O kf okk) (ok : ∀ p ∈ (arrOf st).toList, okk p) (hk : kindOf st = kd) (hf : failedOf st = none) {i sa na pw sb nb z : Nat} (h1 : (pendingOf st)[i]? = some (sa, na, pw)) (h2 : (pendingOf st)[i + 1]? = some (sb, nb, z)) (e : sb = sa + na) (hna : 0 < na) (hnb : 0 < nb) (hz : sb + nb <= (arrOf st).size)
  (r1 : RunUp kf (arrOf st) sa sb) (r2 : RunUp kf (arrOf st) sb (sb + nb)) {Q : Bool -> SortSt -> Prop}
  (h : ∀ st', (arrOf st').Perm (arrOf st) -> kindOf st' = kd -> failedOf st' = none -> pendingOf st' = ((pendingOf st).setIfInBounds i (sa, na + nb, pw)).eraseIdxIfInBounds (i + 1) -> RunUp kf (arrOf st') sa (sb + nb) -> (∀ j, j < sa ∨ sb + nb <= j -> (arrOf st')[j]? = (arrOf st)[j]?) -> Q true st') : wpS M A E s (mergeAt' i) Q st := by
 unfold mergeAt'
 refine wpS_bind (wpS_get ?_)
 simp only [h1, h2]
 refine wpS_bind (wpS_modify (f := fun _ => _) ?_)
 have mem : ∀ {j : Nat} {p : Keyed}, (arrOf st)[j]? = some p -> okk p := fun {j p} g => ok p (List.mem_of_getElem? (i := j) (by rw [<- g]; simp))
 have at_ : ∀ j, j < (arrOf st).size -> ∃ p, (arrOf st)[j]? = some p := fun j hj => ⟨_, Array.getElem?_eq_getElem hj⟩
 obtain ⟨pb, hpb⟩ := at_ sb (by (first | lia | omega))
 have hq : ∀ st', arrOf st' = arrOf st -> kindOf st' = kd -> failedOf st' = none -> pendingOf st' = ((pendingOf st).setIfInBounds i (sa, na + nb, pw)).eraseIdxIfInBounds (i + 1) -> RunUp kf (arrOf st) sa (sb + nb) -> Q true st' := fun st' e1 e2 e3 e4 e5 => h st' (by rw [e1]) e2 e3 e4 (by rw [e1]; exact e5) (fun j _ => by rw [e1])
 refine wpS_bind (wpS_elem (arr := arrOf st) hpb ?_)
 have hk' : kindOf (setPending st (((pendingOf st).setIfInBounds i (sa, na + nb, pw)).eraseIdxIfInBounds (i + 1))) = kd := hk
 refine wpS_bind (gallopR0 (st := setPending st (((pendingOf st).setIfInBounds i (sa, na + nb, pw)).eraseIdxIfInBounds (i + 1))) C hk' ok (mem hpb) (r1.sub (Nat.le_refl _) (by (first | lia | omega))) (show sa + na <= (arrOf st).size by (first | lia | omega)) hna fun k hk1 g1 g2 => ?_)
 dsimp only
 by_cases c0 : na - k = 0
 ·rw [if_pos (by simpa using c0)]
  refine wpS_pure (hq _ rfl hk hf rfl (r1.join r2 fun x y p q x1 x2 y1 y2 hp hq => ?_))
  have a1 := g1 (x - sa) p (by (first | lia | omega)) (by rw [show sa + (x - sa) = x by (first | lia | omega)]; exact hp)
  exact KeyOrd.kle_trans a1 (r2 sb y pb q (Nat.le_refl _) y1 y2 hpb hq)
 rw [if_neg (by simpa using c0)]
 obtain ⟨pl, hpl⟩ := at_ (sa + k + (na - k) - 1) (by (first | lia | omega))
 refine wpS_bind (wpS_elem (arr := arrOf st) hpl ?_)
 refine wpS_bind (gallopL0 (st := setPending st (((pendingOf st).setIfInBounds i (sa, na + nb, pw)).eraseIdxIfInBounds (i + 1))) C hk' ok (mem hpl) r2 hz (by (first | lia | omega)) fun k2 hk2 g3 g4 => ?_)
 dsimp only
 by_cases c1 : k2 = 0
 ·rw [if_pos (by simpa using c1)]
  refine wpS_pure (hq _ rfl hk hf rfl (r1.join r2 fun x y p q x1 x2 y1 y2 hp hq => ?_))
  have a1 := g4 (y - sb) q (by (first | lia | omega)) (by (first | lia | omega)) (by rw [show sb + (y - sb) = y by (first | lia | omega)]; exact hq)
  exact KeyOrd.kle_trans (r1 x _ p pl x1 (by (first | lia | omega)) (by (first | lia | omega)) hp hpl) a1
 rw [if_neg (by simpa using c1)]
 have X1 : KeysUp kf ((arrOf st).extract (sa + k) sb) := ext_up (by (first | lia | omega)) (r1.sub (by (first | lia | omega)) (Nat.le_refl _))
 have X2 : KeysUp kf ((arrOf st).extract sb (sb + k2)) := ext_up (by (first | lia | omega)) (r2.sub (Nat.le_refl _) (by (first | lia | omega)))
 have z1 : ((arrOf st).extract (sa + k) sb).size = na - k := by rw [Array.size_extract]; (first | lia | omega)
 have z2 : ((arrOf st).extract sb (sb + k2)).size = k2 := by rw [Array.size_extract]; (first | lia | omega)
 have o1 : ∀ p ∈ ((arrOf st).extract (sa + k) sb).toList, okk p := fun p hp => by
  obtain ⟨m, _, _, g⟩ := ext_mem (by (first | lia | omega)) hp
  exact mem g
 have o2 : ∀ p ∈ ((arrOf st).extract sb (sb + k2)).toList, okk p := fun p hp => by
  obtain ⟨m, _, _, g⟩ := ext_mem (by (first | lia | omega)) hp
  exact mem g
 have f0 : ∀ p q, ((arrOf st).extract sb (sb + k2))[0]? = some p -> ((arrOf st).extract (sa + k) sb)[0]? = some q -> O.klt (kf p) (kf q) := fun p q hp hq => by
  rw [ext_at (by (first | lia | omega)) (by (first | lia | omega)), Nat.add_zero] at hp hq
  rw [hpb] at hp
  cases hp
  exact g2 k q (Nat.le_refl _) (by (first | lia | omega)) hq
 have fl : ∀ p q, ((arrOf st).extract (sa + k) sb)[((arrOf st).extract (sa + k) sb).size - 1]? = some p -> q ∈ ((arrOf st).extract sb (sb + k2)).toList -> O.klt (kf q) (kf p) := fun p q hp hq => by
  rw [z1, ext_at (by (first | lia | omega)) (by (first | lia | omega)), show sa + k + (na - k - 1) = sa + k + (na - k) - 1 by (first | lia | omega), hpl] at hp
  cases hp
  obtain ⟨m, m1, m2, g⟩ := ext_mem (by (first | lia | omega)) hq
  exact g3 (m - sb) q (by (first | lia | omega)) (by rw [show sb + (m - sb) = m by (first | lia | omega)]; exact g)
 have fin : ∀ (r : Array Keyed) (g : Nat), Res kf ((arrOf st).extract (sa + k) sb) ((arrOf st).extract sb (sb + k2)) r -> ∀ st', arrOf st' = put r.toList (sa + k) (arrOf st) -> kindOf st' = kd -> failedOf st' = none -> pendingOf st' = ((pendingOf st).setIfInBounds i (sa, na + nb, pw)).eraseIdxIfInBounds (i + 1) -> Q true st' := fun r g R st' e1 e2 e3 e4 => by
  have rsz : r.size = (sb + k2) - (sa + k) := by
   have := R.1.length_eq
   rw [List.length_append, Array.length_toList, Array.length_toList, Array.length_toList, z1, z2] at this
   (first | lia | omega)
  have rmem : ∀ q ∈ r.toList, ∃ m, sa + k <= m /\ m < sb + k2 /\ (arrOf st)[m]? = some q := fun q hq => by
   rcases List.mem_append.mp (R.1.mem_iff.mp hq) with g | g
   ·obtain ⟨m, m1, m2, m3⟩ := ext_mem (by (first | lia | omega)) g
    exact ⟨m, m1, by (first | lia | omega), m3⟩
   ·obtain ⟨m, m1, m2, m3⟩ := ext_mem (by (first | lia | omega)) g
    exact ⟨m, by (first | lia | omega), m2, m3⟩
  refine h st' ?_ e2 e3 e4 ?_ fun j hj => ?_
  ·rw [e1]
   exact put_perm (by (first | lia | omega)) (by (first | lia | omega)) (by (first | lia | omega)) R.1
  ·rw [e1]
   refine put_run rsz (by (first | lia | omega)) (by (first | lia | omega)) (by (first | lia | omega)) (by (first | lia | omega)) R.2 (r1.sub (Nat.le_refl _) (by (first | lia | omega))) (r2.sub (by (first | lia | omega)) (Nat.le_refl _)) ?_ ?_ ?_
   ·intro x p x1 x2 hp q hq
    obtain ⟨m, m1, m2, m3⟩ := rmem q hq
    by_cases cm : m < sb
    ·exact r1 x m p q x1 (by (first | lia | omega)) cm hp m3
    ·have a1 := g1 (x - sa) p (by (first | lia | omega)) (by rw [show sa + (x - sa) = x by (first | lia | omega)]; exact hp)
     exact KeyOrd.kle_trans a1 (r2 sb m pb q (Nat.le_refl _) (by (first | lia | omega)) (by (first | lia | omega)) hpb m3)
   ·intro y q y1 y2 hq p hp
    obtain ⟨m, m1, m2, m3⟩ := rmem p hp
    by_cases cm : m < sb
    ·have a1 := g4 (y - sb) q (by (first | lia | omega)) (by (first | lia | omega)) (by rw [show sb + (y - sb) = y by (first | lia | omega)]; exact hq)
     exact KeyOrd.kle_trans (r1 m _ p pl (by (first | lia | omega)) (by (first | lia | omega)) (by (first | lia | omega)) m3 hpl) a1
    ·exact r2 m y p q (by (first | lia | omega)) (by (first | lia | omega)) y2 m3 hq
   ·intro x y p q x1 x2 y1 y2 hp hq
    have a1 := g1 (x - sa) p (by (first | lia | omega)) (by rw [show sa + (x - sa) = x by (first | lia | omega)]; exact hp)
    exact KeyOrd.kle_trans a1 (r2 sb y pb q (Nat.le_refl _) (by (first | lia | omega)) y2 hpb hq)
  ·rw [e1, put_at (by (first | lia | omega)), if_neg (by (first | lia | omega))]
 by_cases c2 : na - k <= k2
 ·rw [if_pos c2]
  refine wpS_bind (wpS_mergeLo (st := setPending st (((pendingOf st).setIfInBounds i (sa, na + nb, pw)).eraseIdxIfInBounds (i + 1))) C hk' o1 o2 X1 X2 (show 0 < ((arrOf st).extract (sa + k) sb).size by (first | lia | omega)) (show 0 < ((arrOf st).extract sb (sb + k2)).size by (first | lia | omega)) (fun p q hp hq => KeyOrd.kle_of_klt (f0 p q hp hq)) fl fun r g R => ?_)
  refine wpS_bind (wpS_modify (wpS_bind (wpS_get ?_)))
  have e : Option.isNone (failedOf st) = true := by rw [hf]; rfl
  refine wpS_pure ?_
  dsimp only
  rw [e]
  exact fin r g R _ rfl hk hf rfl
 ·rw [if_neg c2]
  refine wpS_bind (wpS_mergeHi (st := setPending st (((pendingOf st).setIfInBounds i (sa, na + nb, pw)).eraseIdxIfInBounds (i + 1))) C hk' o1 o2 X1 X2 (show 0 < ((arrOf st).extract (sa + k) sb).size by (first | lia | omega)) (show 0 < ((arrOf st).extract sb (sb + k2)).size by (first | lia | omega)) f0 fl fun r g R => ?_)
  refine wpS_bind (wpS_modify (wpS_bind (wpS_get ?_)))
  have e : Option.isNone (failedOf st) = true := by rw [hf]; rfl
  refine wpS_pure ?_
  dsimp only
  rw [e]
  exact fin r g R _ rfl hk hf rfl
end
end Srt
namespace Srt
open PySem PyProof.Rows
noncomputable def Ch : Nat -> List (Nat × Nat × Nat) -> Nat -> Prop
 | s, [], e => s = e
 | s, x :: r, e => x.1 = s /\ 1 <= x.2.1 /\ Ch (s + x.2.1) r e
theorem Ch.append {l m : List (Nat × Nat × Nat)} : ∀ {s e : Nat}, Ch s (l ++ m) e -> ∃ k, Ch s l k /\ Ch k m e := by
 induction l with
 | nil => exact fun {s e} h => ⟨s, rfl, h⟩
 | cons x l ih =>
  intro s e h
  obtain ⟨h1, h2, h3⟩ := h
  obtain ⟨k, a, b⟩ := ih h3
  exact ⟨k, ⟨h1, h2, a⟩, b⟩
theorem Ch.app {l m : List (Nat × Nat × Nat)} : ∀ {s k e : Nat}, Ch s l k -> Ch k m e -> Ch s (l ++ m) e := by
 induction l with
 | nil =>
  intro s k e h g
  cases (show s = k from h)
  exact g
 | cons x l ih => exact fun {s k e} h g => ⟨h.1, h.2.1, ih h.2.2 g⟩
theorem Ch.len {l : List (Nat × Nat × Nat)} : ∀ {s e : Nat}, Ch s l e -> s + l.length <= e := by
 induction l with
 | nil => exact fun {s e} h => by cases (show s = e from h); exact Nat.le_refl _
 | cons x l ih =>
  intro s e h
  have := ih h.2.2
  have := h.2.1
  rw [List.length_cons]
  (first | lia | omega)
theorem Ch.mem {l : List (Nat × Nat × Nat)} : ∀ {s e : Nat}, Ch s l e -> ∀ x ∈ l, s <= x.1 /\ 1 <= x.2.1 /\ x.1 + x.2.1 <= e := by
 induction l with
 | nil => exact fun _ x hx => by cases hx
 | cons y l ih =>
  intro s e h x hx
  have hl := h.2.2.len
  have h1 := h.1
  have h2 := h.2.1
  rcases List.mem_cons.mp hx with rfl | hx
  ·exact ⟨by (first | lia | omega), h2, by (first | lia | omega)⟩
  ·have := ih h.2.2 x hx
   exact ⟨by (first | lia | omega), this.2.1, this.2.2⟩
section
variable {M : Model} {A : Around} {E : Value -> Shared -> Prop} {s : Shared} {O : KeyOrd} {kf : Keyed -> O.α} {okk : Keyed -> Prop} {kd : SortKind} {a0 : Array Keyed} {lo : Nat} {st : SortSt}
structure Stk (kf : Keyed -> O.α) (kd : SortKind) (a0 : Array Keyed) (lo : Nat) (st : SortSt) : Prop where
 perm : (arrOf st).Perm a0
 kind : kindOf st = kd
 failed : failedOf st = none
 ch : Ch 0 (pendingOf st).toList lo
 runs : ∀ x ∈ (pendingOf st).toList, RunUp kf (arrOf st) x.1 (x.1 + x.2.1)
theorem RunUp.of_eq {a b : Array Keyed} {x y : Nat} (r : RunUp kf a x y) (h : ∀ j, x <= j -> j < y -> b[j]? = a[j]?) : RunUp kf b x y := fun i j p q h1 h2 h3 hp hq => r i j p q h1 h2 h3 (by rw [<- h i h1 (by (first | lia | omega))]; exact hp) (by rw [<- h j (by (first | lia | omega)) h3]; exact hq)
theorem mergeS (C : Cmp M A E s kd O kf okk) (ok : ∀ p ∈ a0.toList, okk p) (S : Stk kf kd a0 lo st) (hlo : lo <= a0.size) {i : Nat} (hi : i + 1 < (pendingOf st).size) {Q : Bool -> SortSt -> Prop} (h : ∀ st', Stk kf kd a0 lo st' -> (pendingOf st').size + 1 = (pendingOf st).size -> (∀ j, lo <= j -> (arrOf st')[j]? = (arrOf st)[j]?) -> Q true st') : wpS M A E s (mergeAt' i) Q st := by
 have hl : i + 1 < (pendingOf st).toList.length := by simpa using hi
 obtain ⟨⟨sa, na, pw⟩, h1⟩ : ∃ x, (pendingOf st).toList[i]? = some x := ⟨_, List.getElem?_eq_getElem (by (first | lia | omega))⟩
 obtain ⟨⟨sb, nb, z⟩, h2⟩ : ∃ x, (pendingOf st).toList[i + 1]? = some x := ⟨_, List.getElem?_eq_getElem hl⟩
 have split : (pendingOf st).toList = (pendingOf st).toList.take i ++ ((sa, na, pw) :: (sb, nb, z) :: (pendingOf st).toList.drop (i + 2)) := by
  obtain ⟨g1, e1⟩ := List.getElem?_eq_some_iff.mp h1
  obtain ⟨g2, e2⟩ := List.getElem?_eq_some_iff.mp h2
  rw [<- e1, <- e2, List.getElem_cons_drop, List.getElem_cons_drop, List.take_append_drop]
 have hlen : ((pendingOf st).toList.take i).length = i := by rw [List.length_take]; (first | lia | omega)
 have C0 := S.ch
 rw [split] at C0
 obtain ⟨k, c1, c2⟩ := C0.append
 obtain ⟨e1, n1, c3⟩ := c2
 obtain ⟨e2, n2, c4⟩ := c3
 dsimp only at e1 n1 e2 n2 c4
 have l4 := c4.len
 have m1 : (sa, na, pw) ∈ (pendingOf st).toList := List.mem_of_getElem? h1
 have m2 : (sb, nb, z) ∈ (pendingOf st).toList := List.mem_of_getElem? h2
 have sz := S.perm.size_eq
 refine mergeA C (fun p hp => ok p ((Array.perm_iff_toList_perm.mp S.perm).mem_iff.mp hp)) S.kind S.failed (i := i) (sa := sa) (na := na) (pw := pw) (sb := sb) (nb := nb) (z := z) (by rw [<- h1]; simp) (by rw [<- h2]; simp) (by (first | lia | omega)) n1 n2 (by (first | lia | omega)) ?_ (S.runs _ m2) fun st' p1 p2 p3 p4 p5 p6 => ?_
 ·have := S.runs _ m1
  dsimp only at this
  rw [show sb = sa + na by (first | lia | omega)]
  exact this
 ·have newl : (pendingOf st').toList = (pendingOf st).toList.take i ++ ((sa, na + nb, pw) :: (pendingOf st).toList.drop (i + 2)) := by
   rw [p4, Array.toList_eraseIdxIfInBounds, Array.toList_setIfInBounds]
   conv => lhs; rw [split]
   rw [List.set_append_right _ _ (by (first | lia | omega)), hlen, Nat.sub_self, List.set_cons_zero, List.eraseIdx_append_of_length_le (by (first | lia | omega)), hlen, show i + 1 - i = 1 by (first | lia | omega)]
   rfl
  have d1 := c1.mem
  have d4 := c4.mem
  refine h st' ⟨p1.trans S.perm, p2, p3, ?_, fun x hx => ?_⟩ ?_ fun j hj => p6 j (.inr (by (first | lia | omega)))
  ·rw [newl]
   exact c1.app ⟨e1, by show 1 <= na + nb; (first | lia | omega), by show Ch (k + (na + nb)) _ lo; rw [show k + (na + nb) = k + na + nb by (first | lia | omega)]; exact c4⟩
  ·rw [newl] at hx
   rcases List.mem_append.mp hx with hx | hx
   ·have := d1 x hx
    exact (S.runs x (by rw [split]; exact List.mem_append_left _ hx)).of_eq fun j j1 j2 => p6 j (.inl (by (first | lia | omega)))
   ·rcases List.mem_cons.mp hx with rfl | hx
    ·show RunUp kf (arrOf st') sa (sa + (na + nb))
     rw [show sa + (na + nb) = sb + nb by (first | lia | omega)]
     exact p5
    ·have := d4 x hx
     exact (S.runs x (by rw [split]; exact List.mem_append_right _ (List.mem_cons_of_mem _ (List.mem_cons_of_mem _ hx)))).of_eq fun j j1 j2 => p6 j (.inr (by (first | lia | omega)))
  ·have a1 : (pendingOf st').size = (pendingOf st').toList.length := by simp
   have a2 : (pendingOf st).size = (pendingOf st).toList.length := by simp
   rw [a1, a2, newl, List.length_append, List.length_cons, hlen, List.length_drop]
   (first | lia | omega)
end
end Srt
namespace Srt
open PySem PyProof.Rows
section
variable {M : Model} {A : Around} {E : Value -> Shared -> Prop} {s : Shared} {O : KeyOrd} {kf : Keyed -> O.α} {okk : Keyed -> Prop} {kd : SortKind} {a0 : Array Keyed} {lo : Nat} {st : SortSt}
theorem Sd.run {a : Array Keyed} {lo n : Nat} (h : Sd kf a lo n) : RunUp kf a lo (lo + n) := fun i j p q h1 h2 h3 hp hq => by
 have := h (i - lo) (j - lo) (by (first | lia | omega)) (by (first | lia | omega))
 rw [show lo + (i - lo) = i by (first | lia | omega), show lo + (j - lo) = j by (first | lia | omega), ka_at hp, ka_at hq] at this
 exact this
theorem ite_lt {c : Prop} [Decidable c] {a b n : Nat} (h1 : a + 1 < n) (h2 : b + 1 < n) : (if c then a else b) + 1 < n := by
 by_cases g : c
 ·rw [if_pos g]; exact h1
 ·rw [if_neg g]; exact h2
theorem Stk.wk (S : Stk kf kd a0 lo st) : Wk kd (arrOf st) lo (pendingOf st) st := ⟨Array.Perm.refl _, S.kind, S.failed, rfl, fun _ _ => rfl⟩
theorem Stk.more (S : Stk kf kd a0 lo st) {st1 : SortSt} (B : Wk kd (arrOf st) lo (pendingOf st) st1) : Stk kf kd a0 lo st1 := by
 refine ⟨B.perm.trans S.perm, B.kind, B.failed, by rw [B.pend]; exact S.ch, fun x hx => ?_⟩
 rw [B.pend] at hx
 have := S.ch.mem x hx
 exact (S.runs x hx).of_eq fun j _ j2 => B.pre j (by (first | lia | omega))
theorem Stk.push (S : Stk kf kd a0 lo st) {n : Nat} (h1 : 1 <= n) (r : RunUp kf (arrOf st) lo (lo + n)) : Stk kf kd a0 (lo + n) (setPending st ((pendingOf st).push (lo, n, 0))) := by
 have e : (pendingOf (setPending st ((pendingOf st).push (lo, n, 0)))).toList = (pendingOf st).toList ++ [(lo, n, 0)] := Array.toList_push
 refine ⟨S.perm, S.kind, S.failed, ?_, fun x hx => ?_⟩
 ·rw [e]
  exact S.ch.app ⟨rfl, h1, rfl⟩
 ·rw [e] at hx
  rcases List.mem_append.mp hx with hx | hx
  ·exact S.runs x hx
  ·rw [List.mem_singleton.mp hx]
   exact r
theorem Ch.modify {f : Nat × Nat × Nat -> Nat × Nat × Nat} (hf : ∀ x, (f x).1 = x.1 /\ (f x).2.1 = x.2.1) : ∀ {l : List (Nat × Nat × Nat)} {k s e : Nat}, Ch s l e -> Ch s (l.modify k f) e
 | [], k, s, e, h => by
  rw [List.modify_nil]
  exact h
 | x :: l, 0, s, e, h => by
  rw [List.modify_zero_cons]
  exact ⟨by rw [(hf x).1]; exact h.1, by rw [(hf x).2]; exact h.2.1, by rw [(hf x).2]; exact h.2.2⟩
 | x :: l, k + 1, s, e, h => by
  rw [List.modify_succ_cons]
  exact ⟨h.1, h.2.1, Ch.modify hf h.2.2⟩
theorem mem_modify {f : Nat × Nat × Nat -> Nat × Nat × Nat} {l : List (Nat × Nat × Nat)} {k : Nat} {x : Nat × Nat × Nat} (h : x ∈ l.modify k f) : x ∈ l ∨ ∃ y ∈ l, x = f y := by
 obtain ⟨j, hj⟩ := List.getElem?_of_mem h
 rw [List.getElem?_modify] at hj
 cases e : l[j]? with
 | none => rw [e] at hj; cases hj
 | some y =>
  rw [e] at hj
  have hj : some (if k = j then f y else y) = some x := hj
  have hy : y ∈ l := List.mem_of_getElem? e
  by_cases c : k = j
  ·rw [if_pos c] at hj
   cases hj
   exact .inr ⟨y, hy, rfl⟩
  ·rw [if_neg c] at hj
   cases hj
   exact .inl hy
theorem Stk.power (S : Stk kf kd a0 lo st) {k pw : Nat} {f : Nat × Nat × Nat -> Nat × Nat × Nat} (hf : ∀ x, (f x).1 = x.1 /\ (f x).2.1 = x.2.1) : Stk kf kd a0 lo (setPending st ((pendingOf st).modify k f)) := by
 have e : (pendingOf (setPending st ((pendingOf st).modify k f))).toList = (pendingOf st).toList.modify k f := Array.toList_modify
 refine ⟨S.perm, S.kind, S.failed, ?_, fun x hx => ?_⟩
 ·rw [e]
  exact S.ch.modify hf
 ·rw [e] at hx
  rcases mem_modify hx with hx | ⟨y, hy, rfl⟩
  ·exact S.runs x hx
  ·rw [(hf y).1, (hf y).2]
   exact S.runs y hy
theorem sortAll (C : Cmp M A E s kd O kf okk) (ok : ∀ p ∈ a0.toList, okk p) (ha : arrOf st = a0) (hk : kindOf st = kd) (hf : failedOf st = none) (hp : pendingOf st = #[]) {Q : Unit -> SortSt -> Prop} (h : ∀ st', (arrOf st').Perm a0 -> failedOf st' = none -> RunUp kf (arrOf st') 0 a0.size -> Q () st') : wpS M A E s sortRuns' Q st := by
 unfold sortRuns'
 refine wpS_bind (wpS_get ?_)
 have S0 : Stk kf kd a0 0 st := ⟨by rw [ha], hk, hf, by rw [hp]; rfl, fun x hx => by rw [hp] at hx; cases hx⟩
 have esz : (sortPriv% PySem.Builtin.SortState.a) st = a0 := ha
 try dsimp only
 rw [esz]
 generalize (sortPriv% PySem.Builtin.minRun) a0.size a0.size 0 = mr
 refine wpS_bind (wpS_mono (wpS_forRange (I := fun x c st1 => ∃ lo, c = (none, lo) /\ Stk kf kd a0 lo st1 /\ x <= lo /\ lo <= a0.size) (Q := fun c st1 => c = (none, a0.size) /\ Stk kf kd a0 a0.size st1) ?step ?fin ⟨0, rfl, S0, Nat.le_refl _, Nat.zero_le _⟩) ?post)
 case fin =>
  rintro c st1 ⟨lo, rfl, S1, h1, h2⟩
  rw [Nat.max_eq_right (Nat.zero_le _)] at h1
  have e : lo = a0.size := by (first | lia | omega)
  subst e
  exact ⟨rfl, S1⟩
 case step =>
  rintro x c st1 _ hx ⟨lo, rfl, S1, h1, h2⟩
  try dsimp only
  by_cases hge : lo ≥ a0.size
  ·rw [if_pos hge]
   have e : lo = a0.size := by (first | lia | omega)
   subst e
   exact wpS_pure ⟨rfl, S1⟩
  rw [if_neg hge]
  have z1 := S1.perm.size_eq
  have ok1 : ∀ p ∈ (arrOf st1).toList, okk p := fun p hp => ok p ((Array.perm_iff_toList_perm.mp S1.perm).mem_iff.mp hp)
  refine wpS_bind (countA C ok1 S1.wk (by (first | lia | omega)) (by (first | lia | omega)) fun m st2 B2 m1 m2 hs2 => ?_)
  try dsimp only
  by_cases hmr : m < mr
  ·rw [if_pos hmr]
   refine wpS_bind (wpS_lift (wpAny_rule ⟨rfl, ?_⟩))
   refine wpS_bind (binA C ok1 B2 (n := min (a0.size - lo) mr) (by (first | lia | omega)) (by (first | lia | omega)) hs2 fun st3 B3 hs3 => ?_)
   try dsimp only
   rw [if_neg (by decide)]
   have n1 : 1 <= min (a0.size - lo) mr := by (first | lia | omega)
   have n2 : lo + min (a0.size - lo) mr <= a0.size := by (first | lia | omega)
   generalize min (a0.size - lo) mr = n at n1 n2 hs3 ⊢
   have S3 := S1.more B3
   have r3 := hs3.run
   clear hs3 B3
   refine wpS_bind (wpS_get ?_)
   try dsimp only
   cases hb : ((sortPriv% PySem.Builtin.SortState.pending) st3).back? with
   | none =>
    try dsimp only
    exact wpS_bind (wpS_modify (wpS_pure ⟨lo + n, rfl, S3.push n1 r3, by (first | lia | omega), n2⟩))
   | some y =>
    obtain ⟨s1, k1, w1⟩ := y
    try dsimp only
    generalize (sortPriv% PySem.Builtin.power) a0.size (2 * s1 + k1) (2 * s1 + k1 + k1 + n) a0.size = pw
    refine wpS_bind (wpS_mono (wpS_forRange (I := fun _ c st4 => c = (none, ()) /\ Stk kf kd a0 lo st4 /\ RunUp kf (arrOf st4) lo (lo + n)) (Q := fun c st4 => c = (none, ()) /\ Stk kf kd a0 lo st4 /\ RunUp kf (arrOf st4) lo (lo + n)) ?st4 (fun _ _ g => g) ⟨rfl, S3, r3⟩) ?po4)
    case st4 =>
     rintro x4 c st4 _ _ ⟨rfl, S4, r4⟩
     try dsimp only
     refine wpS_bind (wpS_get ?_)
     try dsimp only
     cases hz : (if ((sortPriv% PySem.Builtin.SortState.pending) st4).size > 1 then ((sortPriv% PySem.Builtin.SortState.pending) st4)[((sortPriv% PySem.Builtin.SortState.pending) st4).size - 2]? else none) with
     | none =>
      try dsimp only
      exact wpS_pure ⟨rfl, S4, r4⟩
     | some y4 =>
      obtain ⟨s5, k5, w5⟩ := y4
      try dsimp only
      have h4 : (pendingOf st4).size > 1 := by
       by_cases c4 : (pendingOf st4).size > 1
       ·exact c4
       ·rw [if_neg c4] at hz
        cases hz
      by_cases c5 : w5 <= pw
      ·rw [if_pos c5]
       exact wpS_pure ⟨rfl, S4, r4⟩
      ·rw [if_neg c5]
       refine wpS_bind (mergeS C ok S4 h2 (i := (pendingOf st4).size - 2) (by (first | lia | omega)) fun st5 S5 _ e5 => ?_)
       try dsimp only
       rw [if_neg (by decide)]
       exact wpS_pure ⟨rfl, S5, r4.of_eq fun j j1 _ => e5 j j1⟩
    case po4 =>
     rintro c st4 ⟨rfl, S4, r4⟩
     try dsimp only
     refine wpS_bind (wpS_modify ?_)
     have S5 := S4.power (k := (pendingOf st4).size - 1) (pw := pw) (f := fun x => (x.1, x.2.1, pw)) (fun _ => ⟨rfl, rfl⟩)
     exact wpS_bind (wpS_modify (wpS_pure ⟨lo + n, rfl, S5.push n1 r4, by (first | lia | omega), n2⟩))
  ·rw [if_neg hmr]
   have n1 : 1 <= m := m1
   have n2 : lo + m <= a0.size := by (first | lia | omega)
   have B3 := B2
   have hs3 := hs2
   generalize m = n at n1 n2 hs3 ⊢
   generalize st2 = st3 at B3 hs3 ⊢
   have S3 := S1.more B3
   have r3 := hs3.run
   clear hs3 B3
   refine wpS_bind (wpS_get ?_)
   try dsimp only
   cases hb : ((sortPriv% PySem.Builtin.SortState.pending) st3).back? with
   | none =>
    try dsimp only
    exact wpS_bind (wpS_modify (wpS_pure ⟨lo + n, rfl, S3.push n1 r3, by (first | lia | omega), n2⟩))
   | some y =>
    obtain ⟨s1, k1, w1⟩ := y
    try dsimp only
    generalize (sortPriv% PySem.Builtin.power) a0.size (2 * s1 + k1) (2 * s1 + k1 + k1 + n) a0.size = pw
    refine wpS_bind (wpS_mono (wpS_forRange (I := fun _ c st4 => c = (none, ()) /\ Stk kf kd a0 lo st4 /\ RunUp kf (arrOf st4) lo (lo + n)) (Q := fun c st4 => c = (none, ()) /\ Stk kf kd a0 lo st4 /\ RunUp kf (arrOf st4) lo (lo + n)) ?st4 (fun _ _ g => g) ⟨rfl, S3, r3⟩) ?po4)
    case st4 =>
     rintro x4 c st4 _ _ ⟨rfl, S4, r4⟩
     try dsimp only
     refine wpS_bind (wpS_get ?_)
     try dsimp only
     cases hz : (if ((sortPriv% PySem.Builtin.SortState.pending) st4).size > 1 then ((sortPriv% PySem.Builtin.SortState.pending) st4)[((sortPriv% PySem.Builtin.SortState.pending) st4).size - 2]? else none) with
     | none =>
      try dsimp only
      exact wpS_pure ⟨rfl, S4, r4⟩
     | some y4 =>
      obtain ⟨s5, k5, w5⟩ := y4
      try dsimp only
      have h4 : (pendingOf st4).size > 1 := by
       by_cases c4 : (pendingOf st4).size > 1
       ·exact c4
       ·rw [if_neg c4] at hz
        cases hz
      by_cases c5 : w5 <= pw
      ·rw [if_pos c5]
       exact wpS_pure ⟨rfl, S4, r4⟩
      ·rw [if_neg c5]
       refine wpS_bind (mergeS C ok S4 h2 (i := (pendingOf st4).size - 2) (by (first | lia | omega)) fun st5 S5 _ e5 => ?_)
       try dsimp only
       rw [if_neg (by decide)]
       exact wpS_pure ⟨rfl, S5, r4.of_eq fun j j1 _ => e5 j j1⟩
    case po4 =>
     rintro c st4 ⟨rfl, S4, r4⟩
     try dsimp only
     refine wpS_bind (wpS_modify ?_)
     have S5 := S4.power (k := (pendingOf st4).size - 1) (pw := pw) (f := fun x => (x.1, x.2.1, pw)) (fun _ => ⟨rfl, rfl⟩)
     exact wpS_bind (wpS_modify (wpS_pure ⟨lo + n, rfl, S5.push n1 r4, by (first | lia | omega), n2⟩))
 case post =>
  rintro c st1 ⟨rfl, S1⟩
  try dsimp only
  have l1 := S1.ch.len
  rw [Nat.zero_add, Array.length_toList] at l1
  refine wpS_bind (wpS_mono (wpS_forRange (I := fun x c st2 => c = (none, ()) /\ Stk kf kd a0 a0.size st2 /\ ((pendingOf st2).size + x <= a0.size ∨ (pendingOf st2).size <= 1)) (Q := fun c st2 => c = (none, ()) /\ Stk kf kd a0 a0.size st2 /\ (pendingOf st2).size <= 1) ?st2 ?fi2 ⟨rfl, S1, .inl (by (first | lia | omega))⟩) ?po2)
  case fi2 =>
   rintro c st2 ⟨rfl, S2, hor⟩
   rw [Nat.max_eq_right (Nat.zero_le _)] at hor
   exact ⟨rfl, S2, by (first | lia | omega)⟩
  case st2 =>
   rintro x c st2 _ hx ⟨rfl, S2, hor⟩
   try dsimp only
   refine wpS_bind (wpS_get ?_)
   try dsimp only
   by_cases h1 : (pendingOf st2).size <= 1
   ·rw [if_pos h1]
    exact wpS_pure ⟨rfl, S2, h1⟩
   rw [if_neg h1]
   have h2 : 2 <= (pendingOf st2).size := by (first | lia | omega)
   refine wpS_bind (show wpS M A E s (mergeAt' _) _ st2 from mergeS C ok S2 (Nat.le_refl _) ?_ fun st3 S3 e3 _ => ?_)
   ·exact ite_lt (show (pendingOf st2).size - 2 - 1 + 1 < (pendingOf st2).size by (first | lia | omega)) (show (pendingOf st2).size - 2 + 1 < (pendingOf st2).size by (first | lia | omega))
   try dsimp only
   rw [if_neg (by decide)]
   exact wpS_pure ⟨rfl, S3, by (first | lia | omega)⟩
  case po2 =>
   rintro c st2 ⟨rfl, S2, hor⟩
   try dsimp only
   refine wpS_pure (h st2 S2.perm S2.failed ?_)
   have c2 := S2.ch
   have r2 := S2.runs
   have l2 : (pendingOf st2).toList.length <= 1 := by rw [Array.length_toList]; exact hor
   match e : (pendingOf st2).toList with
   | [] =>
    rw [e] at c2
    have : 0 = a0.size := c2
    intro i j p q _ _ hj
    (first | lia | omega)
   | [y] =>
    rw [e] at c2 r2
    obtain ⟨e1, _, e2⟩ := c2
    have := r2 y (List.mem_singleton.mpr rfl)
    have e3 : 0 + y.2.1 = a0.size := e2
    rw [e1, e3] at this
    exact this
   | _ :: _ :: _ =>
    rw [e] at l2
    simp at l2
end
end Srt
namespace Srt
open PySem PyProof.Rows
noncomputable def hS (h : Heap) (a : Addr) (vs : List Value) : Heap := ((h.update a (Obj.mapSeq fun _ => (#[] : Array Value))).push (seqObj "tuple" vs.toArray 0)).push (seqObj "list" #[] 0)
section
variable {prog : Program} {w : World} {A : Around} {E : Value -> Shared -> Prop} {s : Shared} {O : KeyOrd} {kf : Keyed -> O.α} {okk : Keyed -> Prop} {kd : SortKind}
theorem listSortA {a : Addr} {vs : List Value} {n : Nat} {P : PySem.Fin -> Shared -> Prop} (ho : s.heap.get? a = some (seqObj "list" vs.toArray n)) (hln : vs.length <= sizeLine)
  (hkk : 2 <= vs.length -> ∀ Q : SortKind -> Shared -> Prop, Q kd { s with heap := hS s.heap a vs } -> wpAny (model prog w) A (keyKind' vs.toArray) Q E { s with heap := hS s.heap a vs })
  (C : Cmp (model prog w) A E { s with heap := hS s.heap a vs } kd O kf okk) (ok : ∀ p ∈ (pairsOf vs).toList, okk p)
  (h : ∀ st' : SortSt, (arrOf st').Perm (pairsOf vs) -> RunUp kf (arrOf st') 0 vs.length -> P (.done (.ret .none)) { s with heap := sortedHeap s.heap a vs ((arrOf st').map (·.2)) }) :
  wpAny (model prog w) A (Builtin.«list.sort» ⟨[.ref a], []⟩) P E s := by
 rw [list_sort_plain]
 have ha : a < s.heap.objs.size := Heap.lt_size ho
 have zz : vs.toArray.size = vs.length := by simp
 refine wpAny_bind (listItems_at ho rfl (wpAny_bind (listUpdate_at ho rfl ?_ (by rw [zz]; exact hln) (Nat.zero_le _))))
 obtain ⟨e1, ho1⟩ : ∃ e, (s.heap.update a (Obj.mapSeq fun _ => (#[] : Array Value))).get? a = some (seqObj "list" #[] e) := ⟨_, get?_update_seq ho fun _ => #[]⟩
 refine wpAny_bind (seqEpoch_at ho1 rfl (wpAny_bind (wpAny_newTuple ?_ (by simpa using hln))))
 refine wpAny_bind (wpAny_newList ?_ (Nat.zero_le _))
 refine wpAny_holding ?_
 have ho6 : (hS s.heap a vs).get? a = some (seqObj "list" #[] e1) := by
  unfold hS
  rw [Heap.get?_push_ne _ _ _ (by rw [size_push', Heap.size_update]; exact Nat.ne_of_lt (Nat.lt_succ_of_lt ha)), Heap.get?_push_ne _ _ _ (by rw [Heap.size_update]; exact Nat.ne_of_lt ha)]
  exact ho1
 show wpAny (model prog w) A _ P E { s with heap := hS s.heap a vs }
 dsimp only
 by_cases c : vs.toArray.size < 2
 ·rw [if_pos c, if_pos c]
  refine wpAny_bind (wpAny_pure ?_)
  rw [StateT.run_pure]
  refine wpAny_bind (wpAny_pure ?_)
  dsimp only
  refine wpAny_bind (seqEpoch_at ho6 rfl (wpAny_bind (listUpdate_at ho6 rfl ?_ (Nat.zero_le _) ?_)))
  ·simp only [bne_self_eq_false, Bool.false_eq_true, if_false]
   refine wpAny_pure (h (SortSt.mk' general' (vs.toArray.zip vs.toArray) #[] 7 none) (Array.Perm.refl _) fun i j p q h1 h2 h3 hp hq => ?_)
   have e : i = j := by (first | lia | omega)
   subst e
   rw [hp] at hq
   cases hq
   exact KeyOrd.kle_refl _
  ·rw [Array.size_map]
   show (pairsOf vs).size <= _
   rw [pairsOf_size]
   (first | lia | omega)
 ·rw [if_neg c, if_neg c]
  refine wpAny_bind (hkk (by (first | lia | omega)) _ ?_)
  refine wpAny_bind (wpAny_mono (sortAll (a0 := pairsOf vs) (st := SortSt.mk' kd (vs.toArray.zip vs.toArray) #[] 7 none) (Q := fun _ st' => (arrOf st').Perm (pairsOf vs) /\ failedOf st' = none /\ RunUp kf (arrOf st') 0 (pairsOf vs).size) C ok rfl rfl rfl rfl fun st' a1 a2 a3 => ⟨a1, a2, a3⟩) ?_ fun _ _ e => e)
  rintro ⟨⟨⟩, st'⟩ s' ⟨rfl, hp, hf, hs⟩
  dsimp only
  have zp : ((arrOf st').map (·.2)).size = vs.length := (Array.size_map ..).trans (hp.size_eq.trans (pairsOf_size _))
  refine wpAny_bind (seqEpoch_at ho6 rfl (wpAny_bind (listUpdate_at ho6 rfl ?_ (Nat.zero_le _) (by show ((arrOf st').map (·.2)).size <= _; (first | lia | omega)))))
  rw [hf]
  simp only [bne_self_eq_false, Bool.false_eq_true, if_false]
  rw [pairsOf_size] at hs
  exact wpAny_pure (h st' hp hs)
noncomputable def hC (h : Heap) (vs : List Value) : Heap := ((h.push (seqObj "list" #[] 0)).update h.objs.size (Obj.mapSeq (· ++ vs.toArray))).push (seqObj "list" vs.toArray 0)
end
noncomputable def intO : KeyOrd where
 α := Int
 blt := fun a b => decide (a < b)
 irrefl := fun a => decide_eq_false (Int.lt_irrefl a)
 trans := fun a b c h1 h2 => decide_eq_true (Int.lt_trans (of_decide_eq_true h1) (of_decide_eq_true h2))
 negTrans := fun a b c h => by
  have := of_decide_eq_true h
  by_cases g : a < b
  ·exact .inl (decide_eq_true g)
  ·exact .inr (decide_eq_true (by (first | lia | omega)))
 total := fun a b h1 h2 => by
  have := of_decide_eq_false h1
  have := of_decide_eq_false h2
  (first | lia | omega)
noncomputable def isI (p : Keyed) : Prop := ∃ n t, p.1 = .int n t
theorem cmpI {prog : Program} {w : World} {A : Around} {E : Value -> Shared -> Prop} {s : Shared} : Cmp (model prog w) A E s oneType' intO (fun p => numOf p.1) isI := by
 refine ⟨fun x y st Q hx hy hk q => ?_⟩
 obtain ⟨⟨a, t, ea⟩, ⟨b, u, eb⟩⟩ := And.intro hx hy
 obtain ⟨x1, x2⟩ := x
 obtain ⟨y1, y2⟩ := y
 dsimp only at ea eb
 subst ea eb
 rw [lt'_eq]
 refine wpS_bind (wpS_get ?_)
 rw [hk, keyLt'_oneType]
 refine wpS_bind (wpS_lift (wpAny_attempt (oneLt_int ⟨rfl, ?_⟩)))
 exact wpS_pure q
end Srt
namespace L2
open PySem PySem.Spec PyProof.Rows
section
variable {X : Cx}
theorem run_sorted {xs : Array Keyed} {n : Nat} (h : Srt.RunUp (O := Srt.intO) (fun p => numOf p.1) xs 0 n) (hn : n <= xs.size) : SortedTo xs n := fun i j hij hj => by
 have e1 : xs[i]? = some (xs[i]'(by (first | lia | omega))) := Array.getElem?_eq_getElem (by (first | lia | omega))
 have e2 : xs[j]? = some (xs[j]'(by (first | lia | omega))) := Array.getElem?_eq_getElem (by (first | lia | omega))
 have g := h i j _ _ (Nat.zero_le _) hij hj e1 e2
 have g2 : ¬ numOf (xs[j]'(by (first | lia | omega))).1 < numOf (xs[i]'(by (first | lia | omega))).1 := of_decide_eq_false g
 unfold K
 rw [e1, e2]
 show numOf _ <= numOf _
 (first | lia | omega)
end
end L2
namespace Srt
open PySem PyProof.Rows
section
variable {prog : Program} {w : World} {A : Around} {E : Value -> Shared -> Prop} {s : Shared}
end
end Srt
namespace L2
open PySem PySem.Spec PyProof.Rows
section
variable {prog : Program} {w : World} {A : Around} {E : Value -> Shared -> Prop} {s : Shared} {d it v : Addr} {es : Array DictEntry} {ep : Nat}
end
end L2
namespace L2
open PySem PySem.Spec PyProof.Rows
section
variable {X : Cx} {pins : List (Addr × Obj)} {σ : St} {H : Hp} {s : Shared} {a : Addr} {kvs : List (List Key × V)} {ob : Obj}
end
section
variable {X : Cx}
end
end L2
namespace L2
open PySem PySem.Spec PyProof.Rows
section
variable {prog : Program} {w : World} {A : Around} {E : Value -> Shared -> Prop} {s : Shared} {d it v : Addr} {es : Array DictEntry} {ep : Nat}
end
end L2
namespace Srt
open PySem PyProof.Rows
end Srt
namespace L2
open PySem PySem.Spec PyProof.Rows
theorem collectG {prog : Program} {w : World} {A : Around} {E : Value -> Shared -> Prop} {s : Shared} {T : String} {r d : Addr} {n : Nat} {P : Nat -> Value -> Prop} {OK : Heap -> Prop} {R : List Value -> Shared -> Prop} (K : PySem.W.KdlSrc prog w T r d n P OK) (hh : A.handled = none) (hok : OK s.heap) (hn : n <= sizeLine)
  (h : ∀ (h' : Heap) (tk : Nat) (acc : Array Value), (∀ b o, s.heap.get? b = some o -> h'.get? b = some o) -> s.heap.objs.size <= h'.objs.size -> ItemsOf P acc n -> R acc.toList { s with heap := h', toks := tk }) :
  wpAny (model prog w) A (collect (.ref r)) R E s := by
 have hlt := K.there _ hok
 unfold collect
 refine wpAny_bind (wpAny_runValue (codeAny_builtin entry_proto_collect' ?_))
 rw [Around.under_plainId PySem.F.plain_proto_collect _]
 show wpAny _ A.in1 (newList [] >>= fun l => again (.builtin "list.__iadd__" ⟨[l, .ref r], []⟩)) _ _ s
 refine wpAny_bind (wpAny_newObj_type (wpAny_pure ⟨plainId_quiet PySem.F.plain_list_iadd _, codeAny_builtin entry_list_iadd' ?_⟩))
 rw [Around.under_plainId PySem.F.plain_list_iadd _]
 have at1 : (s.heap.push { cls := .type "list", data := .seq ([] : List Value).toArray }).get? s.heap.objs.size = some { cls := .type "list", data := .seq #[] } := Heap.get?_push_size _ rfl
 show wpAny _ A.in1 (Builtin.List.listExtendWith (.ref s.heap.objs.size) (.ref r) (.ref s.heap.objs.size)) _ _ _
 have key := PySem.W.kdl_extend (A := A) (s := { s with heap := s.heap.push { cls := .type "list", data := .seq ([] : List Value).toArray } })
  (R := fun (q : Result) (s' : Shared) => q = .ok (.ret (.ref s.heap.objs.size)) /\ ∃ (h' : Heap) (tk : Nat) (acc : Array Value) (c : Nat), s' = { s with heap := h', toks := tk } /\
   (∀ b o, s.heap.get? b = some o -> h'.get? b = some o) /\ h'.get? s.heap.objs.size = some { cls := .type "list", dict := none, data := .seq acc c, slots := #[] } /\ ItemsOf P acc n)
  K hh (K.keep _ _ hok fun b _ o e => Heap.get?_push_of_some _ e) s.heap.objs.size (Nat.ne_of_gt hlt.1) (Nat.ne_of_gt hlt.2) (.ref s.heap.objs.size) 0 at1
  (fun h' tk acc c hk hS hacc => ⟨rfl, h', tk, acc, c, rfl, fun b o e => hk b o (Nat.ne_of_lt (Heap.lt_size e)) (Heap.get?_push_of_some _ e), hS, hacc⟩) hn
 have fin : ∀ s', (∃ (h' : Heap) (tk : Nat) (acc : Array Value) (c : Nat), s' = { s with heap := h', toks := tk } /\ (∀ b o, s.heap.get? b = some o -> h'.get? b = some o) /\ h'.get? s.heap.objs.size = some { cls := .type "list", dict := none, data := .seq acc c, slots := #[] } /\ ItemsOf P acc n) ->
   wpAny (model prog w) A (load s.heap.objs.size >>= fun o => match o.data with | .seq xs _ => pure xs.toList | _ => unsupported "internal:collect") R E s' := by
  rintro s' ⟨h', tk, acc, c, rfl, hk, hS, hacc⟩
  exact wpAny_bind (wpAny_load hS (wpAny_pure (h h' tk acc hk (Nat.le_of_lt (Heap.lt_size hS)) hacc)))
 refine wpAny_mono key (fun fin' s' x => ?_) fun e s' x => ?_
 ·cases fin' with
  | done f =>
   obtain ⟨e, x⟩ := x
   cases e
   exact fin s' x
  | again c₁ =>
   refine ⟨x.1, codeAny_mono x.2 fun q s₂ y => ?_⟩
   obtain ⟨rfl, y⟩ := y
   exact fin s₂ y
 ·cases x.1
section
variable {X : Cx}
end
end L2
namespace L2
open PySem PySem.Spec PyProof.Rows
end L2
namespace L2
open PySem PySem.Spec PyProof.Rows
structure TopY (mg : Str -> Option Value) : Prop where
 n_any : mg "any" = none
structure TopYK (K : PySem.W.Frag) : Prop where
 k_any : PySem.W.nsIn K mainGlobals "any" = some none
end L2
namespace L2
open PySem PySem.Spec PyProof.Rows
section
variable {prog : Program} {w : World} {A : Around} {E : Value -> Shared -> Prop} {s : Shared} {d it v : Addr} {es : Array DictEntry} {ep : Nat}
end
section
variable {prog : Program} {w : World} {A : Around} {s : Shared} {R : Result -> Shared -> Prop} {es : Array DictEntry} {ep : Nat}
end
section
variable {prog : Program} {w : World} {A : Around} {E : Value -> Shared -> Prop} {s : Shared} {r d : Addr} {es : Array DictEntry} {ep : Nat}
end
end L2
namespace Srt
open PySem PyProof.Rows
section
variable {prog : Program} {w : World} {A : Around} {E : Value -> Shared -> Prop} {s : Shared}
end
end Srt
namespace L2
open PySem PySem.Spec PyProof.Rows
noncomputable def ov (H N : Hp) : Hp := fun b => match N b with
 | some o => some o
 | none => H b
section
variable {X : Cx} {pins : List (Addr × Obj)} {σ : List (Option V)} {H N : Hp} {s : Shared} {h' : Heap}
end
section
variable {X : Cx}
end
end L2
namespace L2
open PySem PySem.Spec PyProof.Rows
section
variable {X : Cx}
end
end L2
namespace L2
open PySem PySem.Spec PyProof.Rows
noncomputable def SetO (w : World) (S : Addr) (zs : List Addr) : HO := .ext fun h => ∃ L : List (Int × Value), L.map (·.2) = zs.map Value.ref /\ St.SetH (St.leads w) h S L
section
variable {X : Cx}
end
end L2
namespace L2
open PySem PySem.Spec PyProof.Rows
noncomputable def SetIO (w : World) (S : Addr) (ns : List Int) : HO := .ext fun h => St.SetOf (St.leads w) h S ns
theorem setio_ok {w : World} {S : Addr} {ns : List Int} {P : Program} {H : Hp} {h : Heap} (x : St.SetOf (St.leads w) h S ns) : ObjOk P w H h S (SetIO w S ns) := by
 refine ⟨x, ?_, fun h1 h2 x' k => x'.keep k⟩
 obtain ⟨_, ⟨_, ⟨o, _, _, _, ho, _⟩, _⟩, _⟩ := x
 exact ⟨o, ho⟩
theorem ia_prd : ∀ {ks : List Int} {L : List (Int × Value)}, Paired (fun (k : Int) (e : Int × Value) => e.1 = hashInt k /\ ∃ t, e.2 = .int k t) ks L -> IntsAre (L.map (·.2)) ks
 | _, _, .nil => .nil
 | _, _, .cons (b := e) ⟨_, t, ht⟩ r => by
  rw [List.map_cons, ht]
  exact .cons _ t (ia_prd r)
theorem ia_perm {vs : List Value} {ns : List Int} (h : IntsAre vs ns) {vs' : List Value} (p : vs'.Perm vs) : ∃ ns', IntsAre vs' ns' /\ ns'.Perm ns := by
 induction p generalizing ns with
 | nil => exact ⟨ns, h, .refl _⟩
 | cons x _ ih =>
  cases h with
  | cons k t h =>
   obtain ⟨ns', h1, h2⟩ := ih h
   exact ⟨k :: ns', .cons k t h1, h2.cons k⟩
 | swap x y l =>
  cases h with
  | cons k t h =>
   cases h with
   | cons k2 t2 h => exact ⟨k2 :: k :: _, .cons k2 t2 (.cons k t h), List.Perm.swap ..⟩
 | trans _ _ ih1 ih2 =>
  obtain ⟨n1, a1, a2⟩ := ih2 h
  obtain ⟨n2, b1, b2⟩ := ih1 a1
  exact ⟨n2, b1, b2.trans a2⟩
section
variable {X : Cx}
noncomputable def rSetIL (w : World) : List V -> Hp -> VK -> Prop := fun xs H Q => ∃ (p : Addr) (ns : List Int), xs = [.ref p] /\ H p = some (.lst (ns.map V.int)) /\ ns.length <= 1200 /\ ∀ S, H S = none -> Q (.ref S) (upd H S (SetIO w S ns))
theorem call_setIL (hc : X.calm = true) : CallR X (.type "set") (rSetIL X.w) := by
 intro pins s σ H xs us Q I rs h
 obtain ⟨p, ns, rfl, hp, hl, q⟩ := h
 obtain ⟨u, rfl, ru⟩ := vals1 rs
 cases (show u = Value.ref p from ru)
 obtain ⟨z, its, n, r, hl', e⟩ := I.lstM hp
 have hI := intsAre_of r
 have hln : its.length = ns.length := by rw [<- r.length, mapI_len]
 refine St.call_setIL (items := its.toArray) (ns := ns) (I.ok.hd hc) ⟨_, e, rfl, n, rfl⟩ (by simpa [hln] using hl) (by simpa using hI) fun h' tk hS hk => ?_
 exact ⟨.ref s.heap.objs.size, _, I.laid (t' := tk) (o := SetIO X.w s.heap.objs.size ns) (fun b o e => hk b o (Heap.lt_size e) e) (Nat.le_refl _) (setio_ok hS), rfl, q _ (I.hok.fresh (Nat.le_refl _))⟩
noncomputable def rSortedSI (w : World) : List V -> Hp -> VK -> Prop := fun xs H Q => ∃ (S : Addr) (ns : List Int), xs = [.ref S] /\ H S = some (SetIO w S ns) /\ ns.length <= 1200 /\
 ∀ p (ns' : List Int), ns'.Pairwise (· < ·) -> (∀ x, x ∈ ns' ↔ x ∈ ns) -> H p = none -> Q (.ref p) (upd H p (.lst (ns'.map V.int)))
theorem call_sortedSI (hc : X.calm = true) : CallR X (.builtin "sorted") (rSortedSI X.w) := by
 intro pins s σ H xs us Q I rs h
 obtain ⟨S, ns, rfl, hS, hl, q⟩ := h
 obtain ⟨u, rfl, ru⟩ := vals1 rs
 cases (show u = Value.ref S from ru)
 obtain ⟨⟨ks, ⟨L, ⟨o, es, ep, t, ho, hex, hd, T, _, hp, hb, hL⟩, nd, pr⟩, hmem, hle⟩, _⟩ := (show ObjOk X.prog X.w H s.heap S (SetIO X.w S ns) from I.hok S _ hS)
 have les : es.size = ks.length := by
  rw [<- Array.length_toList, hL.length_eq, Paired.length pr]
 refine Calls.call_function_entry kind_sorted plain_sorted entry_sorted (args_sorted1 _) ?_
 unfold Builtin.«sorted»
 refine wpAny_bind (m := checkCount "sorted" 1 1 _) (wpAny_pure ?_)
 refine wpAny_bind (collectG (St.set_src (S := S) hex hd T hp hb) (I.ok.hd hc) ho (by rw [sizeLine_eq]; (first | lia | omega)) fun h1 tk acc hk1 hp1 hacc => ?_)
 have hperm : acc.toList.Perm (L.map (·.2)) := by
  have e1 : acc.toList = (St.wkO X.w S ep es).toList.map (·.2) := by
   refine List.ext_getElem? fun i => ?_
   rw [List.getElem?_map, Array.getElem?_toList, Array.getElem?_toList]
   by_cases hi : i < es.size
   ·have ha : acc[i]? = some (acc[i]'(by rw [hacc.1]; exact hi)) := Array.getElem?_eq_getElem _
    obtain ⟨e, he, hv⟩ := hacc.2 i _ ha
    rw [ha, he, hv]
    rfl
   ·rw [Array.getElem?_eq_none (by rw [hacc.1]; (first | lia | omega)), Array.getElem?_eq_none (by rw [St.wk_size]; (first | lia | omega))]
    rfl
  rw [e1]
  exact (St.wk_perm.trans hL).map _
 obtain ⟨ms, hI, hms⟩ := ia_perm (ia_prd pr) hperm
 have lacc : acc.toList.length = ks.length := by rw [hperm.length_eq, List.length_map, Paired.length pr]
 refine wpAny_bind (wpAny_newList ?_ (by rw [lacc, sizeLine_eq]; (first | lia | omega)))
 show wpAny _ _ _ _ _ { s with heap := h1.push (seqObj "list" acc.toList.toArray 0), toks := tk }
 have hat : (h1.push (seqObj "list" acc.toList.toArray 0)).get? h1.objs.size = some (seqObj "list" acc.toList.toArray 0) := Heap.get?_push_size _ rfl
 refine wpAny_bind (wpAny_holding (wpAny_call_entry slot_list_sort ⟨_, hat, rfl⟩ entry_list_sort (Srt.listSortA (s := { s with heap := h1.push (seqObj "list" acc.toList.toArray 0), toks := tk }) (kd := oneType') (O := Srt.intO) (kf := fun p => numOf p.1) (okk := Srt.isI) hat (by rw [lacc, sizeLine_eq]; (first | lia | omega)) (fun h2 Q' q' => ?_) Srt.cmpI (fun p hp => hI.intKeys p hp) fun st' a1 a2 => ⟨_, rfl, ?_⟩) (args_list_sort _)))
 ·generalize acc.toList = its at hI h2 q' ⊢
  obtain ⟨v1, v2, rest, rfl⟩ : ∃ v1 v2 rest, its = v1 :: v2 :: rest := by
   match its, h2 with
   | v1 :: v2 :: rest, _ => exact ⟨v1, v2, rest, rfl⟩
  rw [keyKind_ints hI]
  exact wpAny_pure q'
 ·have zs : (arrOf st').size = acc.toList.length := a1.size_eq.trans (pairsOf_size _)
  have hs : SortedTo (arrOf st') (pairsOf acc.toList).size := by
   rw [pairsOf_size]
   exact run_sorted a2 (by (first | lia | omega))
  obtain ⟨ns', b1, b2, b3⟩ := sorted_out hI a1 hs
  generalize hout : (arrOf st').map (·.2) = out at b1
  have hk : ∀ b o, s.heap.get? b = some o -> (sortedHeap (h1.push (seqObj "list" acc.toList.toArray 0)) h1.objs.size acc.toList out).get? b = some o := fun b o g => by
   rw [sortedHeap_old (Nat.ne_of_lt (Heap.lt_size (hk1 _ _ g))) (by rw [size_push']; exact Nat.lt_succ_of_lt (Heap.lt_size (hk1 _ _ g)))]
   exact Heap.get?_push_of_some _ (hk1 _ _ g)
  obtain ⟨cc, hcc⟩ := sortedHeap_at (out := out) (vs := acc.toList) hat
  have pk : ns'.Perm ks := b2.trans hms
  have nd' : ns'.Nodup := pk.nodup_iff.mpr nd
  have hlt : ns'.Pairwise (· < ·) := by
   have := List.pairwise_and_iff.mpr ⟨b3, nd'⟩
   exact this.imp fun {a b} h => by
    have h1 := h.1
    have h2 := h.2
    (first | lia | omega)
  refine wpAny_pure ⟨_, rfl, .ref h1.objs.size, _, I.laid (t' := tk) (o := .lst (ns'.map V.int)) hk hp1 ?_, rfl, q _ ns' hlt (fun x => (pk.mem_iff).trans (hmem x)) (I.hok.fresh hp1)⟩
  refine ⟨?_, out.toList, cc, vals_ints b1, by simpa using hcc⟩
  rw [mapI_len, pk.length_eq, sizeLine_eq]
  (first | lia | omega)
end
end L2
namespace L2
open PySem PySem.Spec PyProof.Rows
theorem entry_dloop : entryFor table "dict.update.loop" = some Builtin.«dict.update.loop» := by kernel_rfl
theorem plain_dloop : plainId "dict.update.loop" = true := by decide +kernel
theorem d_dictSetT {X : Cx} {pins : List (Addr × Obj)} {σ : St} {H : Hp} {s : Shared} {a b : Addr} {kvs : List (List Key × V)} {k : List Key} {v : V} {r : Value} {A : Around} {E : Value -> Shared -> Prop} {Q : Unit -> Shared -> Prop} (hu : (tupleKind (mixKind X.prog X.w)).room A) (I : Inv X pins σ H s) (e : H a = some (.dT kvs)) (eb : H b = some (.tup (k.map kV))) (l : kvs.length < sizeLine) (rv : RelV v r)
  (h : ∀ s', Inv X pins σ (upd H a (.dT (putK kvs k v))) s' -> (∀ c, c ≠ a -> s'.heap.get? c = s.heap.get? c) -> Q () s') :
  wpAny (model X.prog X.w) A (dictSet a (.ref b) r) Q E s := by
 obtain ⟨z, hd, xs, rel, dd⟩ := dt_of I.hok e
 have hz : xs.length <= sizeLine := by rw [<- Paired.length rel]; exact z
 have hl : (putK kvs k v).length <= sizeLine := by have := length_putK kvs k v; (first | lia | omega)
 refine wpAny_dictSet_heap (hsz := hz) hu (key_of I.hok eb) dd fun h' dd' hs => h _ ?_ (fun c hc => hs.2 c hc)
 obtain ⟨q, es, ep, hq, h2, h3, h4, _, h5⟩ := dd'
 refine d_write I (by rw [e]; exact True.intro) hs ⟨q, hq⟩ ⟨hl, hd, _, (rel.put k eb rv).keeps fun c ys ec => ?_, q, es, ep, hq, h2, h3, h4, h5⟩
 rw [upd_ne (ne_of ec e (fun z => nomatch z))]
 exact ec
noncomputable def putAll (d kvs : List (List Key × V)) : List (List Key × V) := kvs.foldl (fun d kv => putK d kv.1 kv.2) d
noncomputable def PrK (H : Hp) (z : Addr) (kv : List Key × V) : Prop := ∃ b, H z = some (.tup [.ref b, kv.2]) /\ H b = some (.tup (kv.1.map kV))
theorem PrK.same {H H' : Hp} {z : Addr} {kv : List Key × V} (h : PrK H z kv) (s : Same H H') : PrK H' z kv := by
 obtain ⟨b, h1, h2⟩ := h
 exact ⟨b, s _ _ h1, s _ _ h2⟩
theorem PrK.updD {H : Hp} {z D : Addr} {kv : List Key × V} {d o : List (List Key × V)} (h : PrK H z kv) (e : H D = some (.dT d)) : PrK (upd H D (.dT o)) z kv := by
 obtain ⟨b, h1, h2⟩ := h
 exact ⟨b, by rw [upd_ne (ne_of h1 e (fun z => nomatch z))]; exact h1, by rw [upd_ne (ne_of h2 e (fun z => nomatch z))]; exact h2⟩
theorem pair_items {M : Model} {A : Around} {s : Shared} {z : Addr} {vs : List Value} {Q : List Value -> Shared -> Prop} {E : Value -> Shared -> Prop} (p : IsTup s.heap z vs.toArray) (q : Q vs s) : wpAny M A (Builtin.Dict.pairItems (.ref z)) Q E s := by
 obtain ⟨o, ho, hc, n, hd⟩ := p
 unfold Builtin.Dict.pairItems
 refine wpAny_bind (wpAny_typeOf ⟨o, ho, hc⟩ ?_)
 show wpAny M A (seqItems? (.ref z) >>= _) Q E s
 refine wpAny_bind (wpAny_seqItems ho hd ?_)
 exact wpAny_pure (by simpa using q)
theorem loop_dict {X : Cx} {A : Around} {R : Result -> Shared -> Prop} {pins : List (Addr × Obj)} {σ : St} {l it D : Addr} {zs : List Addr} (hh : A.in1.handled = none) (hu : (tupleKind (mixKind X.prog X.w)).room A.in1) (hDit : D ≠ it) :
  ∀ (kvs : List (List Key × V)) (i : Nat) (s : Shared) (H : Hp) (d : List (List Key × V)) (tk : Tok), Inv X pins σ H s -> H D = some (.dT d) -> H l = some (.lst (zs.map V.ref)) -> FpOk X pins H it -> s.heap.IsListIter it l i -> Paired (PrK H) (zs.drop i) kvs -> i <= zs.length -> d.length + kvs.length < sizeLine ->
   (∀ s', Inv X pins σ (upd H D (.dT (putAll d kvs))) s' -> R (.ok (.ret .none)) s') ->
   codeAny (model X.prog X.w) A (.builtin "dict.update.loop" ⟨[.ref D, .ref it, .int i tk, .none], []⟩) R s
 | [], i, s, H, d, tk, I, hD, hl, hf, st, pr, hi, hz, hR => by
  have hin : zs.drop i = [] := by cases h : zs.drop i with | nil => rfl | cons _ _ => rw [h] at pr; cases pr
  have hin : zs.length <= i := List.drop_eq_nil_iff.mp hin
  obtain ⟨its, rv, p, _⟩ := I.list (SqL.of (K := X.K) hl)
  have hlr := rv.length
  rw [List.length_map] at hlr
  obtain ⟨f0, f1, f2, f3, f4, f5⟩ := hf
  refine codeAny_builtin entry_dloop ?_
  rw [Around.under_plainId plain_dloop _]
  show wpAny _ A.in1 (pyNext (.ref it) >>= _) _ _ s
  refine wpAny_bind (wpAny_pyNext_list_end hh st p.isList (by simp; (first | lia | omega)) fun h' eb => ?_)
  have I1 : Inv X pins σ H { s with heap := h' } := I.turned (t' := s.toks) (fun b o hb e => eb b o hb e) f0 f1 f3 f4 f5
  have e0 : upd H D (.dT (putAll d [])) = H := by
   funext b
   unfold upd
   split
   ·rename_i h
    rw [h]
    exact hD.symm
   ·rfl
  rw [e0] at hR
  exact wpAny_pure (hR _ I1)
 | kv :: kvs, i, s, H, d, tk, I, hD, hl, hf, st, pr, hi, hz, hR => by
  obtain ⟨z, hzi⟩ : ∃ z, zs[i]? = some z := by
   cases h : zs[i]? with
   | none =>
    rw [List.drop_eq_nil_of_le (List.getElem?_eq_none_iff.mp h)] at pr
    cases pr
   | some z => exact ⟨z, rfl⟩
  have hlt := (List.getElem?_eq_some_iff.mp hzi).1
  have hdr : zs.drop i = z :: zs.drop (i + 1) := by
   rw [List.drop_eq_getElem_cons hlt, (List.getElem?_eq_some_iff.mp hzi).2]
  rw [hdr] at pr
  cases pr with
  | cons hk ht =>
   obtain ⟨its, rv, p, _⟩ := I.list (SqL.of (K := X.K) hl)
   obtain ⟨u, hu', ru⟩ := rv.get (i := i) (x := .ref z) (by rw [List.getElem?_map, hzi]; rfl)
   cases (show u = Value.ref z from ru)
   obtain ⟨f0, f1, f2, f3, f4, f5⟩ := id hf
   refine codeAny_builtin entry_dloop ?_
   rw [Around.under_plainId plain_dloop _]
   show wpAny _ A.in1 (pyNext (.ref it) >>= _) _ _ s
   refine wpAny_bind (wpAny_pyNext_list_item st p.isList (x := .ref z) (by simpa using hu') fun h' st' sb => ?_)
   have I1 : Inv X pins σ H { s with heap := h' } := I.turned (t' := s.toks) (fun b o hb e => (sb.2 b hb).trans e) f0 f1 f3 f4 f5
   obtain ⟨b, hz1, hb1⟩ := id hk
   obtain ⟨vs, rv2, p2, _⟩ := I1.tuple (SqT.of (K := X.K) hz1)
   cases rv2 with
   | @cons _ u1 _ _ r1 rr =>
    cases rr with
    | @cons _ u2 _ _ r2 rr =>
     cases rr
     cases (show u1 = Value.ref b from r1)
     dsimp only
     refine wpAny_bind (wpAny_holding (wpAny_bind (wpAny_tryCatch (pair_items p2 ?_))))
     refine wpAny_holding (d_dictSetT (X := X) hu I1 hD hb1 (by rw [List.length_cons] at hz; (first | lia | omega)) r2 fun s2 I2 k2 => ?_)
     refine wpAny_pure ⟨plainId_quiet plain_dloop _, ?_⟩
     have hl2 : (upd H D (.dT (putK d kv.1 kv.2))) l = some (.lst (zs.map V.ref)) := by rw [upd_ne (ne_of hl hD (fun z => nomatch z))]; exact hl
     have lp := length_putK d kv.1 kv.2
     refine loop_dict hh hu hDit kvs (i + 1) s2 _ (putK d kv.1 kv.2) _ I2 upd_same hl2 ⟨by rw [upd_ne hDit.symm]; exact f0, f1, f2, f3, f4, f5⟩ (st'.at fun o e => (k2 it hDit.symm).trans e) (Paired.mapP ht fun _ _ h => h.updD hD) hlt (by rw [List.length_cons] at hz; (first | lia | omega)) fun s' I' => ?_
     rw [upd_upd] at I'
     exact hR s' I'
theorem typeCall_dict_1 (a : Value) : checkTypeCall "dict" { pos := [a] } = pure () := by kernel_rfl
theorem attr_none {prog : Program} {w : World} {A : Around} {E : Value -> Shared -> Prop} {s : Shared} {a : Addr} {xs : Array Value} {k : Nat} {Q : Option Value -> Shared -> Prop} (ho : s.heap.get? a = some { cls := .type "list", data := .seq xs k }) (hh : A.handled = none)
  (h : ∀ (h' : Heap) (tk : Nat), (∀ b o, s.heap.get? b = some o -> h'.get? b = some o) -> Q none { s with heap := h', toks := tk }) : wpAny (model prog w) A (getAttr? (.ref a) "keys") Q E s := by
 unfold getAttr?
 refine wpAny_bind (wpAny_mkText ?_)
 unfold getAttrBy?
 refine wpAny_bind (wpAny_attempt ?_)
 unfold getAttrBy
 refine wpAny_holding (wpAny_bind (wpAny_typeOf ⟨_, ho, rfl⟩ (wpAny_bind ?_)))
 rw [list_getattribute]
 refine wpAny_pure ?_
 show wpAny _ _ (getAttrByItsOwn _ _ _ _ false false) _ _ _
 unfold getAttrByItsOwn
 refine wpAny_bind ?_
 show wpAny _ _ (pure none) _ _ _
 refine wpAny_pure (wpAny_bind (wpAny_attempt (wpAny_holding ?_)))
 show wpAny _ _ (boundAndCalled _ _ _) _ _ _
 unfold boundAndCalled
 refine wpAny_bind ?_
 rw [F.slot_list_getattribute.bind]
 refine wpAny_pure ?_
 show wpAny _ _ (call (.builtin "list.__getattribute__") [.ref a, .str "keys" _]) _ _ _
 refine call_meets F.slot_list_getattribute ⟨_, ho, rfl⟩ am_entry_list_getattribute (F.args_list_getattribute_2 _ _) (meets_getattribute_miss_list a xs k #[] "keys" _ (am_miss_of_fast (by decide +kernel)) (by decide)) ⟨ho, hh, fun h' tk e ne => ?_⟩
 obtain ⟨tt, uu, hte⟩ := ne.there
 show wpAny _ _ (getattributeRaised _ _ _ _ _ _ _) _ _ _
 unfold getattributeRaised
 refine wpAny_bind (wpAny_isInstance ⟨_, hte, rfl⟩ sub_AttributeError ?_)
 show wpAny _ _ (hookBehind _ _ >>= _) _ _ _
 refine wpAny_bind ?_
 show wpAny _ _ (typeLookup _ _) _ _ _
 rw [am_list_getattr_none]
 refine wpAny_pure ?_
 show wpAny _ _ (throw _ >>= _) _ _ _
 refine wpAny_bind (wpAny_throw ?_)
 refine wpAny_bind (wpAny_isInstance ⟨_, hte, rfl⟩ sub_AttributeError ?_)
 exact wpAny_pure (h h' tk ne.keeps)
noncomputable def rDictP : List V -> Hp -> VK -> Prop := fun xs H Q => ∃ (l : Addr) (zs : List Addr) (kvs : List (List Key × V)), xs = [.ref l] /\ H l = some (.lst (zs.map V.ref)) /\ Paired (PrK H) zs kvs /\ kvs.length < sizeLine /\ ∀ p, H p = none -> Q (.ref p) (upd H p (.dT (putAll [] kvs)))
set_option maxRecDepth 100000 in
set_option maxHeartbeats 3200000 in
theorem call_dictP {X : Cx} (hc : X.calm = true) (hu : X.A.units + 8 < cLine) : CallR X (.type "dict") rDictP := by
 intro pins s σ H xs us Q I rs h
 obtain ⟨l, zs, kvs, rfl, hl, pr, hz, q⟩ := h
 obtain ⟨u, rfl, ru⟩ := vals1 rs
 cases (show u = Value.ref l from ru)
 obtain ⟨c, tl, hmro⟩ := F.kt_called_dict.mro
 have hmade := F.kt_called_dict.made
 have hsub := F.kt_called_dict.sub
 refine wpAny_call (codeAny_of_tree ?_)
 show wpAny _ _ (callAny (.type "dict") _) _ _ _
 refine wpAny_pure ⟨Code.quiet_builtin _ (by decide +kernel), codeAny_builtin F.entry_type_call ?_⟩
 rw [Around.under_plain (weight_type_call_type "dict" [.ref l] []) rfl]
 have h1 := F.kt_called_dict.notType
 have h2 := F.kt_called_dict.canCreate
 have hct := typeCall_dict_1 (.ref l)
 repeat (any_goals (first | assumption | wp_step))
 refine codeAny_mono (kt_code_dict_new (.ref l) (E := X.xe) (Q₁ := fun obj s₁ => obj = .ref s.heap.objs.size /\ s₁ = { s with heap := s.heap.push { cls := .type "dict", data := .dict #[] } }) ⟨rfl, rfl⟩) fun r s₁ hr => ?_
 cases r with
 | error e => exact hr
 | ok fl =>
  cases fl with
  | ret obj =>
   obtain ⟨rfl, rfl⟩ := hr
   have hS : (s.heap.push { cls := .type "dict", data := .dict #[] }).get? s.heap.objs.size = some { cls := .type "dict", data := .dict #[] } := Heap.get?_push_size _ rfl
   have hT0 : Shared.TypeIs { s with heap := s.heap.push { cls := .type "dict", data := .dict #[] } } (.ref s.heap.objs.size) "dict" := ⟨_, hS, rfl⟩
   have hli := F.kt_called_dict.init.lookup
   have hbi := F.kt_called_dict.init.bind (.ref s.heap.objs.size)
   repeat (any_goals (first | assumption | wp_step))
   have hp0 := I.hok.fresh (Nat.le_refl s.heap.objs.size)
   have I1 : Inv X pins σ (upd H s.heap.objs.size (.dT [])) { s with heap := s.heap.push { cls := .type "dict", data := .dict #[] } } := I.laid (a := s.heap.objs.size) (o := .dT []) (t' := s.toks) (fun _ _ q => Heap.get?_push_of_some _ q) (Nat.le_refl _) (dt_empty s.heap I.big)
   refine codeAny_mono (codeAny_call_builtin (R := wants (fun r s₂ => r = .none /\ Inv X pins σ (upd H s.heap.objs.size (.dT (putAll [] kvs))) s₂) X.xe) F.kt_called_dict.init.plain F.entry_dict_init (F.slot_dict_init.check _ _ _ _ _ _ _ _ hT0 (F.args_dict_init_2 _ _) ?_)) fun r₂ s₂ hr₂ => ?_
   ·have sm := same_upd (o := .dT []) hp0
    have hl1 := sm _ _ hl
    obtain ⟨_, its, c1, rv, _, hol⟩ := I1.lstM hl1
    have hne : (Value.type "list" == Value.type "dict") = false := by decide
    unfold Builtin.«dict.__init__» Builtin.Dict.updateCommon Builtin.Dict.updateFrom
    generalize hPI : pyIter = PI
    generalize hG : getAttr? = G
    wp_walk
    subst hG
    refine attr_none hol ?_ fun h' tk keep => ?_
    ·have := I.ok.hd hc
     simp [this]
    have I2 : Inv X pins σ (upd H s.heap.objs.size (.dT [])) { s with heap := h', toks := tk } := I1.kept (t' := tk) keep
    wp_walk
    subst hPI
    have hl2 := I2.list (SqL.of (K := X.K) hl1)
    obtain ⟨its2, rv2, p2, _⟩ := hl2
    refine wpAny_pyIter_list p2.isList ?_
    have hh2 : X.A.in1.in1.handled = none := by
     have := I.ok.hd hc
     simp [this]
    have hroom : (tupleKind (mixKind X.prog X.w)).room X.A.in1.in1 := tupleKind_room_in1 (A := X.A.in1) (by
     have : X.A.in1.units <= X.A.units + 1 := by simp
     (first | lia | omega))
    have hlt : s.heap.objs.size < h'.objs.size := Heap.lt_size (keep _ _ hS)
    refine wpAny_pure ⟨plainId_quiet plain_dloop _, ?_⟩
    refine loop_dict (X := X) (A := X.A.in1) (l := l) (zs := zs) (pins := pins) (σ := σ) hh2 hroom (Nat.ne_of_lt hlt) kvs 0 _ (upd H s.heap.objs.size (.dT [])) [] _ (I2.kept fun b o e => Heap.get?_push_of_some _ e) upd_same hl1 (I2.fpOk (Nat.le_refl _) (I2.hok.fresh (Nat.le_refl _))) ⟨_, Heap.get?_push_size _ rfl, rfl, rfl⟩ (Paired.mapP pr fun _ _ h => h.same sm) (Nat.zero_le _) (by rw [List.length_nil, Nat.zero_add]; exact hz) fun s' I' => ?_
    rw [upd_upd] at I'
    exact ⟨rfl, I'⟩
   ·cases r₂ with
    | error e => exact hr₂
    | ok fl₂ =>
     cases fl₂ with
     | ret r =>
      obtain ⟨rfl, I'⟩ := hr₂
      repeat (any_goals (first | assumption | wp_step))
      exact ⟨.ref s.heap.objs.size, _, I', rfl, q _ hp0⟩
     | _ => exact hr₂.elim
  | _ => exact hr.elim
end L2
namespace K26
open PySem PySem.Spec PyProof.Rows L2
noncomputable def top (i : Nat) : Stmt := PySem.Challenge.pw_shuffletold_k26_shares_of_two_parts.main.body.getD i (.Pass ⟨0, 0, 0, 0⟩)
end K26
namespace L2
open PySem PySem.Spec PyProof.Rows
noncomputable def bothA (kind : Str) (N : Int) (p q : List Int) : Int × Int :=
 if p = q then oneA kind N p
 else if kind = "rounds" then tmZ (1, N - p.getD 0 0) (1, N - q.getD 0 0)
 else if kind = "stays" then lowZ 1 (N * (N - 1))
 else if kind = "rises" then (if (p.getD 0 0 - q.getD 0 0).natAbs = 1 then (1, 6) else (1, 4))
 else if kind = "highs" then tmZ (1, p.getD 0 0 + 1) (1, q.getD 0 0 + 1)
 else if p.getD 0 0 = q.getD 0 0 ∨ p.getD 1 0 = q.getD 1 0 then (1, 3)
 else if p.getD 0 0 = q.getD 1 0 ∨ p.getD 1 0 = q.getD 0 0 then (1, 6) else (1, 4)
theorem both_fin : ∀ n : Nat, n < 6 -> ∀ kind ∈ kinds5, ∀ p ∈ partsZ kind n, ∀ q ∈ partsZ kind n, lowZ (((allI n).filter fun o => hasZ kind p o && hasZ kind q o).length : Int) ((allI n).length : Int) = bothA kind n p q := by decide +kernel
theorem parts_form {kind : Str} {m : Nat} {r : List Int} (hr : r ∈ partsZ kind m) : ∃ k : Nat, k < m /\ (kind = "rises" -> k + 1 < m) /\ ((kind ≠ "crossed" /\ r = [(k : Int)]) ∨ (kind = "crossed" /\ ∃ j : Nat, k < j /\ j < m /\ r = [(k : Int), (j : Int)])) := by
 unfold partsZ at hr
 by_cases hc : kind = "crossed"
 ·rw [if_pos hc] at hr
  obtain ⟨⟨a, b⟩, hab, rfl⟩ := List.mem_map.mp hr
  obtain ⟨k, hk, hb⟩ := List.mem_flatMap.mp hab
  obtain ⟨hk0, hk1⟩ := mem_num0.mp hk
  obtain ⟨j, hj, e⟩ := List.mem_map.mp hb
  obtain ⟨rfl, rfl⟩ := Prod.mk.inj e
  obtain ⟨i, hi, rfl⟩ := List.mem_map.mp hj
  have hi := List.mem_range.mp hi
  refine ⟨k.toNat, by (first | lia | omega), fun h => absurd (h.symm.trans hc) (by decide), .inr ⟨hc, (k + 1 + (i : Int)).toNat, by (first | lia | omega), by (first | lia | omega), ?_⟩⟩
  show [k, k + 1 + (i : Int)] = _
  rw [Int.toNat_of_nonneg hk0, Int.toNat_of_nonneg (by (first | lia | omega))]
 ·rw [if_neg hc] at hr
  by_cases h2 : kind = "rises"
  ·rw [if_pos h2] at hr
   obtain ⟨k, hk, rfl⟩ := List.mem_map.mp hr
   obtain ⟨hk0, hk1⟩ := mem_num0.mp hk
   exact ⟨k.toNat, by (first | lia | omega), fun _ => by (first | lia | omega), .inl ⟨hc, by rw [Int.toNat_of_nonneg hk0]⟩⟩
  ·rw [if_neg h2] at hr
   obtain ⟨k, hk, rfl⟩ := List.mem_map.mp hr
   obtain ⟨hk0, hk1⟩ := mem_num0.mp hk
   exact ⟨k.toNat, by (first | lia | omega), fun h => absurd h h2, .inl ⟨hc, by rw [Int.toNat_of_nonneg hk0]⟩⟩
theorem rises_mk {k m : Nat} (h : k + 1 < m) : [(k : Int)] ∈ partsZ "rises" m := by
 unfold partsZ
 rw [if_neg (by decide), if_pos rfl]
 exact List.mem_map.mpr ⟨(k : Int), mem_num0.mpr ⟨by (first | lia | omega), by (first | lia | omega)⟩, rfl⟩
theorem crossed_mk {k j m : Nat} (h : k < j) (hj : j < m) : [(k : Int), (j : Int)] ∈ partsZ "crossed" m := by
 unfold partsZ
 rw [if_pos rfl]
 refine List.mem_map.mpr ⟨((k : Int), (j : Int)), List.mem_flatMap.mpr ⟨(k : Int), mem_num0.mpr ⟨by (first | lia | omega), by (first | lia | omega)⟩, List.mem_map.mpr ⟨(j : Int), List.mem_map.mpr ⟨j - k - 1, List.mem_range.mpr (by (first | lia | omega)), by (first | lia | omega)⟩, rfl⟩⟩, rfl⟩
theorem both_comm (kind : Str) (N : Int) (p q : List Int) : bothA kind N q p = bothA kind N p q := by
 unfold bothA
 by_cases h : p = q
 ·rw [if_pos h, if_pos h.symm, h]
 ·rw [if_neg h, if_neg (fun e => h e.symm)]
  have t1 : ∀ a b : Int, tmZ (1, a) (1, b) = tmZ (1, b) (1, a) := fun a b => by
   unfold tmZ
   rw [Int.mul_comm a b]
  have e1 : (q.getD 0 0 - p.getD 0 0).natAbs = (p.getD 0 0 - q.getD 0 0).natAbs := by (first | lia | omega)
  rw [t1 (N - q.getD 0 0), t1 (q.getD 0 0 + 1), e1]
  have e2 : (q.getD 0 0 = p.getD 0 0 ∨ q.getD 1 0 = p.getD 1 0) = (p.getD 0 0 = q.getD 0 0 ∨ p.getD 1 0 = q.getD 1 0) := propext ⟨fun h => h.imp Eq.symm Eq.symm, fun h => h.imp Eq.symm Eq.symm⟩
  have e3 : (q.getD 0 0 = p.getD 1 0 ∨ q.getD 1 0 = p.getD 0 0) = (p.getD 0 0 = q.getD 1 0 ∨ p.getD 1 0 = q.getD 0 0) := propext ⟨fun h => h.elim (fun h => .inr h.symm) (fun h => .inl h.symm), fun h => h.elim (fun h => .inr h.symm) (fun h => .inl h.symm)⟩
  simp only [e2, e3]
theorem ix_lt {ms : List Int} (h : ms.Pairwise (· < ·)) {x y : Int} (hx : x ∈ ms) (hy : y ∈ ms) (hxy : x < y) : ms.idxOf x < ms.idxOf y := by
 have h1 := List.idxOf_lt_length_of_mem hx
 have h2 := List.idxOf_lt_length_of_mem hy
 have e1 := List.getElem_idxOf h1
 have e2 := List.getElem_idxOf h2
 by_cases c : ms.idxOf x < ms.idxOf y
 ·exact c
 ·have : ms.idxOf y <= ms.idxOf x := by (first | lia | omega)
  rcases Nat.lt_or_eq_of_le this with c2 | c2
  ·have := List.pairwise_iff_getElem.mp h _ _ h2 h1 c2
   rw [e1, e2] at this
   (first | lia | omega)
  ·have : ms[ms.idxOf y] = ms[ms.idxOf x] := by congr 1
   rw [e1, e2] at this
   (first | lia | omega)
theorem ix_eq {ms : List Int} {x y : Int} (hx : x ∈ ms) (hy : y ∈ ms) (h : ms.idxOf x = ms.idxOf y) : x = y := by
 have h1 := List.idxOf_lt_length_of_mem hx
 have h2 := List.idxOf_lt_length_of_mem hy
 have e1 := List.getElem_idxOf h1
 have e2 := List.getElem_idxOf h2
 have : ms[ms.idxOf x] = ms[ms.idxOf y] := by congr 1
 rw [e1, e2] at this
 exact this
theorem ix_next {ms : List Int} (h : ms.Pairwise (· < ·)) {x : Int} (hx : x ∈ ms) (hy : x + 1 ∈ ms) : ms.idxOf (x + 1) = ms.idxOf x + 1 := by
 have lt := ix_lt h hx hy (by (first | lia | omega))
 have h1 := List.idxOf_lt_length_of_mem hx
 have h2 := List.idxOf_lt_length_of_mem hy
 have e1 := List.getElem_idxOf h1
 have e2 := List.getElem_idxOf h2
 by_cases c : ms.idxOf (x + 1) = ms.idxOf x + 1
 ·exact c
 ·have a1 := List.pairwise_iff_getElem.mp h (ms.idxOf x) (ms.idxOf x + 1) h1 (by (first | lia | omega)) (by (first | lia | omega))
  have a2 := List.pairwise_iff_getElem.mp h (ms.idxOf x + 1) (ms.idxOf (x + 1)) (by (first | lia | omega)) h2 (by (first | lia | omega))
  rw [e1] at a1
  rw [e2] at a2
  (first | lia | omega)
theorem asc_len : ∀ {ms ns : List Int}, ms.Pairwise (· < ·) -> (∀ x ∈ ms, x ∈ ns) -> ms.length <= ns.length
 | [], _, _, _ => Nat.zero_le _
 | a :: ms, ns, h, hs => by
  obtain ⟨h1, h2⟩ := List.pairwise_cons.mp h
  have ih := asc_len (ms := ms) (ns := ns.erase a) h2 fun x hx => (List.mem_erase_of_ne (by have := h1 x hx; (first | lia | omega))).mpr (hs x (List.mem_cons_of_mem _ hx))
  have hp := List.length_pos_of_mem (hs a List.mem_cons_self)
  rw [List.length_erase_of_mem (hs a List.mem_cons_self)] at ih
  rw [List.length_cons]
  (first | lia | omega)
noncomputable def fewZ (ms p : List Int) : List Int := p.map fun k => ((ms.idxOf k : Nat) : Int)
theorem few_rises {ms : List Int} (h : ms.Pairwise (· < ·)) {a c : Nat} (hm : ∀ x, x ∈ ms ↔ x ∈ [(a : Int), (a : Int) + 1, (c : Int), (c : Int) + 1]) (N M : Int) :
  fewZ ms [(a : Int)] ∈ partsZ "rises" ms.length /\ fewZ ms [(c : Int)] ∈ partsZ "rises" ms.length /\ ms.length < 6 /\ bothA "rises" M (fewZ ms [(a : Int)]) (fewZ ms [(c : Int)]) = bothA "rises" N [(a : Int)] [(c : Int)] := by
 have ma : (a : Int) ∈ ms := (hm _).mpr (by simp)
 have ma1 : (a : Int) + 1 ∈ ms := (hm _).mpr (by simp)
 have mc : (c : Int) ∈ ms := (hm _).mpr (by simp)
 have mc1 : (c : Int) + 1 ∈ ms := (hm _).mpr (by simp)
 have na := ix_next h ma ma1
 have nc := ix_next h mc mc1
 have la := List.idxOf_lt_length_of_mem ma1
 have lc := List.idxOf_lt_length_of_mem mc1
 refine ⟨rises_mk (k := ms.idxOf (a : Int)) (by (first | lia | omega)), rises_mk (k := ms.idxOf (c : Int)) (by (first | lia | omega)), ?_, ?_⟩
 ·have := asc_len h (fun x hx => (hm x).mp hx)
  simp at this
  (first | lia | omega)
 ·have r : ∀ K : Int, ∀ x y : Int, bothA "rises" K [x] [y] = if x = y then (1, 2) else if (x - y).natAbs = 1 then (1, 6) else (1, 4) := fun K x y => by
   unfold bothA
   by_cases e : x = y
   ·rw [if_pos (by rw [e]), if_pos e]
    rfl
   ·rw [if_neg (fun z => e (List.cons.inj z).1), if_neg e]
    rfl
  show bothA "rises" M [((ms.idxOf (a : Int) : Nat) : Int)] [((ms.idxOf (c : Int) : Nat) : Int)] = _
  rw [r, r]
  by_cases e : (a : Int) = (c : Int)
  ·rw [if_pos (by rw [e]), if_pos e]
  ·have e' : ¬ ((ms.idxOf (a : Int) : Nat) : Int) = ((ms.idxOf (c : Int) : Nat) : Int) := fun z => e (ix_eq ma mc (by (first | lia | omega)))
   rw [if_neg e', if_neg e]
   have key : ((((ms.idxOf (a : Int) : Nat) : Int) - ((ms.idxOf (c : Int) : Nat) : Int)).natAbs = 1) ↔ (((a : Int) - (c : Int)).natAbs = 1) := by
    rcases Int.lt_or_lt_of_ne e with lt | lt
    ·by_cases c1 : (c : Int) = (a : Int) + 1
     ·rw [c1, na]
      (first | lia | omega)
     ·have g1 := ix_lt h ma1 mc (by (first | lia | omega))
      (first | lia | omega)
    ·by_cases c1 : (a : Int) = (c : Int) + 1
     ·rw [c1, nc]
      (first | lia | omega)
     ·have g1 := ix_lt h mc1 ma (by (first | lia | omega))
      (first | lia | omega)
   by_cases c1 : ((a : Int) - (c : Int)).natAbs = 1
   ·rw [if_pos (key.mpr c1), if_pos c1]
   ·rw [if_neg (fun z => c1 (key.mp z)), if_neg c1]
theorem few_crossed {ms : List Int} (h : ms.Pairwise (· < ·)) {a b c d : Nat} (hab : a < b) (hcd : c < d) (hm : ∀ x, x ∈ ms ↔ x ∈ [(a : Int), (b : Int), (c : Int), (d : Int)]) (N M : Int) :
  fewZ ms [(a : Int), (b : Int)] ∈ partsZ "crossed" ms.length /\ fewZ ms [(c : Int), (d : Int)] ∈ partsZ "crossed" ms.length /\ ms.length < 6 /\ bothA "crossed" M (fewZ ms [(a : Int), (b : Int)]) (fewZ ms [(c : Int), (d : Int)]) = bothA "crossed" N [(a : Int), (b : Int)] [(c : Int), (d : Int)] := by
 have ma : (a : Int) ∈ ms := (hm _).mpr (by simp)
 have mb : (b : Int) ∈ ms := (hm _).mpr (by simp)
 have mc : (c : Int) ∈ ms := (hm _).mpr (by simp)
 have md : (d : Int) ∈ ms := (hm _).mpr (by simp)
 have lb := List.idxOf_lt_length_of_mem mb
 have ld := List.idxOf_lt_length_of_mem md
 refine ⟨crossed_mk (ix_lt h ma mb (by (first | lia | omega))) lb, crossed_mk (ix_lt h mc md (by (first | lia | omega))) ld, ?_, ?_⟩
 ·have := asc_len h (fun x hx => (hm x).mp hx)
  simp at this
  (first | lia | omega)
 ·have r : ∀ K : Int, ∀ x y u v : Int, bothA "crossed" K [x, y] [u, v] = if x = u /\ y = v then (1, 2) else if x = u ∨ y = v then (1, 3) else if x = v ∨ y = u then (1, 6) else (1, 4) := fun K x y u v => by
   unfold bothA
   by_cases e : x = u /\ y = v
   ·rw [if_pos (by rw [e.1, e.2]), if_pos e]
    rfl
   ·rw [if_neg (fun z => e ⟨(List.cons.inj z).1, (List.cons.inj (List.cons.inj z).2).1⟩), if_neg e]
    rfl
  have q : ∀ {x y : Int}, x ∈ ms -> y ∈ ms -> ((((ms.idxOf x : Nat) : Int) = ((ms.idxOf y : Nat) : Int)) = (x = y)) := fun hx hy => propext ⟨fun e => ix_eq hx hy (by (first | lia | omega)), fun e => by rw [e]⟩
  show bothA "crossed" M [((ms.idxOf (a : Int) : Nat) : Int), ((ms.idxOf (b : Int) : Nat) : Int)] [((ms.idxOf (c : Int) : Nat) : Int), ((ms.idxOf (d : Int) : Nat) : Int)] = _
  rw [r, r]
  simp only [q ma mc, q mb md, q ma md, q mb mc]
end L2
namespace L2
open PySem PySem.Spec PyProof.Rows
theorem lc_prs {J : It} {Ok : Hp -> Prop} {xs : List V} {te : TE} {ix : List Nat} {σ : L2.St} {H1 : Hp} {Q : VK} (Y : Yields J Ok xs) (small : xs.length < sizeLine) (B : V -> List V) (hok : ∀ H, Same H1 H -> Ok H)
  (he : ∀ (x : V) (H : Hp), x ∈ xs -> Same H1 H -> ∀ (QT : VK), (∀ (t L : Addr) (H' : Hp), H t = none -> H L = none -> H' t = some (.tup [x, .ref L]) -> H' L = some (.lst (B x)) -> Same H H' -> QT (.ref t) H') -> te (some x :: ix.map fun i => σ.getD i none) H QT)
  (fin : ∀ acc (ts : List Addr) H', H1 acc = none -> Same H1 H' -> H' acc = some (.lst (ts.map V.ref)) -> Paired (fun t x => ∃ L, H' t = some (.tup [x, .ref L]) /\ H' L = some (.lst (B x))) ts xs -> Q (.ref acc) H') :
  LcW J H1 (gName 0) tNoTest te 1 ix σ Q := by
 intro acc ha
 refine ⟨fun i m H => m = xs.length - i /\ i <= xs.length /\ Same H1 H /\ ∃ (ts : List Addr), H acc = some (.lst (ts.map V.ref)) /\ Paired (fun t x => ∃ L, H t = some (.tup [x, .ref L]) /\ H L = some (.lst (B x)) /\ L ≠ acc) ts (xs.take i), ⟨xs.length, by simp, Nat.zero_le _, same_upd ha, [], upd_same, .nil⟩, ?_⟩
 rintro i m H ⟨rfl, hi, kp, ts, hacc, hD⟩
 have o := hok _ kp
 by_cases hlt : i < xs.length
 ·refine .inr ⟨Y.go i _ o hlt, fun x H' y => ?_⟩
  obtain ⟨rfl, hx⟩ := Y.yld i _ x H' o hlt y
  have hl : ts.length = i := by rw [Paired.length hD, List.length_take]; (first | lia | omega)
  refine ⟨⟨rfl, fun j v e => ?_⟩, ?_⟩
  ·cases j with
   | zero => cases e
   | succ j => exact e
  ·unfold tNoTest
   dsimp only
   rw [if_pos rfl]
   refine he x H' (List.mem_of_getElem? hx) kp _ (fun t L H4 t0 L0 ht4 hL4 k4 => ?_)
   have h4 := k4 _ _ hacc
   have hLa : L ≠ acc := fun e => by rw [e, hacc] at L0; cases L0
   have hta : t ≠ acc := fun e => by rw [e, hacc] at t0; cases t0
   refine ⟨_, h4, by rw [List.length_map]; (first | lia | omega), xs.length - (i + 1), by (first | lia | omega), rfl, hlt, same_updR (kp.trans k4) ha, ts ++ [t], by rw [upd_same, List.map_append]; rfl, ?_⟩
   rw [List.take_succ, hx]
   refine Paired.append (Paired.mapP hD fun t' x' h => ?_) (.cons ⟨L, by rw [upd_ne hta]; exact ht4, by rw [upd_ne hLa]; exact hL4, hLa⟩ .nil)
   obtain ⟨L', q1, q2, q3⟩ := h
   exact ⟨L', by rw [upd_ne (ne_of (k4 _ _ q1) h4 (fun z => nomatch z))]; exact k4 _ _ q1, by rw [upd_ne q3]; exact k4 _ _ q2, q3⟩
 ·have e : i = xs.length := by (first | lia | omega)
  subst e
  rw [List.take_length] at hD
  exact .inl ⟨Y.stop _ o, fin acc ts H ha kp hacc (Paired.mapP hD fun t x h => by obtain ⟨L, q1, q2, _⟩ := h; exact ⟨L, q1, q2⟩)⟩
noncomputable def keyI (r : List Int) : List Key := r.map Sum.inl
theorem keyI_V (r : List Int) : (keyI r).map kV = r.map V.int := by
 unfold keyI
 rw [List.map_map]
 rfl
theorem keyI_inj {a b : List Int} (h : keyI a = keyI b) : a = b := by
 have : (keyI a).map kV = (keyI b).map kV := by rw [h]
 rw [keyI_V, keyI_V] at this
 exact map_int_inj this
theorem putAll_val {Good : List Key -> V -> Prop} : ∀ (kvs d : List (List Key × V)), (∀ kv ∈ kvs, Good kv.1 kv.2) -> (∀ k v, valV d k = some v -> Good k v) -> (∀ k v, valV (putAll d kvs) k = some v -> Good k v) /\ ∀ k, (k ∈ kvs.map (·.1) ∨ (valV d k).isSome = true) -> (valV (putAll d kvs) k).isSome = true
 | [], d, _, h2 => ⟨h2, fun k h => h.elim (fun h => by cases h) id⟩
 | kv :: kvs, d, h1, h2 => by
  have ih := putAll_val (Good := Good) kvs (putK d kv.1 kv.2) (fun x hx => h1 x (List.mem_cons_of_mem _ hx)) fun k v e => by
   rw [valV_put] at e
   by_cases c : k = kv.1
   ·rw [if_pos c] at e
    cases e
    rw [c]
    exact h1 kv List.mem_cons_self
   ·rw [if_neg c] at e
    exact h2 k v e
  refine ⟨ih.1, fun k h => ih.2 k ?_⟩
  rw [valV_put]
  by_cases c : k = kv.1
  ·rw [if_pos c]
   exact .inr rfl
  ·rw [if_neg c]
   rcases h with h | h
   ·rw [List.map_cons] at h
    rcases List.mem_cons.mp h with h | h
    ·exact absurd h c
    ·exact .inl h
   ·exact .inr h
noncomputable def hasB (H : Hp) (kind : Str) (rows : List (List Int)) : V -> List V
 | .ref w => (match H w with | some (.tup vs) => rows.map fun o => V.bl (hasZ kind (vs.map vInt) o) | _ => [])
 | _ => []
theorem hasB_at {H : Hp} {kind : Str} {rows : List (List Int)} {w : Addr} {r : List Int} (h : H w = some (.tup (r.map V.int))) : hasB H kind rows (.ref w) = rows.map fun o => V.bl (hasZ kind r o) := by
 show (match H w with | some (.tup vs) => rows.map fun o => V.bl (hasZ kind (vs.map vInt) o) | _ => []) = _
 rw [h]
 show (rows.map fun o => V.bl (hasZ kind ((r.map V.int).map vInt) o)) = _
 rw [vInt_map]
noncomputable def HadAt (H : Hp) (D : Addr) (kind : Str) (rows parts : List (List Int)) : Prop := ∃ d, H D = some (.dT d) /\ ∀ r ∈ parts, ∃ L, valV d (keyI r) = some (.ref L) /\ H L = some (.lst (rows.map fun o => V.bl (hasZ kind r o)))
theorem HadAt.same {H H' : Hp} {D : Addr} {kind : Str} {rows parts : List (List Int)} (h : HadAt H D kind rows parts) (s : Same H H') : HadAt H' D kind rows parts := by
 obtain ⟨d, h1, h2⟩ := h
 exact ⟨d, s _ _ h1, fun r hr => by obtain ⟨L, e1, e2⟩ := h2 r hr; exact ⟨L, e1, s _ _ e2⟩⟩
theorem prs_kvs {H0 H : Hp} {kind : Str} {rows : List (List Int)} : ∀ {ts ws : List Addr} {parts : List (List Int)}, RowsAt H0 ws parts -> Same H0 H -> Paired (fun t x => ∃ L, H t = some (.tup [x, .ref L]) /\ H L = some (.lst (hasB H0 kind rows x))) ts (ws.map V.ref) ->
  ∃ kvs : List (List Key × V), Paired (PrK H) ts kvs /\ kvs.map (·.1) = parts.map keyI /\ ∀ kv ∈ kvs, ∃ (r : List Int) (L : Addr), kv.1 = keyI r /\ kv.2 = .ref L /\ H L = some (.lst (rows.map fun o => V.bl (hasZ kind r o)))
 | [], [], [], .nil, _, .nil => ⟨[], .nil, rfl, fun _ h => by cases h⟩
 | t :: ts, w :: ws, r :: parts, .cons hw rw', s, .cons ht pt => by
  obtain ⟨kvs, h1, h2, h3⟩ := prs_kvs rw' s pt
  obtain ⟨L, e1, e2⟩ := ht
  have hw : H0 w = some (.tup (r.map V.int)) := hw
  rw [hasB_at hw] at e2
  refine ⟨(keyI r, .ref L) :: kvs, .cons ⟨w, e1, by rw [keyI_V]; exact s _ _ hw⟩ h1, by rw [List.map_cons, List.map_cons, h2], fun kv hkv => ?_⟩
  rcases List.mem_cons.mp hkv with rfl | hkv
  ·exact ⟨r, L, rfl, rfl, e2⟩
  ·exact h3 kv hkv
theorem had_mk {H : Hp} {D : Addr} {kind : Str} {rows parts : List (List Int)} {kvs : List (List Key × V)} (hD : H D = none) (hk : kvs.map (·.1) = parts.map keyI) (hg : ∀ kv ∈ kvs, ∃ (r : List Int) (L : Addr), kv.1 = keyI r /\ kv.2 = .ref L /\ H L = some (.lst (rows.map fun o => V.bl (hasZ kind r o)))) : HadAt (upd H D (.dT (putAll [] kvs))) D kind rows parts := by
 have pv := putAll_val (Good := fun k v => ∃ (r : List Int) (L : Addr), k = keyI r /\ v = .ref L /\ H L = some (.lst (rows.map fun o => V.bl (hasZ kind r o)))) kvs [] hg (fun k v e => by cases e)
 refine ⟨_, upd_same, fun r hr => ?_⟩
 have hs := pv.2 (keyI r) (.inl (by rw [hk]; exact List.mem_map.mpr ⟨r, hr, rfl⟩))
 cases e : valV (putAll [] kvs) (keyI r) with
 | none => rw [e] at hs; cases hs
 | some v =>
  obtain ⟨r', L, e1, e2, e3⟩ := pv.1 _ _ e
  have := keyI_inj e1
  subst this
  subst e2
  exact ⟨L, rfl, same_upd hD _ _ e3⟩
theorem both_cnt {p q : List Int -> Bool} : ∀ (rows : List (List Int)), ((List.range rows.length).filter fun i => ((rows.map p).getD i false) && ((rows.map q).getD i false)).length = (rows.filter fun o => p o && q o).length
 | [] => rfl
 | o :: rows => by
  rw [List.length_cons, List.range_succ_eq_map, List.filter_cons, List.filter_cons, List.filter_map]
  have ih := both_cnt (p := p) (q := q) rows
  have e : ((fun i => ((List.map p (o :: rows)).getD i false) && ((List.map q (o :: rows)).getD i false)) ∘ Nat.succ) = fun i => ((rows.map p).getD i false) && ((rows.map q).getD i false) := rfl
  rw [e]
  show (if (p o && q o) = true then _ else _ : List Nat).length = _
  by_cases c : (p o && q o) = true
  ·rw [if_pos c, if_pos c, List.length_cons, List.length_map, List.length_cons, ih]
  ·rw [if_neg c, if_neg c, List.length_map, ih]
noncomputable def spPairS : Sp := fun vs H Q _ => ∃ (O D a b : Addr) (zs : List Addr) (kind : Str) (rows parts : List (List Int)) (p q : List Int), vs = [.ref O, .ref D, .ref a, .ref b] /\ H O = some (.lst (zs.map V.ref)) /\ zs.length = rows.length /\ 0 < rows.length /\ rows.length <= 1000 /\ HadAt H D kind rows parts /\ p ∈ parts /\ q ∈ parts /\ H a = some (.tup (p.map V.int)) /\ H b = some (.tup (q.map V.int)) /\
 ∀ z H', Same H H' -> Shr H' z (lowZ ((rows.filter fun o => hasZ kind p o && hasZ kind q o).length : Int) (rows.length : Int)) -> Q (.ref z) H'
noncomputable def spBothA : Sp := fun vs H Q _ => ∃ (kind : Str) (n : Nat) (a b : Addr) (p q : List Int), vs = [.str kind, .int (n : Int), .ref a, .ref b] /\ kind ∈ kinds5 /\ n <= 60 /\ H a = some (.tup (p.map V.int)) /\ H b = some (.tup (q.map V.int)) /\ p ∈ partsZ kind n /\ q ∈ partsZ kind n /\ ∀ z H', Same H H' -> Shr H' z (bothA kind n p q) -> Q (.ref z) H'
noncomputable def spAllPR : Sp := fun vs H Q _ => ∃ (kind : Str) (n : Nat), vs = [.str kind, .int (n : Int)] /\ kind ∈ kinds5 /\ n < 6 /\ ∀ H', Same H H' -> Q (.bl true) H'
noncomputable def spBK (kind : Str) : Sp := fun vs H Q _ => ∃ (n : Nat) (a b : Addr) (p q : List Int), vs = [.int (n : Int), .ref a, .ref b] /\ n <= 60 /\ H a = some (.tup (p.map V.int)) /\ H b = some (.tup (q.map V.int)) /\ p ∈ partsZ kind n /\ q ∈ partsZ kind n /\ p ≠ q /\ ∀ z H', Same H H' -> Shr H' z (bothA kind n p q) -> Q (.ref z) H'
noncomputable def spFew : Sp := fun vs H Q _ => ∃ (kind : Str) (n : Nat) (a b : Addr) (p q : List Int), vs = [.str kind, .ref a, .ref b] /\ (kind = "rises" ∨ kind = "crossed") /\ H a = some (.tup (p.map V.int)) /\ H b = some (.tup (q.map V.int)) /\ p ∈ partsZ kind n /\ q ∈ partsZ kind n /\ ∀ z a' b' (m : Nat) (p' q' : List Int) H', Same H H' -> H' z = some (.tup [.int (m : Int), .ref a', .ref b']) -> H' a' = some (.tup (p'.map V.int)) -> H' b' = some (.tup (q'.map V.int)) -> m < 6 -> p' ∈ partsZ kind m -> q' ∈ partsZ kind m -> bothA kind m p' q' = bothA kind n p q -> Q (.ref z) H'
theorem shB1 {x : Int} (h0 : 0 < x) (h1 : x <= 1000) : ShB (1, x) 3900 := ⟨h0, Sm.of (show (1 : Int).natAbs < 2 ^ 3900 by decide +kernel), Sm.of (Nat.lt_of_le_of_lt (show x.natAbs <= 1000 by (first | lia | omega)) (by decide +kernel))⟩
structure TopS (mg : Str -> Option Value) : Prop where
 n_set : mg "set" = none
 n_dict : mg "dict" = none
structure TopSK (K : PySem.W.Frag) : Prop where
 k_set : PySem.W.nsIn K mainGlobals "set" = some none
 k_dict : PySem.W.nsIn K mainGlobals "dict" = some none
theorem TopSK.top {K : PySem.W.Frag} {h : Heap} {mg : Str -> Option Value} (T : TopSK K) (X : K.In h) (G : h.Ns mainGlobals mg) : TopS mg := ⟨PySem.W.mg_none_of X G T.k_set, PySem.W.mg_none_of X G T.k_dict⟩
theorem rows_tabB {H : Hp} {g : List Int -> Bool} : ∀ {zs : List Addr} {rows : List (List Int)} {ys : List V}, RowsAt H zs rows -> Paired (fun x v => ∀ z r, x = V.ref z -> H z = some (.tup (r.map V.int)) -> v = V.bl (g r)) (zs.map V.ref) ys -> ys = rows.map fun r => V.bl (g r)
 | _, _, _, .nil, .nil => rfl
 | _, _, _, .cons q t, .cons h pr => by rw [List.map_cons, h _ _ rfl q, rows_tabB t pr]
noncomputable def spOf2w : Sp := fun vs H Q _ => ∃ (p l : Addr) (xs : List V), vs = [.ref p, .ref l] /\ H l = some (.lst xs) /\ l ≠ p /\ 0 < xs.length /\ xs.length <= 100000 /\ Pot2 H p /\ ∀ x ∈ xs, ∀ H', Pot2 H' p -> Keep p p H H' -> Q x H'
noncomputable def fstV (H : Hp) : V -> Int
 | .ref y => (match H y with | some (.tup vs) => vInt (vs.getD 0 .non) | _ => 0)
 | _ => 0
noncomputable def lstV (H : Hp) : V -> Int
 | .ref y => (match H y with | some (.tup vs) => vInt (vs.getLastD .non) | _ => 0)
 | _ => 0
theorem fstV_at {H : Hp} {y : Addr} {k : Int} {r : List Int} (h : H y = some (.tup ((k :: r).map V.int))) : fstV H (.ref y) = k := by
 show (match H y with | some (.tup vs) => vInt (vs.getD 0 .non) | _ => 0) = k
 rw [h]
 rfl
theorem lstV_at {H : Hp} {y : Addr} {k : Int} {r : List Int} (h : H y = some (.tup ((r ++ [k]).map V.int))) : lstV H (.ref y) = k := by
 show (match H y with | some (.tup vs) => vInt (vs.getLastD .non) | _ => 0) = k
 rw [h]
 show vInt (((r ++ [k]).map V.int).getLastD .non) = k
 rw [List.map_append]
 show vInt ((r.map V.int ++ [V.int k]).getLastD .non) = k
 rw [List.getLastD_concat]
 rfl
theorem at_lastP {r : List Int} {k : Int} : atI ((r ++ [k]).map V.int) (-1) = some (.int k) := by
 unfold atI ixN
 rw [mapI_len, if_neg (by decide), if_pos (by rw [List.length_append]; show -((r.length + 1 : Nat) : Int) <= -1; (first | lia | omega))]
 show ((r ++ [k]).map V.int)[((-1 : Int) + ((r ++ [k]).length : Int)).toNat]? = _
 rw [List.length_append, show ((-1 : Int) + ((r.length + [k].length : Nat) : Int)).toNat = r.length by show ((-1 : Int) + ((r.length + 1 : Nat) : Int)).toNat = _; (first | lia | omega), List.getElem?_map, List.getElem?_append_right (Nat.le_refl _), Nat.sub_self]
 rfl
theorem parts_ends {kind : Str} {m : Nat} {r : List Int} (hr : r ∈ partsZ kind m) : ∃ (k l : Int) (t u : List Int), r = k :: t /\ r = u ++ [l] := by
 obtain ⟨i, _, _, (⟨_, rfl⟩ | ⟨_, j, _, _, rfl⟩)⟩ := parts_form hr
 ·exact ⟨i, i, [], [], rfl, rfl⟩
 ·exact ⟨i, j, [(j : Int)], [(i : Int)], rfl, rfl⟩
theorem small1w {n : Nat} (h : n <= 100000) : n < sizeLine := Nat.lt_of_le_of_lt h (by decide)
end L2
namespace K26
open PySem PySem.Spec PyProof.Rows L2
noncomputable abbrev s__law_pot : Stmt := top 19
noncomputable abbrev s__law_next : Stmt := top 20
noncomputable abbrev s__law_of : Stmt := top 21
section
variable {P : Program} {w : World} {K : PySem.W.Frag} {mg : Str -> Option Value} {base : Heap}
theorem sc__law_pot : FnScope ["_law_script", "_law_k", "_law_cell", "_law_number", "_law_mixed"] ["_law_script", "_law_k"] (defScope s__law_pot) := ⟨rfl, rfl, rfl, by decide +kernel, rfl, by decide +kernel, by decide +kernel⟩
theorem ok__law_pot {f : Addr} {fd : FuncData} (F : Fun K "_law_pot" "_law_pot" s__law_pot f fd) (T : Top mg) : FnOk P w K mg base CX0 1 f fd ["_law_script", "_law_k"] (spPot2 K) := by
 refine F.ok sc__law_pot (fun vs H Q E h => ?_) (fun cdv A outer s H vs Q E hr h => ?_)
 ·obtain ⟨a, ns, k, rfl, _⟩ := h
  rfl
 ·obtain ⟨a, ns, j, rfl, hS, j0, j1, k⟩ := h
  refine ⟨_, (pss_cons (ps_set (i := 2) sc__law_pot.nd rfl (Or.inl rfl) pe_int)
   (pss_cons (ps_if (pt_cmpR op_lt (pv 1) (pe_callB call_len_seq (by rfl) T.n_len PySem.boot_len (pa_cons (pv 0) pa_nil)) (nomark _))
    (pss_one (ps_set (i := 2) sc__law_pot.nd rfl (Or.inl rfl) (pe_ix ix_list (pv 0) (pv 1) (fun _ _ => rfl))))
    pss_nil)
   (pss_cons (ps_set (i := 3) sc__law_pot.nd rfl (Or.inl rfl) (pe_op op_add (pe_op op_mul pe_int (pe_op op_mod (pe_callB call_abs (by rfl) T.n_abs boot_abs (pa_cons (pv 2) pa_nil)) (pe_op op_powW (pe_op op_pow pe_int pe_int) pe_int))) (pe_callTy call_int1 (by rfl) T.n_int boot_int (pa_cons (pe_cmpR op_lt (pv 2) pe_int (nomark _)) pa_nil))))
   (pss_cons (ps_set (i := 4) sc__law_pot.nd rfl (Or.inl rfl) (pe_op op_mod (pe_op op_powW (pe_op op_add (pe_op op_add (pv 3) (pe_op op_mul pe_int (pv 1))) pe_int) pe_int) pe_int))
   (pss_one (ps_ret (pe_lst (pa_cons (pe_op op_mul (pv 3) (pe_callTy call_int1 (by rfl) T.n_int boot_int (pa_cons (pe_cmpR op_ge (pv 3) (pe_op op_mul pe_int (pe_op op_pow pe_int pe_int)) (nomark _)) pa_nil))) (pa_cons (pv 4) pa_nil))))))))), ?_⟩
  have e64 : ∀ b : Bool, (-(2 ^ 64) : Int) < (if b then 1 else 0) /\ (if b then 1 else 0 : Int) < 2 ^ 64 := fun b => by cases b <;> decide
  have e01 : ∀ b : Bool, (0 : Int) <= (if b then 1 else 0) /\ (if b then 1 else 0 : Int) <= 1 := fun b => by cases b <;> decide
  refine ⟨_, rfl, _, rfl, a, _, rfl, .inl hS, _, _, rfl, rfl, _, rfl, ?_⟩
  refine ite2 (fun h => ?a) (fun h => ?b)
  case' a =>
   have hj := of_decide_eq_true h
   rw [mapI_len] at hj
   refine ⟨_, rfl, _, rfl, a, _, j, .int (ns.getD j.toNat 0), rfl, rfl, hS, ?hat, ?_⟩
   case hat =>
    have := atI_nat (xs := ns.map V.int) (j := j.toNat) (v := .int (ns.getD j.toNat 0)) (by rw [List.getElem?_map, List.getD_eq_getElem?_getD, List.getElem?_eq_getElem (by (first | lia | omega))]; rfl)
    rwa [show ((j.toNat : Nat) : Int) = j by (first | lia | omega)] at this
  all_goals
   refine ⟨_, rfl, _, rfl, _, _, rfl, rfl, ⟨by decide, by decide, by decide⟩, _, _, rfl, rfl, ⟨by decide, far2_pow⟩, _, _, rfl, rfl, far2_pos, _, _, rfl, rfl, .inl ⟨by decide, by decide⟩, _, rfl, _, _, rfl, rfl, .inr ⟨_, rfl, _, _, rfl, rfl, ?_⟩⟩
   refine ⟨_, rfl, _, rfl, _, _, rfl, rfl, .inl ⟨by decide, by decide⟩, _, _, rfl, rfl, _, _, rfl, rfl, _, _, rfl, rfl, ⟨by decide, pot2_bits far2_bits (Int.emod_nonneg _ (Int.ne_of_gt far2_pos)) (Int.emod_lt_of_pos _ far2_pos) j0 j1 (e01 _).1 (e01 _).2⟩, _, _, rfl, rfl, (by show (0 : Int) < 18446744073709551557; decide), ?_⟩
   refine ⟨_, rfl, _, rfl, _, _, rfl, rfl, ⟨by decide, by decide, by decide⟩, _, _, rfl, rfl, .inl ⟨by decide, by decide⟩, _, _, rfl, rfl, .inr ⟨_, rfl, _, _, rfl, rfl, .inr ?_, _, rfl, by show 2 <= sizeLine; decide, fun p hp => ?_⟩⟩
   ·exact e64 _
   ·refine k p _ (same_upd hp) ⟨_, _, upd_same, ?_, Int.emod_nonneg _ (by decide), Int.emod_lt_of_pos _ (by decide)⟩ hp
    exact Int.mul_nonneg (Int.add_nonneg (Int.mul_nonneg (by decide) (Int.emod_nonneg _ (Int.ne_of_gt far2_pos))) (e01 _).1) (e01 _).1
theorem sc__law_next : FnScope ["_law_pot_here", "_law_many", "_law_digit"] ["_law_pot_here", "_law_many"] (defScope s__law_next) := ⟨rfl, rfl, rfl, by decide +kernel, rfl, by decide +kernel, by decide +kernel⟩
theorem ok__law_next {f : Addr} {fd : FuncData} (F : Fun K "_law_next" "_law_next" s__law_next f fd) : FnOk P w K mg base CX0 1 f fd ["_law_pot_here", "_law_many"] spNext2 := by
 refine F.ok sc__law_next (fun vs H Q E h => ?_) (fun cdv A outer s H vs Q E hr h => ?_)
 ·obtain ⟨p, m, rfl, _⟩ := h
  rfl
 ·obtain ⟨p, m, rfl, hm0, hm1, ⟨own, mixed, hp, o0, x0, x1⟩, k⟩ := h
  refine ⟨_, (pss_cons (ps_if (pt_cmpR op_gt (pe_ix ix_list (pv 0) pe_int (fun _ _ => rfl)) pe_int (nomark _))
    (pss_cons (ps_set (i := 2) sc__law_next.nd rfl (Or.inl rfl) (pe_op op_mod (pe_ix ix_list (pv 0) pe_int (fun _ _ => rfl)) (pv 1)))
    (pss_cons (ps_asg (pe_op op_fdiv (pe_ix ix_list (pv 0) pe_int (fun _ _ => rfl)) (pv 1)) (pg_sub (pv 0) pe_int set_list))
    (pss_one (ps_ret (pv 2)))))
    pss_nil)
   (pss_cons (ps_asg (pe_op op_mod (pe_op op_add (pe_op op_mul (pe_ix ix_list (pv 0) pe_int (fun _ _ => rfl)) pe_int) pe_int) pe_int) (pg_sub (pv 0) pe_int set_list))
   (pss_one (ps_ret (pe_op op_mod (pe_op op_fdiv (pe_op op_mod (pe_op op_mul (pe_ix ix_list (pv 0) pe_int (fun _ _ => rfl)) (pe_ix ix_list (pv 0) pe_int (fun _ _ => rfl))) pe_int) pe_int) (pv 1)))))), ?_⟩
  refine ⟨_, rfl, p, _, 0, _, rfl, rfl, SqL.of hp, atI_nat (j := 0) rfl, _, _, rfl, rfl, _, rfl, ?_⟩
  refine ite2 (fun _ => ?_) (fun _ => ?_)
  ·refine ⟨_, rfl, p, _, 0, _, rfl, rfl, SqL.of hp, atI_nat (j := 0) rfl, _, rfl, _, _, rfl, rfl, hm0, ?_⟩
   refine ⟨_, rfl, p, _, 0, _, rfl, rfl, SqL.of hp, atI_nat (j := 0) rfl, _, rfl, _, _, rfl, rfl, ⟨hm0, hm1⟩, _, rfl, p, _, 0, 0, rfl, rfl, hp, rfl, ?_⟩
   refine ⟨_, rfl, ?_⟩
   refine k _ _ (Int.emod_nonneg _ (by (first | lia | omega))) (Int.emod_lt_of_pos _ hm0) ⟨_, _, upd_same, Int.ediv_nonneg o0 (by (first | lia | omega)), x0, x1⟩ fun b o hb h1 _ => ?_
   rw [upd_ne h1]
   exact hb
  ·refine ⟨_, rfl, p, _, 1, _, rfl, rfl, SqL.of hp, atI_nat (j := 1) rfl, _, _, rfl, rfl, .inr ⟨by decide, by decide⟩, _, _, rfl, rfl, _, _, rfl, rfl, (by show (0 : Int) < 18446744073709551557; decide), _, rfl, p, _, 1, 1, rfl, rfl, hp, rfl, ?_⟩
   have y0 := Int.emod_nonneg (mixed * 6364136223846793005 + 1442695040888963407) (by decide : (18446744073709551557 : Int) ≠ 0)
   have y1 := Int.emod_lt_of_pos (mixed * 6364136223846793005 + 1442695040888963407) (by decide : (0 : Int) < 18446744073709551557)
   refine ⟨_, rfl, p, _, 1, _, rfl, rfl, SqL.of upd_same, atI_nat (j := 1) rfl, _, rfl, p, _, 1, _, rfl, rfl, SqL.of upd_same, atI_nat (j := 1) rfl, _, _, rfl, rfl, .inl ⟨by (first | lia | omega), by (first | lia | omega)⟩, _, _, rfl, rfl, (by show (0 : Int) < 2305843009213693951; decide), _, _, rfl, rfl, ⟨by decide, by decide⟩, _, rfl, _, _, rfl, rfl, hm0, ?_⟩
   refine k _ _ (Int.emod_nonneg _ (by (first | lia | omega))) (Int.emod_lt_of_pos _ hm0) ⟨_, _, upd_same, o0, y0, y1⟩ fun b o hb h1 _ => ?_
   rw [upd_ne h1]
   exact hb
theorem sc__law_of : FnScope ["_law_pot_here", "_law_some"] ["_law_pot_here", "_law_some"] (defScope s__law_of) := ⟨rfl, rfl, rfl, by decide +kernel, rfl, by decide +kernel, by decide +kernel⟩
theorem ok__law_of {f : Addr} {fd : FuncData} (F : Fun K "_law_of" "_law_of" s__law_of f fd) (T : Top mg) (C_law_next : Cal P w K mg base 1 "_law_next" ["_law_pot_here", "_law_many"] spNext2) : FnOk P w K mg base CX0 2 f fd ["_law_pot_here", "_law_some"] spOf2w := by
 refine F.ok sc__law_of (fun vs H Q E h => ?_) (fun cdv A outer s H vs Q E hr h => ?_)
 ·obtain ⟨p, l, xs, rfl, _⟩ := h
  rfl
 ·obtain ⟨p, l, xs, rfl, hl, hne, l0, l1, hp, k⟩ := h
  refine ⟨_, (pss_one (ps_ret (pe_ix ix_list (pv 1) (pe_cal C_law_next (hr.mono (by decide)) rfl (pa_cons (pv 0) (pa_cons (pe_callB call_len_seq (by rfl) T.n_len PySem.boot_len (pa_cons (pv 1) pa_nil)) pa_nil))) (fun _ _ => rfl)))), ?_⟩
  refine ⟨_, rfl, _, rfl, _, rfl, l, _, rfl, .inl (SqL.of hl), p, _, rfl, by (first | lia | omega), by (first | lia | omega), hp, fun d H' d0 d1 hp' kp => ?_⟩
  have hd : d.toNat < xs.length := by (first | lia | omega)
  refine ⟨l, xs, d, xs[d.toNat], rfl, rfl, SqL.of (kp _ _ hl hne hne), ?_, k _ (List.getElem_mem _) _ hp' kp⟩
  have := atI_nat (xs := xs) (j := d.toNat) (v := xs[d.toNat]) (List.getElem?_eq_getElem hd)
  rwa [show ((d.toNat : Nat) : Int) = d by (first | lia | omega)] at this
end
end K26
namespace L2
open PySem PySem.Spec PyProof.Rows
theorem kit_int_str {K : PySem.W.Frag} : PySem.W.kitOne K (.type "int") (.type "str") = some false := kit_tt (by decide +kernel)
end L2
namespace K26
open PySem PySem.Spec PyProof.Rows L2
noncomputable abbrev s__law_same : Stmt := top 22
section
variable {P : Program} {w : World} {K : PySem.W.Frag} {mg : Str -> Option Value} {base : Heap}
theorem sc__law_same : FnScope ["_law_one", "_law_two"] ["_law_one", "_law_two"] (defScope s__law_same) := ⟨rfl, rfl, rfl, by decide +kernel, rfl, by decide +kernel, by decide +kernel⟩
theorem ok__law_same {f : Addr} {fd : FuncData} (F : Fun K "_law_same" "_law_same" s__law_same f fd) (T : Top mg) (TX : TopX mg) (hm : mg "_law_same" = some (.ref f)) (hb : Binds K fd ["_law_one", "_law_two"] []) :
  ∀ n, FnOk P w K mg base CX0 (n + 1) f fd ["_law_one", "_law_two"] (spSameW n)
 | 0 => by
  refine F.ok sc__law_same (fun vs H Q E h => ?_) (fun cdv A outer s H vs Q E hr h => ?_)
  ·obtain ⟨x, y, rfl, _⟩ := h
   rfl
  ·obtain ⟨x, y, rfl, ⟨a, rfl, rfl⟩, k⟩ := h
   have hu : _ := hr.units
   refine ⟨_, (pss_cons (ps_if (PW.pt (pw_and (pt_val (pe_callB call_isi (by rfl) T.n_isinstance boot_isinstance (pa_cons (pv 0) (pa_cons (pe_bltn (v := .ty "tuple") rfl T.n_tuple boot_tuple rfl) pa_nil)))) (pw_and1 (pt_val (pe_callB call_isi (by rfl) T.n_isinstance boot_isinstance (pa_cons (pv 1) (pa_cons (pe_bltn (v := .ty "tuple") rfl T.n_tuple boot_tuple rfl) pa_nil)))))))
    pss_never
    pss_nil)
   (pss_cons (ps_if (PW.pt (pw_and (pt_val (pe_callB call_isi (by rfl) T.n_isinstance boot_isinstance (pa_cons (pv 0) (pa_cons (pe_bltn (v := .ty "str") rfl TX.n_str boot_str rfl) pa_nil)))) (pw_and1 (pt_val (pe_callB call_isi (by rfl) T.n_isinstance boot_isinstance (pa_cons (pv 1) (pa_cons (pe_bltn (v := .ty "str") rfl TX.n_str boot_str rfl) pa_nil)))))))
    pss_never
    pss_nil)
   (pss_cons (ps_if (PW.pt (pw_and (pt_val (pe_callB call_isi (by rfl) T.n_isinstance boot_isinstance (pa_cons (pv 0) (pa_cons (pe_bltn (v := .ty "int") rfl T.n_int boot_int rfl) pa_nil)))) (pw_and1 (pt_val (pe_callB call_isi (by rfl) T.n_isinstance boot_isinstance (pa_cons (pv 1) (pa_cons (pe_bltn (v := .ty "int") rfl T.n_int boot_int rfl) pa_nil)))))))
    (pss_one (ps_ret (pe_and (pe_cmpR op_eq (pe_callB call_isi (by rfl) T.n_isinstance boot_isinstance (pa_cons (pv 0) (pa_cons (pe_bltn (v := .ty "bool") rfl T.n_bool boot_bool rfl) pa_nil))) (pe_callB call_isi (by rfl) T.n_isinstance boot_isinstance (pa_cons (pv 1) (pa_cons (pe_bltn (v := .ty "bool") rfl T.n_bool boot_bool rfl) pa_nil))) (nomark _)) (pe_one (pe_cmpR op_eq (pv 0) (pv 1) (nomark _))))))
    pss_nil)
   pss_never))), ?_⟩
   refine ⟨_, rfl, _, _, _, _, rfl, .int _, kit_int_tuple, _, rfl, iteF (iteF ?_)⟩
   refine ⟨_, rfl, _, _, _, _, rfl, .int _, kit_int_str, _, rfl, iteF (iteF ?_)⟩
   refine ⟨_, rfl, _, _, _, _, rfl, .int _, kit_int_int, _, rfl, iteT ?_⟩
   refine ⟨_, rfl, _, _, _, _, rfl, .int _, kit_int_int, _, rfl, iteT ?_⟩
   refine ⟨_, rfl, _, _, _, _, rfl, .int _, kit_int_bool, _, rfl, _, _, _, _, rfl, .int _, kit_int_bool, rfl, _, rfl, iteT ?_⟩
   refine ⟨_, rfl, _, rfl, rfl, ?_⟩
   rw [decide_eq_true rfl]
   exact k H (Same.refl H)
 | n + 1 => by
  have ih : Cal P w K mg base (n + 1) "_law_same" ["_law_one", "_law_two"] (spSameW n) := ⟨f, fd, ok__law_same F T TX hm hb n, hm, F.kp, hb⟩
  refine F.ok sc__law_same (fun vs H Q E h => ?_) (fun cdv A outer s H vs Q E hr h => ?_)
  ·obtain ⟨x, y, rfl, _⟩ := h
   rfl
  ·obtain ⟨x, y, rfl, al, k⟩ := h
   have hu : _ := hr.units
   refine ⟨_, (pss_cons (ps_if (PW.pt (pw_and (pt_val (pe_callB call_isi (by rfl) T.n_isinstance boot_isinstance (pa_cons (pv 0) (pa_cons (pe_bltn (v := .ty "tuple") rfl T.n_tuple boot_tuple rfl) pa_nil)))) (pw_and1 (pt_val (pe_callB call_isi (by rfl) T.n_isinstance boot_isinstance (pa_cons (pv 1) (pa_cons (pe_bltn (v := .ty "tuple") rfl T.n_tuple boot_tuple rfl) pa_nil)))))))
    (pss_one (ps_ret (pe_and (pe_cmpR op_eq (pe_callB call_len_seq (by rfl) T.n_len PySem.boot_len (pa_cons (pv 0) pa_nil)) (pe_callB call_len_seq (by rfl) T.n_len PySem.boot_len (pa_cons (pv 1) pa_nil)) (nomark _)) (pe_one (pe_callB (call_all rfl) (by rfl) T.n_all boot_all (pa_cons (pe_lc (N' := ["_law_a", "_law_b"]) (n := 2) (ix := []) rfl (CompScope.of (sc := defScope s__law_same) (N := ["_law_one", "_law_two"]) (by decide +kernel) rfl rfl) (pi_zipT rfl T.n_zip (pa_cons (pv 0) (pa_cons (pv 1) pa_nil))) (fun _ _ _ _ _ => ⟨(pg_pairK K (i := 0) (j := 1) rfl rfl (show (["_law_a", "_law_b"] : List Str).Nodup by decide +kernel) rfl rfl (Or.inl rfl) (Or.inl rfl) (Or.inr rfl) (Or.inr rfl)), pts_nil, (pe_cal ih hr rfl (pa_cons (pv 0) (pa_cons (pv 1) pa_nil)))⟩)) pa_nil))))))
    pss_nil)
   (pss_cons (ps_if (PW.pt (pw_and (pt_val (pe_callB call_isi (by rfl) T.n_isinstance boot_isinstance (pa_cons (pv 0) (pa_cons (pe_bltn (v := .ty "str") rfl TX.n_str boot_str rfl) pa_nil)))) (pw_and1 (pt_val (pe_callB call_isi (by rfl) T.n_isinstance boot_isinstance (pa_cons (pv 1) (pa_cons (pe_bltn (v := .ty "str") rfl TX.n_str boot_str rfl) pa_nil)))))))
    pss_never
    pss_nil)
   (pss_cons (ps_if (PW.pt (pw_and (pt_val (pe_callB call_isi (by rfl) T.n_isinstance boot_isinstance (pa_cons (pv 0) (pa_cons (pe_bltn (v := .ty "int") rfl T.n_int boot_int rfl) pa_nil)))) (pw_and1 (pt_val (pe_callB call_isi (by rfl) T.n_isinstance boot_isinstance (pa_cons (pv 1) (pa_cons (pe_bltn (v := .ty "int") rfl T.n_int boot_int rfl) pa_nil)))))))
    (pss_one (ps_ret (pe_and (pe_cmpR op_eq (pe_callB call_isi (by rfl) T.n_isinstance boot_isinstance (pa_cons (pv 0) (pa_cons (pe_bltn (v := .ty "bool") rfl T.n_bool boot_bool rfl) pa_nil))) (pe_callB call_isi (by rfl) T.n_isinstance boot_isinstance (pa_cons (pv 1) (pa_cons (pe_bltn (v := .ty "bool") rfl T.n_bool boot_bool rfl) pa_nil))) (nomark _)) (pe_one (pe_cmpR op_eq (pv 0) (pv 1) (nomark _))))))
    pss_nil)
   pss_never))), ?_⟩
   rcases al with ⟨a, rfl, rfl⟩ | ⟨a, b, xs, ys, rfl, rfl, ha, hbb, hl, pr⟩
   ·refine ⟨_, rfl, _, _, _, _, rfl, .int _, kit_int_tuple, _, rfl, iteF (iteF ?_)⟩
    refine ⟨_, rfl, _, _, _, _, rfl, .int _, kit_int_str, _, rfl, iteF (iteF ?_)⟩
    refine ⟨_, rfl, _, _, _, _, rfl, .int _, kit_int_int, _, rfl, iteT ?_⟩
    refine ⟨_, rfl, _, _, _, _, rfl, .int _, kit_int_int, _, rfl, iteT ?_⟩
    refine ⟨_, rfl, _, _, _, _, rfl, .int _, kit_int_bool, _, rfl, _, _, _, _, rfl, .int _, kit_int_bool, rfl, _, rfl, iteT ?_⟩
    refine ⟨_, rfl, _, rfl, rfl, ?_⟩
    rw [decide_eq_true rfl]
    exact k H (Same.refl H)
   ·have hxy : xs.length = ys.length := Paired.length pr
    refine ⟨_, rfl, _, _, _, _, rfl, .tup ha, kit_tuple_tuple, _, rfl, iteT ?_⟩
    refine ⟨_, rfl, _, _, _, _, rfl, .tup hbb, kit_tuple_tuple, _, rfl, iteT ?_⟩
    refine ⟨_, rfl, a, _, rfl, .inr (SqT.of ha), _, rfl, b, _, rfl, .inr (SqT.of hbb), rfl, _, rfl, ?_⟩
    rw [hxy, decide_eq_true rfl]
    refine iteT ?_
    refine ⟨_, rfl, _, rfl, a, b, rfl, ⟨_, SqT.of ha⟩, ⟨_, SqT.of hbb⟩, ?_⟩
    refine lc_zip_trueW (xs := xs) (ys := ys) hxy hl (fun s' => SqT.of (s' _ _ ha)) (fun s' => SqT.of (s' _ _ hbb)) (fun i x y hx hy H' s' Q' q => ?_) fun acc H' hacc s' h' => ?_
    ·refine ⟨_, rfl, _, rfl, x, y, rfl, ?_, fun H2 s2 => q H2 s2⟩
     have al := paired_get pr hx hy
     exact al.sameT s'.t
    ·refine ⟨acc, _, rfl, h', ?_⟩
     have e : (List.replicate xs.length true).all id = true := by simp
     rw [e]
     exact k H' s'
end
end K26
namespace K26
open PySem PySem.Spec PyProof.Rows L2
noncomputable abbrev s_round_share : Stmt := top 5
noncomputable abbrev s_stay_share : Stmt := top 6
noncomputable abbrev s_half_share : Stmt := top 7
noncomputable abbrev s_high_share : Stmt := top 8
noncomputable abbrev s_one_share : Stmt := top 10
noncomputable abbrev s__law_low : Stmt := top 23
noncomputable abbrev s__law_all : Stmt := top 24
noncomputable abbrev s__law_round : Stmt := top 26
noncomputable abbrev s__law_has : Stmt := top 27
noncomputable abbrev s__law_parts : Stmt := top 25
section
variable {P : Program} {w : World} {K : PySem.W.Frag} {mg : Str -> Option Value} {base : Heap}
theorem sc_round_share : FnScope ["many", "part"] ["many", "part"] (defScope s_round_share) := ⟨rfl, rfl, rfl, by decide +kernel, rfl, by decide +kernel, by decide +kernel⟩
theorem ok_round_share {f : Addr} {fd : FuncData} (F : Fun K "round_share" "round_share" s_round_share f fd) : FnOk P w K mg base CX0 1 f fd ["many", "part"] (spShK fun N ps => N - ps.getD 0 0) := by
 refine F.ok sc_round_share (fun vs H Q E h => ?_) (fun cdv A outer s H vs Q E hr h => ?_)
 ·obtain ⟨N, p, ps, rfl, _⟩ := h
  rfl
 ·obtain ⟨N, p, ps, rfl, hp, hl, k⟩ := h
  refine ⟨_, (pss_one (ps_ret (pe_tup (pa_cons pe_int (pa_cons (pe_op op_sub (pv 0) (pe_ix ix_tup (pv 1) pe_int (fun _ _ => rfl))) pa_nil))))), ?_⟩
  have hp0 : atI (ps.map V.int) 0 = some (.int (ps.getD 0 0)) := by
   have := at_getD (ys := ps) (i := 0) (by decide) (by (first | lia | omega))
   rwa [show (0 : Int).toNat = 0 from rfl] at this
  exact ⟨_, rfl, _, rfl, p, _, 0, _, rfl, rfl, SqT.of hp, hp0, _, _, rfl, rfl, by show 2 <= sizeLine; decide, fun z hz => k z _ (same_upd hz) upd_same⟩
theorem sc_stay_share : FnScope ["many", "part"] ["many", "part"] (defScope s_stay_share) := ⟨rfl, rfl, rfl, by decide +kernel, rfl, by decide +kernel, by decide +kernel⟩
theorem ok_stay_share {f : Addr} {fd : FuncData} (F : Fun K "stay_share" "stay_share" s_stay_share f fd) : FnOk P w K mg base CX0 1 f fd ["many", "part"] (spShK fun N ps => N) := by
 refine F.ok sc_stay_share (fun vs H Q E h => ?_) (fun cdv A outer s H vs Q E hr h => ?_)
 ·obtain ⟨N, p, ps, rfl, _⟩ := h
  rfl
 ·obtain ⟨N, p, ps, rfl, hp, hl, k⟩ := h
  refine ⟨_, (pss_one (ps_ret (pe_tup (pa_cons pe_int (pa_cons (pv 0) pa_nil))))), ?_⟩
  exact ⟨_, rfl, by show 2 <= sizeLine; decide, fun z hz => k z _ (same_upd hz) upd_same⟩
theorem sc_half_share : FnScope ["many", "part"] ["many", "part"] (defScope s_half_share) := ⟨rfl, rfl, rfl, by decide +kernel, rfl, by decide +kernel, by decide +kernel⟩
theorem ok_half_share {f : Addr} {fd : FuncData} (F : Fun K "half_share" "half_share" s_half_share f fd) : FnOk P w K mg base CX0 1 f fd ["many", "part"] (spShK fun N ps => 2) := by
 refine F.ok sc_half_share (fun vs H Q E h => ?_) (fun cdv A outer s H vs Q E hr h => ?_)
 ·obtain ⟨N, p, ps, rfl, _⟩ := h
  rfl
 ·obtain ⟨N, p, ps, rfl, hp, hl, k⟩ := h
  refine ⟨_, (pss_one (ps_ret (pe_tup (pa_cons pe_int (pa_cons pe_int pa_nil))))), ?_⟩
  exact ⟨by show 2 <= sizeLine; decide, fun z hz => k z _ (same_upd hz) upd_same⟩
theorem sc_high_share : FnScope ["many", "part"] ["many", "part"] (defScope s_high_share) := ⟨rfl, rfl, rfl, by decide +kernel, rfl, by decide +kernel, by decide +kernel⟩
theorem ok_high_share {f : Addr} {fd : FuncData} (F : Fun K "high_share" "high_share" s_high_share f fd) : FnOk P w K mg base CX0 1 f fd ["many", "part"] (spShK fun N ps => ps.getD 0 0 + 1) := by
 refine F.ok sc_high_share (fun vs H Q E h => ?_) (fun cdv A outer s H vs Q E hr h => ?_)
 ·obtain ⟨N, p, ps, rfl, _⟩ := h
  rfl
 ·obtain ⟨N, p, ps, rfl, hp, hl, k⟩ := h
  refine ⟨_, (pss_one (ps_ret (pe_tup (pa_cons pe_int (pa_cons (pe_op op_add (pe_ix ix_tup (pv 1) pe_int (fun _ _ => rfl)) pe_int) pa_nil))))), ?_⟩
  have hp0 : atI (ps.map V.int) 0 = some (.int (ps.getD 0 0)) := by
   have := at_getD (ys := ps) (i := 0) (by decide) (by (first | lia | omega))
   rwa [show (0 : Int).toNat = 0 from rfl] at this
  exact ⟨_, rfl, p, _, 0, _, rfl, rfl, SqT.of hp, hp0, _, _, rfl, rfl, by show 2 <= sizeLine; decide, fun z hz => k z _ (same_upd hz) upd_same⟩
theorem sc_one_share : FnScope ["kind", "many", "part", "sharer"] ["kind", "many", "part"] (defScope s_one_share) := ⟨rfl, rfl, rfl, by decide +kernel, rfl, by decide +kernel, by decide +kernel⟩
theorem ok_one_share {f C f1 f2 f3 f4 : Addr} {fd : FuncData} (F : Fun K "one_share" "one_share" s_one_share f fd) (hC : mg "ONE_SHARES" = some (.ref C)) (GD : GDict K w.params C [("rounds", f1), ("stays", f2), ("rises", f3), ("highs", f4), ("crossed", f3)])
  (c1 : CalF P w K mg base 1 f1 ["many", "part"] (spShK fun N ps => N - ps.getD 0 0)) (c2 : CalF P w K mg base 1 f2 ["many", "part"] (spShK fun N ps => N)) (c3 : CalF P w K mg base 1 f3 ["many", "part"] (spShK fun N ps => 2)) (c4 : CalF P w K mg base 1 f4 ["many", "part"] (spShK fun N ps => ps.getD 0 0 + 1)) : FnOk P w K mg base CX0 2 f fd ["kind", "many", "part"] spOneA := by
 refine F.ok sc_one_share (fun vs H Q E h => ?_) (fun cdv A outer s H vs Q E hr h => ?_)
 ·obtain ⟨kd, N, p, ps, rfl, _⟩ := h
  rfl
 ·obtain ⟨kd, N, p, ps, rfl, hk, hp, hl, k⟩ := h
  refine ⟨_, (pss_cons (ps_set (i := 3) sc_one_share.nd rfl (Or.inl rfl) (pe_ix ix_gd (pe_glob (v := .ref C) rfl hC rfl) (pv 0) (fun _ _ => rfl)))
   (pss_one (ps_ret (pe_callV (k := 1) (pv 3) hr (pa_cons (pv 1) (pa_cons (pv 2) pa_nil)))))), ?_⟩
  rcases kinds5_cases hk with rfl | rfl | rfl | rfl | rfl
  ·exact ⟨_, rfl, C, _, _, f1, rfl, rfl, GD, rfl, _, rfl, f1, _, _, rfl, c1, _, rfl, _, rfl, N, p, ps, rfl, hp, hl, fun z H' s' hz => k z H' s' hz⟩
  ·exact ⟨_, rfl, C, _, _, f2, rfl, rfl, GD, rfl, _, rfl, f2, _, _, rfl, c2, _, rfl, _, rfl, N, p, ps, rfl, hp, hl, fun z H' s' hz => k z H' s' hz⟩
  ·exact ⟨_, rfl, C, _, _, f3, rfl, rfl, GD, rfl, _, rfl, f3, _, _, rfl, c3, _, rfl, _, rfl, N, p, ps, rfl, hp, hl, fun z H' s' hz => k z H' s' hz⟩
  ·exact ⟨_, rfl, C, _, _, f4, rfl, rfl, GD, rfl, _, rfl, f4, _, _, rfl, c4, _, rfl, _, rfl, N, p, ps, rfl, hp, hl, fun z H' s' hz => k z H' s' hz⟩
  ·exact ⟨_, rfl, C, _, _, f3, rfl, rfl, GD, rfl, _, rfl, f3, _, _, rfl, c3, _, rfl, _, rfl, N, p, ps, rfl, hp, hl, fun z H' s' hz => k z H' s' hz⟩
theorem sc__law_low : FnScope ["_law_over", "_law_under", "_law_rest", "_law_by"] ["_law_over", "_law_under"] (defScope s__law_low) := ⟨rfl, rfl, rfl, by decide +kernel, rfl, by decide +kernel, by decide +kernel⟩
theorem ok__law_low {f : Addr} {fd : FuncData} (F : Fun K "_law_low" "_law_low" s__law_low f fd) (T : Top mg) : FnOk P w K mg base CX0 1 f fd ["_law_over", "_law_under"] spLow := by
 refine F.ok sc__law_low (fun vs H Q E h => ?_) (fun cdv A outer s H vs Q E hr h => ?_)
 ·obtain ⟨a, b, rfl, _⟩ := h
  rfl
 ·obtain ⟨a, b, rfl, hb, sb, k⟩ := h
  refine ⟨_, (pss_cons (ps_par (i := 2) (j := 3) rfl sc__law_low.nd rfl rfl (by decide) rfl rfl (pa_cons (pe_callB call_abs (by rfl) T.n_abs boot_abs (pa_cons (pv 0) pa_nil)) (pa_cons (pv 1) pa_nil)) rfl)
   (pss_cons (ps_while PassesOwn.never (pt_cmpR op_gt (pv 2) pe_int (nomark _))
    (pss_one (ps_par (i := 3) (j := 2) rfl sc__law_low.nd rfl rfl (by decide) rfl rfl (pa_cons (pv 2) (pa_cons (pe_op op_mod (pv 3) (pv 2)) pa_nil)) rfl)))
   (pss_one (ps_ret (pe_tup (pa_cons (pe_op op_fdivC (pv 0) (pv 3)) (pa_cons (pe_op op_fdivC (pv 1) (pv 3)) pa_nil))))))), ?_⟩
  refine ⟨_, rfl, _, rfl, _, rfl, _, _, rfl, ?_⟩
  refine ⟨fun m σ G => ∃ x y : Int, m = x.toNat /\ σ = [some (.int a), some (.int b), some (.int x), some (.int y)] /\ G = H /\ 0 <= x /\ 0 < y /\ gcdZ x y = gcdZ a b, ⟨_, _, b, rfl, rfl, rfl, by split <;> (first | lia | omega), hb, gcdZ_abs a b⟩, ?_⟩
  rintro m σ G ⟨x, y, rfl, rfl, rfl, x0, y0, e⟩
  refine ⟨_, rfl, _, _, rfl, rfl, _, rfl, ?_⟩
  refine ite2 (fun h => ?_) (fun h => ?_)
  ·have hx := of_decide_eq_true h
   refine ⟨fun σ' G' => ∃ x' y' : Int, x' < x /\ σ' = [some (.int a), some (.int b), some (.int x'), some (.int y')] /\ G' = G /\ 0 <= x' /\ 0 < y' /\ gcdZ x' y' = gcdZ a b, ?_, ?_⟩
   ·rintro σ' G' ⟨x', y', h1, h2, h3, h4, h5⟩
    exact ⟨_, by (first | lia | omega), x', y', rfl, h2, h3, h4, h5⟩
   ·refine ⟨_, rfl, _, rfl, _, rfl, _, _, rfl, rfl, hx, _, _, rfl, ?_⟩
    exact ⟨_, _, Int.emod_lt_of_pos _ hx, rfl, rfl, Int.emod_nonneg _ (by (first | lia | omega)), hx, by rw [gcdZ_comm, gcdZ_step hx, gcdZ_comm]; exact e⟩
  ·have hx : x = 0 := by
    have : ¬ 0 < x := fun z => h (decide_eq_true z)
    (first | lia | omega)
   subst hx
   rw [gcdZ_comm, gcdZ_zero (Int.le_of_lt y0)] at e
   subst e
   have gs : Sm (gcdZ a b) 8000 := sb.le (by have := gcdZ_le (a := a) hb; (first | lia | omega))
   refine ⟨_, rfl, _, rfl, _, _, rfl, rfl, ⟨y0, gs⟩, _, rfl, _, rfl, _, _, rfl, rfl, ⟨y0, gs⟩, by show 2 <= sizeLine; decide, fun z hz => ?_⟩
   exact k z _ (same_upd hz) upd_same
theorem sc__law_parts : FnScope ["_law_kind", "_law_many", "_law_found", "_law_k"] ["_law_kind", "_law_many"] (defScope s__law_parts) := ⟨rfl, rfl, rfl, by decide +kernel, rfl, by decide +kernel, by decide +kernel⟩
theorem ok__law_parts {f : Addr} {fd : FuncData} (F : Fun K "_law_parts" "_law_parts" s__law_parts f fd) (T : Top mg) : FnOk P w K mg base CX0 1 f fd ["_law_kind", "_law_many"] spLawParts := by
 refine F.ok sc__law_parts (fun vs H Q E h => ?_) (fun cdv A outer s H vs Q E hr h => ?_)
 ·obtain ⟨kind, m, rfl, _⟩ := h
  rfl
 ·obtain ⟨kind, m, rfl, hk, hm, k⟩ := h
  refine ⟨_, (pss_cons (ps_if (pt_cmpR op_ne (pv 0) pe_str (nomark _))
    (pss_one (ps_ret (pe_lc (N' := ["_law_k", "_law_kind", "_law_many"]) (n := 1) (ix := [0, 1]) rfl (CompScope.of (sc := defScope s__law_parts) (N := ["_law_kind", "_law_many", "_law_found", "_law_k"]) (by decide +kernel) rfl rfl) (pi_range1 rfl T.n_range (pa_cons (pv 1) pa_nil)) (fun _ _ _ _ _ => ⟨(pg_name (i := 0) (show (["_law_k", "_law_kind", "_law_many"] : List Str).Nodup by decide +kernel) rfl (Or.inl rfl)), (pts_one (PW.pt (pw_or (pt_cmpR op_ne (pv 1) pe_str (nomark _)) (pw_or1 (pt_cmpR op_lt (pe_op op_add (pv 0) pe_int) (pv 2) (nomark _)))))), (pe_tup (pa_cons (pv 0) pa_nil))⟩))))
    pss_nil)
   (pss_cons (ps_set (i := 2) sc__law_parts.nd rfl (Or.inl rfl) (pe_lst pa_nil))
   (pss_cons (ps_for PassesOwn.never rfl (pi_range1 rfl T.n_range (pa_cons (pv 1) pa_nil)) (pg_name (i := 3) sc__law_parts.nd rfl (Or.inr rfl))
    (pss_one (ps_expr (pe_bm PySem.F.plainAttrs_list PySem.F.slot_list_extend PySem.F.type_list_extend mt_extend (pv 2) (pa_cons (pe_lc (N' := ["_law_j", "_law_k"]) (n := 1) (ix := [3]) rfl (CompScope.of (sc := defScope s__law_parts) (N := ["_law_kind", "_law_many", "_law_found", "_law_k"]) (by decide +kernel) rfl rfl) (pi_range2 rfl T.n_range (pa_cons (pe_op op_add (pv 3) pe_int) (pa_cons (pv 1) pa_nil))) (fun _ _ _ _ _ => ⟨(pg_name (i := 0) (show (["_law_j", "_law_k"] : List Str).Nodup by decide +kernel) rfl (Or.inl rfl)), pts_nil, (pe_tup (pa_cons (pv 1) (pa_cons (pv 0) pa_nil)))⟩)) pa_nil)))))
   (pss_one (ps_ret (pv 2)))))), ?_⟩
  refine ⟨_, rfl, rfl, _, rfl, ?_⟩
  by_cases hc : kind = "crossed"
  ·subst hc
   refine iteNS rfl ?_
   refine ⟨Nat.zero_le _, fun l hl => ?_⟩
   have s1 := same_upd (o := .lst []) hl
   refine ⟨_, rfl, _, rfl, by (first | lia | omega), by (first | lia | omega), ?_⟩
   rw [Int.toNat_natCast]
   refine for_range (fun i σ H2 => ∃ (zs : List Addr) (c3 : Option V), σ = [some (.str "crossed"), some (.int m), some (.ref l), c3] /\ Same H H2 /\ H2 l = some (.lst (zs.map V.ref)) /\ RowsAt H2 zs ((prsZ m i).map rowP)) ?_ ?_ ?_
   ·exact ⟨[], none, rfl, s1, upd_same, .nil⟩
   ·rintro i σ H2 hi ⟨zs, c3, rfl, sm, hl2, R⟩
    refine ⟨_, rfl, .inl ⟨rfl, _, SqL.of hl2⟩, ?_⟩
    refine ⟨_, rfl, _, _, rfl, rfl, _, rfl, _, _, rfl, ⟨by (first | lia | omega), by (first | lia | omega), by (first | lia | omega), by (first | lia | omega)⟩, ?_⟩
    refine lc_grow (yields_range (lo := 0 + (i : Int) + 1) (n := ((m : Int) - (0 + (i : Int) + 1)).toNat)) (small1 (by rw [rangeV_len]; (first | lia | omega))) (RTab fun j => [(i : Int), j]) (fun x v G G' st ⟨k, z, e1, e2, e3⟩ => ⟨k, z, e1, e2, st _ _ e3⟩) (fun _ _ => trivial) (fun x hx G s' Q' q' => ?_) fun acc ys G hacc s' hys pr => ?_
    ·obtain ⟨j, _, rfl⟩ := List.mem_map.mp (show x ∈ (numF (0 + (i : Int) + 1) ((m : Int) - (0 + (i : Int) + 1)).toNat).map V.int from rangeV_numF _ _ ▸ hx)
     refine ⟨_, rfl, _, rfl, by show 2 <= sizeLine; decide, fun t ht => q' _ _ (same_upd ht) ⟨j, t, rfl, rfl, ?_⟩⟩
     rw [upd_same, Int.zero_add]
     rfl
    ·rw [rangeV_numF] at pr
     obtain ⟨zs2, rfl, R2⟩ := tab_rows pr
     have e2 : (numF (0 + (i : Int) + 1) ((m : Int) - (0 + (i : Int) + 1)).toNat).map (fun j => [(i : Int), j]) = (prsAt m i).map rowP := by
      unfold prsAt
      rw [List.map_map, Int.zero_add]
      rfl
     rw [e2] at R2
     have hlG := s' _ _ hl2
     have lz : zs.length <= i * m := by rw [Paired.length R, List.length_map]; exact prsZ_len m i
     have lz2 : zs2.length <= m := by rw [Paired.length R2, List.length_map]; exact prsAt_len (by (first | lia | omega))
     refine ⟨l, acc, _, _, rfl, rfl, hlG, hys, ?_, ?_⟩
     ·rw [mapR_len, mapR_len]
      refine Nat.le_trans ?_ (by decide : 10000 <= sizeLine)
      have : i * m <= 60 * 60 := Nat.mul_le_mul (by (first | lia | omega)) hm
      (first | lia | omega)
     ·have stp : SameT G (upd G l (.lst (zs.map V.ref ++ zs2.map V.ref))) := sameT_lst hlG
      refine ⟨zs ++ zs2, _, rfl, same_updR (sm.trans s') hl, by rw [upd_same, List.map_append], ?_⟩
      rw [prsZ_succ, List.map_append]
      exact Paired.append ((R.same s').sameT stp) (R2.sameT stp)
   ·rintro σ H2 ⟨zs, c3, rfl, sm, hl2, R⟩
    refine ⟨_, rfl, k l zs H2 sm hl2 ?_⟩
    unfold partsZ
    rw [if_pos rfl]
    exact R
  ·rw [decide_eq_false (fun e => hc (V.str.inj e))]
   refine iteT ?_
   refine ⟨_, rfl, _, rfl, by (first | lia | omega), by (first | lia | omega), ?_⟩
   rw [Int.toNat_natCast]
   refine lc_growF (yields_range (lo := 0) (n := m)) (small1 (by rw [rangeV_len]; (first | lia | omega))) (fun v => match v with | .int k => !decide (kind = "rises") || decide (k + 1 < (m : Int)) | _ => false) (RTab fun k => [k]) (fun x v G G' st ⟨k, z, e1, e2, e3⟩ => ⟨k, z, e1, e2, st _ _ e3⟩) (fun _ _ => trivial) (fun x hx G s' Q' q' => ?_) (fun x hx _ G s' Q' q' => ?_) fun acc ys G hacc s' hys pr => ?_
   ·obtain ⟨n, rfl, n0, n1⟩ := mem_rangeV hx
    refine ⟨_, rfl, rfl, _, rfl, ?_⟩
    by_cases hri : kind = "rises"
    ·subst hri
     rw [decide_eq_true rfl]
     refine iteF ?_
     exact ⟨_, rfl, _, _, rfl, rfl, _, rfl, _, _, rfl, rfl, _, rfl, q'⟩
    ·rw [decide_eq_false (fun e => hri (V.str.inj e))]
     refine iteT ?_
     simp only [decide_eq_false hri] at q'
     exact q'
   ·obtain ⟨n, rfl, n0, n1⟩ := mem_rangeV hx
    exact ⟨_, rfl, by show 1 <= sizeLine; decide, fun t ht => q' _ _ (same_upd ht) ⟨n, t, rfl, rfl, upd_same⟩⟩
   ·rw [rangeV_num0, List.filter_map] at pr
    obtain ⟨zs, rfl, R⟩ := tab_rows pr
    refine k acc zs G s' hys ?_
    unfold partsZ
    rw [if_neg hc]
    split
    ·rename_i hri
     subst hri
     have e : (num0 m).filter ((fun v => match v with | V.int k => !decide (("rises" : Str) = "rises") || decide (k + 1 < (m : Int)) | _ => false) ∘ V.int) = num0 (m - 1) := by
      rw [<- num0_rises m]
      apply List.filter_congr
      intro x _
      simp
     rw [e] at R
     exact R
    ·rename_i hri
     rw [List.filter_eq_self.mpr (fun x _ => by simp [hri])] at R
     exact R
theorem sc__law_all : FnScope ["_law_many", "_law_found", "_law_k", "_law_longer", "_law_one"] ["_law_many"] (defScope s__law_all) := ⟨rfl, rfl, rfl, by decide +kernel, rfl, by decide +kernel, by decide +kernel⟩
set_option maxHeartbeats 8000000 in
theorem ok__law_all {f : Addr} {fd : FuncData} (F : Fun K "_law_all" "_law_all" s__law_all f fd) (T : Top mg) : FnOk P w K mg base CX0 1 f fd ["_law_many"] spAllI7 := by
 refine F.ok sc__law_all (fun vs H Q E h => ?_) (fun cdv A outer s H vs Q E hr h => ?_)
 ·obtain ⟨n, rfl, _⟩ := h
  rfl
 ·obtain ⟨n, rfl, hn, k⟩ := h
  refine ⟨_, (pss_cons (ps_set (i := 1) sc__law_all.nd rfl (Or.inl rfl) (pe_lst (pa_cons (pe_tup pa_nil) pa_nil)))
   (pss_cons (ps_for PassesOwn.never rfl (pi_range1 rfl T.n_range (pa_cons (pv 0) pa_nil)) (pg_name (i := 2) sc__law_all.nd rfl (Or.inr rfl))
    (pss_cons (ps_set (i := 3) sc__law_all.nd rfl (Or.inl rfl) (pe_lst pa_nil))
    (pss_cons (ps_for PassesOwn.never rfl (pi_list (pv 1)) (pg_name (i := 4) sc__law_all.nd rfl (Or.inr rfl))
     (pss_one (ps_expr (pe_bm PySem.F.plainAttrs_list PySem.F.slot_list_extend PySem.F.type_list_extend mt_extend (pv 3) (pa_cons (pe_lc (N' := ["_law_at", "_law_one", "_law_k"]) (n := 1) (ix := [4, 2]) rfl (CompScope.of (sc := defScope s__law_all) (N := ["_law_many", "_law_found", "_law_k", "_law_longer", "_law_one"]) (by decide +kernel) rfl rfl) (pi_range1 rfl T.n_range (pa_cons (pe_op op_add (pv 2) pe_int) pa_nil)) (fun _ _ _ _ _ => ⟨(pg_name (i := 0) (show (["_law_at", "_law_one", "_law_k"] : List Str).Nodup by decide +kernel) rfl (Or.inl rfl)), pts_nil, (pe_op op_cat2 (pe_op op_cat2 (pe_slice sl_tupA (pv 1) po_none (po_some (pv 0))) (pe_tup (pa_cons (pv 2) pa_nil))) (pe_slice sl_tupA (pv 1) (po_some (pv 0)) po_none))⟩)) pa_nil)))))
    (pss_one (ps_set (i := 1) sc__law_all.nd rfl (Or.inl rfl) (pv 3))))))
   (pss_one (ps_ret (pv 1))))), ?_⟩
  refine ⟨Nat.zero_le _, fun t0 ht0 => ⟨by show 1 <= sizeLine; decide, fun F0 hF0 => ?_⟩⟩
  have s0 := (same_upd (o := .tup []) ht0).trans (same_upd (o := .lst [.ref t0]) hF0)
  refine ⟨_, rfl, _, rfl, by (first | lia | omega), by (first | lia | omega), ?_⟩
  rw [Int.toNat_natCast]
  refine for_range (fun i σ G => Same H G /\ ∃ (F : Addr) (zs : List Addr) (c2 c3 c4 : Option V), σ = [some (.int n), some (.ref F), c2, c3, c4] /\ G F = some (.lst (zs.map V.ref)) /\ RowsAt G zs (allI i)) ?_ ?_ ?_
  ·exact ⟨s0, F0, [t0], none, none, none, rfl, upd_same, .cons ((same_upd hF0) _ _ upd_same) .nil⟩
  ·rintro i σ G hi ⟨sm, F, zs, c2, c3, c4, rfl, hF, R⟩
   have hlen : zs.length = (allI i).length := Paired.length R
   have hc := (all_cnt7 i (by (first | lia | omega))).1
   have hc2 := (all_cnt7 (i + 1) (by (first | lia | omega))).1
   refine ⟨Nat.zero_le _, fun L hL => ?_⟩
   have sL := same_upd (o := .lst []) hL
   rw [Int.zero_add]
   refine ⟨_, rfl, F, rfl, ⟨_, SqL.of (sL _ _ hF)⟩, ?_⟩
   refine for_list (K := K) (xs := zs.map V.ref) (fun j σ G2 => Same G G2 /\ ∃ (ws : List Addr) (c4 : Option V), σ = [some (.int n), some (.ref F), some (.int (i : Int)), some (.ref L), c4] /\ G2 L = some (.lst (ws.map V.ref)) /\ RowsAt G2 ws (((allI i).take j).flatMap (insR i))) ?_ ?_ ?_ ?_
   ·exact ⟨sL, [], _, rfl, upd_same, .nil⟩
   ·rintro j σ G2 _ ⟨s2, ws, c4, rfl, _, _⟩
    exact SqL.of (s2 _ _ hF)
   ·rintro j x σ G2 hx ⟨s2, ws, c4, rfl, hws, R2⟩
    rw [List.getElem?_map] at hx
    cases hz : zs[j]? with
    | none => rw [hz] at hx; cases hx
    | some z =>
     rw [hz] at hx
     cases hx
     obtain ⟨r, hr1, hr2⟩ := R.get hz
     have hrl : r.length = i := all_len7 i (by (first | lia | omega)) r (List.mem_of_getElem? hr1)
     have hj : j < (allI i).length := (List.getElem?_eq_some_iff.mp hr1).1
     have hzG := s2 _ _ hr2
     refine ⟨_, rfl, .inl ⟨rfl, _, SqL.of hws⟩, ?_⟩
     refine ⟨_, rfl, _, _, rfl, rfl, _, rfl, by (first | lia | omega), by (first | lia | omega), ?_⟩
     rw [show ((i : Int) + 1).toNat = i + 1 by (first | lia | omega)]
     refine lc_grow (yields_range (lo := 0) (n := i + 1)) (small1 (by rw [rangeV_len]; (first | lia | omega))) (RTab fun q => insZ r i q.toNat) (fun x v G G' st ⟨k, z, e1, e2, e3⟩ => ⟨k, z, e1, e2, st _ _ e3⟩) (fun _ _ => trivial) (fun x hx G3 s3 Q' q' => ?_) fun acc ys G3 hacc s3 hys pr => ?_
     ·obtain ⟨q, rfl, q0, q1⟩ := mem_rangeV hx
      obtain ⟨qn, rfl⟩ : ∃ qn : Nat, q = (qn : Int) := ⟨q.toNat, by (first | lia | omega)⟩
      have hz3 := s3 _ _ hzG
      refine ⟨_, rfl, _, rfl, _, rfl, z, _, rfl, hz3, fun b1 G4 s4 hb1 => ?_⟩
      rw [cutV_takeI] at hb1
      refine ⟨_, rfl, by show 1 <= sizeLine; decide, fun t ht => ?_⟩
      have st := same_upd (o := .tup [.int (i : Int)]) ht
      refine ⟨b1, t, _, [.int (i : Int)], rfl, rfl, st _ _ hb1, upd_same, small1 (by rw [mapI_len, List.length_take]; show _ + 1 <= 1000; (first | lia | omega)) |> Nat.le_of_lt, fun b2 G5 s5 hb2 => ?_⟩
      refine ⟨_, rfl, _, rfl, _, rfl, z, _, rfl, s5 _ _ (st _ _ (s4 _ _ hz3)), fun b3 G6 s6 hb3 => ?_⟩
      rw [cutV_dropI] at hb3
      refine ⟨b2, b3, _, _, rfl, rfl, s6 _ _ hb2, hb3, small1 (by rw [List.length_append, mapI_len, mapI_len, List.length_take, List.length_drop]; show _ + 1 + _ <= 1000; (first | lia | omega)) |> Nat.le_of_lt, fun b4 G7 s7 hb4 => ?_⟩
      refine q' _ _ ((((s4.trans st).trans s5).trans s6).trans s7) ⟨(qn : Int), b4, rfl, rfl, ?_⟩
      rw [hb4]
      unfold insZ
      rw [List.map_append, List.map_append, Int.toNat_natCast]
      rfl
     ·rw [rangeV_num0] at pr
      obtain ⟨vs, rfl, R3⟩ := tab_rows pr
      have e3 : (num0 (i + 1)).map (fun q => insZ r i q.toNat) = insR i r := by
       unfold num0 insR
       rw [List.map_map]
       rfl
      rw [e3] at R3
      have hws3 := s3 _ _ hws
      have e4 : ((allI i).take (j + 1)).flatMap (insR i) = ((allI i).take j).flatMap (insR i) ++ insR i r := by
       rw [List.take_succ, hr1, List.flatMap_append]
       simp
      have R23 : RowsAt G3 (ws ++ vs) (((allI i).take (j + 1)).flatMap (insR i)) := by
       rw [e4]
       exact Paired.append (R2.same s3) R3
      have hsz : ws.length + vs.length <= 720 := by
       have h1 := Paired.length R23
       rw [List.length_append] at h1
       have h2 : (((allI i).take (j + 1)).flatMap (insR i)).length <= (allI (i + 1)).length := by
        show _ <= ((allI i).flatMap (insR i)).length
        conv => rhs; rw [<- List.take_append_drop (j + 1) (allI i)]
        rw [List.flatMap_append, List.length_append]
        (first | lia | omega)
       (first | lia | omega)
      refine ⟨L, acc, _, _, rfl, rfl, hws3, hys, small1 (by rw [mapR_len, mapR_len]; (first | lia | omega)) |> Nat.le_of_lt, ?_⟩
      refine ⟨same_updR (s2.trans s3) hL, ws ++ vs, _, rfl, by rw [upd_same, List.map_append], ?_⟩
      exact R23.sameT (sameT_lst hws3)
   ·rintro σ G2 ⟨s2, ws, c4, rfl, hws, R2⟩
    rw [List.length_map, hlen, List.take_length] at R2
    refine ⟨_, rfl, ?_⟩
    exact ⟨sm.trans s2, L, ws, _, _, _, rfl, hws, R2⟩
  ·rintro σ G ⟨sm, F, zs, c2, c3, c4, rfl, hF, R⟩
   exact ⟨_, rfl, k F zs G sm hF R⟩
theorem sc__law_round : FnScope ["_law_order", "_law_number", "_law_found", "_law_onward"] ["_law_order", "_law_number"] (defScope s__law_round) := ⟨rfl, rfl, rfl, by decide +kernel, rfl, by decide +kernel, by decide +kernel⟩
set_option maxHeartbeats 8000000 in
theorem ok__law_round {f : Addr} {fd : FuncData} (F : Fun K "_law_round" "_law_round" s__law_round f fd) : FnOk P w K mg base CX0 1 f fd ["_law_order", "_law_number"] spRnd := by
 refine F.ok sc__law_round (fun vs H Q E h => ?_) (fun cdv A outer s H vs Q E hr h => ?_)
 ·obtain ⟨a, o, n, r, rfl, _⟩ := h
  rfl
 ·obtain ⟨a, o, n, r, rfl, ha, hn, hr0, k⟩ := h
  refine ⟨_, (pss_cons (ps_par (i := 2) (j := 3) rfl sc__law_round.nd rfl rfl (by decide) rfl rfl (pa_cons (pe_lst (pa_cons (pv 1) pa_nil)) (pa_cons (pe_ix ix_tup (pv 0) (pv 1) (fun _ _ => rfl)) pa_nil)) rfl)
   (pss_cons (ps_while PassesOwn.never (pt_cmpR op_ne (pv 3) (pv 1) (nomark _))
    (pss_cons (ps_expr (pe_bm PySem.F.plainAttrs_list PySem.F.slot_list_append PySem.F.type_list_append mt_append (pv 2) (pa_cons (pv 3) pa_nil)))
    (pss_one (ps_set (i := 3) sc__law_round.nd rfl (Or.inl rfl) (pe_ix ix_tup (pv 0) (pv 3) (fun _ _ => rfl))))))
   (pss_one (ps_ret (pv 2))))), ?_⟩
  have hat : ∀ q : Nat, q < o.length -> atI (o.map V.int) (q : Int) = some (.int (o.getD q 0)) := fun q hq => by
   have := at_getD (ys := o) (i := (q : Int)) (by (first | lia | omega)) (by (first | lia | omega))
   rwa [Int.toNat_natCast] at this
  refine ⟨_, rfl, by show 1 <= sizeLine; decide, fun L hL => ?_⟩
  have sL := same_upd (o := .lst [.int (n : Int)]) hL
  refine ⟨_, rfl, _, rfl, a, _, _, _, rfl, rfl, SqT.of (sL _ _ ha), hat n hn, _, _, rfl, ?_⟩
  unfold rndZ at hr0
  rw [Int.toNat_natCast] at hr0
  refine ⟨fun f σ G => ∃ (x : Int) (acc : List Int), rndF o n f x acc = some r /\ acc.length + f <= 100 /\ σ = [some (.ref a), some (.int n), some (.ref L), some (.int x)] /\ Same H G /\ G L = some (.lst (acc.map V.int)), ⟨10, _, [(n : Int)], hr0, by show 1 + 10 <= 100; decide, rfl, sL, upd_same⟩, ?_⟩
  rintro f σ G ⟨x, acc, hf, hlen, rfl, sm, hG⟩
  refine ⟨_, rfl, _, rfl, rfl, _, rfl, ?_⟩
  cases f with
  | zero => cases hf
  | succ f =>
   unfold rndF at hf
   by_cases hx : x = (n : Int)
   ·rw [if_pos hx] at hf
    cases hf
    subst hx
    rw [show (!decide (V.int (n : Int) = V.int (n : Int))) = false from by rw [decide_eq_true rfl]; rfl]
    exact iteF ⟨_, rfl, k L G sm hG⟩
   ·rw [if_neg hx] at hf
    rw [show (!decide (V.int x = V.int (n : Int))) = true from by rw [decide_eq_false (fun z => hx (V.int.inj z))]; rfl]
    by_cases hb : 0 <= x /\ x < o.length
    ·rw [if_pos hb] at hf
     obtain ⟨xn, rfl⟩ : ∃ xn : Nat, x = (xn : Int) := ⟨x.toNat, by (first | lia | omega)⟩
     rw [Int.toNat_natCast] at hf
     refine iteT ⟨fun σ' G' => ∃ (x' : Int) (acc' : List Int), rndF o n f x' acc' = some r /\ acc'.length + f <= 100 /\ σ' = [some (.ref a), some (.int n), some (.ref L), some (.int x')] /\ Same H G' /\ G' L = some (.lst (acc'.map V.int)), ?_, ?_⟩
     ·rintro σ' G' hh
      exact ⟨f, by (first | lia | omega), hh⟩
     ·refine ⟨_, rfl, .inl ⟨rfl, _, SqL.of hG⟩, _, rfl, L, _, _, rfl, rfl, hG, small1 (by rw [mapI_len]; (first | lia | omega)), ?_⟩
      have s2 : Same H (upd G L (.lst (acc.map V.int ++ [.int (xn : Int)]))) := same_updR sm hL
      refine ⟨_, rfl, _, rfl, a, _, _, _, rfl, rfl, SqT.of (s2 _ _ ha), hat xn (by (first | lia | omega)), ?_⟩
      exact ⟨_, acc ++ [(xn : Int)], hf, by rw [List.length_append]; simp; (first | lia | omega), rfl, s2, by rw [upd_same, List.map_append]; rfl⟩
    ·rw [if_neg hb] at hf
     cases hf
theorem sc__law_has : FnScope ["_law_kind", "_law_part", "_law_order", "_law_k"] ["_law_kind", "_law_part", "_law_order"] (defScope s__law_has) := ⟨rfl, rfl, rfl, by decide +kernel, rfl, by decide +kernel, by decide +kernel⟩
set_option maxHeartbeats 8000000 in
theorem ok__law_has {f : Addr} {fd : FuncData} (F : Fun K "_law_has" "_law_has" s__law_has f fd) (T : Top mg) (C_law_round : Cal P w K mg base 1 "_law_round" ["_law_order", "_law_number"] spRnd) : FnOk P w K mg base CX0 2 f fd ["_law_kind", "_law_part", "_law_order"] spHas := by
 refine F.ok sc__law_has (fun vs H Q E h => ?_) (fun cdv A outer s H vs Q E hr h => ?_)
 ·obtain ⟨kd, p, a, ps, o, rfl, _⟩ := h
  rfl
 ·obtain ⟨kd, p, a, ps, o, rfl, hk, hp, ha, ⟨⟨n, en, hpl, hn, hri⟩, hcr⟩, hrd, k⟩ := h
  refine ⟨_, (pss_cons (ps_set (i := 3) sc__law_has.nd rfl (Or.inl rfl) (pe_ix ix_tup (pv 1) pe_int (fun _ _ => rfl)))
   (pss_cons (ps_if (pt_cmpR op_eq (pv 0) pe_str (nomark _))
    (pss_one (ps_ret (pe_cmpR op_eq (pe_callB (call_maxL rfl) (by rfl) T.n_max boot_max (pa_cons (pe_cal C_law_round (hr.mono (by decide)) rfl (pa_cons (pv 2) (pa_cons (pv 3) pa_nil))) pa_nil)) (pv 3) (nomark _))))
    pss_nil)
   (pss_cons (ps_if (pt_cmpR op_eq (pv 0) pe_str (nomark _))
    (pss_one (ps_ret (pe_cmpR op_eq (pe_ix ix_tup (pv 2) (pv 3) (fun _ _ => rfl)) (pv 3) (nomark _))))
    pss_nil)
   (pss_cons (ps_if (pt_cmpR op_eq (pv 0) pe_str (nomark _))
    (pss_one (ps_ret (pe_cmpR op_lt (pe_ix ix_tup (pv 2) (pv 3) (fun _ _ => rfl)) (pe_ix ix_tup (pv 2) (pe_op op_add (pv 3) pe_int) (fun _ _ => rfl)) (nomark _))))
    pss_nil)
   (pss_cons (ps_if (pt_cmpR op_eq (pv 0) pe_str (nomark _))
    (pss_one (ps_ret (pe_cmpR op_eq (pe_ix ix_tup (pv 2) (pv 3) (fun _ _ => rfl)) (pe_callB (call_maxT rfl) (by rfl) T.n_max boot_max (pa_cons (pe_slice sl_tupA (pv 2) po_none (po_some (pe_op op_add (pv 3) pe_int))) pa_nil)) (nomark _))))
    pss_nil)
   (pss_one (ps_ret (pe_cmpR op_gt (pe_ix ix_tup (pv 2) (pv 3) (fun _ _ => rfl)) (pe_ix ix_tup (pv 2) (pe_ix ix_tup (pv 1) pe_int (fun _ _ => rfl)) (fun _ _ => rfl)) (nomark _))))))))), ?_⟩
  have hat : ∀ q : Nat, q < o.length -> atI (o.map V.int) (q : Int) = some (.int (o.getD q 0)) := fun q hq => by
   have := at_getD (ys := o) (i := (q : Int)) (by (first | lia | omega)) (by (first | lia | omega))
   rwa [Int.toNat_natCast] at this
  have hp0 : atI (ps.map V.int) 0 = some (.int (n : Int)) := by
   have := at_getD (ys := ps) (i := 0) (by decide) (by (first | lia | omega))
   rwa [show (0 : Int).toNat = 0 from rfl, en] at this
  have e0 : hasZ kd ps o = (if kd = "rounds" then ((rndZ o (n : Int)).getD []).all fun y => decide (y <= (n : Int)) else if kd = "stays" then decide (o.getD n 0 = (n : Int)) else if kd = "rises" then decide (o.getD n 0 < o.getD (n + 1) 0) else if kd = "highs" then (o.take (n + 1)).all fun y => decide (y <= o.getD n 0) else decide (o.getD (ps.getD 1 0).toNat 0 < o.getD n 0)) := by
   unfold hasZ
   rw [en]
   rfl
  rw [en] at hrd
  refine ⟨_, rfl, p, _, 0, _, rfl, rfl, SqT.of hp, hp0, ?_⟩
  rcases kinds5_cases hk with rfl | rfl | rfl | rfl | rfl
  ·refine ⟨_, rfl, rfl, _, rfl, iteT ?_⟩
   obtain ⟨r, hr2⟩ := Option.isSome_iff_exists.mp (hrd rfl)
   refine ⟨_, rfl, _, rfl, a, o, n, r, rfl, ha, hn, hr2, fun L H1 s1 hL => ?_⟩
   have hm := rndZ_mem hr2
   refine ⟨L, r, rfl, hL, (fun z => by rw [z] at hm; cases hm), fun M hM hall => ⟨_, rfl, rfl, ?_⟩⟩
   rw [max_all hm hM hall]
   have e1 : hasZ "rounds" ps o = r.all fun y => decide (y <= (n : Int)) := by
    rw [e0, if_pos rfl, hr2]
    rfl
   have kk := k H1 s1
   rw [e1] at kk
   exact kk
  ·refine ⟨_, rfl, rfl, _, rfl, iteF ?_⟩
   refine ⟨_, rfl, rfl, _, rfl, iteT ?_⟩
   refine ⟨_, rfl, _, rfl, a, _, _, _, rfl, rfl, SqT.of ha, hat n hn, _, rfl, rfl, ?_⟩
   have e1 : hasZ "stays" ps o = decide (V.int (o.getD n 0) = V.int (n : Int)) := by
    rw [e0]
    refine decide_eq_decide.mpr ⟨fun z => by rw [z], fun z => V.int.inj z⟩
   have kk := k H (Same.refl H)
   rw [e1] at kk
   exact kk
  ·refine ⟨_, rfl, rfl, _, rfl, iteF ?_⟩
   refine ⟨_, rfl, rfl, _, rfl, iteF ?_⟩
   refine ⟨_, rfl, rfl, _, rfl, iteT ?_⟩
   have hri := hri rfl
   refine ⟨_, rfl, _, rfl, a, _, _, _, rfl, rfl, SqT.of ha, hat n hn, _, rfl, _, rfl, _, _, rfl, rfl, a, _, _, _, rfl, rfl, SqT.of ha, hat (n + 1) hri, _, _, rfl, rfl, ?_⟩
   have kk := k H (Same.refl H)
   rw [show hasZ "rises" ps o = decide (o.getD n 0 < o.getD (n + 1) 0) from e0] at kk
   exact kk
  ·refine ⟨_, rfl, rfl, _, rfl, iteF ?_⟩
   refine ⟨_, rfl, rfl, _, rfl, iteF ?_⟩
   refine ⟨_, rfl, rfl, _, rfl, iteF ?_⟩
   refine ⟨_, rfl, rfl, _, rfl, iteT ?_⟩
   refine ⟨_, rfl, _, rfl, a, _, _, _, rfl, rfl, SqT.of ha, hat n hn, _, rfl, _, rfl, _, _, rfl, rfl, _, rfl, a, _, rfl, ha, fun b H1 s1 hb => ?_⟩
   rw [show ((n : Int) + 1) = ((n + 1 : Nat) : Int) from rfl, cutV_takeI] at hb
   have hmem : o.getD n 0 ∈ o.take (n + 1) := by
    rw [List.getD_eq_getElem?_getD, List.getElem?_eq_getElem hn, List.mem_take_iff_getElem]
    exact ⟨n, by (first | lia | omega), rfl⟩
   refine ⟨b, _, rfl, hb, (fun z => by rw [z] at hmem; cases hmem), fun M hM hall => ⟨rfl, ?_⟩⟩
   have e1 : hasZ "highs" ps o = decide (V.int (o.getD n 0) = V.int M) := by
    rw [show decide (V.int (o.getD n 0) = V.int M) = decide (V.int M = V.int (o.getD n 0)) from decide_eq_decide.mpr eq_comm, max_all hmem hM hall]
    exact e0
   have kk := k H1 s1
   rw [e1] at kk
   exact kk
  ·refine ⟨_, rfl, rfl, _, rfl, iteF ?_⟩
   refine ⟨_, rfl, rfl, _, rfl, iteF ?_⟩
   refine ⟨_, rfl, rfl, _, rfl, iteF ?_⟩
   refine ⟨_, rfl, rfl, _, rfl, iteF ?_⟩
   obtain ⟨j, ej, hjl, hj⟩ := hcr rfl
   have hp1 : atI (ps.map V.int) 1 = some (.int (j : Int)) := by
    have := at_getD (ys := ps) (i := 1) (by decide) (by (first | lia | omega))
    rwa [show (1 : Int).toNat = 1 from rfl, ej] at this
   refine ⟨_, rfl, _, rfl, a, _, _, _, rfl, rfl, SqT.of ha, hat n hn, _, rfl, _, rfl, p, _, 1, _, rfl, rfl, SqT.of hp, hp1, a, _, _, _, rfl, rfl, SqT.of ha, hat j hj, _, _, rfl, rfl, ?_⟩
   have e1 : hasZ "crossed" ps o = decide (o.getD j 0 < o.getD n 0) := by
    rw [e0, ej]
    rfl
   have kk := k H (Same.refl H)
   rw [e1] at kk
   exact kk
end
end K26
namespace K26
open PySem PySem.Spec PyProof.Rows L2
noncomputable abbrev s_greatest_divisor : Stmt := top 3
noncomputable abbrev s_share_of : Stmt := top 1
noncomputable abbrev s_times : Stmt := top 2
section
variable {P : Program} {w : World} {K : PySem.W.Frag} {mg : Str -> Option Value} {base : Heap}
theorem sc_greatest_divisor : FnScope ["over", "under", "one", "other"] ["over", "under"] (defScope s_greatest_divisor) := ⟨rfl, rfl, rfl, by decide +kernel, rfl, by decide +kernel, by decide +kernel⟩
theorem ok_greatest_divisor {f : Addr} {fd : FuncData} (F : Fun K "greatest_divisor" "greatest_divisor" s_greatest_divisor f fd) : FnOk P w K mg base CX0 1 f fd ["over", "under"] spGcd := by
 refine F.ok sc_greatest_divisor (fun vs H Q E h => ?_) (fun cdv A outer s H vs Q E hr h => ?_)
 ·obtain ⟨a, b, rfl, _⟩ := h
  rfl
 ·obtain ⟨a, b, rfl, hb, k⟩ := h
  refine ⟨_, (pss_cons (ps_par (i := 2) (j := 3) rfl sc_greatest_divisor.nd rfl rfl (by decide) rfl rfl (pa_cons (pv 0) (pa_cons (pv 1) pa_nil)) rfl)
   (pss_cons (ps_while PassesOwn.never (pt_cmpR op_ne (pv 3) pe_int (nomark _))
    (pss_one (ps_par (i := 2) (j := 3) rfl sc_greatest_divisor.nd rfl rfl (by decide) rfl rfl (pa_cons (pv 3) (pa_cons (pe_op op_mod (pv 2) (pv 3)) pa_nil)) rfl)))
   (pss_one (ps_ret (pv 2))))), ?_⟩
  refine ⟨_, rfl, _, rfl, _, _, rfl, ?_⟩
  refine ⟨fun m σ G => ∃ x y : Int, m = y.toNat /\ σ = [some (.int a), some (.int b), some (.int x), some (.int y)] /\ G = H /\ 0 <= y /\ (y = 0 -> 0 < x) /\ gcdZ x y = gcdZ a b, ⟨_, a, b, rfl, rfl, rfl, by (first | lia | omega), by (first | lia | omega), rfl⟩, ?_⟩
  rintro m σ G ⟨x, y, rfl, rfl, rfl, y0, x0, e⟩
  refine ⟨_, rfl, rfl, _, rfl, ?_⟩
  by_cases hy : y = 0
  ·subst hy
   refine iteF ⟨_, rfl, ?_⟩
   rw [gcdZ_zero (Int.le_of_lt (x0 rfl))] at e
   rw [e]
   exact k
  ·rw [show (!decide (V.int y = V.int 0)) = true from by rw [decide_eq_false (fun z => hy (V.int.inj z))]; rfl]
   refine iteT ⟨fun σ' G' => ∃ x' y' : Int, y' < y /\ σ' = [some (.int a), some (.int b), some (.int x'), some (.int y')] /\ G' = G /\ 0 <= y' /\ (y' = 0 -> 0 < x') /\ gcdZ x' y' = gcdZ a b, ?_, ?_⟩
   ·rintro σ' G' ⟨x', y', h1, h2, h3, h4, h5⟩
    exact ⟨_, by (first | lia | omega), x', y', rfl, h2, h3, h4, h5⟩
   ·refine ⟨_, rfl, _, rfl, _, rfl, _, _, rfl, rfl, by (first | lia | omega), _, _, rfl, ?_⟩
    exact ⟨_, _, Int.emod_lt_of_pos _ (by (first | lia | omega)), rfl, rfl, Int.emod_nonneg _ hy, fun _ => by (first | lia | omega), by rw [gcdZ_step (by (first | lia | omega))]; exact e⟩
theorem sc_share_of : FnScope ["over", "under", "both"] ["over", "under"] (defScope s_share_of) := ⟨rfl, rfl, rfl, by decide +kernel, rfl, by decide +kernel, by decide +kernel⟩
theorem ok_share_of {f : Addr} {fd : FuncData} (F : Fun K "share_of" "share_of" s_share_of f fd) (Cgreatest_divisor : Cal P w K mg base 1 "greatest_divisor" ["over", "under"] spGcd) : FnOk P w K mg base CX0 2 f fd ["over", "under"] spLow := by
 refine F.ok sc_share_of (fun vs H Q E h => ?_) (fun cdv A outer s H vs Q E hr h => ?_)
 ·obtain ⟨a, b, rfl, _⟩ := h
  rfl
 ·obtain ⟨a, b, rfl, hb, sb, k⟩ := h
  refine ⟨_, (pss_cons (ps_set (i := 2) sc_share_of.nd rfl (Or.inl rfl) (pe_cal Cgreatest_divisor (hr.mono (by decide)) rfl (pa_cons (pv 0) (pa_cons (pv 1) pa_nil))))
   (pss_one (ps_ret (pe_tup (pa_cons (pe_op op_fdivC (pv 0) (pv 2)) (pa_cons (pe_op op_fdivC (pv 1) (pv 2)) pa_nil)))))), ?_⟩
  have g0 := gcdZ_pos (a := a) hb
  have gs : Sm (gcdZ a b) 8000 := sb.le (by have := gcdZ_le (a := a) hb; (first | lia | omega))
  refine ⟨_, rfl, _, rfl, a, b, rfl, hb, ?_⟩
  refine ⟨_, rfl, _, rfl, _, _, rfl, rfl, ⟨g0, gs⟩, _, rfl, _, rfl, _, _, rfl, rfl, ⟨g0, gs⟩, by show 2 <= sizeLine; decide, fun z hz => ?_⟩
  exact k z _ (same_upd hz) upd_same
theorem sc_times : FnScope ["one", "other"] ["one", "other"] (defScope s_times) := ⟨rfl, rfl, rfl, by decide +kernel, rfl, by decide +kernel, by decide +kernel⟩
theorem ok_times {f : Addr} {fd : FuncData} (F : Fun K "times" "times" s_times f fd) (Cshare_of : Cal P w K mg base 2 "share_of" ["over", "under"] spLow) : FnOk P w K mg base CX0 3 f fd ["one", "other"] (spSh tmZ) := by
 refine F.ok sc_times (fun vs H Q E h => ?_) (fun cdv A outer s H vs Q E hr h => ?_)
 ·obtain ⟨x, y, p, q, rfl, _⟩ := h
  rfl
 ·obtain ⟨x, y, p, q, rfl, hx, hy, bp, bq, k⟩ := h
  refine ⟨_, (pss_one (ps_ret (pe_cal Cshare_of (hr.mono (by decide)) rfl (pa_cons (pe_op op_mulC (pe_ix ix_tup (pv 0) pe_int (fun _ _ => rfl)) (pe_ix ix_tup (pv 1) pe_int (fun _ _ => rfl))) (pa_cons (pe_op op_mulC (pe_ix ix_tup (pv 0) pe_int (fun _ _ => rfl)) (pe_ix ix_tup (pv 1) pe_int (fun _ _ => rfl))) pa_nil))))), ?_⟩
  refine ⟨_, rfl, x, _, 0, _, rfl, rfl, SqT.of hx, atI_nat (j := 0) rfl, _, rfl, y, _, 0, _, rfl, rfl, SqT.of hy, atI_nat (j := 0) rfl, _, _, rfl, rfl, ⟨bp.s1.mono (by decide), bq.s1.mono (by decide)⟩, _, rfl, x, _, 1, _, rfl, rfl, SqT.of hx, atI_nat (j := 1) rfl, _, rfl, y, _, 1, _, rfl, rfl, SqT.of hy, atI_nat (j := 1) rfl, _, _, rfl, rfl, ⟨bp.s2.mono (by decide), bq.s2.mono (by decide)⟩, _, _, rfl, Int.mul_pos bp.pos bq.pos, (bp.s2.mul bq.s2).mono (by decide), fun z H2 s2 hz => k z H2 s2 hz⟩
end
end K26
namespace K26
open PySem PySem.Spec PyProof.Rows L2
noncomputable abbrev s_both_rounds : Stmt := top 11
noncomputable abbrev s_both_highs : Stmt := top 14
noncomputable abbrev s_both_stays : Stmt := top 12
noncomputable abbrev s_both_rises : Stmt := top 13
noncomputable abbrev s_both_crossed : Stmt := top 15
noncomputable abbrev s_both_share : Stmt := top 17
section
variable {P : Program} {w : World} {K : PySem.W.Frag} {mg : Str -> Option Value} {base : Heap}
theorem sc_both_rounds : FnScope ["many", "one", "other"] ["many", "one", "other"] (defScope s_both_rounds) := ⟨rfl, rfl, rfl, by decide +kernel, rfl, by decide +kernel, by decide +kernel⟩
theorem ok_both_rounds {f : Addr} {fd : FuncData} (F : Fun K "both_rounds" "both_rounds" s_both_rounds f fd) (Ctimes : Cal P w K mg base 3 "times" ["one", "other"] (spSh tmZ)) (Cround_share : Cal P w K mg base 1 "round_share" ["many", "part"] (spShK fun N ps => N - ps.getD 0 0)) : FnOk P w K mg base CX0 4 f fd ["many", "one", "other"] (spBK "rounds") := by
 refine F.ok sc_both_rounds (fun vs H Q E h => ?_) (fun cdv A outer s H vs Q E hr h => ?_)
 ·obtain ⟨n, a, b, p, q, rfl, _⟩ := h
  rfl
 ·obtain ⟨n, a, b, p, q, rfl, hn, ha, hb, hp, hq, hne, k⟩ := h
  refine ⟨_, (pss_one (ps_ret (pe_cal Ctimes (hr.mono (by decide)) rfl (pa_cons (pe_cal Cround_share (hr.mono (by decide)) rfl (pa_cons (pv 0) (pa_cons (pv 1) pa_nil))) (pa_cons (pe_cal Cround_share (hr.mono (by decide)) rfl (pa_cons (pv 0) (pa_cons (pv 2) pa_nil))) pa_nil))))), ?_⟩
  obtain ⟨i, i1, _, (⟨_, rfl⟩ | ⟨h, _⟩)⟩ := parts_form hp
  ·obtain ⟨j, j1, _, (⟨_, rfl⟩ | ⟨h, _⟩)⟩ := parts_form hq
   ·refine ⟨_, rfl, _, rfl, _, a, _, rfl, ha, Nat.succ_pos _, fun z1 G1 s1 hz1 => ?_⟩
    refine ⟨_, rfl, _, rfl, _, b, _, rfl, s1 _ _ hb, Nat.succ_pos _, fun z2 G2 s2 hz2 => ?_⟩
    refine ⟨z1, z2, _, _, rfl, s2 _ _ hz1, hz2, shB1 (by show (0 : Int) < (n : Int) - (i : Int); (first | lia | omega)) (by show (n : Int) - (i : Int) <= 1000; (first | lia | omega)), shB1 (by show (0 : Int) < (n : Int) - (j : Int); (first | lia | omega)) (by show (n : Int) - (j : Int) <= 1000; (first | lia | omega)), fun z G s3 hz => k z G ((s1.trans s2).trans s3) ?_⟩
    rw [show bothA "rounds" n [(i : Int)] [(j : Int)] = tmZ (1, (n : Int) - (i : Int)) (1, (n : Int) - (j : Int)) from by unfold bothA; rw [if_neg hne, if_pos rfl]; rfl]
    exact hz
   ·exact absurd h (by decide)
  ·exact absurd h (by decide)
theorem sc_both_highs : FnScope ["many", "one", "other"] ["many", "one", "other"] (defScope s_both_highs) := ⟨rfl, rfl, rfl, by decide +kernel, rfl, by decide +kernel, by decide +kernel⟩
theorem ok_both_highs {f : Addr} {fd : FuncData} (F : Fun K "both_highs" "both_highs" s_both_highs f fd) (Ctimes : Cal P w K mg base 3 "times" ["one", "other"] (spSh tmZ)) (Chigh_share : Cal P w K mg base 1 "high_share" ["many", "part"] (spShK fun N ps => ps.getD 0 0 + 1)) : FnOk P w K mg base CX0 4 f fd ["many", "one", "other"] (spBK "highs") := by
 refine F.ok sc_both_highs (fun vs H Q E h => ?_) (fun cdv A outer s H vs Q E hr h => ?_)
 ·obtain ⟨n, a, b, p, q, rfl, _⟩ := h
  rfl
 ·obtain ⟨n, a, b, p, q, rfl, hn, ha, hb, hp, hq, hne, k⟩ := h
  refine ⟨_, (pss_one (ps_ret (pe_cal Ctimes (hr.mono (by decide)) rfl (pa_cons (pe_cal Chigh_share (hr.mono (by decide)) rfl (pa_cons (pv 0) (pa_cons (pv 1) pa_nil))) (pa_cons (pe_cal Chigh_share (hr.mono (by decide)) rfl (pa_cons (pv 0) (pa_cons (pv 2) pa_nil))) pa_nil))))), ?_⟩
  obtain ⟨i, i1, _, (⟨_, rfl⟩ | ⟨h, _⟩)⟩ := parts_form hp
  ·obtain ⟨j, j1, _, (⟨_, rfl⟩ | ⟨h, _⟩)⟩ := parts_form hq
   ·refine ⟨_, rfl, _, rfl, _, a, _, rfl, ha, Nat.succ_pos _, fun z1 G1 s1 hz1 => ?_⟩
    refine ⟨_, rfl, _, rfl, _, b, _, rfl, s1 _ _ hb, Nat.succ_pos _, fun z2 G2 s2 hz2 => ?_⟩
    refine ⟨z1, z2, _, _, rfl, s2 _ _ hz1, hz2, shB1 (by show (0 : Int) < (i : Int) + 1; (first | lia | omega)) (by show (i : Int) + 1 <= 1000; (first | lia | omega)), shB1 (by show (0 : Int) < (j : Int) + 1; (first | lia | omega)) (by show (j : Int) + 1 <= 1000; (first | lia | omega)), fun z G s3 hz => k z G ((s1.trans s2).trans s3) ?_⟩
    rw [show bothA "highs" n [(i : Int)] [(j : Int)] = tmZ (1, (i : Int) + 1) (1, (j : Int) + 1) from by unfold bothA; rw [if_neg hne]; rfl]
    exact hz
   ·exact absurd h (by decide)
  ·exact absurd h (by decide)
theorem sc_both_stays : FnScope ["many", "one", "other"] ["many", "one", "other"] (defScope s_both_stays) := ⟨rfl, rfl, rfl, by decide +kernel, rfl, by decide +kernel, by decide +kernel⟩
theorem ok_both_stays {f : Addr} {fd : FuncData} (F : Fun K "both_stays" "both_stays" s_both_stays f fd) (Cshare_of : Cal P w K mg base 2 "share_of" ["over", "under"] spLow) : FnOk P w K mg base CX0 4 f fd ["many", "one", "other"] (spBK "stays") := by
 refine F.ok sc_both_stays (fun vs H Q E h => ?_) (fun cdv A outer s H vs Q E hr h => ?_)
 ·obtain ⟨n, a, b, p, q, rfl, _⟩ := h
  rfl
 ·obtain ⟨n, a, b, p, q, rfl, hn, ha, hb, hp, hq, hne, k⟩ := h
  refine ⟨_, (pss_one (ps_ret (pe_cal Cshare_of (hr.mono (by decide)) rfl (pa_cons pe_int (pa_cons (pe_op op_mul (pv 0) (pe_op op_sub (pv 0) pe_int)) pa_nil))))), ?_⟩
  obtain ⟨i, i1, _, (⟨_, rfl⟩ | ⟨h, _⟩)⟩ := parts_form hp
  ·obtain ⟨j, j1, _, (⟨_, rfl⟩ | ⟨h, _⟩)⟩ := parts_form hq
   ·have hij : i ≠ j := fun e => hne (by rw [e])
    have h2 : 2 <= n := by (first | lia | omega)
    have hpos : 0 < (n : Int) * ((n : Int) - 1) := Int.mul_pos (by (first | lia | omega)) (by (first | lia | omega))
    have hle : (n : Int) * ((n : Int) - 1) <= 60 * 60 := Int.mul_le_mul (by (first | lia | omega)) (by (first | lia | omega)) (by (first | lia | omega)) (by decide)
    refine ⟨_, rfl, _, rfl, _, _, rfl, rfl, _, _, rfl, rfl, cmul_small (by (first | lia | omega)) (by (first | lia | omega)), ?_⟩
    refine ⟨_, _, rfl, hpos, Sm.of (Nat.lt_of_le_of_lt (show ((n : Int) * ((n : Int) - 1)).natAbs <= 3600 by (first | lia | omega)) (by decide +kernel)), fun z G s3 hz => k z G s3 ?_⟩
    rw [show bothA "stays" n [(i : Int)] [(j : Int)] = lowZ 1 ((n : Int) * ((n : Int) - 1)) from by unfold bothA; rw [if_neg hne]; rfl]
    exact hz
   ·exact absurd h (by decide)
  ·exact absurd h (by decide)
theorem sc_both_rises : FnScope ["many", "one", "other"] ["many", "one", "other"] (defScope s_both_rises) := ⟨rfl, rfl, rfl, by decide +kernel, rfl, by decide +kernel, by decide +kernel⟩
theorem ok_both_rises {f : Addr} {fd : FuncData} (F : Fun K "both_rises" "both_rises" s_both_rises f fd) (T : Top mg) : FnOk P w K mg base CX0 4 f fd ["many", "one", "other"] (spBK "rises") := by
 refine F.ok sc_both_rises (fun vs H Q E h => ?_) (fun cdv A outer s H vs Q E hr h => ?_)
 ·obtain ⟨n, a, b, p, q, rfl, _⟩ := h
  rfl
 ·obtain ⟨n, a, b, p, q, rfl, hn, ha, hb, hp, hq, hne, k⟩ := h
  refine ⟨_, (pss_one (ps_ret (pe_ifExp (pt_cmpR op_eq (pe_callB call_abs (by rfl) T.n_abs boot_abs (pa_cons (pe_op op_sub (pe_ix ix_tup (pv 1) pe_int (fun _ _ => rfl)) (pe_ix ix_tup (pv 2) pe_int (fun _ _ => rfl))) pa_nil)) pe_int (nomark _)) (pe_tup (pa_cons pe_int (pa_cons pe_int pa_nil))) (pe_tup (pa_cons pe_int (pa_cons pe_int pa_nil)))))), ?_⟩
  obtain ⟨i, i1, _, (⟨_, rfl⟩ | ⟨h, _⟩)⟩ := parts_form hp
  ·obtain ⟨j, j1, _, (⟨_, rfl⟩ | ⟨h, _⟩)⟩ := parts_form hq
   ·have eb : bothA "rises" n [(i : Int)] [(j : Int)] = if ((i : Int) - (j : Int)).natAbs = 1 then (1, 6) else (1, 4) := by unfold bothA; rw [if_neg hne]; rfl
    rw [eb] at k
    refine ⟨_, rfl, a, _, _, _, rfl, rfl, SqT.of ha, atI_nat (j := 0) rfl, _, rfl, b, _, _, _, rfl, rfl, SqT.of hb, atI_nat (j := 0) rfl, _, _, rfl, rfl, _, rfl, ?_⟩
    refine ⟨rfl, _, rfl, ?_⟩
    rw [dec_int]
    by_cases c : ((i : Int) - (j : Int)).natAbs = 1
    ·rw [if_pos c] at k
     rw [show ((if (i : Int) - (j : Int) < 0 then -((i : Int) - (j : Int)) else (i : Int) - (j : Int)) == 1) = true from beq_iff_eq.mpr (by split <;> (first | lia | omega))]
     exact iteT ⟨by show 2 <= sizeLine; decide, fun z hz => k z _ (same_upd hz) upd_same⟩
    ·rw [if_neg c] at k
     rw [show ((if (i : Int) - (j : Int) < 0 then -((i : Int) - (j : Int)) else (i : Int) - (j : Int)) == 1) = false from beq_eq_false_iff_ne.mpr (by split <;> (first | lia | omega))]
     exact iteF ⟨by show 2 <= sizeLine; decide, fun z hz => k z _ (same_upd hz) upd_same⟩
   ·exact absurd h (by decide)
  ·exact absurd h (by decide)
theorem sc_both_crossed : FnScope ["many", "one", "other"] ["many", "one", "other"] (defScope s_both_crossed) := ⟨rfl, rfl, rfl, by decide +kernel, rfl, by decide +kernel, by decide +kernel⟩
theorem ok_both_crossed {f : Addr} {fd : FuncData} (F : Fun K "both_crossed" "both_crossed" s_both_crossed f fd) : FnOk P w K mg base CX0 4 f fd ["many", "one", "other"] (spBK "crossed") := by
 refine F.ok sc_both_crossed (fun vs H Q E h => ?_) (fun cdv A outer s H vs Q E hr h => ?_)
 ·obtain ⟨n, a, b, p, q, rfl, _⟩ := h
  rfl
 ·obtain ⟨n, a, b, p, q, rfl, hn, ha, hb, hp, hq, hne, k⟩ := h
  refine ⟨_, (pss_cons (ps_if (PW.pt (pw_or (pt_cmpR op_eq (pe_ix ix_tup (pv 1) pe_int (fun _ _ => rfl)) (pe_ix ix_tup (pv 2) pe_int (fun _ _ => rfl)) (nomark _)) (pw_or1 (pt_cmpR op_eq (pe_ix ix_tup (pv 1) pe_int (fun _ _ => rfl)) (pe_ix ix_tup (pv 2) pe_int (fun _ _ => rfl)) (nomark _)))))
    (pss_one (ps_ret (pe_tup (pa_cons pe_int (pa_cons pe_int pa_nil)))))
    pss_nil)
   (pss_cons (ps_if (PW.pt (pw_or (pt_cmpR op_eq (pe_ix ix_tup (pv 1) pe_int (fun _ _ => rfl)) (pe_ix ix_tup (pv 2) pe_int (fun _ _ => rfl)) (nomark _)) (pw_or1 (pt_cmpR op_eq (pe_ix ix_tup (pv 1) pe_int (fun _ _ => rfl)) (pe_ix ix_tup (pv 2) pe_int (fun _ _ => rfl)) (nomark _)))))
    (pss_one (ps_ret (pe_tup (pa_cons pe_int (pa_cons pe_int pa_nil)))))
    pss_nil)
   (pss_one (ps_ret (pe_tup (pa_cons pe_int (pa_cons pe_int pa_nil))))))), ?_⟩
  obtain ⟨i, i1, _, (⟨h, _⟩ | ⟨_, i', i2, i3, rfl⟩)⟩ := parts_form hp
  ·exact absurd rfl h
  obtain ⟨j, j1, _, (⟨h, _⟩ | ⟨_, j', j2, j3, rfl⟩)⟩ := parts_form hq
  ·exact absurd rfl h
  have eb : bothA "crossed" n [(i : Int), (i' : Int)] [(j : Int), (j' : Int)] = if (i : Int) = j ∨ (i' : Int) = j' then (1, 3) else if (i : Int) = j' ∨ (i' : Int) = j then (1, 6) else (1, 4) := by unfold bothA; rw [if_neg hne]; rfl
  rw [eb] at k
  have beqT : ∀ {x y : Int}, x = y -> (x == y) = true := fun h => beq_iff_eq.mpr h
  have beqF : ∀ {x y : Int}, ¬ x = y -> (x == y) = false := fun h => beq_eq_false_iff_ne.mpr h
  have two : 2 <= sizeLine := by decide
  refine ⟨_, rfl, a, _, _, _, rfl, rfl, SqT.of ha, atI_nat (j := 0) rfl, _, rfl, b, _, _, _, rfl, rfl, SqT.of hb, atI_nat (j := 0) rfl, rfl, _, rfl, ?_⟩
  rw [dec_int]
  by_cases c1 : (i : Int) = j
  ·rw [if_pos (.inl c1)] at k
   rw [beqT c1]
   exact iteT (iteT ⟨two, fun z hz => k z _ (same_upd hz) upd_same⟩)
  rw [beqF c1]
  refine iteF ⟨_, rfl, a, _, _, _, rfl, rfl, SqT.of ha, atI_nat (j := 1) rfl, _, rfl, b, _, _, _, rfl, rfl, SqT.of hb, atI_nat (j := 1) rfl, rfl, _, rfl, ?_⟩
  rw [dec_int]
  by_cases c2 : (i' : Int) = j'
  ·rw [if_pos (.inr c2)] at k
   rw [beqT c2]
   exact iteT ⟨two, fun z hz => k z _ (same_upd hz) upd_same⟩
  rw [beqF c2]
  rw [if_neg (fun h => h.elim c1 c2)] at k
  refine iteF ?_
  refine ⟨_, rfl, a, _, _, _, rfl, rfl, SqT.of ha, atI_nat (j := 0) rfl, _, rfl, b, _, _, _, rfl, rfl, SqT.of hb, atI_nat (j := 1) rfl, rfl, _, rfl, ?_⟩
  rw [dec_int]
  by_cases c3 : (i : Int) = j'
  ·rw [if_pos (.inl c3)] at k
   rw [beqT c3]
   exact iteT (iteT ⟨two, fun z hz => k z _ (same_upd hz) upd_same⟩)
  rw [beqF c3]
  refine iteF ⟨_, rfl, a, _, _, _, rfl, rfl, SqT.of ha, atI_nat (j := 1) rfl, _, rfl, b, _, _, _, rfl, rfl, SqT.of hb, atI_nat (j := 0) rfl, rfl, _, rfl, ?_⟩
  rw [dec_int]
  by_cases c4 : (i' : Int) = j
  ·rw [if_pos (.inr c4)] at k
   rw [beqT c4]
   exact iteT ⟨two, fun z hz => k z _ (same_upd hz) upd_same⟩
  rw [beqF c4]
  rw [if_neg (fun h => h.elim c3 c4)] at k
  exact iteF ⟨two, fun z hz => k z _ (same_upd hz) upd_same⟩
theorem sc_both_share : FnScope ["kind", "many", "one", "other", "sharer"] ["kind", "many", "one", "other"] (defScope s_both_share) := ⟨rfl, rfl, rfl, by decide +kernel, rfl, by decide +kernel, by decide +kernel⟩
theorem ok_both_share {f C f1 f2 f3 f4 f5 : Addr} {fd : FuncData} (F : Fun K "both_share" "both_share" s_both_share f fd) (hC : mg "BOTH_SHARES" = some (.ref C)) (GD : GDict K w.params C [("rounds", f1), ("stays", f2), ("rises", f3), ("highs", f4), ("crossed", f5)])
  (c1 : CalF P w K mg base 4 f1 ["many", "one", "other"] (spBK "rounds")) (c2 : CalF P w K mg base 4 f2 ["many", "one", "other"] (spBK "stays")) (c3 : CalF P w K mg base 4 f3 ["many", "one", "other"] (spBK "rises")) (c4 : CalF P w K mg base 4 f4 ["many", "one", "other"] (spBK "highs")) (c5 : CalF P w K mg base 4 f5 ["many", "one", "other"] (spBK "crossed")) (Cone_share : Cal P w K mg base 2 "one_share" ["kind", "many", "part"] spOneA) : FnOk P w K mg base CX0 5 f fd ["kind", "many", "one", "other"] spBothA := by
 refine F.ok sc_both_share (fun vs H Q E h => ?_) (fun cdv A outer s H vs Q E hr h => ?_)
 ·obtain ⟨kd, n, a, b, p, q, rfl, _⟩ := h
  rfl
 ·obtain ⟨kd, n, a, b, p, q, rfl, hk, hn, ha, hb, hp, hq, k⟩ := h
  have hu : _ := hr.units
  refine ⟨_, (pss_cons (ps_if (pt_cmpR (op_eqD hu) (pv 2) (pv 3) (nomark _))
    (pss_one (ps_ret (pe_cal Cone_share (hr.mono (by decide)) rfl (pa_cons (pv 0) (pa_cons (pv 1) (pa_cons (pv 2) pa_nil))))))
    pss_nil)
   (pss_cons (ps_set (i := 4) sc_both_share.nd rfl (Or.inl rfl) (pe_ix ix_gd (pe_glob (v := .ref C) rfl hC rfl) (pv 0) (fun _ _ => rfl)))
   (pss_one (ps_ret (pe_callV (k := 4) (pv 4) hr (pa_cons (pv 1) (pa_cons (pv 2) (pa_cons (pv 3) pa_nil)))))))), ?_⟩
  refine ⟨_, rfl, _, rfl, _, _, Is.ints ha, Is.ints hb, shaped_tints p, shaped_tints q, ?_⟩
  rw [show PyData.eqv (.tuple (p.map PyData.int)) (.tuple (q.map PyData.int)) = decide (p = q) from eqv_ints p q]
  refine ⟨_, rfl, ?_⟩
  by_cases e : p = q
  ·rw [decide_eq_true e]
   refine iteT ⟨_, rfl, _, rfl, _, rfl, kd, (n : Int), a, p, rfl, hk, ha, parts_len1 p hp, fun z H' s' hz => k z H' s' ?_⟩
   rw [show bothA kd n p q = oneA kd n p from if_pos e]
   exact hz
  ·rw [decide_eq_false e]
   refine iteF ?_
   rcases kinds5_cases hk with rfl | rfl | rfl | rfl | rfl
   ·exact ⟨_, rfl, C, _, _, f1, rfl, rfl, GD, rfl, _, rfl, f1, _, _, rfl, c1, _, rfl, _, rfl, _, rfl, n, a, b, p, q, rfl, hn, ha, hb, hp, hq, e, k⟩
   ·exact ⟨_, rfl, C, _, _, f2, rfl, rfl, GD, rfl, _, rfl, f2, _, _, rfl, c2, _, rfl, _, rfl, _, rfl, n, a, b, p, q, rfl, hn, ha, hb, hp, hq, e, k⟩
   ·exact ⟨_, rfl, C, _, _, f3, rfl, rfl, GD, rfl, _, rfl, f3, _, _, rfl, c3, _, rfl, _, rfl, _, rfl, n, a, b, p, q, rfl, hn, ha, hb, hp, hq, e, k⟩
   ·exact ⟨_, rfl, C, _, _, f4, rfl, rfl, GD, rfl, _, rfl, f4, _, _, rfl, c4, _, rfl, _, rfl, _, rfl, n, a, b, p, q, rfl, hn, ha, hb, hp, hq, e, k⟩
   ·exact ⟨_, rfl, C, _, _, f5, rfl, rfl, GD, rfl, _, rfl, f5, _, _, rfl, c5, _, rfl, _, rfl, _, rfl, n, a, b, p, q, rfl, hn, ha, hb, hp, hq, e, k⟩
end
end K26
namespace K26
open PySem PySem.Spec PyProof.Rows L2
noncomputable abbrev s__law_pair_share : Stmt := top 28
noncomputable abbrev s__law_all_pairs_right : Stmt := top 29
section
variable {P : Program} {w : World} {K : PySem.W.Frag} {mg : Str -> Option Value} {base : Heap}
theorem sc__law_pair_share : FnScope ["_law_orders", "_law_had", "_law_one", "_law_other"] ["_law_orders", "_law_had", "_law_one", "_law_other"] (defScope s__law_pair_share) := ⟨rfl, rfl, rfl, by decide +kernel, rfl, by decide +kernel, by decide +kernel⟩
set_option maxHeartbeats 4000000 in
theorem ok__law_pair_share {f : Addr} {fd : FuncData} (F : Fun K "_law_pair_share" "_law_pair_share" s__law_pair_share f fd) (T : Top mg) (C_law_low : Cal P w K mg base 1 "_law_low" ["_law_over", "_law_under"] spLow) : FnOk P w K mg base CX0 2 f fd ["_law_orders", "_law_had", "_law_one", "_law_other"] spPairS := by
 refine F.ok sc__law_pair_share (fun vs H Q E h => ?_) (fun cdv A outer s H vs Q E hr h => ?_)
 ·obtain ⟨O, D, a, b, zs, kd, rows, parts, p, q, rfl, _⟩ := h
  rfl
 ·obtain ⟨O, D, a, b, zs, kd, rows, parts, p, q, rfl, hO, hzl, h0, h1, ⟨d, hD, hd⟩, hp, hq, ha, hb, k⟩ := h
  have hu1 := hu_of hr
  obtain ⟨L1, v1, hL1⟩ := hd p hp
  obtain ⟨L2', v2, hL2⟩ := hd q hq
  have ha' : H a = some (.tup ((keyI p).map kV)) := by rw [keyI_V]; exact ha
  have hb' : H b = some (.tup ((keyI q).map kV)) := by rw [keyI_V]; exact hb
  have at_ : ∀ {r : List Int} {i : Nat}, i < rows.length -> atI (rows.map fun o => V.bl (hasZ kd r o)) (i : Int) = some (.bl ((rows.map (hasZ kd r)).getD i false)) := fun {r i} hi => atI_nat (by rw [List.getElem?_map, List.getElem?_eq_getElem hi, List.getD_eq_getElem?_getD, List.getElem?_map, List.getElem?_eq_getElem hi]; rfl)
  refine ⟨_, (pss_one (ps_ret (pe_cal C_law_low (hr.mono (by decide)) rfl (pa_cons (pe_callB call_len_seq (by rfl) T.n_len PySem.boot_len (pa_cons (pe_lc (N' := ["_law_at", "_law_had", "_law_one", "_law_other"]) (n := 1) (ix := [1, 2, 3]) rfl (CompScope.of (sc := defScope s__law_pair_share) (N := ["_law_orders", "_law_had", "_law_one", "_law_other"]) (by decide +kernel) rfl rfl) (pi_range1 rfl T.n_range (pa_cons (pe_callB call_len_seq (by rfl) T.n_len PySem.boot_len (pa_cons (pv 0) pa_nil)) pa_nil)) (fun _ _ _ _ _ => ⟨(pg_name (i := 0) (show (["_law_at", "_law_had", "_law_one", "_law_other"] : List Str).Nodup by decide +kernel) rfl (Or.inl rfl)), (pts_one (PW.pt (pw_and (pt_val (pe_ix (ix_listK K rfl) (pe_dget hu1 (pv 1) (pv 2) (fun _ _ => rfl)) (pv 0) (fun _ _ => rfl))) (pw_and1 (pt_val (pe_ix (ix_listK K rfl) (pe_dget hu1 (pv 1) (pv 3) (fun _ _ => rfl)) (pv 0) (fun _ _ => rfl))))))), (pv 0)⟩)) pa_nil)) (pa_cons (pe_callB call_len_seq (by rfl) T.n_len PySem.boot_len (pa_cons (pv 0) pa_nil)) pa_nil))))), ?_⟩
  refine ⟨_, rfl, O, _, rfl, .inl (SqL.of hO), _, rfl, by (first | lia | omega), by rw [List.length_map]; (first | lia | omega), ?_⟩
  rw [List.length_map, hzl, Int.toNat_natCast]
  refine lc_pure (yields_range (lo := 0) (n := rows.length)) (small1 (by rw [rangeV_len]; (first | lia | omega))) (fun v => match v with | .int i => ((rows.map (hasZ kd p)).getD i.toNat false) && ((rows.map (hasZ kd q)).getD i.toNat false) | _ => false) id (fun _ _ => trivial) (fun x hx G s' Q' q' => ?_) (fun x hx _ G s' Q' q' => ⟨_, rfl, q'⟩) fun acc hacc => ?_
  ·obtain ⟨n, rfl, n0, n1⟩ := mem_rangeV hx
   obtain ⟨i, rfl⟩ : ∃ i : Nat, n = (i : Int) := ⟨n.toNat, by (first | lia | omega)⟩
   have hi : i < rows.length := by (first | lia | omega)
   have q' : Q' (((rows.map (hasZ kd p)).getD i false) && ((rows.map (hasZ kd q)).getD i false)) G := q'
   have g1 : DGet G D (.ref a) (some (.ref L1)) := by
    have := DGet.t (s' _ _ hD) (s' _ _ ha')
    rw [v1] at this
    exact this
   have g2 : DGet G D (.ref b) (some (.ref L2')) := by
    have := DGet.t (s' _ _ hD) (s' _ _ hb')
    rw [v2] at this
    exact this
   refine ⟨_, rfl, _, rfl, D, _, rfl, g1, _, rfl, L1, _, _, _, rfl, rfl, SqL.of (s' _ _ hL1), at_ hi, _, rfl, ?_⟩
   cases e1 : (rows.map (hasZ kd p)).getD i false with
   | false =>
    rw [e1, Bool.false_and] at q'
    exact iteF q'
   | true =>
    rw [e1, Bool.true_and] at q'
    exact iteT ⟨_, rfl, _, rfl, D, _, rfl, g2, _, rfl, L2', _, _, _, rfl, rfl, SqL.of (s' _ _ hL2), at_ hi, _, rfl, q'⟩
  ·have s1 := same_upd (o := .lst (((rangeV 0 rows.length).filter fun v => match v with | .int i => ((rows.map (hasZ kd p)).getD i.toNat false) && ((rows.map (hasZ kd q)).getD i.toNat false) | _ => false).map id)) hacc
   have el : ((((rangeV 0 rows.length).filter fun v => match v with | .int i => ((rows.map (hasZ kd p)).getD i.toNat false) && ((rows.map (hasZ kd q)).getD i.toNat false) | _ => false).map id).length : Int) = ((rows.filter fun o => hasZ kd p o && hasZ kd q o).length : Int) := by
    rw [<- both_cnt (p := hasZ kd p) (q := hasZ kd q) rows, List.length_map, rangeV_num0, List.filter_map, List.length_map]
    unfold num0
    rw [List.filter_map, List.length_map]
    rfl
   refine ⟨acc, _, rfl, .inl (SqL.of upd_same), _, rfl, O, _, rfl, .inl (SqL.of (s1 _ _ hO)), ?_⟩
   rw [el, List.length_map, hzl]
   exact ⟨_, _, rfl, by (first | lia | omega), Sm.of (Nat.lt_of_le_of_lt (show ((rows.length : Int)).natAbs <= 1000 by (first | lia | omega)) (by decide +kernel)), fun z G s' hz => k z G (s1.trans s') hz⟩
theorem sc__law_all_pairs_right : FnScope ["_law_kind", "_law_many", "_law_orders", "_law_some", "_law_had", "_law_one", "_law_other", "_law_due"] ["_law_kind", "_law_many"] (defScope s__law_all_pairs_right) := ⟨rfl, rfl, rfl, by decide +kernel, rfl, by decide +kernel, by decide +kernel⟩
set_option maxHeartbeats 8000000 in
theorem ok__law_all_pairs_right {f : Addr} {fd : FuncData} (F : Fun K "_law_all_pairs_right" "_law_all_pairs_right" s__law_all_pairs_right f fd) (T : Top mg) (TS : TopS mg) (C_law_all : Cal P w K mg base 1 "_law_all" ["_law_many"] spAllI7) (C_law_parts : Cal P w K mg base 1 "_law_parts" ["_law_kind", "_law_many"] spLawParts) (C_law_has : Cal P w K mg base 2 "_law_has" ["_law_kind", "_law_part", "_law_order"] spHas) (C_law_pair_share : Cal P w K mg base 2 "_law_pair_share" ["_law_orders", "_law_had", "_law_one", "_law_other"] spPairS) (C_law_same : Cal P w K mg base 3 "_law_same" ["_law_one", "_law_two"] (spSameW 2)) (Cboth_share : Cal P w K mg base 5 "both_share" ["kind", "many", "one", "other"] spBothA) : FnOk P w K mg base CX0 6 f fd ["_law_kind", "_law_many"] spAllPR := by
 refine F.ok sc__law_all_pairs_right (fun vs H Q E h => ?_) (fun cdv A outer s H vs Q E hr h => ?_)
 ·obtain ⟨kd, n, rfl, _⟩ := h
  rfl
 ·obtain ⟨kd, n, rfl, hk, hn, k⟩ := h
  have hu8 := Nat.lt_of_le_of_lt (Nat.add_le_add_left (by decide : 8 <= 64) _) hr.units
  have hac := all_cnt7 n (by (first | lia | omega))
  have two : 2 < sizeLine := by decide
  refine ⟨_, (pss_cons (ps_set (i := 2) sc__law_all_pairs_right.nd rfl (Or.inr rfl) (pe_cal C_law_all (hr.mono (by decide)) rfl (pa_cons (pv 1) pa_nil)))
   (pss_cons (ps_set (i := 3) sc__law_all_pairs_right.nd rfl (Or.inl rfl) (pe_cal C_law_parts (hr.mono (by decide)) rfl (pa_cons (pv 0) (pa_cons (pv 1) pa_nil))))
   (pss_cons (ps_set (i := 4) sc__law_all_pairs_right.nd rfl (Or.inl rfl) (pe_callTy (call_dictP rfl hu8) (by rfl) TS.n_dict boot_dict (pa_cons (pe_lcZ (z := "_law_part") (N' := ["_law_part", "_law_orders", "_law_kind"]) (n := 1) (ix := [2, 0]) rfl (CompScopeZ.of (sc := defScope s__law_all_pairs_right) (N := ["_law_kind", "_law_many", "_law_orders", "_law_some", "_law_had", "_law_one", "_law_other", "_law_due"]) (by decide +kernel) rfl rfl (fun _ _ => rfl) (fun _ => rfl)) (pi_list (pv 3)) (fun _ _ _ _ _ _ => ⟨(pg_name (i := 0) (show (["_law_part", "_law_orders", "_law_kind"] : List Str).Nodup by decide +kernel) rfl (Or.inr rfl) (Or.inl rfl)), pts_nil, (pe_tup (pa_cons (pv 0) (pa_cons (pe_lc (N' := ["_law_order", "_law_kind", "_law_part"]) (n := 1) (ix := [2, 0]) rfl (CompScope.of (N := ["_law_part", "_law_orders", "_law_kind"]) rfl rfl rfl) (piK_list K rfl (pv 1)) (fun _ _ _ _ _ => ⟨(pg_name (i := 0) (show (["_law_order", "_law_kind", "_law_part"] : List Str).Nodup by decide +kernel) rfl (Or.inl rfl)), pts_nil, (pe_cal C_law_has (hr.mono (by decide)) rfl (pa_cons (pv 1) (pa_cons (pv 2) (pa_cons (pv 0) pa_nil))))⟩)) pa_nil)))⟩)) pa_nil)))
   (pss_cons (ps_for PassesOwn.never rfl (pi_list (pv 3)) (pg_name (i := 5) sc__law_all_pairs_right.nd rfl (Or.inl rfl))
    (pss_one (ps_for PassesOwn.never rfl (pi_list (pv 3)) (pg_name (i := 6) sc__law_all_pairs_right.nd rfl (Or.inl rfl))
     (pss_cons (ps_set (i := 7) sc__law_all_pairs_right.nd rfl (Or.inl rfl) (pe_cal C_law_pair_share (hr.mono (by decide)) rfl (pa_cons (pv 2) (pa_cons (pv 4) (pa_cons (pv 5) (pa_cons (pv 6) pa_nil))))))
     (pss_one (ps_if (pt_not (pt_val (pe_cal C_law_same (hr.mono (by decide)) rfl (pa_cons (pe_cal Cboth_share (hr.mono (by decide)) rfl (pa_cons (pv 0) (pa_cons (pv 1) (pa_cons (pv 5) (pa_cons (pv 6) pa_nil))))) (pa_cons (pv 7) pa_nil)))))
      (pss_one (ps_ret pe_bl))
      pss_nil))))))
   (pss_one (ps_ret pe_bl)))))), ?_⟩
  refine ⟨_, rfl, n, rfl, by (first | lia | omega), fun O zs G1 s1 hO RO => ?_⟩
  have hzl : zs.length = (allI n).length := Paired.length RO
  refine ⟨_, rfl, _, rfl, kd, n, rfl, hk, by (first | lia | omega), fun Pp ws G2 s2 hPp RP => ?_⟩
  have hwl : ws.length = (partsZ kd n).length := Paired.length RP
  have hwc := parts_cnt7 n (by (first | lia | omega)) kd hk
  have hO2 := s2 _ _ hO
  have RO2 := RO.same s2
  refine ⟨_, rfl, Pp, rfl, ⟨_, SqL.of hPp⟩, ?_⟩
  refine lc_prs (yields_list (xs := ws.map V.ref)) (small1 (by rw [List.length_map]; (first | lia | omega))) (hasB G2 kd (allI n)) (fun G s' => SqL.of (s' _ _ hPp)) (fun x G hx s' QT q' => ?_) fun acc ts G hacc sG hG hts => ?_
  ·obtain ⟨w0, hw0, rfl⟩ := List.mem_map.mp hx
   obtain ⟨r, hr1, hr2⟩ := RP.mem hw0
   have po := part_ok7 (by (first | lia | omega)) hk hr1
   have RO3 := RO2.same s'
   refine ⟨_, rfl, _, rfl, O, rfl, ⟨_, SqL.of (s' _ _ hO2)⟩, ?_⟩
   refine lc_grow (yields_list (xs := zs.map V.ref)) (small1 (by rw [List.length_map]; (first | lia | omega))) (fun x v _ => ∀ (z : Addr) (o : List Int), x = V.ref z -> G z = some (.tup (o.map V.int)) -> v = V.bl (hasZ kd r o)) (fun _ _ _ _ _ h => h) (fun G' s4 => SqL.of (s4 _ _ (s' _ _ hO2))) (fun y hy G' s4 Q2 q2 => ?_) fun acc2 ys2 G3 hacc2 g3 hys2 pr2 => ?_
   ·obtain ⟨zo, hzo, rfl⟩ := List.mem_map.mp hy
    obtain ⟨o, ho1, ho2⟩ := RO3.mem hzo
    have hol := all_len7 n (by (first | lia | omega)) o ho1
    refine ⟨_, rfl, _, rfl, _, rfl, kd, w0, zo, r, o, rfl, hk, s4 _ _ (s' _ _ hr2), s4 _ _ ho2, by rw [hol]; exact po, fun _ => ?_, fun H5 s5 => q2 _ H5 s5 ?_⟩
    ·obtain ⟨⟨q, eq, _, hq, _⟩, _⟩ := po
     rw [eq]
     exact all_rnd7 n (by (first | lia | omega)) o ho1 q hq
    ·intro z o' ez hz
     cases ez
     rw [ho2] at hz
     have := map_int_inj (HO.tup.inj (Option.some.inj hz))
     rw [this]
   ·have e := rows_tabB RO3 pr2
    subst e
    refine ⟨by show 2 <= sizeLine; decide, fun t ht => ?_⟩
    have u := same_upd (o := .tup [.ref w0, .ref acc2]) ht
    exact q' t acc2 _ (g3.free ht) hacc2 upd_same (by rw [hasB_at hr2]; exact u _ _ hys2) (g3.trans u)
  ·obtain ⟨kvs, pk, ek, gk⟩ := prs_kvs RP sG hts
   have kl : kvs.length = ts.length := (Paired.length pk).symm
   have tl : ts.length = ws.length := by have := Paired.length hts; rw [List.length_map] at this; exact this
   refine ⟨acc, ts, kvs, rfl, hG, pk, small1 (by (first | lia | omega)), fun D hD => ?_⟩
   have HA : HadAt (upd G D (.dT (putAll [] kvs))) D kd (allI n) (partsZ kd n) := had_mk hD ek gk
   have sD := sG.trans (same_upd (o := .dT (putAll [] kvs)) hD)
   generalize upd G D (.dT (putAll [] kvs)) = G4 at HA sD ⊢
   have hPp4 := sD _ _ hPp
   have RP4 := RP.same sD
   have hO4 := sD _ _ hO2
   refine ⟨_, rfl, Pp, rfl, ⟨_, SqL.of hPp4⟩, ?_⟩
   refine for_list (K := K) (xs := ws.map V.ref) (fun i σ G' => ∃ (c5 c6 c7 : Option V), σ = [some (.str kd), some (.int (n : Int)), some (.ref O), some (.ref Pp), some (.ref D), c5, c6, c7] /\ Same G4 G') ⟨_, _, _, rfl, Same.refl _⟩ ?_ ?_ ?_
   ·rintro i σ G' _ ⟨c5, c6, c7, rfl, s'⟩
    exact SqL.of (s' _ _ hPp4)
   ·rintro i x σ G' hx ⟨c5, c6, c7, rfl, s'⟩
    obtain ⟨w1, hw1, rfl⟩ := List.mem_map.mp (List.mem_of_getElem? hx)
    obtain ⟨r1, hr1, hr1'⟩ := RP4.mem hw1
    refine ⟨_, rfl, Pp, rfl, ⟨_, SqL.of (s' _ _ hPp4)⟩, ?_⟩
    refine for_list (K := K) (xs := ws.map V.ref) (fun i σ G' => ∃ (c6 c7 : Option V), σ = [some (.str kd), some (.int (n : Int)), some (.ref O), some (.ref Pp), some (.ref D), some (.ref w1), c6, c7] /\ Same G4 G') ⟨_, _, rfl, s'⟩ ?_ ?_ ?_
    ·rintro i σ G' _ ⟨c6, c7, rfl, s'⟩
     exact SqL.of (s' _ _ hPp4)
    ·rintro i x σ G5 hx ⟨c6, c7, rfl, s5⟩
     obtain ⟨w2, hw2, rfl⟩ := List.mem_map.mp (List.mem_of_getElem? hx)
     obtain ⟨r2, hr2, hr2'⟩ := RP4.mem hw2
     refine ⟨_, rfl, _, rfl, _, rfl, _, rfl, O, D, w1, w2, zs, kd, allI n, partsZ kd n, r1, r2, rfl, s5 _ _ hO4, hzl, hac.2, by (first | lia | omega), HA.same s5, hr1, hr2, s5 _ _ hr1', s5 _ _ hr2', fun z G6 s6 hz => ?_⟩
     rw [both_fin n hn kd hk r1 hr1 r2 hr2] at hz
     have s56 := s5.trans s6
     refine ⟨_, rfl, _, rfl, _, rfl, _, rfl, kd, n, w1, w2, r1, r2, rfl, hk, by (first | lia | omega), s56 _ _ hr1', s56 _ _ hr2', hr1, hr2, fun z2 G7 s7 hz2 => ?_⟩
     exact ⟨_, rfl, _, _, rfl, .inr ⟨z2, z, _, _, rfl, rfl, hz2, s7 _ _ hz, two, .cons (.inl ⟨_, rfl, rfl⟩) (.cons (.inl ⟨_, rfl, rfl⟩) .nil)⟩, fun G8 s8 => ⟨_, rfl, iteF ⟨_, _, rfl, (s56.trans s7).trans s8⟩⟩⟩
    ·rintro σ G5 ⟨c6, c7, rfl, s5⟩
     exact ⟨_, _, _, rfl, s5⟩
   ·rintro σ G5 ⟨c5, c6, c7, rfl, s5⟩
    exact k _ ((s1.trans s2).trans (sD.trans s5))
end
end K26
namespace L2
open PySem PySem.Spec PyProof.Rows
section
variable {X : Cx}
noncomputable def rLIndexQ : V -> List V -> Hp -> VK -> Prop := fun x vs H Q => ∃ (a : Addr) (ns : List Int) (n : Int), x = .ref a /\ vs = [.int n] /\ H a = some (.lst (ns.map V.int)) /\ n ∈ ns /\ ns.length <= 100000 /\ Q (.int (ns.idxOf n)) H
theorem mt_lindexQ : MtM X "list.index" rLIndexQ := by
 intro pins s σ H x vs v us Q I rx rv h
 obtain ⟨a, ns, n, rfl, rfl, hH, hn, hlen, q⟩ := h
 cases rx
 obtain ⟨u, rfl, t, rfl⟩ := vals1 rv
 obtain ⟨z, its, c, r, hl, e⟩ := I.lstM hH
 have hlr := r.length
 rw [mapI_len] at hlr
 have hidx : ns.idxOf n < ns.length := List.idxOf_lt_length_of_mem hn
 obtain ⟨y0, hy0, ry0⟩ := r.get (i := ns.idxOf n) (x := .int n) (by rw [List.getElem?_map, List.getElem?_eq_getElem hidx, List.getElem_idxOf hidx]; rfl)
 refine call_meets PySem.F.slot_list_index ⟨_, e, rfl⟩ PySem.F.entry_list_index (PySem.F.args_list_index_2 _ _)
  (SeqAt.list_indexAt a its.toArray c none #[] (.int n t) (fun y => match y with | .int m _ => m == n | _ => false) (ns.idxOf n) (by rw [List.size_toArray]; (first | lia | omega)) (by (first | lia | omega)) ?_ ?_) ⟨e, ?_, ⟨.int (ns.idxOf n), H, I.tok _, ⟨_, rfl⟩, q⟩⟩
 ·obtain ⟨t', rfl⟩ := ry0
  have : its.toArray[ns.idxOf n]'(by rw [List.size_toArray]; (first | lia | omega)) = Value.int n t' := by
   have := (List.getElem?_eq_some_iff.mp hy0).2
   simpa using this
  rw [this]
  simp
 ·intro i hm hi
  have hil : i < ns.length := by (first | lia | omega)
  obtain ⟨y1, hy1, ry1⟩ := r.get (i := i) (x := .int ns[i]) (by rw [List.getElem?_map, List.getElem?_eq_getElem hil]; rfl)
  obtain ⟨t2, e2⟩ := ry1
  have hne : ns[i] ≠ n := by
   have := List.not_of_lt_findIdx (p := (· == n)) (xs := ns) (i := i) (by simpa [List.idxOf] using hi)
   simpa using this
  have : its.toArray[i]'hm = Value.int ns[i] t2 := by
   have := (List.getElem?_eq_some_iff.mp hy1).2
   rw [<- e2]
   simpa using this
  rw [this]
  simp [hne]
 ·intro y hy
  obtain ⟨m, t', _, rfl⟩ := vals_mem r y (by simpa using hy)
  exact (MeetsSeq.EqGives.int m n t' t).at _ _
end
theorem pe_bmQ {X : Cx} {o e : Expr} {es : List Expr} {to : TE} {t : TA} {name : Str} {apos cpos : Pos} {T id : String} {r : V -> List V -> Hp -> VK -> Prop} (K : PySem.W.Frag) (hK : X.K = K) (pa : PlainAttrs T) (slot : Slot T name id) (hty : typeOf (.builtin id) = pure (.type "method_descriptor")) (hm : MtR X id r) (ho : PE X o to) (ha : PA X (e :: es) t)
  (h1 : attributeBase o name X.env (eval o X.env) = eval o X.env := by rfl) (h2 : ((backTo cpos (starEach (e :: es) X.env)).all (fun x => !x.1) && (backToKw cpos (keywordEach [] X.env)).all (fun x => x.1.isSome) && decide ((e :: es).length + ([] : List Keyword).length + (if ([] : List Keyword).isEmpty then 0 else 1) < 30)) = true := by rfl)
  (h3 : (apos.endLine == cpos.line) = true := by rfl) (h4 : starEach (e :: es) X.env = (false, eval e X.env) :: starEach es X.env := by rfl) (h5 : (backTo cpos (starEach es X.env)).any (·.1) = false := by rfl) : PE X (.Call (.Attribute o name apos) (e :: es) [] cpos) (tBM K T r to t) := hK ▸ pe_bm pa slot hty hm ho ha h1 h2 h3 h4 h5
end L2
namespace L2
open PySem PySem.Spec PyProof.Rows
noncomputable def tD3 (k1 k2 k3 : Str) (t1 t2 t3 : TE) : TE := fun σ H Q => ∀ d, H d = none -> t1 σ (upd H d (.dK [])) fun v1 H1 => t2 σ H1 fun v2 H2 => t3 σ H2 fun v3 H3 => H3 d = some (.dK []) /\ Q (.ref d) (upd H3 d (.dK [(.inr k1, v1), (.inr k2, v2), (.inr k3, v3)]))
theorem pe_dict3 {X : Cx} {pos : Pos} {k1 k2 k3 : Str} {a1 a2 a3 b1 b2 b3 : Expr} {t1 t2 t3 : TE} (n12 : k1 ≠ k2) (n13 : k1 ≠ k3) (n23 : k2 ≠ k3) (q1 : PE X a1 (tC (.str k1))) (q2 : PE X a2 (tC (.str k2))) (q3 : PE X a3 (tC (.str k3))) (p1 : PE X b1 t1) (p2 : PE X b2 t2) (p3 : PE X b3 t3) :
  PE X (.Dict [some a1, some a2, some a3] [b1, b2, b3] pos) (tD3 k1 k2 k3 t1 t2 t3) := by
 intro pins s σ H Q I h
 have hd0 : H s.heap.objs.size = none := I.hok.fresh (Nat.le_refl _)
 have h := h _ hd0
 refine wpAny_Dict_walk (knd := mixKind X.prog X.w) rfl rfl (by simp) (by show 3 <= 15; decide) ?_
 have I0 : Inv X pins σ (upd H s.heap.objs.size (.dK [])) { s with heap := s.heap.push { cls := .type "dict", data := .dict #[] } } := I.laid (a := s.heap.objs.size) (o := .dK []) (t' := s.toks) (fun _ _ q => Heap.get?_push_of_some _ q) (Nat.le_refl _) (dk_empty s.heap I.big)
 refine evalPairs_cons (thn (q1 pins _ σ _ (fun x H' => x = .str k1 /\ H' = upd H s.heap.objs.size (.dK [])) I0 ⟨rfl, rfl⟩) fun u1 s1 ⟨x1, H1, I1, r1, e1, e1'⟩ => ?_)
 subst e1 e1'
 refine wpAny_bind (thn (p1 pins s1 σ _ _ I1 h) fun w1 s2 ⟨v1, H2, I2, rv1, h⟩ => wpAny_bind (wpAny_standAt (wpAny_pure ?_)))
 refine evalPairs_cons (thn (q2 pins s2 σ _ (fun x H' => x = .str k2 /\ H' = H2) I2 ⟨rfl, rfl⟩) fun u2 s3 ⟨x2, H3, I3, r2, e2, e2'⟩ => ?_)
 subst e2 e2'
 refine wpAny_bind (thn (p2 pins s3 σ _ _ I3 h) fun w2 s4 ⟨v2, H4, I4, rv2, h⟩ => wpAny_bind (wpAny_standAt (wpAny_pure ?_)))
 refine evalPairs_cons (thn (q3 pins s4 σ _ (fun x H' => x = .str k3 /\ H' = H4) I4 ⟨rfl, rfl⟩) fun u3 s5 ⟨x3, H5, I5, r3, e3, e3'⟩ => ?_)
 subst e3 e3'
 refine wpAny_bind (thn (p3 pins s5 σ _ _ I5 h) fun w3 s6 ⟨v3, H6, I6, rv3, hd6, h⟩ => wpAny_bind (wpAny_standAt (wpAny_pure (evalPairs_nil ?_))))
 refine ⟨[(.inr k1, w1), (.inr k2, w2), (.inr k3, w3)], ⟨kV_is (k := .inr k1) r1, rfl, kV_is (k := .inr k2) r2, rfl, kV_is (k := .inr k3) r3, rfl, trivial⟩, ?_, fun h' dd' hs => ?_⟩
 ·obtain ⟨z, hd, vs, rel, dd⟩ := dk_of I6.hok hd6
  cases rel
  exact dd
 ·have em : merged [] [((Sum.inr k1 : Key), w1), (.inr k2, w2), (.inr k3, w3)] = [(.inr k1, w1), (.inr k2, w2), (.inr k3, w3)] := by
   unfold merged stored
   have a12 : ¬ (Sum.inr k1 : Key) = .inr k2 := fun z => n12 (Sum.inr.inj z)
   have a13 : ¬ (Sum.inr k1 : Key) = .inr k3 := fun z => n13 (Sum.inr.inj z)
   have a23 : ¬ (Sum.inr k2 : Key) = .inr k3 := fun z => n23 (Sum.inr.inj z)
   simp [n12, n13, n23]
  rw [em] at dd'
  obtain ⟨z, hd, vs, rel, dd⟩ := dk_of I6.hok hd6
  have he : ∃ q, h'.get? s.heap.objs.size = some q := let ⟨q, _, _, hq, _⟩ := dd'; ⟨q, hq⟩
  refine ⟨.ref s.heap.objs.size, _, d_write I6 (by rw [hd6]; exact True.intro) hs he (dk_new (by show 3 <= sizeLine; decide) hd (.cons ⟨rfl, rv1⟩ (.cons ⟨rfl, rv2⟩ (.cons ⟨rfl, rv3⟩ .nil))) dd'), rfl, h⟩
end L2
namespace L2
open PySem PySem.Spec PyProof.Rows
theorem lc_few {K : PySem.W.Frag} {a L : Addr} {p ms : List Int} {G : Hp} {σ : L2.St} {Q : VK} {ix : List Nat} (hσ : (ix.map fun i => σ.getD i none) = [some (.ref L)]) (ha : G a = some (.tup (p.map V.int))) (hL : G L = some (.lst (ms.map V.int))) (hm : ∀ x ∈ p, x ∈ ms) (hpl : p.length <= 1000) (hml : ms.length <= 1000)
  (fin : ∀ acc, G acc = none -> Q (.ref acc) (upd G acc (.lst ((fewZ ms p).map V.int)))) : LcW (Itt K a) G (gName 0) tNoTest (tBM K "list" rLIndexQ (tVar 1) (tCons (tVar 0) tNil)) 1 ix σ Q := by
 refine lc_pure (yields_tup (xs := p.map V.int)) (small1 (by rw [List.length_map]; (first | lia | omega))) (fun _ => true) (fun v => match v with | .int n => .int ((ms.idxOf n : Nat) : Int) | _ => .non) (fun G' s' => SqT.of (s' _ _ ha)) (fun x hx G' s' Q' q' => by exact q') (fun x hx _ G' s' Q' q' => ?_) fun acc hacc => ?_
 ·obtain ⟨n, hn, rfl⟩ := List.mem_map.mp hx
  rw [hσ]
  exact ⟨_, rfl, .inl ⟨rfl, _, SqL.of (s' _ _ hL)⟩, _, rfl, L, ms, n, rfl, rfl, s' _ _ hL, hm n hn, by (first | lia | omega), q'⟩
 ·have e : ((p.map V.int).filter fun _ => true).map (fun v => match v with | .int n => V.int ((ms.idxOf n : Nat) : Int) | _ => .non) = (fewZ ms p).map V.int := by
   rw [List.filter_eq_self.mpr (fun _ _ => rfl)]
   unfold fewZ
   rw [List.map_map, List.map_map]
   rfl
  rw [e]
  exact fin acc hacc
end L2
namespace K26
open PySem PySem.Spec PyProof.Rows L2
noncomputable abbrev s__law_few : Stmt := top 30
section
variable {P : Program} {w : World} {K : PySem.W.Frag} {mg : Str -> Option Value} {base : Heap}
theorem sc__law_few : FnScope ["_law_kind", "_law_one", "_law_other", "_law_touched"] ["_law_kind", "_law_one", "_law_other"] (defScope s__law_few) := ⟨rfl, rfl, rfl, by decide +kernel, rfl, by decide +kernel, by decide +kernel⟩
set_option maxHeartbeats 8000000 in
theorem ok__law_few {f : Addr} {fd : FuncData} (F : Fun K "_law_few" "_law_few" s__law_few f fd) (T : Top mg) (TS : TopS mg) : FnOk P w K mg base CX0 1 f fd ["_law_kind", "_law_one", "_law_other"] spFew := by
 refine F.ok sc__law_few (fun vs H Q E h => ?_) (fun cdv A outer s H vs Q E hr h => ?_)
 ·obtain ⟨kd, n, a, b, p, q, rfl, _⟩ := h
  rfl
 ·obtain ⟨kd, n, a, b, p, q, rfl, hk, ha, hb, hp, hq, k⟩ := h
  have lp : p.length <= 2 := by
   obtain ⟨i, _, _, (⟨_, rfl⟩ | ⟨_, j, _, _, rfl⟩)⟩ := parts_form hp
   ·show 1 <= 2; decide
   ·show 2 <= 2; decide
  have lq : q.length <= 2 := by
   obtain ⟨i, _, _, (⟨_, rfl⟩ | ⟨_, j, _, _, rfl⟩)⟩ := parts_form hq
   ·show 1 <= 2; decide
   ·show 2 <= 2; decide
  refine ⟨_, (pss_cons (ps_set (i := 3) sc__law_few.nd rfl (Or.inr rfl) (pe_callB (call_sortedSI rfl) (by rfl) T.n_sorted boot_sorted (pa_cons (pe_callTy (call_setIL rfl) (by rfl) TS.n_set boot_set (pa_cons (pe_op op_cat (pe_callTy call_list_of (by rfl) T.n_list boot_list (pa_cons (pv 1) pa_nil)) (pe_callTy call_list_of (by rfl) T.n_list boot_list (pa_cons (pv 2) pa_nil))) pa_nil)) pa_nil)))
   (pss_cons (ps_if (pt_cmpR op_eq (pv 0) pe_str (nomark _))
    (pss_one (ps_set (i := 3) sc__law_few.nd rfl (Or.inr rfl) (pe_callB (call_sortedSI rfl) (by rfl) T.n_sorted boot_sorted (pa_cons (pe_callTy (call_setIL rfl) (by rfl) TS.n_set boot_set (pa_cons (pe_lst (pa_cons (pe_ix ix_tup (pv 1) pe_int (fun _ _ => rfl)) (pa_cons (pe_op op_add (pe_ix ix_tup (pv 1) pe_int (fun _ _ => rfl)) pe_int) (pa_cons (pe_ix ix_tup (pv 2) pe_int (fun _ _ => rfl)) (pa_cons (pe_op op_add (pe_ix ix_tup (pv 2) pe_int (fun _ _ => rfl)) pe_int) pa_nil))))) pa_nil)) pa_nil))))
    pss_nil)
   (pss_one (ps_ret (pe_tup (pa_cons (pe_callB call_len_seq (by rfl) T.n_len PySem.boot_len (pa_cons (pv 3) pa_nil)) (pa_cons (pe_callTy call_tuple_of (by rfl) T.n_tuple boot_tuple (pa_cons (pe_lc (N' := ["_law_k", "_law_touched"]) (n := 1) (ix := [3]) rfl (CompScope.of (sc := defScope s__law_few) (N := ["_law_kind", "_law_one", "_law_other", "_law_touched"]) (by decide +kernel) rfl rfl) (pi_tup (pv 1)) (fun _ _ _ _ _ => ⟨(pg_name (i := 0) (show (["_law_k", "_law_touched"] : List Str).Nodup by decide +kernel) rfl (Or.inl rfl)), pts_nil, (pe_bmQ K rfl PySem.F.plainAttrs_list PySem.F.slot_list_index PySem.F.type_list_index mt_lindexQ (pv 1) (pa_cons (pv 0) pa_nil))⟩)) pa_nil)) (pa_cons (pe_callTy call_tuple_of (by rfl) T.n_tuple boot_tuple (pa_cons (pe_lc (N' := ["_law_k", "_law_touched"]) (n := 1) (ix := [3]) rfl (CompScope.of (sc := defScope s__law_few) (N := ["_law_kind", "_law_one", "_law_other", "_law_touched"]) (by decide +kernel) rfl rfl) (pi_tup (pv 2)) (fun _ _ _ _ _ => ⟨(pg_name (i := 0) (show (["_law_k", "_law_touched"] : List Str).Nodup by decide +kernel) rfl (Or.inl rfl)), pts_nil, (pe_bmQ K rfl PySem.F.plainAttrs_list PySem.F.slot_list_index PySem.F.type_list_index mt_lindexQ (pv 1) (pa_cons (pv 0) pa_nil))⟩)) pa_nil)) pa_nil)))))))), ?_⟩
  refine ⟨_, rfl, a, _, rfl, .inr (SqT.of ha), fun l1 hl1 => ?_⟩
  have s1 := same_upd (o := .lst (p.map V.int)) hl1
  refine ⟨_, rfl, b, _, rfl, .inr (SqT.of (s1 _ _ hb)), fun l2 hl2 => ?_⟩
  have s2 := same_upd (o := .lst (q.map V.int)) hl2
  refine ⟨l1, l2, _, _, rfl, rfl, s2 _ _ upd_same, upd_same, by rw [mapI_len, mapI_len, sizeLine_eq]; (first | lia | omega), fun l3 hl3 => ?_⟩
  have s3 := same_upd (o := .lst (p.map V.int ++ q.map V.int)) hl3
  refine ⟨l3, p ++ q, rfl, by rw [upd_same, List.map_append], by rw [List.length_append]; (first | lia | omega), fun S hS => ?_⟩
  have s4 := same_upd (o := SetIO w S (p ++ q)) hS
  refine ⟨S, p ++ q, rfl, upd_same, by rw [List.length_append]; (first | lia | omega), fun l4 ms hms hmem hl4 => ?_⟩
  have s5 := same_upd (o := .lst (ms.map V.int)) hl4
  have S5 := s1.trans (s2.trans (s3.trans (s4.trans s5)))
  have hms5 : (upd (upd (upd (upd (upd H l1 (.lst (p.map V.int))) l2 (.lst (q.map V.int))) l3 (.lst (p.map V.int ++ q.map V.int))) S (SetIO w S (p ++ q))) l4 (.lst (ms.map V.int))) l4 = some (.lst (ms.map V.int)) := upd_same
  refine ⟨_, rfl, rfl, _, rfl, ?_⟩
  rcases hk with rfl | rfl
  ·obtain ⟨i, i1, _, (⟨_, rfl⟩ | ⟨h, _⟩)⟩ := parts_form hp
   rotate_left
   ·exact absurd h (by decide)
   obtain ⟨j, j1, _, (⟨_, rfl⟩ | ⟨h, _⟩)⟩ := parts_form hq
   rotate_left
   ·exact absurd h (by decide)
   clear hms hmem hms5 s5
   rename List Int => ms0
   rw [show decide (V.str "rises" = V.str "rises") = true from decide_eq_true rfl]
   refine iteT ?_
   have ha5 := S5 _ _ ha
   have hb5 := S5 _ _ hb
   refine ⟨_, rfl, a, _, _, _, rfl, rfl, SqT.of ha5, atI_nat (j := 0) rfl, _, rfl, a, _, _, _, rfl, rfl, SqT.of ha5, atI_nat (j := 0) rfl, _, _, rfl, rfl, _, rfl, b, _, _, _, rfl, rfl, SqT.of hb5, atI_nat (j := 0) rfl, _, rfl, b, _, _, _, rfl, rfl, SqT.of hb5, atI_nat (j := 0) rfl, _, _, rfl, rfl, by show 4 <= sizeLine; decide, fun l6 hl6 => ?_⟩
   have s6 := same_upd (o := .lst [.int (i : Int), .int ((i : Int) + 1), .int (j : Int), .int ((j : Int) + 1)]) hl6
   refine ⟨l6, [(i : Int), (i : Int) + 1, (j : Int), (j : Int) + 1], rfl, upd_same, by show 4 <= 1200; decide, fun S2 hS2 => ?_⟩
   have s7 := same_upd (o := SetIO w S2 [(i : Int), (i : Int) + 1, (j : Int), (j : Int) + 1]) hS2
   refine ⟨S2, _, rfl, upd_same, by show 4 <= 1200; decide, fun l7 ms hms hmem hl7 => ?_⟩
   have s8 := same_upd (o := .lst (ms.map V.int)) hl7
   have S8 := S5.trans (s6.trans (s7.trans s8))
   have hms8 := upd_same (a := l7) (o := .lst (ms.map V.int)) (H := upd (upd (upd (upd (upd (upd (upd H l1 (.lst ([(i : Int)].map V.int))) l2 (.lst ([(j : Int)].map V.int))) l3 (.lst ([(i : Int)].map V.int ++ [(j : Int)].map V.int))) S (SetIO w S ([(i : Int)] ++ [(j : Int)]))) l4 (.lst (ms0.map V.int))) l6 (.lst [.int (i : Int), .int ((i : Int) + 1), .int (j : Int), .int ((j : Int) + 1)])) S2 (SetIO w S2 [(i : Int), (i : Int) + 1, (j : Int), (j : Int) + 1]))
   obtain ⟨f1, f2, f3, f4⟩ := few_rises hms hmem n ms.length
   generalize hp' : [(i : Int)] = p at *
   generalize hq' : [(j : Int)] = q at *
   have m1 : ∀ x ∈ p, x ∈ ms := fun x hx => (hmem x).mpr (by rw [<- hp'] at hx; rw [List.mem_singleton.mp hx]; simp)
   have m2 : ∀ x ∈ q, x ∈ ms := fun x hx => (hmem x).mpr (by rw [<- hq'] at hx; rw [List.mem_singleton.mp hx]; simp)
   refine ⟨_, rfl, l7, _, rfl, .inl (SqL.of hms8), ?_⟩
   rw [mapI_len]
   refine ⟨_, rfl, a, rfl, ⟨_, SqT.of (S8 _ _ ha)⟩, ?_⟩
   refine lc_few (L := l7) rfl (S8 _ _ ha) hms8 m1 (by (first | lia | omega)) (by (first | lia | omega)) fun c1 hc1 => ⟨c1, _, rfl, .inl ⟨SqL.of upd_same, fun t1 ht1 => ?_⟩⟩
   have u1 := same_upd (o := .lst ((fewZ ms p).map V.int)) hc1
   have u2 := same_upd (o := .tup ((fewZ ms p).map V.int)) ht1
   have U2 := u1.trans u2
   refine ⟨_, rfl, b, rfl, ⟨_, SqT.of (U2 _ _ (S8 _ _ hb))⟩, ?_⟩
   refine lc_few (L := l7) rfl (U2 _ _ (S8 _ _ hb)) (U2 _ _ hms8) m2 (by (first | lia | omega)) (by (first | lia | omega)) fun c2 hc2 => ⟨c2, _, rfl, .inl ⟨SqL.of upd_same, fun t2 ht2 => ?_⟩⟩
   have u3 := same_upd (o := .lst ((fewZ ms q).map V.int)) hc2
   have u4 := same_upd (o := .tup ((fewZ ms q).map V.int)) ht2
   refine ⟨by show 3 <= sizeLine; decide, fun z hz => ?_⟩
   have u5 := same_upd (o := .tup [.int (ms.length : Int), .ref t1, .ref t2]) hz
   exact k z t1 t2 ms.length (fewZ ms p) (fewZ ms q) _ (S8.trans (U2.trans (u3.trans (u4.trans u5)))) upd_same (u5 _ _ (u4 _ _ (u3 _ _ upd_same))) (u5 _ _ upd_same) f3 f1 f2 f4
  ·obtain ⟨i, i1, _, (⟨h, _⟩ | ⟨_, i', i2, i3, ep⟩)⟩ := parts_form hp
   ·exact absurd rfl h
   obtain ⟨j, j1, _, (⟨h, _⟩ | ⟨_, j', j2, j3, eq⟩)⟩ := parts_form hq
   ·exact absurd rfl h
   rw [show decide (V.str "crossed" = V.str "rises") = false from decide_eq_false (fun h => absurd (V.str.inj h) (by decide))]
   refine iteF ?_
   have fc := few_crossed hms i2 j2 (fun x => by rw [hmem x, ep, eq]; rfl) n ms.length
   rw [<- ep, <- eq] at fc
   obtain ⟨f1, f2, f3, f4⟩ := fc
   refine ⟨_, rfl, l4, _, rfl, .inl (SqL.of hms5), ?_⟩
   rw [mapI_len]
   refine ⟨_, rfl, a, rfl, ⟨_, SqT.of (S5 _ _ ha)⟩, ?_⟩
   refine lc_few (L := l4) rfl (S5 _ _ ha) hms5 (fun x hx => (hmem x).mpr (List.mem_append_left _ hx)) (by (first | lia | omega)) (by (first | lia | omega)) fun c1 hc1 => ⟨c1, _, rfl, .inl ⟨SqL.of upd_same, fun t1 ht1 => ?_⟩⟩
   have u1 := same_upd (o := .lst ((fewZ ms p).map V.int)) hc1
   have u2 := same_upd (o := .tup ((fewZ ms p).map V.int)) ht1
   have U2 := u1.trans u2
   refine ⟨_, rfl, b, rfl, ⟨_, SqT.of (U2 _ _ (S5 _ _ hb))⟩, ?_⟩
   refine lc_few (L := l4) rfl (U2 _ _ (S5 _ _ hb)) (U2 _ _ hms5) (fun x hx => (hmem x).mpr (List.mem_append_right _ hx)) (by (first | lia | omega)) (by (first | lia | omega)) fun c2 hc2 => ⟨c2, _, rfl, .inl ⟨SqL.of upd_same, fun t2 ht2 => ?_⟩⟩
   have u3 := same_upd (o := .lst ((fewZ ms q).map V.int)) hc2
   have u4 := same_upd (o := .tup ((fewZ ms q).map V.int)) ht2
   refine ⟨by show 3 <= sizeLine; decide, fun z hz => ?_⟩
   have u5 := same_upd (o := .tup [.int (ms.length : Int), .ref t1, .ref t2]) hz
   exact k z t1 t2 ms.length (fewZ ms p) (fewZ ms q) _ (S5.trans (U2.trans (u3.trans (u4.trans u5)))) upd_same (u5 _ _ (u4 _ _ (u3 _ _ upd_same))) (u5 _ _ upd_same) f3 f1 f2 f4
end
end K26
namespace K26
open PySem PySem.Spec PyProof.Rows L2
noncomputable abbrev s__law_far_due : Stmt := top 31
section
variable {P : Program} {w : World} {K : PySem.W.Frag} {mg : Str -> Option Value} {base : Heap}
theorem sc__law_far_due : FnScope ["_law_kind", "_law_many", "_law_one", "_law_other", "_law_few_here", "_law_first", "_law_second", "_law_orders", "_law_had", "_law_under"] ["_law_kind", "_law_many", "_law_one", "_law_other"] (defScope s__law_far_due) := ⟨rfl, rfl, rfl, by decide +kernel, rfl, by decide +kernel, by decide +kernel⟩
set_option maxHeartbeats 8000000 in
noncomputable def farT {f : Addr} {cdv : Value} {A : Around} {outer : List Env} {s : Shared} {H : Hp} {E : XK} (hr : Room 2 (A.deeper (envOfC "_law_far_due" (defScope s__law_far_due) s.heap.objs.size f cdv))) (T : Top mg) (TS : TopS mg) (C_law_few : Cal P w K mg base 1 "_law_few" ["_law_kind", "_law_one", "_law_other"] spFew) (C_law_all : Cal P w K mg base 1 "_law_all" ["_law_many"] spAllI7) (C_law_has : Cal P w K mg base 2 "_law_has" ["_law_kind", "_law_part", "_law_order"] spHas) (C_law_pair_share : Cal P w K mg base 2 "_law_pair_share" ["_law_orders", "_law_had", "_law_one", "_law_other"] spPairS) (hu1 : (A.deeper (envOfC "_law_far_due" (defScope s__law_far_due) s.heap.objs.size f cdv)).units + 1 < cLine) (hu8 : (A.deeper (envOfC "_law_far_due" (defScope s__law_far_due) s.heap.objs.size f cdv)).units + 8 < cLine) (hu : (A.deeper (envOfC "_law_far_due" (defScope s__law_far_due) s.heap.objs.size f cdv)).units + 64 < cLine) :
  {t : L2.TS // PSs (cxOf CX0 P w K mg base ["_law_kind", "_law_many", "_law_one", "_law_other", "_law_few_here", "_law_first", "_law_second", "_law_orders", "_law_had", "_law_under"] "_law_far_due" (defScope s__law_far_due) f cdv A outer s H E).nox (defBody s__law_far_due) t} :=
 ⟨_, (pss_cons (ps_if (pt_cmpR op_in_seq (pv 0) (pe_tup (pa_cons pe_str (pa_cons pe_str pa_nil))) (by rfl))
    (pss_cons (ps_asg (pe_cal C_law_few (hr.mono (by decide)) rfl (pa_cons (pv 0) (pa_cons (pv 2) (pa_cons (pv 3) pa_nil)))) (pg_tup rfl (pgs_cons (pg_name (i := 4) sc__law_far_due.nd rfl (Or.inl rfl) (Or.inl rfl)) (pgs_cons (pg_name (i := 5) sc__law_far_due.nd rfl (Or.inl rfl) (Or.inl rfl)) (pgs_cons (pg_name (i := 6) sc__law_far_due.nd rfl (Or.inl rfl) (Or.inl rfl)) pgs_nil)))))
    (pss_cons (ps_set (i := 7) sc__law_far_due.nd rfl (Or.inr rfl) (pe_cal C_law_all (hr.mono (by decide)) rfl (pa_cons (pv 4) pa_nil)))
    (pss_cons (ps_set (i := 8) sc__law_far_due.nd rfl (Or.inl rfl) (pe_callTy (call_dictP rfl hu8) (by rfl) TS.n_dict boot_dict (pa_cons (pe_lcZ (z := "_law_part") (N' := ["_law_part", "_law_orders", "_law_kind"]) (n := 1) (ix := [7, 0]) rfl (CompScopeZ.of (sc := defScope s__law_far_due) (N := ["_law_kind", "_law_many", "_law_one", "_law_other", "_law_few_here", "_law_first", "_law_second", "_law_orders", "_law_had", "_law_under"]) (by decide +kernel) rfl rfl (fun _ _ => rfl) (fun _ => rfl)) (pi_tup (pe_tup (pa_cons (pv 5) (pa_cons (pv 6) pa_nil)))) (fun _ _ _ _ _ _ => ⟨(pg_name (i := 0) (show (["_law_part", "_law_orders", "_law_kind"] : List Str).Nodup by decide +kernel) rfl (Or.inr rfl) (Or.inl rfl)), pts_nil, (pe_tup (pa_cons (pv 0) (pa_cons (pe_lc (N' := ["_law_order", "_law_kind", "_law_part"]) (n := 1) (ix := [2, 0]) rfl (CompScope.of (N := ["_law_part", "_law_orders", "_law_kind"]) rfl rfl rfl) (piK_list K rfl (pv 1)) (fun _ _ _ _ _ => ⟨(pg_name (i := 0) (show (["_law_order", "_law_kind", "_law_part"] : List Str).Nodup by decide +kernel) rfl (Or.inl rfl)), pts_nil, (pe_cal C_law_has (hr.mono (by decide)) rfl (pa_cons (pv 1) (pa_cons (pv 2) (pa_cons (pv 0) pa_nil))))⟩)) pa_nil)))⟩)) pa_nil)))
    (pss_one (ps_ret (pe_cal C_law_pair_share (hr.mono (by decide)) rfl (pa_cons (pv 7) (pa_cons (pv 8) (pa_cons (pv 5) (pa_cons (pv 6) pa_nil))))))))))
    pss_nil)
   (pss_cons (ps_set (i := 9) sc__law_far_due.nd rfl (Or.inl rfl) (pe_dget hu1 (pe_dict3 (by decide) (by decide) (by decide) pe_str pe_str pe_str (pe_lst (pa_cons (pe_op op_sub (pv 1) (pe_ix ix_tup (pv 2) pe_int (fun _ _ => rfl))) (pa_cons (pe_op op_sub (pv 1) (pe_ix ix_tup (pv 3) pe_int (fun _ _ => rfl))) pa_nil))) (pe_lst (pa_cons (pe_op op_add (pe_ix ix_tup (pv 2) pe_int (fun _ _ => rfl)) pe_int) (pa_cons (pe_op op_add (pe_ix ix_tup (pv 3) pe_int (fun _ _ => rfl)) pe_int) pa_nil))) (pe_lst (pa_cons (pv 1) (pa_cons (pe_op op_sub (pv 1) pe_int) pa_nil)))) (pv 0) (fun _ _ => rfl)))
   (pss_cons (ps_if (pt_cmpR (op_eqD hu) (pv 2) (pv 3) (nomark _))
    (pss_one (ps_ret (pe_tup (pa_cons pe_int (pa_cons (pe_ix ix_list (pv 9) pe_int (fun _ _ => rfl)) pa_nil)))))
    pss_nil)
   (pss_one (ps_ret (pe_tup (pa_cons pe_int (pa_cons (pe_op op_mul (pe_ix ix_list (pv 9) pe_int (fun _ _ => rfl)) (pe_ix ix_list (pv 9) pe_int (fun _ _ => rfl))) pa_nil))))))))⟩
end
end K26
namespace K26
open PySem PySem.Spec PyProof.Rows L2
section
variable {P : Program} {w : World} {K : PySem.W.Frag} {mg : Str -> Option Value} {base : Heap}
set_option maxHeartbeats 8000000 in
theorem ok__law_far_due {f : Addr} {fd : FuncData} (F : Fun K "_law_far_due" "_law_far_due" s__law_far_due f fd) (T : Top mg) (TS : TopS mg) (C_law_few : Cal P w K mg base 1 "_law_few" ["_law_kind", "_law_one", "_law_other"] spFew) (C_law_all : Cal P w K mg base 1 "_law_all" ["_law_many"] spAllI7) (C_law_has : Cal P w K mg base 2 "_law_has" ["_law_kind", "_law_part", "_law_order"] spHas) (C_law_pair_share : Cal P w K mg base 2 "_law_pair_share" ["_law_orders", "_law_had", "_law_one", "_law_other"] spPairS) : FnOk P w K mg base CX0 3 f fd ["_law_kind", "_law_many", "_law_one", "_law_other"] spBothA := by
 refine F.ok sc__law_far_due (fun vs H Q E h => ?_) (fun cdv A outer s H vs Q E hr h => ?_)
 ·obtain ⟨kd, n, a, b, p, q, rfl, _⟩ := h
  rfl
 ·obtain ⟨kd, n, a, b, p, q, rfl, hk, hn, ha, hb, hp, hq, k⟩ := h
  have hu1 := hu_of hr
  have hu : _ := hr.units
  have hu8 := Nat.lt_of_le_of_lt (Nat.add_le_add_left (by decide : 8 <= 64) _) hr.units
  have hT := (farT (P := P) (w := w) (base := base) (E := E) (outer := outer) (s := s) (H := H) (f := f) (cdv := cdv) (A := A) hr T TS C_law_few C_law_all C_law_has C_law_pair_share hu1 hu8 hu).2
  refine ⟨(farT (P := P) (w := w) (base := base) (E := E) (outer := outer) (s := s) (H := H) (f := f) (cdv := cdv) (A := A) hr T TS C_law_few C_law_all C_law_has C_law_pair_share hu1 hu8 hu).1, by assumption, ?_⟩
  clear hT
  refine ⟨_, rfl, by show 2 <= sizeLine; decide, fun e1 he1 => ?_⟩
  have s1 := same_upd (o := .tup [.str "rises", .str "crossed"]) he1
  refine ⟨e1, _, rfl, .inr (SqT.of upd_same), rfl, rfl, _, rfl, ?_⟩
  by_cases hkk : kd = "rises" ∨ kd = "crossed"
  ·have ein : (if false = true then !inV (V.str kd) [.str "rises", .str "crossed"] else inV (V.str kd) [.str "rises", .str "crossed"]) = true := by
    rcases hkk with rfl | rfl <;> rfl
   rw [ein]
   refine iteT ?_
   generalize upd H e1 (.tup [.str "rises", .str "crossed"]) = G0 at s1 ⊢
   refine ⟨_, rfl, _, rfl, _, rfl, kd, n, a, b, p, q, rfl, hkk, s1 _ _ ha, s1 _ _ hb, hp, hq, fun z a' b' m p' q' G1 s2 hz ha' hb' hm hp' hq' eB => ?_⟩
   refine ⟨z, _, rfl, SqT.of hz, rfl, _, _, rfl, _, _, rfl, _, _, rfl, rfl, ?_⟩
   have hac := all_cnt7 m (by (first | lia | omega))
   refine ⟨_, rfl, m, rfl, by (first | lia | omega), fun O zs G2 s3 hO RO => ?_⟩
   have hzl : zs.length = (allI m).length := Paired.length RO
   have ha2 := s3 _ _ ha'
   have hb2 := s3 _ _ hb'
   refine ⟨_, rfl, _, rfl, by show 2 <= sizeLine; decide, fun tt htt => ⟨tt, rfl, ⟨_, SqT.of upd_same⟩, ?_⟩⟩
   have s4 := same_upd (o := .tup [.ref a', .ref b']) htt
   have ht4 : (upd G2 tt (.tup [.ref a', .ref b'])) tt = some (.tup ([a', b'].map V.ref)) := upd_same
   have hO4 := s4 _ _ hO
   have RO4 := RO.same s4
   have RP : RowsAt (upd G2 tt (.tup [.ref a', .ref b'])) [a', b'] [p', q'] := .cons (s4 _ _ ha2) (.cons (s4 _ _ hb2) .nil)
   have S4 := s1.trans (s2.trans (s3.trans s4))
   clear s4
   generalize upd G2 tt (.tup [.ref a', .ref b']) = G4 at ht4 hO4 RO4 RP S4 ⊢
   have hin : ∀ r ∈ [p', q'], r ∈ partsZ kd m := fun r hr => by
    simp only [List.mem_cons, List.not_mem_nil, or_false] at hr
    rcases hr with rfl | rfl
    ·exact hp'
    ·exact hq'
   refine lc_prs (yields_tup (xs := [a', b'].map V.ref)) (small1 (by show 2 <= 1000; decide)) (hasB G4 kd (allI m)) (fun G s' => SqT.of (s' _ _ ht4)) (fun x G hx s' QT q0 => ?_) fun acc ts G hacc sG hG hts => ?_
   ·obtain ⟨w0, hw0, rfl⟩ := List.mem_map.mp hx
    obtain ⟨r, hr0, hr2⟩ := RP.mem hw0
    have hr1 := hin r hr0
    have po := part_ok7 (by (first | lia | omega)) hk hr1
    have RO3 := RO4.same s'
    refine ⟨_, rfl, _, rfl, O, rfl, ⟨_, SqL.of (s' _ _ hO4)⟩, ?_⟩
    refine lc_grow (yields_list (xs := zs.map V.ref)) (small1 (by rw [List.length_map]; (first | lia | omega))) (fun x v _ => ∀ (z : Addr) (o : List Int), x = V.ref z -> G z = some (.tup (o.map V.int)) -> v = V.bl (hasZ kd r o)) (fun _ _ _ _ _ h => h) (fun G' s4 => SqL.of (s4 _ _ (s' _ _ hO4))) (fun y hy G' s4 Q2 q2 => ?_) fun acc2 ys2 G3 hacc2 g3 hys2 pr2 => ?_
    ·obtain ⟨zo, hzo, rfl⟩ := List.mem_map.mp hy
     obtain ⟨o, ho1, ho2⟩ := RO3.mem hzo
     have hol := all_len7 m (by (first | lia | omega)) o ho1
     refine ⟨_, rfl, _, rfl, _, rfl, kd, w0, zo, r, o, rfl, hk, s4 _ _ (s' _ _ hr2), s4 _ _ ho2, by rw [hol]; exact po, fun _ => ?_, fun H5 s5 => q2 _ H5 s5 ?_⟩
     ·obtain ⟨⟨q, eq, _, hq, _⟩, _⟩ := po
      rw [eq]
      exact all_rnd7 m (by (first | lia | omega)) o ho1 q hq
     ·intro z o' ez hz
      cases ez
      rw [ho2] at hz
      have := map_int_inj (HO.tup.inj (Option.some.inj hz))
      rw [this]
    ·have e := rows_tabB RO3 pr2
     subst e
     refine ⟨by show 2 <= sizeLine; decide, fun t ht => ?_⟩
     have u := same_upd (o := .tup [.ref w0, .ref acc2]) ht
     exact q0 t acc2 _ (g3.free ht) hacc2 upd_same (by rw [hasB_at hr2]; exact u _ _ hys2) (g3.trans u)
   ·obtain ⟨kvs, pk, ek, gk⟩ := prs_kvs RP sG hts
    have kl : kvs.length = ts.length := (Paired.length pk).symm
    have tl : ts.length = 2 := by have := Paired.length hts; rw [List.length_map] at this; exact this
    refine ⟨acc, ts, kvs, rfl, hG, pk, small1 (by (first | lia | omega)), fun D hD => ?_⟩
    have HA : HadAt (upd G D (.dT (putAll [] kvs))) D kd (allI m) [p', q'] := had_mk hD ek gk
    have sD := sG.trans (same_upd (o := .dT (putAll [] kvs)) hD)
    generalize upd G D (.dT (putAll [] kvs)) = G5 at HA sD ⊢
    have ra : G5 a' = some (.tup (p'.map V.int)) := by cases RP with | cons h _ => exact sD _ _ h
    have rb : G5 b' = some (.tup (q'.map V.int)) := by cases RP with | cons _ h => cases h with | cons h _ => exact sD _ _ h
    refine ⟨_, rfl, _, rfl, _, rfl, _, rfl, O, D, a', b', zs, kd, allI m, [p', q'], p', q', rfl, sD _ _ hO4, hzl, hac.2, by (first | lia | omega), HA, by simp, by simp, ra, rb, fun z2 G6 s6 hz2 => k z2 G6 (S4.trans (sD.trans s6)) ?_⟩
    rw [both_fin m hm kd hk p' hp' q' hq', eB] at hz2
    exact hz2
  ·have ein : (if false = true then !inV (V.str kd) [.str "rises", .str "crossed"] else inV (V.str kd) [.str "rises", .str "crossed"]) = false := by
    rcases kinds5_cases hk with rfl | rfl | rfl | rfl | rfl
    ·rfl
    ·rfl
    ·exact absurd (.inl rfl) hkk
    ·rfl
    ·exact absurd (.inr rfl) hkk
   rw [ein]
   refine iteF ?_
   have hnc : kd ≠ "crossed" := fun h => hkk (.inr h)
   obtain ⟨i, i1, _, (⟨_, ep⟩ | ⟨h, _⟩)⟩ := parts_form hp
   rotate_left
   ·exact absurd h hnc
   obtain ⟨j, j1, _, (⟨_, eq⟩ | ⟨h, _⟩)⟩ := parts_form hq
   rotate_left
   ·exact absurd h hnc
   rw [ep] at ha
   rw [eq] at hb
   intro d0 hd0
   have s2 := s1.trans (same_upd (o := .dK []) hd0)
   refine ⟨_, rfl, _, rfl, a, _, _, _, rfl, rfl, SqT.of (s2 _ _ ha), atI_nat (j := 0) rfl, _, _, rfl, rfl, _, rfl, _, rfl, b, _, _, _, rfl, rfl, SqT.of (s2 _ _ hb), atI_nat (j := 0) rfl, _, _, rfl, rfl, by show 2 <= sizeLine; decide, fun l1 hl1 => ?_⟩
   have v1 := same_upd (o := .lst [.int ((n : Int) - (i : Int)), .int ((n : Int) - (j : Int))]) hl1
   have s3 := s2.trans v1
   refine ⟨_, rfl, a, _, _, _, rfl, rfl, SqT.of (s3 _ _ ha), atI_nat (j := 0) rfl, _, _, rfl, rfl, _, rfl, b, _, _, _, rfl, rfl, SqT.of (s3 _ _ hb), atI_nat (j := 0) rfl, _, _, rfl, rfl, by show 2 <= sizeLine; decide, fun l2 hl2 => ?_⟩
   have v2 := same_upd (o := .lst [.int ((i : Int) + 1), .int ((j : Int) + 1)]) hl2
   have s4 := s3.trans v2
   refine ⟨_, rfl, _, rfl, _, _, rfl, rfl, by show 2 <= sizeLine; decide, fun l3 hl3 => ?_⟩
   have v3 := same_upd (o := .lst [.int (n : Int), .int ((n : Int) - 1)]) hl3
   have S5 := s4.trans v3
   have hd3 : (upd (upd (upd (upd (upd H e1 (.tup [.str "rises", .str "crossed"])) d0 (.dK [])) l1 (.lst [.int ((n : Int) - (i : Int)), .int ((n : Int) - (j : Int))])) l2 (.lst [.int ((i : Int) + 1), .int ((j : Int) + 1)])) l3 (.lst [.int (n : Int), .int ((n : Int) - 1)])) d0 = some (.dK []) := v3 _ _ (v2 _ _ (v1 _ _ upd_same))
   have g1 : (upd (upd (upd (upd (upd H e1 (.tup [.str "rises", .str "crossed"])) d0 (.dK [])) l1 (.lst [.int ((n : Int) - (i : Int)), .int ((n : Int) - (j : Int))])) l2 (.lst [.int ((i : Int) + 1), .int ((j : Int) + 1)])) l3 (.lst [.int (n : Int), .int ((n : Int) - 1)])) l1 = some (.lst [.int ((n : Int) - (i : Int)), .int ((n : Int) - (j : Int))]) := v3 _ _ (v2 _ _ upd_same)
   have g2 : (upd (upd (upd (upd (upd H e1 (.tup [.str "rises", .str "crossed"])) d0 (.dK [])) l1 (.lst [.int ((n : Int) - (i : Int)), .int ((n : Int) - (j : Int))])) l2 (.lst [.int ((i : Int) + 1), .int ((j : Int) + 1)])) l3 (.lst [.int (n : Int), .int ((n : Int) - 1)])) l2 = some (.lst [.int ((i : Int) + 1), .int ((j : Int) + 1)]) := v3 _ _ upd_same
   have g3 : (upd (upd (upd (upd (upd H e1 (.tup [.str "rises", .str "crossed"])) d0 (.dK [])) l1 (.lst [.int ((n : Int) - (i : Int)), .int ((n : Int) - (j : Int))])) l2 (.lst [.int ((i : Int) + 1), .int ((j : Int) + 1)])) l3 (.lst [.int (n : Int), .int ((n : Int) - 1)])) l3 = some (.lst [.int (n : Int), .int ((n : Int) - 1)]) := upd_same
   generalize upd (upd (upd (upd (upd H e1 (.tup [.str "rises", .str "crossed"])) d0 (.dK [])) l1 (.lst [.int ((n : Int) - (i : Int)), .int ((n : Int) - (j : Int))])) l2 (.lst [.int ((i : Int) + 1), .int ((j : Int) + 1)])) l3 (.lst [.int (n : Int), .int ((n : Int) - 1)]) = G5 at S5 hd3 g1 g2 g3 ⊢
   refine ⟨hd3, ?_⟩
   have hH0 : H d0 = none := s1.free hd0
   have sX : ∀ b o, H b = some o -> (upd G5 d0 (.dK [(.inr "rounds", .ref l1), (.inr "highs", .ref l2), (.inr "stays", .ref l3)])) b = some o := fun b o e => by
    rw [upd_ne (ne_of_none e hH0)]
    exact S5 b o e
   have nl : ∀ {l : Addr} {xs : List V}, G5 l = some (.lst xs) -> (upd G5 d0 (.dK [(.inr "rounds", .ref l1), (.inr "highs", .ref l2), (.inr "stays", .ref l3)])) l = some (.lst xs) := fun {l xs} e => by
    rw [upd_ne (ne_of e hd3 (fun z => nomatch z))]
    exact e
   have hD6 := @upd_same G5 d0 (.dK [(.inr "rounds", .ref l1), (.inr "highs", .ref l2), (.inr "stays", .ref l3)])
   obtain ⟨L, x, y, hget, hL, x0, x1, y0, y1, eS, eN⟩ : ∃ (L : Addr) (x y : Int), DGet (upd G5 d0 (.dK [(.inr "rounds", .ref l1), (.inr "highs", .ref l2), (.inr "stays", .ref l3)])) d0 (.str kd) (some (.ref L)) /\ G5 L = some (.lst [.int x, .int y]) /\ 0 < x /\ x <= 1000 /\ -1000 <= y /\ y <= 1000 /\ (p = q -> bothA kd n p q = (1, x)) /\ (p ≠ q -> bothA kd n p q = (1, x * y)) := by
    have bS : p = q -> bothA kd n p q = oneA kd n p := fun h => if_pos h
    have tm : ∀ {u v : Int}, 0 < u -> 0 < v -> tmZ (1, u) (1, v) = (1, u * v) := fun hu hv => low_1 (Int.mul_pos hu hv)
    rcases kinds5_cases hk with rfl | rfl | rfl | rfl | rfl
    ·refine ⟨l1, _, _, DGet.k (k := .inr "rounds") hD6, g1, by (first | lia | omega), by (first | lia | omega), by (first | lia | omega), by (first | lia | omega), fun h => by rw [bS h, ep]; rfl, fun h => ?_⟩
     have : bothA "rounds" n p q = tmZ (1, (n : Int) - p.getD 0 0) (1, (n : Int) - q.getD 0 0) := by unfold bothA; rw [if_neg h, if_pos rfl]
     rw [this, ep, eq]
     show tmZ (1, (n : Int) - (i : Int)) (1, (n : Int) - (j : Int)) = _
     exact tm (by (first | lia | omega)) (by (first | lia | omega))
    ·refine ⟨l3, _, _, DGet.k (k := .inr "stays") hD6, g3, by (first | lia | omega), by (first | lia | omega), by (first | lia | omega), by (first | lia | omega), fun h => by rw [bS h, ep]; rfl, fun h => ?_⟩
     have : bothA "stays" n p q = lowZ 1 ((n : Int) * ((n : Int) - 1)) := by unfold bothA; rw [if_neg h]; rfl
     have hij : i ≠ j := fun e => h (by rw [ep, eq, e])
     rw [this]
     exact low_1 (Int.mul_pos (by (first | lia | omega)) (by (first | lia | omega)))
    ·exact absurd (.inl rfl) hkk
    ·refine ⟨l2, _, _, DGet.k (k := .inr "highs") hD6, g2, by (first | lia | omega), by (first | lia | omega), by (first | lia | omega), by (first | lia | omega), fun h => by rw [bS h, ep]; rfl, fun h => ?_⟩
     have : bothA "highs" n p q = tmZ (1, p.getD 0 0 + 1) (1, q.getD 0 0 + 1) := by unfold bothA; rw [if_neg h]; rfl
     rw [this, ep, eq]
     show tmZ (1, (i : Int) + 1) (1, (j : Int) + 1) = _
     exact tm (by (first | lia | omega)) (by (first | lia | omega))
    ·exact absurd (.inr rfl) hkk
   refine ⟨_, rfl, d0, _, rfl, hget, ?_⟩
   have hL6 := nl hL
   have ha6 := sX _ _ ha
   have hb6 := sX _ _ hb
   clear hget hD6 nl g1 g2 g3
   generalize upd G5 d0 (.dK [(.inr "rounds", .ref l1), (.inr "highs", .ref l2), (.inr "stays", .ref l3)]) = G6 at sX hL6 ha6 hb6 ⊢
   rw [<- ep] at ha6
   rw [<- eq] at hb6
   refine ⟨_, rfl, _, rfl, _, _, Is.ints ha6, Is.ints hb6, shaped_tints p, shaped_tints q, ?_⟩
   rw [show PyData.eqv (.tuple (p.map PyData.int)) (.tuple (q.map PyData.int)) = decide (p = q) from eqv_ints p q]
   refine ⟨_, rfl, ?_⟩
   by_cases e : p = q
   ·rw [decide_eq_true e]
    refine iteT ⟨_, rfl, L, _, _, _, rfl, rfl, SqL.of hL6, atI_nat (j := 0) rfl, by show 2 <= sizeLine; decide, fun z hz => k z _ (Same.trans (fun b o h => sX b o h) (same_upd hz)) ?_⟩
    rw [eS e]
    exact upd_same
   ·rw [decide_eq_false e]
    refine iteF ⟨_, rfl, L, _, _, _, rfl, rfl, SqL.of hL6, atI_nat (j := 0) rfl, _, rfl, L, _, _, _, rfl, rfl, SqL.of hL6, atI_nat (j := 1) rfl, _, _, rfl, rfl, cmul_small (by (first | lia | omega)) (by (first | lia | omega)), by show 2 <= sizeLine; decide, fun z hz => k z _ (Same.trans (fun b o h => sX b o h) (same_upd hz)) ?_⟩
    rw [eN e]
    exact upd_same
end
end K26
namespace K26
open PySem PySem.Spec PyProof.Rows L2
noncomputable abbrev s_law : Stmt := top 32
noncomputable def spLaw (K : PySem.W.Frag) : Sp := fun vs H Q _ => ∃ (a : Addr) (ns : List Int), vs = [.ref a] /\ SqL K H a (ns.map V.int) /\ ns.length <= 63 /\ ∀ H', Q (.bl true) H'
section
variable {P : Program} {w : World} {K : PySem.W.Frag} {mg : Str -> Option Value} {base : Heap}
theorem sc_law : FnScope ["_law_script", "_law_k", "_law_pot_here", "_law_many", "_law_far", "_law_kind", "_law_some", "_law_turn", "_law_one", "_law_near", "_law_other", "_law_due"] ["_law_script"] (defScope s_law) := ⟨rfl, rfl, rfl, by decide +kernel, rfl, by decide +kernel, by decide +kernel⟩
set_option maxHeartbeats 16000000 in
theorem ok_law {f : Addr} {fd : FuncData} (F : Fun K "law" "law" s_law f fd) (T : Top mg) (C_law_pot : Cal P w K mg base 1 "_law_pot" ["_law_script", "_law_k"] (spPot2 K)) (C_law_next : Cal P w K mg base 1 "_law_next" ["_law_pot_here", "_law_many"] spNext2) (C_law_of : Cal P w K mg base 2 "_law_of" ["_law_pot_here", "_law_some"] spOf2w) (C_law_same : Cal P w K mg base 3 "_law_same" ["_law_one", "_law_two"] (spSameW 2)) (C_law_all_pairs_right : Cal P w K mg base 6 "_law_all_pairs_right" ["_law_kind", "_law_many"] spAllPR) (C_law_parts : Cal P w K mg base 1 "_law_parts" ["_law_kind", "_law_many"] spLawParts) (C_law_far_due : Cal P w K mg base 3 "_law_far_due" ["_law_kind", "_law_many", "_law_one", "_law_other"] spBothA) (Cboth_share : Cal P w K mg base 5 "both_share" ["kind", "many", "one", "other"] spBothA) :
  FnOk P w K mg base CX0 7 f fd ["_law_script"] (spLaw K) := by
 refine F.ok sc_law (fun vs H Q E h => ?_) (fun cdv A outer s H vs Q E hr h => ?_)
 ·obtain ⟨a, ns, rfl, _⟩ := h
  rfl
 ·obtain ⟨a, ns, rfl, hS, hl, k⟩ := h
  have hu : _ := hr.units
  refine ⟨_, (pss_cons (ps_for PassesOwn.never rfl (pi_range1 rfl T.n_range (pa_cons (pe_callB (call_max2 rfl) (by rfl) T.n_max boot_max (pa_cons pe_int (pa_cons (pe_callB (call_min2 rfl) (by rfl) T.n_min boot_min (pa_cons (pe_callB call_len_seq (by rfl) T.n_len PySem.boot_len (pa_cons (pv 0) pa_nil)) (pa_cons pe_int pa_nil))) pa_nil))) pa_nil)) (pg_name (i := 1) sc_law.nd rfl (Or.inl rfl))
    (pss_cons (ps_set (i := 2) sc_law.nd rfl (Or.inl rfl) (pe_cal C_law_pot (hr.mono (by decide)) rfl (pa_cons (pv 0) (pa_cons (pv 1) pa_nil))))
    (pss_cons (ps_set (i := 3) sc_law.nd rfl (Or.inl rfl) (pe_cal C_law_of (hr.mono (by decide)) rfl (pa_cons (pv 2) (pa_cons (pe_lst (pa_cons pe_int (pa_cons pe_int (pa_cons pe_int (pa_cons pe_int (pa_cons pe_int (pa_cons pe_int (pa_cons pe_int pa_nil)))))))) pa_nil))))
    (pss_cons (ps_set (i := 4) sc_law.nd rfl (Or.inl rfl) (pe_op op_add pe_int (pe_cal C_law_next (hr.mono (by decide)) rfl (pa_cons (pv 2) (pa_cons pe_int pa_nil)))))
    (pss_one (ps_for PassesOwn.never rfl (pi_list (pe_lst (pa_cons pe_str (pa_cons pe_str (pa_cons pe_str (pa_cons pe_str (pa_cons pe_str pa_nil))))))) (pg_name (i := 5) sc_law.nd rfl (Or.inl rfl))
     (pss_cons (ps_if (pt_not (pt_val (pe_cal C_law_all_pairs_right (hr.mono (by decide)) rfl (pa_cons (pv 5) (pa_cons (pv 3) pa_nil)))))
      (pss_one (ps_ret pe_bl))
      pss_nil)
     (pss_cons (ps_set (i := 6) sc_law.nd rfl (Or.inl rfl) (pe_cal C_law_parts (hr.mono (by decide)) rfl (pa_cons (pv 5) (pa_cons (pv 4) pa_nil))))
     (pss_one (ps_for PassesOwn.never rfl (pi_range1 rfl T.n_range (pa_cons pe_int pa_nil)) (pg_name (i := 7) sc_law.nd rfl (Or.inl rfl))
      (pss_cons (ps_set (i := 8) sc_law.nd rfl (Or.inr rfl) (pe_ix ix_list (pv 6) (pe_cal C_law_next (hr.mono (by decide)) rfl (pa_cons (pv 2) (pa_cons (pe_callB call_len_seq (by rfl) T.n_len PySem.boot_len (pa_cons (pv 6) pa_nil)) pa_nil))) (fun _ _ => rfl)))
      (pss_cons (ps_lcset (i := 9) rfl sc_law.nd rfl rfl (N' := ["_law_other", "_law_one"]) (n := 1) (ix := [8]) rfl (CompScope.of (sc := defScope s_law) (N := ["_law_script", "_law_k", "_law_pot_here", "_law_many", "_law_far", "_law_kind", "_law_some", "_law_turn", "_law_one", "_law_near", "_law_other", "_law_due"]) (by decide +kernel) rfl rfl) (pi_list (pv 6)) (fun _ _ _ _ _ => ⟨(pg_name (i := 0) (show (["_law_other", "_law_one"] : List Str).Nodup by decide +kernel) rfl (Or.inl rfl)), (pts_one (PW.pt (pw_or (pt_cmpR op_eq (pe_ix (ix_tupK K rfl) (pv 0) pe_int (fun _ _ => rfl)) (pe_ix (ix_tupK K rfl) (pv 1) pe_int (fun _ _ => rfl)) (nomark _)) (pw_or1 (pt_cmpR op_eq (pe_ix (ix_tupK K rfl) (pv 0) (pe_un un_neg pe_int) (fun _ _ => rfl)) (pe_ix (ix_tupK K rfl) (pv 1) (pe_un un_neg pe_int) (fun _ _ => rfl)) (nomark _)))))), (pv 0)⟩))
      (pss_cons (ps_set (i := 9) sc_law.nd rfl (Or.inl rfl) (pe_op op_cat (pv 9) (pe_lc (N' := ["_law_other", "_law_one"]) (n := 1) (ix := [8]) rfl (CompScope.of (sc := defScope s_law) (N := ["_law_script", "_law_k", "_law_pot_here", "_law_many", "_law_far", "_law_kind", "_law_some", "_law_turn", "_law_one", "_law_near", "_law_other", "_law_due"]) (by decide +kernel) rfl rfl) (pi_list (pv 6)) (fun _ _ _ _ _ => ⟨(pg_name (i := 0) (show (["_law_other", "_law_one"] : List Str).Nodup by decide +kernel) rfl (Or.inl rfl)), (pts_one (pt_cmpR op_lt (pe_callB call_abs (by rfl) T.n_abs boot_abs (pa_cons (pe_op op_sub (pe_ix (ix_tupK K rfl) (pv 0) pe_int (fun _ _ => rfl)) (pe_ix (ix_tupK K rfl) (pv 1) (pe_un un_neg pe_int) (fun _ _ => rfl))) pa_nil)) pe_int (nomark _))), (pv 0)⟩))))
      (pss_cons (ps_set (i := 10) sc_law.nd rfl (Or.inl rfl) (pe_cal C_law_of (hr.mono (by decide)) rfl (pa_cons (pv 2) (pa_cons (pe_cal C_law_of (hr.mono (by decide)) rfl (pa_cons (pv 2) (pa_cons (pe_lst (pa_cons (pv 9) (pa_cons (pv 6) pa_nil))) pa_nil))) pa_nil))))
      (pss_cons (ps_set (i := 11) sc_law.nd rfl (Or.inl rfl) (pe_cal C_law_far_due (hr.mono (by decide)) rfl (pa_cons (pv 5) (pa_cons (pv 4) (pa_cons (pv 8) (pa_cons (pv 10) pa_nil))))))
      (pss_one (ps_if (PW.pt (pw_or (pt_not (pt_val (pe_cal C_law_same (hr.mono (by decide)) rfl (pa_cons (pe_cal Cboth_share (hr.mono (by decide)) rfl (pa_cons (pv 5) (pa_cons (pv 4) (pa_cons (pv 8) (pa_cons (pv 10) pa_nil))))) (pa_cons (pv 11) pa_nil))))) (pw_or1 (pt_cmpR (op_neD hu) (pe_cal Cboth_share (hr.mono (by decide)) rfl (pa_cons (pv 5) (pa_cons (pv 4) (pa_cons (pv 10) (pa_cons (pv 8) pa_nil))))) (pv 11) (nomark _)))))
       (pss_one (ps_ret pe_bl))
       pss_nil)))))))))))))))))
   (pss_one (ps_ret pe_bl))), ?fin⟩
  case fin =>
   have two : 2 < sizeLine := by decide
   have al2 : ∀ {G : Hp} {z1 z2 : Addr} {p : Int × Int}, Shr G z1 p -> Shr G z2 p -> AlikeW G 2 (.ref z1) (.ref z2) := fun {G z1 z2 p} h1 h2 => .inr ⟨z1, z2, _, _, rfl, rfl, h1, h2, two, .cons (.inl ⟨_, rfl, rfl⟩) (.cons (.inl ⟨_, rfl, rfl⟩) .nil)⟩
   refine ⟨_, rfl, a, _, rfl, .inl hS, _, _, rfl, _, _, rfl, _, rfl, ?_⟩
   rw [mapI_len]
   have hj : ∃ n : Nat, n <= 2 /\ (if (if (2 : Int) < (ns.length : Int) then (2 : Int) else (ns.length : Int)) > 1 then (if (2 : Int) < (ns.length : Int) then (2 : Int) else (ns.length : Int)) else 1) = (n : Int) := by
    refine ⟨(if (if (2 : Int) < (ns.length : Int) then (2 : Int) else (ns.length : Int)) > 1 then (if (2 : Int) < (ns.length : Int) then (2 : Int) else (ns.length : Int)) else 1).toNat, ?_, ?_⟩
    ·split <;> split at * <;> (first | lia | omega)
    ·split <;> split at * <;> (first | lia | omega)
   obtain ⟨n0, hn0, en⟩ := hj
   rw [en]
   refine ⟨by (first | lia | omega), by (first | lia | omega), ?_⟩
   rw [Int.toNat_natCast]
   refine for_range (fun i σ H2 => ∃ (c1 c2 c3 c4 c5 c6 c7 c8 c9 c10 c11 : Option V), σ = [some (.ref a), c1, c2, c3, c4, c5, c6, c7, c8, c9, c10, c11] /\ Same H H2) ?_ ?_ ?_
   ·exact ⟨none, none, none, none, none, none, none, none, none, none, none, rfl, Same.refl H⟩
   ·rintro i σ H2 hi ⟨c1, c2, c3, c4, c5, c6, c7, c8, c9, c10, c11, rfl, sm⟩
    refine ⟨_, rfl, _, rfl, a, ns, _, rfl, sm.seq hS, by (first | lia | omega), by (first | lia | omega), fun p H3 s3 hp hp0 => ?_⟩
    have hnp : ∀ {b : Addr} {o : HO}, H b = some o -> b ≠ p := fun {b} {o} hb e => by
     rw [e] at hb
     rw [sm _ _ hb] at hp0
     cases hp0
    have KS : ∀ {G G' : Hp}, Same H G -> Keep p p G G' -> Same H G' := fun s' k' b o hb => k' b o (s' _ _ hb) (hnp hb) (hnp hb)
    refine ⟨_, rfl, by show 7 <= sizeLine; decide, fun l1 hl1 => ?_⟩
    refine ⟨p, l1, [.int 1, .int 2, .int 3, .int 4, .int 5, .int 5, .int 4], rfl, upd_same, hp.ne_new hl1, by decide, by decide, hp.same (same_upd hl1), fun x hx H4 hp4 kp4 => ?_⟩
    have hx3 : ∃ n : Nat, n < 6 /\ x = .int (n : Int) := by
     have : x = .int 1 ∨ x = .int 2 ∨ x = .int 3 ∨ x = .int 4 ∨ x = .int 5 := by
      simp only [List.mem_cons, List.not_mem_nil, or_false] at hx
      rcases hx with h | h | h | h | h | h | h <;> simp [h]
     rcases this with rfl | rfl | rfl | rfl | rfl
     ·exact ⟨1, by decide, rfl⟩
     ·exact ⟨2, by decide, rfl⟩
     ·exact ⟨3, by decide, rfl⟩
     ·exact ⟨4, by decide, rfl⟩
     ·exact ⟨5, by decide, rfl⟩
    obtain ⟨n, hn, rfl⟩ := hx3
    have S4 : Same H H4 := KS ((sm.trans s3).trans (same_upd hl1)) kp4
    refine ⟨_, rfl, p, 59, rfl, by decide, by decide, hp4, fun d H5 d0 d1 hp5 k5 => ⟨_, _, rfl, rfl, ?_⟩⟩
    have S5 : Same H H5 := KS S4 k5
    obtain ⟨far, hf2, hf60, ef⟩ : ∃ far : Nat, 2 <= far /\ far <= 60 /\ 2 + d = (far : Int) := ⟨(2 + d).toNat, by (first | lia | omega), by (first | lia | omega), by (first | lia | omega)⟩
    dsimp only
    rw [ef]
    refine ⟨by show 5 <= sizeLine; decide, fun M hM => ⟨M, rfl, ⟨_, SqL.of upd_same⟩, ?_⟩⟩
    have sM := same_upd (o := .lst [.str "rounds", .str "stays", .str "rises", .str "highs", .str "crossed"]) hM
    have hMp : M ≠ p := hp5.ne_new hM
    refine for_list (K := K) (xs := [.str "rounds", .str "stays", .str "rises", .str "highs", .str "crossed"]) (fun j σ G => ∃ (e5 e6 e7 e8 e9 e10 e11 : Option V), σ = [some (.ref a), some (.int (0 + (i : Int))), some (.ref p), some (.int (n : Int)), some (.int (far : Int)), e5, e6, e7, e8, e9, e10, e11] /\ Same H G /\ G M = some (.lst [.str "rounds", .str "stays", .str "rises", .str "highs", .str "crossed"]) /\ Pot2 G p) ?_ ?_ ?_ ?_
    ·exact ⟨_, _, _, _, _, _, _, rfl, S5.trans sM, upd_same, hp5.same sM⟩
    ·rintro j σ G _ ⟨e5, e6, e7, e8, e9, e10, e11, rfl, _, hG, _⟩
     exact SqL.of hG
    ·rintro j x σ G hx ⟨e5, e6, e7, e8, e9, e10, e11, rfl, SG, gM, gP⟩
     have hkind : ∃ kind : Str, kind ∈ kinds5 /\ x = .str kind := by
      have hm := List.mem_of_getElem? hx
      have : [V.str "rounds", .str "stays", .str "rises", .str "highs", .str "crossed"] = kinds5.map V.str := rfl
      rw [this] at hm
      obtain ⟨kd, h1, h2⟩ := List.mem_map.mp hm
      exact ⟨kd, h1, h2.symm⟩
     obtain ⟨kd, hk, rfl⟩ := hkind
     refine ⟨_, rfl, _, rfl, kd, n, rfl, hk, hn, fun G1 g1 => ⟨_, rfl, iteF ?_⟩⟩
     refine ⟨_, rfl, _, rfl, kd, far, rfl, hk, hf60, fun B us G2 g2 hB RB => ?_⟩
     have hul : us.length = (partsZ kd far).length := Paired.length RB
     have hup := parts_pos far (by (first | lia | omega)) hf2 kd hk
     have huc := partsZ_len (kind := kd) hf60
     have g12 := g1.trans g2
     have gP2 := gP.same g12
     have hBp : B ≠ p := fun e => by
      obtain ⟨o, m, h1, _⟩ := gP2
      rw [e, h1] at hB
      have := HO.lst.inj (Option.some.inj hB)
      cases us with
      | nil => cases this
      | cons z t => cases this
     refine ⟨_, rfl, by decide, by decide, ?_⟩
     refine for_range (n := 8) (fun q σ G => ∃ (e7 e8 e9 e10 e11 : Option V), σ = [some (.ref a), some (.int (0 + (i : Int))), some (.ref p), some (.int (n : Int)), some (.int (far : Int)), some (.str kd), some (.ref B), e7, e8, e9, e10, e11] /\ Same H G /\ G M = some (.lst [.str "rounds", .str "stays", .str "rises", .str "highs", .str "crossed"]) /\ Pot2 G p /\ G B = some (.lst (us.map V.ref)) /\ RowsAt G us (partsZ kd far)) ?_ ?_ ?_
     ·exact ⟨_, _, _, _, _, rfl, SG.trans g12, g12 _ _ gM, gP2, hB, RB⟩
     ·rintro q σ G hq8 ⟨e7, e8, e9, e10, e11, rfl, SG, gM, gP, gB, gRB⟩
      refine ⟨_, rfl, _, rfl, _, rfl, B, _, rfl, .inl (SqL.of gB), ?_⟩
      rw [List.length_map]
      refine ⟨p, _, rfl, by (first | lia | omega), by (first | lia | omega), gP, fun d2 G3 d20 d21 gP3 k3 => ?_⟩
      have SG3 := KS SG k3
      have gM3 := k3 _ _ gM hMp hMp
      have gB3 := k3 _ _ gB hBp hBp
      have RB3 : RowsAt G3 us (partsZ kd far) := Paired.mapP gRB fun z r hz => gP.keepT k3 hz
      obtain ⟨dn, hdn, rfl⟩ : ∃ dn : Nat, dn < us.length /\ d2 = (dn : Int) := ⟨d2.toNat, by (first | lia | omega), by (first | lia | omega)⟩
      refine ⟨B, _, _, .ref us[dn], rfl, rfl, SqL.of gB3, atI_nat (by rw [List.getElem?_map, List.getElem?_eq_getElem hdn]; rfl), ?_⟩
      obtain ⟨r1, hr1, hr1'⟩ := RB3.mem (List.getElem_mem hdn)
      have hum : us[dn] ∈ us := List.getElem_mem hdn
      generalize us[dn] = o1 at hr1' hum ⊢
      obtain ⟨k1, l1', t1, u1, ek1, el1⟩ := parts_ends hr1
      have hk1 : G3 o1 = some (.tup ((k1 :: t1).map V.int)) := by rw [<- ek1]; exact hr1'
      have hl1' : G3 o1 = some (.tup ((u1 ++ [l1']).map V.int)) := by rw [<- el1]; exact hr1'
      refine ⟨_, rfl, B, rfl, ⟨_, SqL.of gB3⟩, ?_⟩
      refine lc_pure (yields_list (xs := us.map V.ref)) (small1w (by rw [List.length_map]; (first | lia | omega))) (fun v => decide (fstV G3 v = k1) || decide (lstV G3 v = l1')) id (fun G' s' => SqL.of (s' _ _ gB3)) (fun x hx G' s' Q' q' => ?_) (fun x hx _ G' s' Q' q' => ⟨_, rfl, q'⟩) fun acc hacc => ?_
      ·obtain ⟨y, hy, rfl⟩ := List.mem_map.mp hx
       obtain ⟨r, hr, hr'⟩ := RB3.mem hy
       obtain ⟨k2, l2, t2, u2, ek, el⟩ := parts_ends hr
       have hyk : G3 y = some (.tup ((k2 :: t2).map V.int)) := by rw [<- ek]; exact hr'
       have hyl : G3 y = some (.tup ((u2 ++ [l2]).map V.int)) := by rw [<- el]; exact hr'
       have q' : Q' (decide (fstV G3 (.ref y) = k1) || decide (lstV G3 (.ref y) = l1')) G' := q'
       rw [fstV_at hyk, lstV_at hyl] at q'
       refine ⟨_, rfl, y, _, _, _, rfl, rfl, SqT.of (s' _ _ hyk), atI_nat (j := 0) rfl, _, rfl, o1, _, _, _, rfl, rfl, SqT.of (s' _ _ hk1), atI_nat (j := 0) rfl, rfl, _, rfl, ?_⟩
       rw [dec_int]
       by_cases c : k2 = k1
       ·rw [decide_eq_true c, Bool.true_or] at q'
        rw [beq_iff_eq.mpr c]
        exact iteT q'
       ·rw [decide_eq_false c, Bool.false_or] at q'
        rw [beq_eq_false_iff_ne.mpr c]
        refine iteF ⟨_, rfl, _, rfl, y, _, _, _, rfl, rfl, SqT.of (s' _ _ hyl), at_lastP, _, rfl, _, rfl, o1, _, _, _, rfl, rfl, SqT.of (s' _ _ hl1'), at_lastP, rfl, _, rfl, ?_⟩
        rw [dec_int]
        rw [show (l2 == l1') = decide (l2 = l1') from by rw [Bool.beq_eq_decide_eq]]
        exact q'
      have nr1 : V.ref o1 ∈ ((us.map V.ref).filter fun v => decide (fstV G3 v = k1) || decide (lstV G3 v = l1')).map id := by
       rw [List.map_id]
       refine List.mem_filter.mpr ⟨List.mem_map.mpr ⟨o1, hum, rfl⟩, ?_⟩
       show (decide (fstV G3 (.ref o1) = k1) || _) = true
       rw [fstV_at hk1, decide_eq_true rfl]
       rfl
      have nr2 : ∀ v ∈ ((us.map V.ref).filter fun v => decide (fstV G3 v = k1) || decide (lstV G3 v = l1')).map id, ∃ y ∈ us, v = .ref y := fun v hv => by
       rw [List.map_id] at hv
       obtain ⟨y, hy, e⟩ := List.mem_map.mp (List.mem_filter.mp hv).1
       exact ⟨y, hy, e.symm⟩
      have nr3 : (((us.map V.ref).filter fun v => decide (fstV G3 v = k1) || decide (lstV G3 v = l1')).map id).length <= 3600 := by
       rw [List.map_id]
       have := List.length_filter_le (fun v => decide (fstV G3 v = k1) || decide (lstV G3 v = l1')) (us.map V.ref)
       rw [List.length_map] at this
       (first | lia | omega)
      generalize ((us.map V.ref).filter fun v => decide (fstV G3 v = k1) || decide (lstV G3 v = l1')).map id = N1 at nr1 nr2 nr3 ⊢
      have w1 := same_upd (o := .lst N1) hacc
      refine ⟨_, rfl, _, rfl, B, rfl, ⟨_, SqL.of (w1 _ _ gB3)⟩, ?_⟩
      refine lc_pure (yields_list (xs := us.map V.ref)) (small1w (by rw [List.length_map]; (first | lia | omega))) (fun v => decide ((if fstV G3 v - l1' < 0 then -(fstV G3 v - l1') else fstV G3 v - l1') < 2)) id (fun G' s' => SqL.of (s' _ _ (w1 _ _ gB3))) (fun x hx G' s' Q' q' => ?_) (fun x hx _ G' s' Q' q' => ⟨_, rfl, q'⟩) fun acc2 hacc2 => ?_
      ·obtain ⟨y, hy, rfl⟩ := List.mem_map.mp hx
       obtain ⟨r, hr, hr'⟩ := RB3.mem hy
       obtain ⟨k2, l2, t2, u2, ek, el⟩ := parts_ends hr
       have hyk : G3 y = some (.tup ((k2 :: t2).map V.int)) := by rw [<- ek]; exact hr'
       have q' : Q' (decide ((if fstV G3 (.ref y) - l1' < 0 then -(fstV G3 (.ref y) - l1') else fstV G3 (.ref y) - l1') < 2)) G' := q'
       rw [fstV_at hyk] at q'
       exact ⟨_, rfl, y, _, _, _, rfl, rfl, SqT.of (s' _ _ (w1 _ _ hyk)), atI_nat (j := 0) rfl, _, rfl, _, rfl, o1, _, _, _, rfl, rfl, SqT.of (s' _ _ (w1 _ _ hl1')), at_lastP, _, _, rfl, rfl, _, rfl, _, _, rfl, rfl, _, rfl, q'⟩
      have mr2 : ∀ v ∈ ((us.map V.ref).filter fun v => decide ((if fstV G3 v - l1' < 0 then -(fstV G3 v - l1') else fstV G3 v - l1') < 2)).map id, ∃ y ∈ us, v = .ref y := fun v hv => by
       rw [List.map_id] at hv
       obtain ⟨y, hy, e⟩ := List.mem_map.mp (List.mem_filter.mp hv).1
       exact ⟨y, hy, e.symm⟩
      have mr3 : (((us.map V.ref).filter fun v => decide ((if fstV G3 v - l1' < 0 then -(fstV G3 v - l1') else fstV G3 v - l1') < 2)).map id).length <= 3600 := by
       rw [List.map_id]
       have := List.length_filter_le (fun v => decide ((if fstV G3 v - l1' < 0 then -(fstV G3 v - l1') else fstV G3 v - l1') < 2)) (us.map V.ref)
       rw [List.length_map] at this
       (first | lia | omega)
      generalize ((us.map V.ref).filter fun v => decide ((if fstV G3 v - l1' < 0 then -(fstV G3 v - l1') else fstV G3 v - l1') < 2)).map id = N2 at mr2 mr3 ⊢
      have w2 := same_upd (o := .lst N2) hacc2
      refine ⟨acc, acc2, _, _, rfl, rfl, w2 _ _ upd_same, upd_same, Nat.le_of_lt (small1w (by (first | lia | omega))), fun nr hnr => ?_⟩
      have w3 := same_upd (o := .lst (N1 ++ N2)) hnr
      have W3 := w1.trans (w2.trans w3)
      have hnr3 := @upd_same (upd (upd G3 acc (.lst N1)) acc2 (.lst N2)) nr (.lst (N1 ++ N2))
      have gP4 := gP3.same (w1.trans w2)
      have hnrp : nr ≠ p := gP4.ne_new hnr
      generalize upd (upd (upd G3 acc (.lst N1)) acc2 (.lst N2)) nr (.lst (N1 ++ N2)) = G4 at W3 hnr3 ⊢
      have gP4 := gP3.same W3
      have gB4 := W3 _ _ gB3
      have RB4 := RB3.same W3
      refine ⟨_, rfl, _, rfl, _, rfl, _, rfl, by show 2 <= sizeLine; decide, fun l5 hl5 => ?_⟩
      have w5 := same_upd (o := .lst [.ref nr, .ref B]) hl5
      refine ⟨p, l5, [.ref nr, .ref B], rfl, upd_same, gP4.ne_new hl5, by show 0 < 2; decide, by show 2 <= 100000; decide, gP4.same w5, fun x hx G6 gP6 k6 => ?_⟩
      have hnr6 := k6 _ _ (w5 _ _ hnr3) hnrp hnrp
      have gB6 := k6 _ _ (w5 _ _ gB4) hBp hBp
      have RB6 : RowsAt G6 us (partsZ kd far) := Paired.mapP (RB4.same w5) fun z r hz => (gP4.same w5).keepT k6 hz
      have S6 := KS (SG3.trans (W3.trans w5)) k6
      have gM6 := k6 _ _ (w5 _ _ (W3 _ _ gM3)) hMp hMp
      obtain ⟨L, vs, rfl, hL, hLp, v0, v1, hvs⟩ : ∃ (L : Addr) (vs : List V), x = .ref L /\ G6 L = some (.lst vs) /\ L ≠ p /\ 0 < vs.length /\ vs.length <= 100000 /\ ∀ v ∈ vs, ∃ y ∈ us, v = .ref y := by
       simp only [List.mem_cons, List.not_mem_nil, or_false] at hx
       rcases hx with rfl | rfl
       ·refine ⟨nr, _, rfl, hnr6, hnrp, by have := List.length_pos_of_mem nr1; rw [List.length_append]; (first | lia | omega), by rw [List.length_append]; (first | lia | omega), fun v hv => ?_⟩
        rcases List.mem_append.mp hv with hv | hv
        ·exact nr2 v hv
        ·exact mr2 v hv
       ·refine ⟨B, _, rfl, gB6, hBp, by rw [List.length_map]; (first | lia | omega), by rw [List.length_map]; (first | lia | omega), fun v hv => ?_⟩
        obtain ⟨y, hy, e⟩ := List.mem_map.mp hv
        exact ⟨y, hy, e.symm⟩
      refine ⟨p, L, vs, rfl, hL, hLp, v0, v1, gP6, fun x hx G7 gP7 k7 => ?_⟩
      obtain ⟨o2, ho2, rfl⟩ := hvs x hx
      have RB7 : RowsAt G7 us (partsZ kd far) := Paired.mapP RB6 fun z r hz => gP6.keepT k7 hz
      have S7 := KS S6 k7
      have gM7 := k7 _ _ gM6 hMp hMp
      have gB7 := k7 _ _ gB6 hBp hBp
      obtain ⟨r2, hr2, hr2'⟩ := RB7.mem ho2
      have hr1'' : G7 o1 = some (.tup (r1.map V.int)) := gP6.keepT k7 ((gP4.same w5).keepT k6 (w5 _ _ (W3 _ _ hr1')))
      refine ⟨_, rfl, _, rfl, _, rfl, _, rfl, kd, far, o1, o2, r1, r2, rfl, hk, hf60, hr1'', hr2', hr1, hr2, fun zd G8 s8 hzd => ?_⟩
      refine ⟨_, rfl, _, rfl, _, rfl, _, rfl, kd, far, o1, o2, r1, r2, rfl, hk, hf60, s8 _ _ hr1'', s8 _ _ hr2', hr1, hr2, fun z1 G9 s9 hz1 => ?_⟩
      refine ⟨_, rfl, _, _, rfl, al2 hz1 (s9 _ _ hzd), fun GA sA => ⟨_, rfl, iteF ?_⟩⟩
      have t9 := s9.trans sA
      have t8 := s8.trans t9
      refine ⟨_, rfl, _, rfl, _, rfl, _, rfl, kd, far, o2, o1, r2, r1, rfl, hk, hf60, t8 _ _ hr2', t8 _ _ hr1'', hr2, hr1, fun z2 GB sB hz2 => ⟨_, rfl, ?_⟩⟩
      rw [both_comm] at hz2
      refine neTT (ns := [_, _]) (ms := [_, _]) hz2 (sB _ _ (t9 _ _ hzd)) rfl ⟨_, rfl, iteF ?_⟩
      have tB := t8.trans sB
      exact ⟨_, _, _, _, _, rfl, S7.trans tB, tB _ _ gM7, gP7.same tB, tB _ _ gB7, RB7.same tB⟩
     ·rintro σ G ⟨e7, e8, e9, e10, e11, rfl, SG, gM, gP, _, _⟩
      exact ⟨_, _, _, _, _, _, _, rfl, SG, gM, gP⟩
    ·rintro σ G ⟨e5, e6, e7, e8, e9, e10, e11, rfl, SG, _⟩
     exact ⟨_, _, _, _, _, _, _, _, _, _, _, rfl, SG⟩
   ·rintro σ H2 ⟨c1, c2, c3, c4, c5, c6, c7, c8, c9, c10, c11, rfl, sm⟩
    exact k _
end
end K26
namespace K26
open PySem PySem.Spec PyProof.Rows L2
set_option maxHeartbeats 8000000 in
theorem all_mk {l : PySem.W.OpenLaw} {w : World} {K : PySem.W.Frag} {h : Heap} {mg : Str -> Option Value} {fa C_ONE_SHARES C_BOTH_SHARES g_round_share g_stay_share g_half_share g_high_share g_both_rounds g_both_stays g_both_rises g_both_highs g_both_crossed : Addr} (X : K.In h) (G : h.Ns mainGlobals mg) (hfa : mg "law" = some (.ref fa)) (TK : TopK K) (TXK : TopXK K) (TYK : TopSK K) (a_ONE_SHARES : PySem.W.nsIn K mainGlobals "ONE_SHARES" = some (some (.ref C_ONE_SHARES))) (GD_ONE_SHARES : GDict K w.params C_ONE_SHARES [("rounds", g_round_share), ("stays", g_stay_share), ("rises", g_half_share), ("highs", g_high_share), ("crossed", g_half_share)]) (a_BOTH_SHARES : PySem.W.nsIn K mainGlobals "BOTH_SHARES" = some (some (.ref C_BOTH_SHARES))) (GD_BOTH_SHARES : GDict K w.params C_BOTH_SHARES [("rounds", g_both_rounds), ("stays", g_both_stays), ("rises", g_both_rises), ("highs", g_both_highs), ("crossed", g_both_crossed)]) (n_round_share : PySem.W.nsIn K mainGlobals "round_share" = some (some (.ref g_round_share))) (n_stay_share : PySem.W.nsIn K mainGlobals "stay_share" = some (some (.ref g_stay_share))) (n_half_share : PySem.W.nsIn K mainGlobals "half_share" = some (some (.ref g_half_share))) (n_high_share : PySem.W.nsIn K mainGlobals "high_share" = some (some (.ref g_high_share))) (n_both_rounds : PySem.W.nsIn K mainGlobals "both_rounds" = some (some (.ref g_both_rounds))) (n_both_stays : PySem.W.nsIn K mainGlobals "both_stays" = some (some (.ref g_both_stays))) (n_both_rises : PySem.W.nsIn K mainGlobals "both_rises" = some (some (.ref g_both_rises))) (n_both_highs : PySem.W.nsIn K mainGlobals "both_highs" = some (some (.ref g_both_highs))) (n_both_crossed : PySem.W.nsIn K mainGlobals "both_crossed" = some (some (.ref g_both_crossed)))
  (d_greatest_divisor : Def K "greatest_divisor" s_greatest_divisor) (d_share_of : Def K "share_of" s_share_of) (d_times : Def K "times" s_times) (d_round_share : Def K "round_share" s_round_share) (d_stay_share : Def K "stay_share" s_stay_share) (d_half_share : Def K "half_share" s_half_share) (d_high_share : Def K "high_share" s_high_share) (d_one_share : Def K "one_share" s_one_share) (d_both_rounds : Def K "both_rounds" s_both_rounds) (d_both_stays : Def K "both_stays" s_both_stays) (d_both_rises : Def K "both_rises" s_both_rises) (d_both_highs : Def K "both_highs" s_both_highs) (d_both_crossed : Def K "both_crossed" s_both_crossed) (d_both_share : Def K "both_share" s_both_share) (d__law_pot : Def K "_law_pot" s__law_pot) (d__law_next : Def K "_law_next" s__law_next) (d__law_of : Def K "_law_of" s__law_of) (d__law_same : Def K "_law_same" s__law_same) (d__law_low : Def K "_law_low" s__law_low) (d__law_all : Def K "_law_all" s__law_all) (d__law_parts : Def K "_law_parts" s__law_parts) (d__law_round : Def K "_law_round" s__law_round) (d__law_has : Def K "_law_has" s__law_has) (d__law_pair_share : Def K "_law_pair_share" s__law_pair_share) (d__law_all_pairs_right : Def K "_law_all_pairs_right" s__law_all_pairs_right) (d__law_few : Def K "_law_few" s__law_few) (d__law_far_due : Def K "_law_far_due" s__law_far_due) (d_law : Def K "law" s_law) :
  ∃ fd : FuncData, (∀ (s : Shared) (v : Value), BindsTo s fd ⟨[v], []⟩ [("_law_script", v)]) /\ ∀ base : Heap, K.In base -> base.Ns mainGlobals mg -> FnOk l.prog w K mg base CX0 7 fa fd ["_law_script"] (spLaw K) := by
 have T : Top mg := TK.top X G
 have TX : TopX mg := TXK.top X G
 have TY : TopS mg := TYK.top X G
 obtain ⟨f_greatest_divisor, e_greatest_divisor, F_greatest_divisor, m_greatest_divisor⟩ := d_greatest_divisor.fn X G
 obtain ⟨f_share_of, e_share_of, F_share_of, m_share_of⟩ := d_share_of.fn X G
 obtain ⟨f_times, e_times, F_times, m_times⟩ := d_times.fn X G
 obtain ⟨f_round_share, e_round_share, F_round_share, m_round_share⟩ := d_round_share.fn X G
 obtain ⟨f_stay_share, e_stay_share, F_stay_share, m_stay_share⟩ := d_stay_share.fn X G
 obtain ⟨f_half_share, e_half_share, F_half_share, m_half_share⟩ := d_half_share.fn X G
 obtain ⟨f_high_share, e_high_share, F_high_share, m_high_share⟩ := d_high_share.fn X G
 obtain ⟨f_one_share, e_one_share, F_one_share, m_one_share⟩ := d_one_share.fn X G
 obtain ⟨f_both_rounds, e_both_rounds, F_both_rounds, m_both_rounds⟩ := d_both_rounds.fn X G
 obtain ⟨f_both_stays, e_both_stays, F_both_stays, m_both_stays⟩ := d_both_stays.fn X G
 obtain ⟨f_both_rises, e_both_rises, F_both_rises, m_both_rises⟩ := d_both_rises.fn X G
 obtain ⟨f_both_highs, e_both_highs, F_both_highs, m_both_highs⟩ := d_both_highs.fn X G
 obtain ⟨f_both_crossed, e_both_crossed, F_both_crossed, m_both_crossed⟩ := d_both_crossed.fn X G
 obtain ⟨f_both_share, e_both_share, F_both_share, m_both_share⟩ := d_both_share.fn X G
 obtain ⟨f__law_pot, e__law_pot, F__law_pot, m__law_pot⟩ := d__law_pot.fn X G
 obtain ⟨f__law_next, e__law_next, F__law_next, m__law_next⟩ := d__law_next.fn X G
 obtain ⟨f__law_of, e__law_of, F__law_of, m__law_of⟩ := d__law_of.fn X G
 obtain ⟨f__law_same, e__law_same, F__law_same, m__law_same⟩ := d__law_same.fn X G
 obtain ⟨f__law_low, e__law_low, F__law_low, m__law_low⟩ := d__law_low.fn X G
 obtain ⟨f__law_all, e__law_all, F__law_all, m__law_all⟩ := d__law_all.fn X G
 obtain ⟨f__law_parts, e__law_parts, F__law_parts, m__law_parts⟩ := d__law_parts.fn X G
 obtain ⟨f__law_round, e__law_round, F__law_round, m__law_round⟩ := d__law_round.fn X G
 obtain ⟨f__law_has, e__law_has, F__law_has, m__law_has⟩ := d__law_has.fn X G
 obtain ⟨f__law_pair_share, e__law_pair_share, F__law_pair_share, m__law_pair_share⟩ := d__law_pair_share.fn X G
 obtain ⟨f__law_all_pairs_right, e__law_all_pairs_right, F__law_all_pairs_right, m__law_all_pairs_right⟩ := d__law_all_pairs_right.fn X G
 obtain ⟨f__law_few, e__law_few, F__law_few, m__law_few⟩ := d__law_few.fn X G
 obtain ⟨f__law_far_due, e__law_far_due, F__law_far_due, m__law_far_due⟩ := d__law_far_due.fn X G
 obtain ⟨f_law, e_law, F_law, m_law⟩ := d_law.fn X G
 have b_greatest_divisor := F_greatest_divisor.binds (ps := ["over", "under"]) fun _ _ _ _ _ _ us hl => match us, hl with | [_, _], _ => rfl
 have b_share_of := F_share_of.binds (ps := ["over", "under"]) fun _ _ _ _ _ _ us hl => match us, hl with | [_, _], _ => rfl
 have b_times := F_times.binds (ps := ["one", "other"]) fun _ _ _ _ _ _ us hl => match us, hl with | [_, _], _ => rfl
 have b_round_share := F_round_share.binds (ps := ["many", "part"]) fun _ _ _ _ _ _ us hl => match us, hl with | [_, _], _ => rfl
 have b_stay_share := F_stay_share.binds (ps := ["many", "part"]) fun _ _ _ _ _ _ us hl => match us, hl with | [_, _], _ => rfl
 have b_half_share := F_half_share.binds (ps := ["many", "part"]) fun _ _ _ _ _ _ us hl => match us, hl with | [_, _], _ => rfl
 have b_high_share := F_high_share.binds (ps := ["many", "part"]) fun _ _ _ _ _ _ us hl => match us, hl with | [_, _], _ => rfl
 have b_one_share := F_one_share.binds (ps := ["kind", "many", "part"]) fun _ _ _ _ _ _ us hl => match us, hl with | [_, _, _], _ => rfl
 have b_both_rounds := F_both_rounds.binds (ps := ["many", "one", "other"]) fun _ _ _ _ _ _ us hl => match us, hl with | [_, _, _], _ => rfl
 have b_both_stays := F_both_stays.binds (ps := ["many", "one", "other"]) fun _ _ _ _ _ _ us hl => match us, hl with | [_, _, _], _ => rfl
 have b_both_rises := F_both_rises.binds (ps := ["many", "one", "other"]) fun _ _ _ _ _ _ us hl => match us, hl with | [_, _, _], _ => rfl
 have b_both_highs := F_both_highs.binds (ps := ["many", "one", "other"]) fun _ _ _ _ _ _ us hl => match us, hl with | [_, _, _], _ => rfl
 have b_both_crossed := F_both_crossed.binds (ps := ["many", "one", "other"]) fun _ _ _ _ _ _ us hl => match us, hl with | [_, _, _], _ => rfl
 have b_both_share := F_both_share.binds (ps := ["kind", "many", "one", "other"]) fun _ _ _ _ _ _ us hl => match us, hl with | [_, _, _, _], _ => rfl
 have b__law_pot := F__law_pot.binds (ps := ["_law_script", "_law_k"]) fun _ _ _ _ _ _ us hl => match us, hl with | [_, _], _ => rfl
 have b__law_next := F__law_next.binds (ps := ["_law_pot_here", "_law_many"]) fun _ _ _ _ _ _ us hl => match us, hl with | [_, _], _ => rfl
 have b__law_of := F__law_of.binds (ps := ["_law_pot_here", "_law_some"]) fun _ _ _ _ _ _ us hl => match us, hl with | [_, _], _ => rfl
 have b__law_same := F__law_same.binds (ps := ["_law_one", "_law_two"]) fun _ _ _ _ _ _ us hl => match us, hl with | [_, _], _ => rfl
 have b__law_low := F__law_low.binds (ps := ["_law_over", "_law_under"]) fun _ _ _ _ _ _ us hl => match us, hl with | [_, _], _ => rfl
 have b__law_all := F__law_all.binds (ps := ["_law_many"]) fun _ _ _ _ _ _ us hl => match us, hl with | [_], _ => rfl
 have b__law_parts := F__law_parts.binds (ps := ["_law_kind", "_law_many"]) fun _ _ _ _ _ _ us hl => match us, hl with | [_, _], _ => rfl
 have b__law_round := F__law_round.binds (ps := ["_law_order", "_law_number"]) fun _ _ _ _ _ _ us hl => match us, hl with | [_, _], _ => rfl
 have b__law_has := F__law_has.binds (ps := ["_law_kind", "_law_part", "_law_order"]) fun _ _ _ _ _ _ us hl => match us, hl with | [_, _, _], _ => rfl
 have b__law_pair_share := F__law_pair_share.binds (ps := ["_law_orders", "_law_had", "_law_one", "_law_other"]) fun _ _ _ _ _ _ us hl => match us, hl with | [_, _, _, _], _ => rfl
 have b__law_all_pairs_right := F__law_all_pairs_right.binds (ps := ["_law_kind", "_law_many"]) fun _ _ _ _ _ _ us hl => match us, hl with | [_, _], _ => rfl
 have b__law_few := F__law_few.binds (ps := ["_law_kind", "_law_one", "_law_other"]) fun _ _ _ _ _ _ us hl => match us, hl with | [_, _, _], _ => rfl
 have b__law_far_due := F__law_far_due.binds (ps := ["_law_kind", "_law_many", "_law_one", "_law_other"]) fun _ _ _ _ _ _ us hl => match us, hl with | [_, _, _, _], _ => rfl
 have e : fa = f_law := by
  have q := hfa.symm.trans m_law
  cases q
  rfl
 subst e
 obtain ⟨oc, od, kV, doc, pm, an, cdv, ct, osl, rfl, lk, hcd⟩ := F_law.ex
 refine ⟨PySem.W.fnOf "law" "law" (defArgs s_law) (defBody s_law) (defScope s_law) .none kV doc pm an cdv ct, fun s v => .of_eq rfl, fun base _ _ => ?_⟩
 have Cgreatest_divisor : Cal l.prog w K mg base 1 "greatest_divisor" ["over", "under"] (spGcd) := ⟨f_greatest_divisor, e_greatest_divisor, ok_greatest_divisor F_greatest_divisor , m_greatest_divisor, F_greatest_divisor.kp, b_greatest_divisor⟩
 have Cshare_of : Cal l.prog w K mg base 2 "share_of" ["over", "under"] (spLow) := ⟨f_share_of, e_share_of, ok_share_of F_share_of Cgreatest_divisor, m_share_of, F_share_of.kp, b_share_of⟩
 have Ctimes : Cal l.prog w K mg base 3 "times" ["one", "other"] (spSh tmZ) := ⟨f_times, e_times, ok_times F_times Cshare_of, m_times, F_times.kp, b_times⟩
 have Cround_share : Cal l.prog w K mg base 1 "round_share" ["many", "part"] (spShK fun N ps => N - ps.getD 0 0) := ⟨f_round_share, e_round_share, ok_round_share F_round_share , m_round_share, F_round_share.kp, b_round_share⟩
 have Cstay_share : Cal l.prog w K mg base 1 "stay_share" ["many", "part"] (spShK fun N ps => N) := ⟨f_stay_share, e_stay_share, ok_stay_share F_stay_share , m_stay_share, F_stay_share.kp, b_stay_share⟩
 have Chalf_share : Cal l.prog w K mg base 1 "half_share" ["many", "part"] (spShK fun N ps => 2) := ⟨f_half_share, e_half_share, ok_half_share F_half_share , m_half_share, F_half_share.kp, b_half_share⟩
 have Chigh_share : Cal l.prog w K mg base 1 "high_share" ["many", "part"] (spShK fun N ps => ps.getD 0 0 + 1) := ⟨f_high_share, e_high_share, ok_high_share F_high_share , m_high_share, F_high_share.kp, b_high_share⟩
 have Cone_share : Cal l.prog w K mg base 2 "one_share" ["kind", "many", "part"] (spOneA) := ⟨f_one_share, e_one_share, ok_one_share F_one_share (PySem.W.mg_of X G a_ONE_SHARES) GD_ONE_SHARES (CalF.of Cround_share (PySem.W.mg_of X G n_round_share) (by decide)) (CalF.of Cstay_share (PySem.W.mg_of X G n_stay_share) (by decide)) (CalF.of Chalf_share (PySem.W.mg_of X G n_half_share) (by decide)) (CalF.of Chigh_share (PySem.W.mg_of X G n_high_share) (by decide)), m_one_share, F_one_share.kp, b_one_share⟩
 have Cboth_rounds : Cal l.prog w K mg base 4 "both_rounds" ["many", "one", "other"] (spBK "rounds") := ⟨f_both_rounds, e_both_rounds, ok_both_rounds F_both_rounds Ctimes Cround_share, m_both_rounds, F_both_rounds.kp, b_both_rounds⟩
 have Cboth_stays : Cal l.prog w K mg base 4 "both_stays" ["many", "one", "other"] (spBK "stays") := ⟨f_both_stays, e_both_stays, ok_both_stays F_both_stays Cshare_of, m_both_stays, F_both_stays.kp, b_both_stays⟩
 have Cboth_rises : Cal l.prog w K mg base 4 "both_rises" ["many", "one", "other"] (spBK "rises") := ⟨f_both_rises, e_both_rises, ok_both_rises F_both_rises T, m_both_rises, F_both_rises.kp, b_both_rises⟩
 have Cboth_highs : Cal l.prog w K mg base 4 "both_highs" ["many", "one", "other"] (spBK "highs") := ⟨f_both_highs, e_both_highs, ok_both_highs F_both_highs Ctimes Chigh_share, m_both_highs, F_both_highs.kp, b_both_highs⟩
 have Cboth_crossed : Cal l.prog w K mg base 4 "both_crossed" ["many", "one", "other"] (spBK "crossed") := ⟨f_both_crossed, e_both_crossed, ok_both_crossed F_both_crossed , m_both_crossed, F_both_crossed.kp, b_both_crossed⟩
 have Cboth_share : Cal l.prog w K mg base 5 "both_share" ["kind", "many", "one", "other"] (spBothA) := ⟨f_both_share, e_both_share, ok_both_share F_both_share (PySem.W.mg_of X G a_BOTH_SHARES) GD_BOTH_SHARES (CalF.of Cboth_rounds (PySem.W.mg_of X G n_both_rounds) (by decide)) (CalF.of Cboth_stays (PySem.W.mg_of X G n_both_stays) (by decide)) (CalF.of Cboth_rises (PySem.W.mg_of X G n_both_rises) (by decide)) (CalF.of Cboth_highs (PySem.W.mg_of X G n_both_highs) (by decide)) (CalF.of Cboth_crossed (PySem.W.mg_of X G n_both_crossed) (by decide)) Cone_share, m_both_share, F_both_share.kp, b_both_share⟩
 have C_law_pot : Cal l.prog w K mg base 1 "_law_pot" ["_law_script", "_law_k"] (spPot2 K) := ⟨f__law_pot, e__law_pot, ok__law_pot F__law_pot T, m__law_pot, F__law_pot.kp, b__law_pot⟩
 have C_law_next : Cal l.prog w K mg base 1 "_law_next" ["_law_pot_here", "_law_many"] (spNext2) := ⟨f__law_next, e__law_next, ok__law_next F__law_next , m__law_next, F__law_next.kp, b__law_next⟩
 have C_law_of : Cal l.prog w K mg base 2 "_law_of" ["_law_pot_here", "_law_some"] (spOf2w) := ⟨f__law_of, e__law_of, ok__law_of F__law_of T C_law_next, m__law_of, F__law_of.kp, b__law_of⟩
 have C_law_same : Cal l.prog w K mg base 3 "_law_same" ["_law_one", "_law_two"] (spSameW 2) := ⟨f__law_same, e__law_same, ok__law_same F__law_same T TX m__law_same b__law_same 2, m__law_same, F__law_same.kp, b__law_same⟩
 have C_law_low : Cal l.prog w K mg base 1 "_law_low" ["_law_over", "_law_under"] (spLow) := ⟨f__law_low, e__law_low, ok__law_low F__law_low T, m__law_low, F__law_low.kp, b__law_low⟩
 have C_law_all : Cal l.prog w K mg base 1 "_law_all" ["_law_many"] (spAllI7) := ⟨f__law_all, e__law_all, ok__law_all F__law_all T, m__law_all, F__law_all.kp, b__law_all⟩
 have C_law_parts : Cal l.prog w K mg base 1 "_law_parts" ["_law_kind", "_law_many"] (spLawParts) := ⟨f__law_parts, e__law_parts, ok__law_parts F__law_parts T, m__law_parts, F__law_parts.kp, b__law_parts⟩
 have C_law_round : Cal l.prog w K mg base 1 "_law_round" ["_law_order", "_law_number"] (spRnd) := ⟨f__law_round, e__law_round, ok__law_round F__law_round , m__law_round, F__law_round.kp, b__law_round⟩
 have C_law_has : Cal l.prog w K mg base 2 "_law_has" ["_law_kind", "_law_part", "_law_order"] (spHas) := ⟨f__law_has, e__law_has, ok__law_has F__law_has T C_law_round, m__law_has, F__law_has.kp, b__law_has⟩
 have C_law_pair_share : Cal l.prog w K mg base 2 "_law_pair_share" ["_law_orders", "_law_had", "_law_one", "_law_other"] (spPairS) := ⟨f__law_pair_share, e__law_pair_share, ok__law_pair_share F__law_pair_share T C_law_low, m__law_pair_share, F__law_pair_share.kp, b__law_pair_share⟩
 have C_law_all_pairs_right : Cal l.prog w K mg base 6 "_law_all_pairs_right" ["_law_kind", "_law_many"] (spAllPR) := ⟨f__law_all_pairs_right, e__law_all_pairs_right, ok__law_all_pairs_right F__law_all_pairs_right T TY C_law_all C_law_parts C_law_has C_law_pair_share C_law_same Cboth_share, m__law_all_pairs_right, F__law_all_pairs_right.kp, b__law_all_pairs_right⟩
 have C_law_few : Cal l.prog w K mg base 1 "_law_few" ["_law_kind", "_law_one", "_law_other"] (spFew) := ⟨f__law_few, e__law_few, ok__law_few F__law_few T TY, m__law_few, F__law_few.kp, b__law_few⟩
 have C_law_far_due : Cal l.prog w K mg base 3 "_law_far_due" ["_law_kind", "_law_many", "_law_one", "_law_other"] (spBothA) := ⟨f__law_far_due, e__law_far_due, ok__law_far_due F__law_far_due T TY C_law_few C_law_all C_law_has C_law_pair_share, m__law_far_due, F__law_far_due.kp, b__law_far_due⟩
 exact ok_law F_law T C_law_pot C_law_next C_law_of C_law_same C_law_all_pairs_right C_law_parts C_law_far_due Cboth_share
theorem walk {l : PySem.W.OpenLaw} {q : Program} {loose : List Str} {XP : (Str -> Option Value) -> Heap -> Prop} {YP : World -> Heap -> Prop} {d : DefRec} {K : Params -> PySem.W.Frag} (hn : l.most = some 63) (hdf : d.params.defaults = [])
  (hY : ∀ (w : World) (h : Heap), YP w h -> (K w.params).In h)
  (F : ∀ (w : World) (mg : Str -> Option Value) (fa : Addr) (h : Heap), (K w.params).In h -> h.Ns mainGlobals mg -> mg d.name = some (.ref fa) ->
   ∃ fd : FuncData, (∀ (s : Shared) (u : Value), BindsTo s fd ⟨[u], []⟩ [("_law_script", u)]) /\ ∀ base : Heap, (K w.params).In base -> base.Ns mainGlobals mg -> FnOk l.prog w (K w.params) mg base CX0 7 fa fd ["_law_script"] (spLaw (K w.params))) :
  PySem.W.WalkO q loose XP YP l.row.toRowW d [] (fun f vs => PySem.call f vs) :=
 L2.walk_of (n := 63) (k := 7) (x := "_law_script") (CX := fun _ => CX0) (sp := fun w => spLaw (K w.params)) hn (by decide) hdf ⟨rfl, by decide, by decide, rfl⟩ hY F (fun _ _ a ns hl _ hS => ⟨a, ns, rfl, hS, hl, fun _ => rfl⟩) fun _ _ _ _ _ z => z
end K26
open PySem PySem.W PyProof.Rows
set_option maxRecDepth 100000 in
set_option maxHeartbeats 0 in
theorem PySem.Challenge.cw_shuffletold_k26_shares_of_two_parts_holds : PySem.Challenge.rw_shuffletold_k26_shares_of_two_parts.Holds := by
 w_on; o_law; k_head; (case hw => w_witness2)
 k_fill
 refine K26.walk (l := PySem.Challenge.rw_shuffletold_k26_shares_of_two_parts) rfl rfl (fun w h Y => PySem.W.kIn_of Y) ?F
 case F =>
  intro w mg fa h KX G hmg
  refine' K26.all_mk KX G hmg ⟨?_, ?_, ?_, ?_, ?_, ?_, ?_, ?_, ?_, ?_, ?_, ?_, ?_, ?_, ?_⟩ ⟨?_, ?_, ?_⟩ ⟨?_, ?_⟩ ?dA0 (L2.GDict.of ?dL0 ?dE0 ?dN0) ?dA1 (L2.GDict.of ?dL1 ?dE1 ?dN1) ?nF0 ?nF1 ?nF2 ?nF3 ?nF4 ?nF5 ?nF6 ?nF7 ?nF8 (L2.Def.of ?a0 ?l0 ?c0 ?k0) (L2.Def.of ?a1 ?l1 ?c1 ?k1) (L2.Def.of ?a2 ?l2 ?c2 ?k2) (L2.Def.of ?a3 ?l3 ?c3 ?k3) (L2.Def.of ?a4 ?l4 ?c4 ?k4) (L2.Def.of ?a5 ?l5 ?c5 ?k5) (L2.Def.of ?a6 ?l6 ?c6 ?k6) (L2.Def.of ?a7 ?l7 ?c7 ?k7) (L2.Def.of ?a8 ?l8 ?c8 ?k8) (L2.Def.of ?a9 ?l9 ?c9 ?k9) (L2.Def.of ?a10 ?l10 ?c10 ?k10) (L2.Def.of ?a11 ?l11 ?c11 ?k11) (L2.Def.of ?a12 ?l12 ?c12 ?k12) (L2.Def.of ?a13 ?l13 ?c13 ?k13) (L2.Def.of ?a14 ?l14 ?c14 ?k14) (L2.Def.of ?a15 ?l15 ?c15 ?k15) (L2.Def.of ?a16 ?l16 ?c16 ?k16) (L2.Def.of ?a17 ?l17 ?c17 ?k17) (L2.Def.of ?a18 ?l18 ?c18 ?k18) (L2.Def.of ?a19 ?l19 ?c19 ?k19) (L2.Def.of ?a20 ?l20 ?c20 ?k20) (L2.Def.of ?a21 ?l21 ?c21 ?k21) (L2.Def.of ?a22 ?l22 ?c22 ?k22) (L2.Def.of ?a23 ?l23 ?c23 ?k23) (L2.Def.of ?a24 ?l24 ?c24 ?k24) (L2.Def.of ?a25 ?l25 ?c25 ?k25) (L2.Def.of ?a26 ?l26 ?c26 ?k26) (L2.Def.of ?a27 ?l27 ?c27 ?k27)
  (case dA0 => k_is); (case dL0 => k_is); (case dE0 => exact (.cons (.cons (.cons (.cons (.cons .nil)))))); (case dN0 => decide +kernel)
  (case dA1 => k_is); (case dL1 => k_is); (case dE1 => exact (.cons (.cons (.cons (.cons (.cons .nil)))))); (case dN1 => decide +kernel)
  (case nF0 => k_is)
  (case nF1 => k_is)
  (case nF2 => k_is)
  (case nF3 => k_is)
  (case nF4 => k_is)
  (case nF5 => k_is)
  (case nF6 => k_is)
  (case nF7 => k_is)
  (case nF8 => k_is)
  (case a0 => k_is); (case l0 => k_is); (case c0 => k_is); (case k0 => k_is)
  (case a1 => k_is); (case l1 => k_is); (case c1 => k_is); (case k1 => k_is)
  (case a2 => k_is); (case l2 => k_is); (case c2 => k_is); (case k2 => k_is)
  (case a3 => k_is); (case l3 => k_is); (case c3 => k_is); (case k3 => k_is)
  (case a4 => k_is); (case l4 => k_is); (case c4 => k_is); (case k4 => k_is)
  (case a5 => k_is); (case l5 => k_is); (case c5 => k_is); (case k5 => k_is)
  (case a6 => k_is); (case l6 => k_is); (case c6 => k_is); (case k6 => k_is)
  (case a7 => k_is); (case l7 => k_is); (case c7 => k_is); (case k7 => k_is)
  (case a8 => k_is); (case l8 => k_is); (case c8 => k_is); (case k8 => k_is)
  (case a9 => k_is); (case l9 => k_is); (case c9 => k_is); (case k9 => k_is)
  (case a10 => k_is); (case l10 => k_is); (case c10 => k_is); (case k10 => k_is)
  (case a11 => k_is); (case l11 => k_is); (case c11 => k_is); (case k11 => k_is)
  (case a12 => k_is); (case l12 => k_is); (case c12 => k_is); (case k12 => k_is)
  (case a13 => k_is); (case l13 => k_is); (case c13 => k_is); (case k13 => k_is)
  (case a14 => k_is); (case l14 => k_is); (case c14 => k_is); (case k14 => k_is)
  (case a15 => k_is); (case l15 => k_is); (case c15 => k_is); (case k15 => k_is)
  (case a16 => k_is); (case l16 => k_is); (case c16 => k_is); (case k16 => k_is)
  (case a17 => k_is); (case l17 => k_is); (case c17 => k_is); (case k17 => k_is)
  (case a18 => k_is); (case l18 => k_is); (case c18 => k_is); (case k18 => k_is)
  (case a19 => k_is); (case l19 => k_is); (case c19 => k_is); (case k19 => k_is)
  (case a20 => k_is); (case l20 => k_is); (case c20 => k_is); (case k20 => k_is)
  (case a21 => k_is); (case l21 => k_is); (case c21 => k_is); (case k21 => k_is)
  (case a22 => k_is); (case l22 => k_is); (case c22 => k_is); (case k22 => k_is)
  (case a23 => k_is); (case l23 => k_is); (case c23 => k_is); (case k23 => k_is)
  (case a24 => k_is); (case l24 => k_is); (case c24 => k_is); (case k24 => k_is)
  (case a25 => k_is); (case l25 => k_is); (case c25 => k_is); (case k25 => k_is)
  (case a26 => k_is); (case l26 => k_is); (case c26 => k_is); (case k26 => k_is)
  (case a27 => k_is); (case l27 => k_is); (case c27 => k_is); (case k27 => k_is)
  all_goals k_is
