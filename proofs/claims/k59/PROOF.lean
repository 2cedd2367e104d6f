import PyProof.Rows.All
import Wide.All
import OpenK.AllK
import Wide.FinOn
import Lean
import PyProof.EqAt
import PyProof.EqKinds
import PyProof.TupleCall
import PySem.Challenge.RW_shuffletold_k59_fillings_counted
set_option Elab.async false
set_option linter.all false
set_option maxRecDepth 100000
set_option genSizeOfSpec false
namespace L2
open PySem PySem.Spec PyProof.Rows
noncomputable abbrev Key := Sum Int Str
noncomputable def keyIs : Key -> Value -> Bool
 | .inl k, v => Value.isInt k v
 | .inr x, v => Value.isStrOf x v
noncomputable def keyH (w : World) : Key -> Int
 | .inl k => hashInt k
 | .inr x => hashStr w x
theorem keyIs_shape : ∀ {k : Key} {v : Value}, keyIs k v = true -> (∃ i t, k = Sum.inl i /\ v = Value.int i t) ∨ (∃ x t, k = Sum.inr x /\ v = Value.str x t)
 | .inl i, v, h => by
  obtain ⟨t, e⟩ := Value.isInt_shape (k := i) (v := v) h
  exact .inl ⟨i, t, rfl, e⟩
 | .inr x, v, h => by
  obtain ⟨t, e⟩ := Value.isStrOf_shape (x := x) (v := v) h
  exact .inr ⟨x, t, rfl, e⟩
theorem keyIs_int (i : Int) (t : Tok) : keyIs (.inl i) (.int i t) = true := by simp [keyIs, Value.isInt]
theorem keyIs_str (x : Str) (t : Tok) : keyIs (.inr x) (.str x t) = true := by simp [keyIs, Value.isStrOf]
theorem key_ll (a b : Int) : decide ((Sum.inl a : Key) = Sum.inl b) = (a == b) := by
 by_cases e : a = b
 ·subst e; simp
 ·have h : ¬ (Sum.inl a : Key) = Sum.inl b := fun q => e (Sum.inl.inj q)
  rw [decide_eq_false h]
  exact (beq_eq_false_iff_ne.mpr e).symm
theorem key_rr (a b : Str) : decide ((Sum.inr a : Key) = Sum.inr b) = decide (a = b) := by
 by_cases e : a = b
 ·subst e; simp
 ·have h : ¬ (Sum.inr a : Key) = Sum.inr b := fun q => e (Sum.inr.inj q)
  rw [decide_eq_false h, decide_eq_false e]
theorem key_lr (a : Int) (b : Str) : decide ((Sum.inl a : Key) = Sum.inr b) = false := decide_eq_false (fun q => nomatch q)
theorem key_rl (a : Str) (b : Int) : decide ((Sum.inr a : Key) = Sum.inl b) = false := decide_eq_false (fun q => nomatch q)
noncomputable def mixKind (prog : Program) (w : World) : PySem.KeyKind prog w Key where
 is := keyIs
 hash := keyH w
 inj := fun v a b ha hb => by
  rcases keyIs_shape ha with ⟨i, t, rfl, rfl⟩ | ⟨x, t, rfl, rfl⟩
  ·rcases keyIs_shape hb with ⟨j, u, rfl, e⟩ | ⟨y, u, rfl, e⟩
   ·injection e with e1 _; rw [e1]
   ·exact nomatch e
  ·rcases keyIs_shape hb with ⟨j, u, rfl, e⟩ | ⟨y, u, rfl, e⟩
   ·exact nomatch e
   ·injection e with e1 _; rw [e1]
 byValue := fun k v h => by
  rcases keyIs_shape h with ⟨i, t, rfl, rfl⟩ | ⟨x, t, rfl, rfl⟩ <;> rfl
 pyHash := fun hv h => by
  rcases keyIs_shape hv with ⟨i, t, rfl, rfl⟩ | ⟨x, t, rfl, rfl⟩
  ·exact wpAny_pyHash_int h
  ·exact wpAny_pyHash_str h
 eqBool := fun hu hv h => by
  rcases keyIs_shape hu with ⟨i, t, rfl, rfl⟩ | ⟨x, t, rfl, rfl⟩
  ·rcases keyIs_shape hv with ⟨j, u, rfl, rfl⟩ | ⟨y, u, rfl, rfl⟩
   ·rw [key_ll] at h; exact wpAny_eqBool_int h
   ·rw [key_lr] at h; exact SeqAt.EqAt.int_str i t y u _ _ _ _ h
  ·rcases keyIs_shape hv with ⟨j, u, rfl, rfl⟩ | ⟨y, u, rfl, rfl⟩
   ·rw [key_rl] at h; exact SeqAt.EqAt.str_int x t j u _ _ _ _ h
   ·rw [key_rr] at h; exact wpAny_eqBool_str h
 «strs» := fun k x t v h => by
  rcases keyIs_shape h with ⟨i, u, rfl, e⟩ | ⟨y, u, rfl, e⟩
  ·exact nomatch e
  ·injection e with e1 _
   subst e1
   cases v <;> rfl
theorem mixKind_int (prog : Program) (w : World) (i : Int) (t : Tok) : (mixKind prog w).is (.inl i) (.int i t) = true := keyIs_int i t
theorem mixKind_str (prog : Program) (w : World) (x : Str) (t : Tok) : (mixKind prog w).is (.inr x) (.str x t) = true := keyIs_str x t
end L2
namespace L2
open PySem PySem.Spec PyProof.Rows
inductive V where
 | non | bl (b : Bool) | int (i : Int) | str (x : Str) | byt (b : Array UInt8) | flt (b : UInt64) | ref (a : Addr) | ty (n : String)
 deriving DecidableEq
noncomputable def RelV : V -> Value -> Prop
 | .non, u => u = Value.none
 | .bl b, u => u = Value.bool b
 | .int i, u => ∃ t, u = Value.int i t
 | .str x, u => ∃ t, u = Value.str x t
 | .byt b, u => ∃ t, u = Value.bytes b t
 | .flt b, u => ∃ t, u = Value.float b t
 | .ref a, u => u = Value.ref a
 | .ty n, u => u = Value.type n
noncomputable abbrev Vals : List V -> List Value -> Prop := Paired RelV
theorem Vals.length {xs : List V} {us : List Value} (r : Vals xs us) : xs.length = us.length := Paired.length r
theorem Vals.get : ∀ {xs : List V} {us : List Value} {i : Nat} {x : V}, Vals xs us -> xs[i]? = some x -> ∃ u, us[i]? = some u /\ RelV x u
 | _, _, _, _, .nil, e => by simp at e
 | _, _, 0, _, .cons r _, e => by simp at e; subst e; exact ⟨_, rfl, r⟩
 | _, _, i + 1, x, .cons _ t, e => by
  obtain ⟨u, h1, h2⟩ := Vals.get (i := i) (x := x) t (by simpa using e)
  exact ⟨u, by simpa using h1, h2⟩
theorem Vals.set {x : V} {u : Value} (r : RelV x u) : ∀ {xs : List V} {us : List Value} (i : Nat), Vals xs us -> Vals (xs.set i x) (us.set i u)
 | _, _, _, .nil => .nil
 | _, _, 0, .cons _ t => .cons r t
 | _, _, i + 1, .cons q t => .cons q (Vals.set r i t)
theorem Vals.append : ∀ {xs ys : List V} {us ws : List Value}, Vals xs us -> Vals ys ws -> Vals (xs ++ ys) (us ++ ws)
 | _, _, _, _, .nil, s => s
 | _, _, _, _, .cons r t, s => .cons r (Vals.append t s)
theorem Vals.take : ∀ {xs : List V} {us : List Value} (n : Nat), Vals xs us -> Vals (xs.take n) (us.take n)
 | _, _, 0, _ => .nil
 | _, _, _ + 1, .nil => .nil
 | _, _, n + 1, .cons r t => .cons r (Vals.take n t)
theorem Vals.drop : ∀ {xs : List V} {us : List Value} (n : Nat), Vals xs us -> Vals (xs.drop n) (us.drop n)
 | _, _, 0, r => r
 | _, _, _ + 1, .nil => .nil
 | _, _, n + 1, .cons _ t => Vals.drop n t
noncomputable def RelO : Option V -> Option Value -> Prop
 | some v, some u => RelV v u
 | none, none => True
 | _, _ => False
noncomputable def KV {κ : Type} : List (κ × V) -> List (κ × Value) -> Prop := Paired fun (p : κ × V) (q : κ × Value) => p.1 = q.1 /\ RelV p.2 q.2
noncomputable def kV : Key -> V
 | .inl i => .int i
 | .inr x => .str x
inductive HO where
  | lst (xs : List V)
  | tup (xs : List V)
  | dK (kvs : List (Key × V)) | dT (kvs : List (List Key × V))
  | set (S : Int -> Bool) (n : Nat)
  | ins (C dx : Addr) (fs : List (Str × V))
  | own (x : Addr)
  | xd (fs : List (Str × V))
  | met (f x : Addr)
  | rng (lo hi : Int)
  | frz (o : Obj) (u : HO)
  | tbl (ps : Array Value)
  | ext (φ : Heap -> Prop)
noncomputable abbrev Hp := Addr -> Option HO
noncomputable def upd (H : Hp) (a : Addr) (o : HO) : Hp := fun b => if b = a then some o else H b
theorem upd_same {H : Hp} {a : Addr} {o : HO} : upd H a o a = some o := by unfold upd; rw [if_pos rfl]
theorem upd_ne {H : Hp} {a b : Addr} {o : HO} (h : b ≠ a) : upd H a o b = H b := by unfold upd; rw [if_neg h]
theorem upd_upd {H : Hp} {a : Addr} {o u : HO} : upd (upd H a o) a u = upd H a u := by
 funext b; unfold upd; split <;> rfl
theorem ne_of {H : Hp} {a b : Addr} {o u : HO} (h : H a = some o) (h' : H b = some u) (d : o ≠ u) : a ≠ b := by
 intro e; subst e; rw [h] at h'; exact d (Option.some.inj h')
theorem ne_of_none {H : Hp} {a b : Addr} {o : HO} (h : H a = some o) (h' : H b = none) : a ≠ b := by
 intro e; subst e; rw [h] at h'; cases h'
noncomputable def PTup (h : Heap) (a : Addr) (items : Array Value) : Prop := ∃ o, h.get? a = some o /\ o.cls = .type "tuple" /\ (∃ n, o.data = .seq items n) /\ o.dict = none /\ o.slots = #[]
theorem PTup.tup {h : Heap} {a : Addr} {items : Array Value} (p : PTup h a items) : IsTup h a items := by
 obtain ⟨o, e, c, d, _⟩ := p
 exact ⟨o, e, c, d⟩
theorem PTup.new {h : Heap} {items : Array Value} {n : Nat} : PTup (h.push { cls := .type "tuple", data := .seq items n }) h.objs.size items := ⟨_, Heap.get?_push_size _ rfl, rfl, ⟨_, rfl⟩, rfl, rfl⟩
section
variable (P : Program) (w : World)
noncomputable def ObjOk (H : Hp) (h : Heap) (a : Addr) : HO -> Prop
 | .lst xs => xs.length <= sizeLine /\ ∃ (its : List Value) (n : Nat), Vals xs its /\ h.get? a = some { cls := .type "list", data := .seq its.toArray n }
 | .tup xs => xs.length <= sizeLine /\ ∃ its : List Value, Vals xs its /\ PTup h a its.toArray
 | .dK kvs => kvs.length <= sizeLine /\ (a == sysModules) = false /\ ∃ vs, KV kvs vs /\ h.DictOf (mixKind P w) a vs
 | .dT kvs => kvs.length <= sizeLine /\ (a == sysModules) = false /\ ∃ xs : List (List Key × Addr × Value),
   Paired (fun (p : List Key × V) (q : List Key × Addr × Value) => p.1 = q.1 /\ H q.2.1 = some (.tup (p.1.map kV)) /\ RelV p.2 q.2.2) kvs xs /\
   ∃ o es ep, h.get? a = some o /\ o.ExactDict /\ o.data = .dict es ep /\ es.toList = xs.map (entryOfKey (tupleKind (mixKind P w))) /\ (xs.map (·.1)).Nodup
 | .set S n => h.SetOf (intKind P w) a S n
 | .ins C dx fs => H dx = some (.own a) /\ fs.length <= 1000 /\ dx ≠ a /\ h.get? a = some (PySem.W.instObj C dx) /\
   ∃ mA, h.Ns1 dx mA /\ (∀ f, RelO (fs.lookup f) (mA f)) /\ PySem.Within mA (fs.map (·.1))
 | .own _ => ∃ o, h.get? a = some o
 | .xd fs => ∃ mA, h.Ns1 a mA /\ ∀ f, RelO (fs.lookup f) (mA f)
 | .rng lo hi => ∃ t u v, h.get? a = some { cls := .type "range", data := .fields #[.int lo t, .int hi u, .int 1 v] }
 | .frz o u => h.get? a = some o /\ ObjOk H h a u
 | .tbl ps => h.get? a = some { cls := .none, data := .fields ps }
 | .met f x => h.get? a = some (PySem.W.methodObj (.ref f) (.ref x))
 | .ext φ => φ h /\ (∃ o, h.get? a = some o) /\ ∀ h1 h2 : Heap, φ h1 -> (∀ o, h1.get? a = some o -> h2.get? a = some o) -> φ h2
noncomputable def HOk (H : Hp) (h : Heap) : Prop := ∀ a o, H a = some o -> ObjOk P w H h a o
end
section
variable {P : Program} {w : World} {H H' : Hp} {h h' : Heap} {a : Addr} {o : HO}
theorem ObjOk.lt (x : ObjOk P w H h a o) : a < h.objs.size := by
 cases o with
 | lst xs => obtain ⟨_, _, _, _, e⟩ := x; exact Heap.lt_size e
 | tup xs => obtain ⟨_, _, _, p⟩ := x; exact p.tup.lt
 | dK kvs => obtain ⟨_, _, _, _, o, _, _, e, _⟩ := x; exact Heap.lt_size e
 | dT kvs => obtain ⟨_, _, _, _, o, _, _, e, _⟩ := x; exact Heap.lt_size e
 | set S n => obtain ⟨o, _, _, _, e, _⟩ := x; exact Heap.lt_size e
 | ins C dx fs => obtain ⟨_, _, _, e, _⟩ := x; exact Heap.lt_size e
 | own y => obtain ⟨_, e⟩ := x; exact Heap.lt_size e
 | xd fs => obtain ⟨_, ⟨_, _, _, e, _⟩, _⟩ := x; exact Heap.lt_size e
 | rng lo hi => obtain ⟨_, _, _, e⟩ := x; exact Heap.lt_size e
 | frz ob u => obtain ⟨e, _⟩ := x; exact Heap.lt_size e
 | tbl ps => exact Heap.lt_size (show h.get? a = some _ from x)
 | met f y => exact Heap.lt_size (show h.get? a = some _ from x)
 | ext φ => obtain ⟨_, ⟨_, e⟩, _⟩ := x; exact Heap.lt_size e
theorem Paired.mapP {α β : Type} {F G : α -> β -> Prop} : ∀ {l₁ : List α} {l₂ : List β}, Paired F l₁ l₂ -> (∀ a b, F a b -> G a b) -> Paired G l₁ l₂
 | _, _, .nil, _ => .nil
 | _, _, .cons r t, f => .cons (f _ _ r) (Paired.mapP t f)
theorem ObjOk.stay (x : ObjOk P w H h a o) (k : ∀ b u, (b = a ∨ H b = some (.own a)) -> h.get? b = some u -> h'.get? b = some u)
  (ho : ∀ b, H b = some (.own a) -> H' b = some (.own a)) (ht : ∀ b xs, H b = some (.tup xs) -> H' b = some (.tup xs)) : ObjOk P w H' h' a o := by
 induction o with
 | lst xs => obtain ⟨z, its, n, r, e⟩ := x; exact ⟨z, its, n, r, k _ _ (.inl rfl) e⟩
 | tup xs => obtain ⟨z, its, r, ob, e, c⟩ := x; exact ⟨z, its, r, ob, k _ _ (.inl rfl) e, c⟩
 | dK kvs => obtain ⟨z, y, vs, r, ob, es, ep, e, c⟩ := x; exact ⟨z, y, vs, r, ob, es, ep, k _ _ (.inl rfl) e, c⟩
 | dT kvs =>
  obtain ⟨z, y, xs, r, ob, es, ep, e, c⟩ := x
  exact ⟨z, y, xs, Paired.mapP r fun p q z => ⟨z.1, ht _ _ z.2.1, z.2.2⟩, ob, es, ep, k _ _ (.inl rfl) e, c⟩
 | set S n => obtain ⟨ob, es, ep, t, e, c⟩ := x; exact ⟨ob, es, ep, t, k _ _ (.inl rfl) e, c⟩
 | ins C dx fs =>
  obtain ⟨d, z, ne, e, mA, ⟨od, es, ep, e2, c⟩, r⟩ := x
  exact ⟨ho _ d, z, ne, k _ _ (.inl rfl) e, mA, ⟨od, es, ep, k _ _ (.inr d) e2, c⟩, r⟩
 | own y => obtain ⟨ob, e⟩ := x; exact ⟨ob, k _ _ (.inl rfl) e⟩
 | xd fs => obtain ⟨mA, ⟨od, es, ep, e, c⟩, r⟩ := x; exact ⟨mA, ⟨od, es, ep, k _ _ (.inl rfl) e, c⟩, r⟩
 | rng lo hi => obtain ⟨t, u, v, e⟩ := x; exact ⟨t, u, v, k _ _ (.inl rfl) e⟩
 | frz ob u ih => obtain ⟨e, q⟩ := x; exact ⟨k _ _ (.inl rfl) e, ih q⟩
 | tbl ps =>
  have e : h.get? a = some { cls := .none, data := .fields ps } := x
  show h'.get? a = some { cls := .none, data := .fields ps }
  exact k a _ (.inl rfl) e
 | met f y =>
  have e : h.get? a = some (PySem.W.methodObj (.ref f) (.ref y)) := x
  show h'.get? a = some (PySem.W.methodObj (.ref f) (.ref y))
  exact k a _ (.inl rfl) e
 | ext φ => obtain ⟨p, ⟨o, e⟩, st⟩ := x; exact ⟨st _ _ p fun o q => k _ _ (.inl rfl) q, ⟨o, k _ _ (.inl rfl) e⟩, st⟩
theorem HOk.lt (x : HOk P w H h) (e : H a = some o) : a < h.objs.size := (x a o e).lt
theorem HOk.fresh (x : HOk P w H h) (e : h.objs.size <= a) : H a = none := by
 cases q : H a with
 | none => rfl
 | some u => exact absurd (Nat.lt_of_lt_of_le (x.lt q) e) (Nat.lt_irrefl _)
theorem HOk.kept (x : HOk P w H h) (k : ∀ b u, h.get? b = some u -> h'.get? b = some u) : HOk P w H h' := fun a o e =>
 (x a o e).stay (fun b u _ q => k b u q) (fun _ q => q) fun _ _ q => q
theorem HOk.laid (x : HOk P w H h) (k : ∀ b u, h.get? b = some u -> h'.get? b = some u) (hp : h.objs.size <= a) (new : ObjOk P w (upd H a o) h' a o) : HOk P w (upd H a o) h' := fun b u e => by
 have hn := x.fresh hp
 by_cases hb : b = a
 ·subst hb; rw [upd_same] at e; cases e; exact new
 ·rw [upd_ne hb] at e
  exact (x b u e).stay (fun c v _ q => k c v q) (fun c q => by rw [upd_ne (ne_of_none q hn)]; exact q) fun c xs q => by rw [upd_ne (ne_of_none q hn)]; exact q
end
noncomputable def Rd (H : Hp) (a : Addr) (u : HO) : Prop := H a = some u ∨ ∃ o, H a = some (.frz o u)
theorem Rd.ok {P : Program} {w : World} {H : Hp} {h : Heap} {a : Addr} {u : HO} (r : Rd H a u) (x : HOk P w H h) : ObjOk P w H h a u := by
 rcases r with r | ⟨o, r⟩
 ·exact x a u r
 ·obtain ⟨_, q⟩ := x a _ r
  exact q
noncomputable def Mut : Option HO -> Prop
 | some (.lst _) => True
 | some (.dK _) => True
 | some (.dT _) => True
 | some (.set _ _) => True
 | some (.ins _ _ _) => True
 | some (.ext _) => True
 | _ => False
section
variable {P : Program} {w : World} {H : Hp} {h h' : Heap} {x e : Addr} {o' : HO}
theorem HOk.write (ok : HOk P w H h) (mu : Mut (H x)) (he : e = x ∨ H e = some (.own x)) (k : ∀ b u, b ≠ e -> h.get? b = some u -> h'.get? b = some u) (heo : ∃ u, h'.get? e = some u)
  (new : ObjOk P w (upd H x o') h' x o') : HOk P w (upd H x o') h' := fun b u q => by
 have nown : ∀ c y, H c = some (.own y) -> c ≠ x := fun c y r z => by subst z; rw [r] at mu; exact mu
 have ntup : ∀ c xs, H c = some (.tup xs) -> c ≠ x := fun c xs r z => by subst z; rw [r] at mu; exact mu
 by_cases hb : b = x
 ·subst hb; rw [upd_same] at q; cases q; exact new
 ·rw [upd_ne hb] at q
  by_cases hbe : b = e
  ·have q' : H b = some (.own x) := by
    rcases he with z | z
    ·exact absurd (hbe.trans z) hb
    ·rw [hbe]; exact z
   rw [q] at q'; cases q'
   obtain ⟨v, hv⟩ := heo
   exact ⟨v, by rw [hbe]; exact hv⟩
  ·refine (ok b u q).stay (fun c v hc r => k c v ?_ r) (fun c r => by rw [upd_ne (nown c b r)]; exact r) fun c xs r => by rw [upd_ne (ntup c xs r)]; exact r
   rcases hc with rfl | hc
   ·exact hbe
   ·rintro rfl
    rcases he with z | z
    ·exact nown c b hc z
    ·rw [hc] at z; cases z; exact hb rfl
end
structure Un (fs ex : List Addr) (H H' : Hp) (h h' : Heap) : Prop where
 keep : ∀ b o, h.get? b = some o -> H b = none -> b ∉ fs -> b ∉ ex -> h'.get? b = some o
 slot : ∀ b o, h.get? b = some o -> H b = none -> b ∈ fs -> b ∉ ex -> ∃ sl, h'.get? b = some { o with slots := sl }
 free : ∀ b o, h.get? b = some o -> H b = none -> b ∉ ex -> H' b = none
 there : ∀ b o, h.get? b = some o -> b ∉ ex -> ∃ o', h'.get? b = some o'
 tups : ∀ b xs, H b = some (.tup xs) -> H' b = some (.tup xs)
 frzs : ∀ b o u, H b = some (.frz o u) -> H' b = some (.frz o u)
 tbls : ∀ b ps, H b = some (.tbl ps) -> ∃ more, H' b = some (.tbl (ps ++ more))
section
variable {fs fs' ex ex' : List Addr} {H H1 H2 : Hp} {h h1 h2 h' : Heap} {a x e : Addr} {o : HO}
theorem Un.any (u : Un fs ex H H1 h h1) {b : Addr} {ob : Obj} (q : h.get? b = some ob) (n : H b = none) (hx : b ∉ ex) : ∃ sl, h1.get? b = some { ob with slots := sl } := by
 by_cases hb : b ∈ fs
 ·exact u.slot b ob q n hb hx
 ·exact ⟨ob.slots, u.keep b ob q n hb hx⟩
theorem Un.kept (k : ∀ b u, h.get? b = some u -> h'.get? b = some u) : Un fs ex H H h h' :=
 ⟨fun b ob q _ _ _ => k b ob q, fun b ob q _ _ _ => ⟨ob.slots, k b ob q⟩, fun _ _ _ n _ => n, fun b ob q _ => ⟨ob, k b ob q⟩, fun _ _ q => q, fun _ _ _ q => q, fun _ ps q => ⟨#[], by rw [q]; simp⟩⟩
theorem Un.refl : Un fs ex H H h h := Un.kept fun _ _ q => q
theorem Un.laid (k : ∀ b u, h.get? b = some u -> h'.get? b = some u) (hp : h.objs.size <= a) (hn : H a = none) : Un fs ex H (upd H a o) h h' where
 keep := fun b u q _ _ _ => k b u q
 slot := fun b u q _ _ _ => ⟨u.slots, k b u q⟩
 free := fun b u q n _ => by rw [upd_ne (Nat.ne_of_lt (Nat.lt_of_lt_of_le (Heap.lt_size q) hp))]; exact n
 there := fun b u q _ => ⟨u, k b u q⟩
 tups := fun b xs q => by rw [upd_ne (ne_of_none q hn)]; exact q
 frzs := fun b u xs q => by rw [upd_ne (ne_of_none q hn)]; exact q
 tbls := fun b ps q => ⟨#[], by rw [upd_ne (ne_of_none q hn), q]; simp⟩
theorem Un.write (mu : Mut (H x)) (he : e = x ∨ H e = some (.own x)) (k : ∀ b u, b ≠ e -> h.get? b = some u -> h'.get? b = some u) (heo : ∃ u, h'.get? e = some u) : Un fs ex H (upd H x o) h h' := by
 have hx : ∀ b, H b = none -> b ≠ x := fun b n z => by subst z; rw [n] at mu; exact mu
 have hb : ∀ b, H b = none -> b ≠ e := fun b n z => by
  subst z
  rcases he with r | r
  ·exact hx b n r
  ·rw [n] at r; cases r
 have hm : ∀ b u, H b = some u -> ¬ Mut (some u) -> b ≠ x := fun b u q nm z => by subst z; rw [q] at mu; exact nm mu
 refine ⟨fun b u q n _ _ => k b u (hb b n) q, fun b u q n _ _ => ⟨u.slots, k b u (hb b n) q⟩, fun b u q n _ => by rw [upd_ne (hx b n)]; exact n, fun b u q _ => ?_,
  fun b xs q => by rw [upd_ne (hm b _ q fun z => z)]; exact q, fun b u xs q => by rw [upd_ne (hm b _ q fun z => z)]; exact q, fun b ps q => ⟨#[], by rw [upd_ne (hm b _ q fun z => z), q]; simp⟩⟩
 by_cases hbe : b = e
 ·subst hbe; exact heo
 ·exact ⟨u, k b u hbe q⟩
end
noncomputable def trk (h : Heap) (H : Hp) : List Addr := (List.range h.objs.size).filter fun a => (H a).isSome
noncomputable def hidT (h : Heap) (H : Hp) : Heap := PySem.W.hideAll h (trk h H)
theorem hidT_size (h : Heap) (H : Hp) : (hidT h H).objs.size = h.objs.size := PySem.W.hideAll_size _ _
theorem hidT_get {h : Heap} {H : Hp} {b : Addr} {o : Obj} (e : h.get? b = some o) (n : H b = none) : (hidT h H).get? b = some o :=
 PySem.W.hideAll_get _ e fun hm => by
  have q : (H b).isSome = true := (List.mem_filter.mp hm).2
  rw [n] at q; simp at q
theorem of_hidT {h : Heap} {H : Hp} {b : Addr} {o : Obj} (e : (hidT h H).get? b = some o) : h.get? b = some o /\ H b = none := by
 have e' : h.get? b = some o := PySem.W.of_hideAll (trk h H) e
 refine ⟨e', ?_⟩
 cases q : H b with
 | none => rfl
 | some x =>
  have hm : b ∈ trk h H := List.mem_filter.mpr ⟨List.mem_range.mpr (Heap.lt_size e'), by simp [q]⟩
  have z : (hidT h H).get? b = none := PySem.W.hideAll_none (trk h H) hm
  rw [z] at e; cases e
noncomputable def allNews (g h : Heap) (L : Addr) : List (Addr × Obj) := (List.range h.objs.size).filterMap fun a => if a = L ∨ (g.get? a).isSome = true then none else (h.get? a).map fun o => (a, o)
noncomputable def rest (g h : Heap) (L d : Addr) : List (Addr × Obj) := (allNews g h L).filter fun p => decide (p.1 ≠ d)
end L2
namespace L2
open PySem PySem.Spec PyProof.Rows
structure Mod (K : PySem.W.Frag) (mg : Str -> Option Value) (base : Heap) : Prop where
 kin : K.In base
 glob : base.Ns mainGlobals mg
 blt : ∃ mb, base.Ns builtinsNs mb /\ ∀ x : Str, x ≠ "__name__" -> mb x = bootBuiltins x
 nolimit : base.NoLimit
structure Cx where
 prog : Program
 w : World
 K : PySem.W.Frag
 mg : Str -> Option Value
 base : Heap
 A : Around
 N : List Str
 s₀ : Shared
 H₀ : Hp
 env : Env
 outer : List Env
 stack : List Env
 ex : List Addr
 fn : Str -> Bool
 calm : Bool
 pn : List (Addr × Obj)
 xe : Value -> Shared -> Prop
noncomputable def frs (l : List Env) : List Addr := l.filterMap (·.frame)
noncomputable abbrev Cx.fs (X : Cx) : List Addr := frs X.outer
noncomputable def Vis (sc : Scope) (x : Str) : Prop := sc.names.lookup x = some .local ∨ sc.names.lookup x = some .cell ∨ sc.names.lookup x = some .free
noncomputable def Loc (sc : Scope) (x : Str) : Prop := sc.names.lookup x = some .local ∨ sc.names.lookup x = some .cell
noncomputable def Look (env : Env) (h : Heap) (m : Str -> Option Value) (x : Str) (u : Value) : Prop :=
 (env.kindOf x = some .local /\ m x = some u) ∨ ((env.kindOf x = some .cell ∨ env.kindOf x = some .free) /\ ∃ c, env.cells.lookup x = some c /\ h.IsCell c (some u))
structure Cx.Ok (X : Cx) : Prop where
 mod : Mod X.K X.mg X.base
 kind : X.env.scope.kind = .function
 glob : X.env.globals = mainGlobals
 blt : X.env.builtins = builtinsNs
 above : X.s₀.heap.objs.size <= X.env.locals
 inj : ∀ x y c, X.env.cells.lookup x = some c -> X.env.cells.lookup y = some c -> x = y
 has : ∀ x, (X.env.kindOf x = some .cell ∨ X.env.kindOf x = some .free) -> ∃ c, X.env.cells.lookup x = some c
 cab : ∀ x c, X.fn x = true -> X.env.cells.lookup x = some c -> X.s₀.heap.objs.size <= c
 hd : X.calm = true -> X.A.handled = none
 frames : X.A.frames = some X.stack
 stk : X.stack = X.outer ∨ (X.stack = X.env :: X.outer /\ X.env.frame = some X.env.locals)
 exf : ∀ b ∈ X.ex, b ≠ X.env.locals /\ ∀ x c, X.env.cells.lookup x = some c -> c ≠ b
 bs : ∀ b o, X.base.get? b = some o -> X.s₀.heap.get? b = some o /\ X.H₀ b = none
 bsz : X.base.objs.size <= X.s₀.heap.objs.size
 noex : ∀ b o, X.base.get? b = some o -> b ∉ X.ex
 exfs : ∀ b ∈ X.ex, b ∉ X.fs
 funs : X.s₀.heap.FunFrames X.base X.outer
 frf : ∀ b ∈ X.fs, X.H₀ b = none
structure Inv (X : Cx) (pins : List (Addr × Obj)) (σ : List (Option V)) (H : Hp) (s : Shared) : Prop where
 ok : X.Ok
 os : s.os = X.s₀.os
 bare : AllBare s.gens
 base : Un X.fs X.ex X.H₀ H X.s₀.heap s.heap
 loc : ∃ m, s.heap.Ns X.env.locals m /\ ∀ (i : Nat) (x : Str) (v : V), X.N[i]? = some x -> σ[i]? = some (some v) -> Vis X.env.scope x -> ∃ u, RelV v u /\ Look X.env s.heap m x u
 cell : ∀ x c, X.env.cells.lookup x = some c -> ∃ v, s.heap.IsCell c v
 free : H X.env.locals = none
 freeC : ∀ x c, X.env.cells.lookup x = some c -> H c = none
 pin : ∀ p ∈ X.pn ++ pins, s.heap.get? p.1 = some p.2 /\ H p.1 = none /\ p.1 ≠ X.env.locals /\ p.1 ∉ X.fs /\ ∀ v, p.2.data ≠ .cell v
 hok : HOk X.prog X.w H s.heap
 len : σ.length = X.N.length
section
variable {X : Cx} {pins : List (Addr × Obj)} {σ : List (Option V)} {H H' : Hp} {s : Shared} {h' : Heap}
theorem Cx.Ok.nofr (ok : X.Ok) {b : Addr} {o : Obj} (e : X.base.get? b = some o) : b ∉ X.fs := fun hb => by
 have := (ok.funs.mem hb).1
 rw [e] at this; cases this
theorem Inv.bs (I : Inv X pins σ H s) : ∀ b o, X.base.get? b = some o -> s.heap.get? b = some o /\ H b = none := fun b o e =>
 ⟨I.base.keep b o (I.ok.bs b o e).1 (I.ok.bs b o e).2 (I.ok.nofr e) (I.ok.noex b o e), I.base.free b o (I.ok.bs b o e).1 (I.ok.bs b o e).2 (I.ok.noex b o e)⟩
theorem Inv.bk (I : Inv X pins σ H s) : ∀ b o, X.base.get? b = some o -> s.heap.get? b = some o := fun b o e => (I.bs b o e).1
theorem Inv.mod (I : Inv X pins σ H s) : Mod X.K X.mg X.base := I.ok.mod
theorem Inv.kIn (I : Inv X pins σ H s) : X.K.In s.heap := I.ok.mod.kin.keeps I.bk
theorem Inv.lt (I : Inv X pins σ H s) : X.env.locals < s.heap.objs.size := let ⟨_, hn, _⟩ := I.loc; hn.lt
theorem Inv.sz (I : Inv X pins σ H s) : X.s₀.heap.objs.size <= s.heap.objs.size := Nat.le_trans I.ok.above (Nat.le_of_lt I.lt)
theorem Inv.nofs (I : Inv X pins σ H s) {a : Addr} (h : s.heap.objs.size <= a) : a ∉ X.fs := fun hb => by
 obtain ⟨_, o, ho, _⟩ := I.ok.funs.mem hb
 exact absurd (Nat.lt_of_lt_of_le (Heap.lt_size ho) (Nat.le_trans I.sz h)) (Nat.lt_irrefl _)
theorem Inv.cne (I : Inv X pins σ H s) : ∀ x c, X.env.cells.lookup x = some c -> c ≠ X.env.locals := fun x c e z => by
 obtain ⟨v, o, ho, hd⟩ := I.cell x c e
 obtain ⟨m, ⟨o', es, ep, ho', hd', _⟩, _⟩ := I.loc
 rw [z, ho'] at ho; cases ho; rw [hd'] at hd; cases hd
theorem Inv.funs (I : Inv X pins σ H s) : s.heap.FunFrames X.base X.outer := by
 have all : ∀ (l : List Env), (∀ b ∈ frs l, b ∈ X.fs) -> X.s₀.heap.FunFrames X.base l -> s.heap.FunFrames X.base l := by
  intro l
  induction l with
  | nil => intro _ _; trivial
  | cons env r ih =>
   intro hs hl
   obtain ⟨hk, ⟨L, o, hf, hn, ho, hd⟩, hr⟩ := hl
   have hL : L ∈ X.fs := hs L (by unfold frs; rw [List.filterMap_cons, hf]; exact List.mem_cons_self)
   obtain ⟨sl, e⟩ := I.base.slot L o ho (I.ok.frf L hL) hL fun z => I.ok.exfs L z hL
   exact ⟨hk, ⟨L, _, hf, hn, e, hd⟩, ih (fun b hb => hs b (by unfold frs; rw [List.filterMap_cons, hf]; exact List.mem_cons_of_mem _ hb)) hr⟩
 exact all X.outer (fun _ hb => hb) I.ok.funs
theorem Inv.stack (I : Inv X pins σ H s) : s.heap.FunFrames X.base X.stack := by
 rcases I.ok.stk with e | ⟨e, hf⟩
 ·rw [e]; exact I.funs
 ·rw [e]
  obtain ⟨m, hn, _⟩ := I.loc
  refine .cons (by rw [I.ok.kind]; decide) hf hn ?_ I.funs
  exact Heap.get?_none_of_le (Nat.le_trans I.ok.bsz I.ok.above)
theorem Inv.stkSub (I : Inv X pins σ H s) : ∀ b ∈ frs X.stack, b ∈ X.env.locals :: X.fs := fun b hb => by
 rcases I.ok.stk with e | ⟨e, hf⟩
 ·rw [e] at hb; exact List.mem_cons_of_mem _ hb
 ·rw [e] at hb
  unfold frs at hb
  rw [List.filterMap_cons, hf] at hb
  exact hb
theorem Inv.stkFree (I : Inv X pins σ H s) : ∀ b ∈ frs X.stack, H b = none := fun b hb => by
 rcases List.mem_cons.mp (I.stkSub b hb) with e | hb
 ·rw [e]; exact I.free
 ·obtain ⟨_, o, ho, _⟩ := I.ok.funs.mem hb
  exact I.base.free b o ho (I.ok.frf b hb) fun z => I.ok.exfs b z hb
theorem Inv.step {g' : Array GenState} {t' : Nat} {d' : Drawn} {ch : List Addr} (I : Inv X pins σ H s)
  (hch : ∀ b ∈ ch, (b ∈ X.ex ∨ X.s₀.heap.objs.size <= b) /\ b ≠ X.env.locals /\ (∀ x c, X.env.cells.lookup x = some c -> c ≠ b) /\ ∀ p ∈ X.pn ++ pins, p.1 ≠ b)
  (keep : ∀ b o, b ≠ X.env.locals -> b ∉ X.fs -> b ∉ ch -> s.heap.get? b = some o -> H b = none -> h'.get? b = some o)
  (slot : ∀ b o, b ≠ X.env.locals -> b ∈ X.fs -> b ∉ ch -> s.heap.get? b = some o -> H b = none -> ∃ sl, h'.get? b = some { o with slots := sl }) (free : ∀ b o, b ∉ ch -> s.heap.get? b = some o -> H b = none -> H' b = none)
  (there : ∀ b o, b ∉ ch -> s.heap.get? b = some o -> ∃ o', h'.get? b = some o')
  (tups : ∀ b xs, H b = some (.tup xs) -> H' b = some (.tup xs)) (frzs : ∀ b o u, H b = some (.frz o u) -> H' b = some (.frz o u)) (tbls : ∀ b ps, H b = some (.tbl ps) -> ∃ more, H' b = some (.tbl (ps ++ more)))
  (ns : ∀ m, s.heap.Ns X.env.locals m -> h'.Ns X.env.locals m) (hok : HOk X.prog X.w H' h') (hg : AllBare g') :
  Inv X pins σ H' { s with heap := h', gens := g', drawn := d', toks := t' } := by
 have neL : ∀ b o, X.s₀.heap.get? b = some o -> b ≠ X.env.locals := fun b o e => Nat.ne_of_lt (Nat.lt_of_lt_of_le (Heap.lt_size e) I.ok.above)
 have neC : ∀ b o, X.s₀.heap.get? b = some o -> b ∉ X.ex -> b ∉ ch := fun b o e hx hb => by
  rcases (hch b hb).1 with z | z
  ·exact hx z
  ·exact absurd (Nat.lt_of_lt_of_le (Heap.lt_size e) z) (Nat.lt_irrefl _)
 have cellK : ∀ x c, X.env.cells.lookup x = some c -> ∀ v, s.heap.IsCell c v -> h'.IsCell c v := fun x c e v ⟨o, ho, hd⟩ => by
  have nch : c ∉ ch := fun z => (hch c z).2.2.1 x c e rfl
  by_cases hc : c ∈ X.fs
  ·obtain ⟨sl, q⟩ := slot c o (I.cne x c e) hc nch ho (I.freeC x c e)
   exact ⟨_, q, hd⟩
  ·exact ⟨o, keep c o (I.cne x c e) hc nch ho (I.freeC x c e), hd⟩
 refine ⟨I.ok, I.os, hg, ⟨fun b o e n hb hx => ?_, fun b o e n hb hx => ?_, fun b o e n hx => ?_, fun b o e hx => ?_, fun b xs e => tups b xs (I.base.tups b xs e), fun b o xs e => frzs b o xs (I.base.frzs b o xs e), fun b ps e => ?_⟩, ?_, fun x c e => ?_, ?_, fun x c e => ?_, fun p hp => ?_, hok, I.len⟩
 ·exact keep b o (neL b o e) hb (neC b o e hx) (I.base.keep b o e n hb hx) (I.base.free b o e n hx)
 ·obtain ⟨sl, e1⟩ := I.base.slot b o e n hb hx
  obtain ⟨sl', e2⟩ := slot b _ (neL b o e) hb (neC b o e hx) e1 (I.base.free b o e n hx)
  exact ⟨sl', e2⟩
 ·obtain ⟨o', e1⟩ := I.base.there b o e hx
  exact free b o' (neC b o e hx) e1 (I.base.free b o e n hx)
 ·obtain ⟨o', e1⟩ := I.base.there b o e hx
  exact there b o' (neC b o e hx) e1
 ·obtain ⟨m1, e1⟩ := I.base.tbls b ps e
  obtain ⟨m2, e2⟩ := tbls b _ e1
  exact ⟨m1 ++ m2, by rw [e2, Array.append_assoc]⟩
 ·obtain ⟨m, hn, hl⟩ := I.loc
  refine ⟨m, ns m hn, fun i x v e1 e2 e3 => ?_⟩
  obtain ⟨u, r, l⟩ := hl i x v e1 e2 e3
  refine ⟨u, r, ?_⟩
  rcases l with l | ⟨k, c, e, z⟩
  ·exact .inl l
  ·exact .inr ⟨k, c, e, cellK x c e _ z⟩
 ·obtain ⟨v, z⟩ := I.cell x c e
  exact ⟨v, cellK x c e v z⟩
 ·obtain ⟨m, ⟨o, _, _, ho, _⟩, _⟩ := I.loc
  exact free _ o (fun z => (hch _ z).2.1 rfl) ho I.free
 ·obtain ⟨v, o, ho, hd⟩ := I.cell x c e
  exact free c o (fun z => (hch c z).2.2.1 x c e rfl) ho (I.freeC x c e)
 ·obtain ⟨e, n, ne, nf, d⟩ := I.pin p hp
  have nch : p.1 ∉ ch := fun z => (hch p.1 z).2.2.2 p hp rfl
  exact ⟨keep p.1 p.2 ne nf nch e n, free p.1 p.2 nch e n, ne, nf, d⟩
theorem Inv.un {t' : Nat} (I : Inv X pins σ H s) (u : Un X.fs [] H H' s.heap h') (hok : HOk X.prog X.w H' h') : Inv X pins σ H' { s with heap := h', toks := t' } := by
 obtain ⟨m, ⟨o, es, ep, ho, r⟩, _⟩ := id I.loc
 obtain ⟨sl, hL⟩ := u.any ho I.free (by simp)
 exact I.step (g' := s.gens) (d' := s.drawn) (ch := []) (fun _ z => nomatch z) (fun b o _ hb _ e n => u.keep b o e n hb (by simp)) (fun b o _ hb _ e n => u.slot b o e n hb (by simp)) (fun b o _ e n => u.free b o e n (by simp)) (fun b o _ e => u.there b o e (by simp)) u.tups u.frzs u.tbls (fun m' hm => by
  obtain ⟨o', es', ep', ho', r'⟩ := hm
  rw [ho] at ho'; cases ho'
  exact ⟨_, es', ep', hL, r'⟩) hok I.bare
theorem Inv.call {g' : Array GenState} {t' : Nat} {d' : Drawn} {ch : List Addr} (I : Inv X pins σ H s) (u : Un (frs X.stack) ch H H' s.heap h') (hok : HOk X.prog X.w H' h') (hg : AllBare g')
  (hch : ∀ b ∈ ch, (b ∈ X.ex ∨ X.s₀.heap.objs.size <= b) /\ b ≠ X.env.locals /\ (∀ x c, X.env.cells.lookup x = some c -> c ≠ b) /\ ∀ p ∈ X.pn ++ pins, p.1 ≠ b) :
  Inv X pins σ H' { s with heap := h', gens := g', drawn := d', toks := t' } := by
 obtain ⟨m, ⟨o, es, ep, ho, r⟩, _⟩ := id I.loc
 obtain ⟨sl, hL⟩ := u.any ho I.free fun z => (hch _ z).2.1 rfl
 exact I.step (ch := ch) hch (fun b o hL hb hc e n => u.keep b o e n (fun z => (List.mem_cons.mp (I.stkSub b z)).elim hL hb) hc) (fun b o _ _ hc e n => u.any e n hc) (fun b o hc e n => u.free b o e n hc) (fun b o hc e => u.there b o e hc) u.tups u.frzs u.tbls (fun m' hm => by
  obtain ⟨o', es', ep', ho', r'⟩ := hm
  rw [ho] at ho'; cases ho'
  exact ⟨_, es', ep', hL, r'⟩) hok hg
theorem Inv.turned {t' : Nat} {it : Addr} (I : Inv X pins σ H s) (k : ∀ b o, b ≠ it -> s.heap.get? b = some o -> h'.get? b = some o) (hn : H it = none) (hL : it ≠ X.env.locals)
  (h1 : it ∈ X.ex ∨ X.s₀.heap.objs.size <= it) (h2 : ∀ x c, X.env.cells.lookup x = some c -> c ≠ it) (h3 : ∀ p ∈ X.pn ++ pins, p.1 ≠ it) : Inv X pins σ H { s with heap := h', toks := t' } := by
 have nit : ∀ b u, H b = some u -> b ≠ it := fun b u e z => by rw [z, hn] at e; cases e
 refine I.step (g' := s.gens) (d' := s.drawn) (ch := [it]) (fun b hb => ?_) (fun b o _ _ hc e _ => k b o (fun z => hc (by simp [z])) e) (fun b o _ _ hc e _ => ⟨o.slots, k b o (fun z => hc (by simp [z])) e⟩) (fun _ _ _ _ n => n)
  (fun b o hc e => ⟨o, k b o (fun z => hc (by simp [z])) e⟩) (fun _ _ e => e) (fun _ _ _ e => e) (fun b ps e => ⟨#[], by rw [e]; simp⟩) (fun m hm => ?_) (fun b u e => ?_) I.bare
 ·have e : b = it := by simpa using hb
  subst e
  exact ⟨h1, hL, h2, h3⟩
 ·obtain ⟨o, es, ep, ho, r⟩ := hm
  exact ⟨o, es, ep, k _ o (Ne.symm hL) ho, r⟩
 ·refine (I.hok b u e).stay (fun c v hc q => k c v ?_ q) (fun _ q => q) fun _ _ q => q
  rcases hc with z | z
  ·rw [z]; exact nit b u e
  ·exact nit c _ z
theorem Inv.tok (I : Inv X pins σ H s) (t : Nat) : Inv X pins σ H { s with toks := t } := I.un (h' := s.heap) (t' := t) Un.refl I.hok
theorem Inv.kept {t' : Nat} (I : Inv X pins σ H s) (k : ∀ b u, s.heap.get? b = some u -> h'.get? b = some u) : Inv X pins σ H { s with heap := h', toks := t' } := I.un (Un.kept k) (I.hok.kept k)
theorem Inv.laid {a : Addr} {o : HO} {t' : Nat} (I : Inv X pins σ H s) (k : ∀ b u, s.heap.get? b = some u -> h'.get? b = some u) (hp : s.heap.objs.size <= a) (new : ObjOk X.prog X.w (upd H a o) h' a o) :
  Inv X pins σ (upd H a o) { s with heap := h', toks := t' } := I.un (Un.laid k hp (I.hok.fresh hp)) (I.hok.laid k hp new)
theorem Inv.write {x e : Addr} {o : HO} {t' : Nat} (I : Inv X pins σ H s) (mu : Mut (H x)) (he : e = x ∨ H e = some (.own x)) (k : ∀ b u, b ≠ e -> s.heap.get? b = some u -> h'.get? b = some u) (heo : ∃ u, h'.get? e = some u)
  (new : ObjOk X.prog X.w (upd H x o) h' x o) : Inv X pins σ (upd H x o) { s with heap := h', toks := t' } := I.un (Un.write mu he k heo) (I.hok.write mu he k heo new)
theorem Inv.weak {σ' : List (Option V)} (I : Inv X pins σ H s) (hl : σ'.length = σ.length) (w : ∀ (i : Nat) v, σ'[i]? = some (some v) -> σ[i]? = some (some v)) : Inv X pins σ' H s :=
 ⟨I.ok, I.os, I.bare, I.base, let ⟨m, hn, hl'⟩ := I.loc; ⟨m, hn, fun i x v e1 e2 e3 => hl' i x v e1 (w i v e2) e3⟩, I.cell, I.free, I.freeC, I.pin, I.hok, hl.trans I.len⟩
theorem Inv.pins_of {pins' : List (Addr × Obj)} (I : Inv X pins σ H s) (h : ∀ p ∈ pins', s.heap.get? p.1 = some p.2 /\ H p.1 = none /\ p.1 ≠ X.env.locals /\ p.1 ∉ X.fs /\ ∀ v, p.2.data ≠ .cell v) : Inv X pins' σ H s :=
 ⟨I.ok, I.os, I.bare, I.base, I.loc, I.cell, I.free, I.freeC, fun p hp => (List.mem_append.mp hp).elim (fun z => I.pin p (List.mem_append_left _ z)) (h p), I.hok, I.len⟩
theorem nodup_ix {N : List Str} (hN : N.Nodup) {i j : Nat} {x : Str} (a : N[i]? = some x) (b : N[j]? = some x) : i = j := by
 obtain ⟨h1, e1⟩ := List.getElem?_eq_some_iff.mp a
 obtain ⟨h2, e2⟩ := List.getElem?_eq_some_iff.mp b
 exact (List.getElem_inj hN).mp (e1.trans e2.symm)
theorem store_ok2 {M : Model} {A : Around} {E : Value -> Shared -> Prop} {i : Nat} {x : Str} {v : V} {u : Value} {Q : Unit -> Shared -> Prop} (I : Inv X pins σ H s) (hN : X.N.Nodup) (hi : X.N[i]? = some x) (hx : Loc X.env.scope x) (r : RelV v u)
  (h : ∀ s', Inv X pins (σ.set i (some v)) H s' -> (∃ a, Heap.SameBut a s.heap s'.heap /\ (a = X.env.locals ∨ X.env.cells.lookup x = some a)) -> Q () s') (hf : X.fn x = true ∨ X.env.scope.names.lookup x = some .local := by first | exact .inl rfl | exact .inr rfl | assumption) : wpAny M A (storeName X.env x u) Q E s := by
 obtain ⟨m, hn, hl⟩ := id I.loc
 have hcls : (X.env.scope.kind == .class || (X.env.scope.kind == .module && X.env.locals != X.env.globals)) = false := by rw [I.ok.kind]; rfl
 have hiσ : i < σ.length := by rw [I.len]; exact (List.getElem?_eq_some_iff.mp hi).1
 have cne := I.cne
 have tracked : ∀ {a : Addr} {h' : Heap}, (∃ o, s.heap.get? a = some o /\ H a = none) -> Heap.SameBut a s.heap h' -> HOk X.prog X.w H h' := fun {a h'} ha hs b ob e => by
  obtain ⟨_, _, hfree⟩ := ha
  refine (I.hok b ob e).stay (fun c w' hc q => (hs.2 c ?_).trans q) (fun _ q => q) fun _ _ q => q
  rintro rfl
  rcases hc with rfl | hc
  ·rw [hfree] at e; cases e
  ·rw [hfree] at hc; cases hc
 rcases hx with hk | hk
 ·refine wpAny_storeName_local hk hn (fun h' hn' hs => ?_) hcls
  obtain ⟨oL, _, _, hoL, _⟩ := id hn
  refine h _ ⟨I.ok, I.os, I.bare, ⟨fun b o e n hb hx => ?_, fun b o e n hb hx => ?_, I.base.free, fun b o e hx => ?_, I.base.tups, I.base.frzs, I.base.tbls⟩, ⟨_, hn', fun j y v' e1 e2 e3 => ?_⟩, fun y c e => ?_, I.free, I.freeC, fun p hp => ?_, tracked ⟨oL, hoL, I.free⟩ hs, by simpa using I.len⟩ ⟨_, hs, .inl rfl⟩
  ·exact (hs.2 b (Nat.ne_of_lt (Nat.lt_of_lt_of_le (Heap.lt_size e) I.ok.above))).trans (I.base.keep b o e n hb hx)
  ·obtain ⟨sl, e1⟩ := I.base.slot b o e n hb hx
   exact ⟨sl, (hs.2 b (Nat.ne_of_lt (Nat.lt_of_lt_of_le (Heap.lt_size e) I.ok.above))).trans e1⟩
  ·obtain ⟨o', e1⟩ := I.base.there b o e hx
   exact ⟨o', (hs.2 b (Nat.ne_of_lt (Nat.lt_of_lt_of_le (Heap.lt_size e) I.ok.above))).trans e1⟩
  ·by_cases hj : j = i
   ·subst hj
    rw [hi] at e1; cases e1
    rw [List.getElem?_set_self hiσ] at e2
    cases e2
    exact ⟨u, r, .inl ⟨hk, by simp⟩⟩
   ·rw [List.getElem?_set_ne (Ne.symm hj)] at e2
    obtain ⟨u', r', q⟩ := hl j y v' e1 e2 e3
    refine ⟨u', r', ?_⟩
    rcases q with ⟨k, e⟩ | ⟨k, c, e, z⟩
    ·refine .inl ⟨k, ?_⟩
     have : y ≠ x := fun e => hj (nodup_ix hN e1 (e ▸ hi))
     simp [this, e]
    ·exact .inr ⟨k, c, e, z.sameBut hs (cne y c e)⟩
  ·obtain ⟨w', z⟩ := I.cell y c e
   exact ⟨w', z.sameBut hs (cne y c e)⟩
  ·obtain ⟨e, n, ne, nf, d⟩ := I.pin p hp
   exact ⟨(hs.2 p.1 ne).trans e, n, ne, nf, d⟩
 ·have hfn : X.fn x = true := by
   rcases hf with z | z
   ·exact z
   ·rw [z] at hk; cases hk
  obtain ⟨c, hc⟩ := I.ok.has x (.inl hk)
  obtain ⟨w', z⟩ := I.cell x c hc
  refine wpAny_storeName_cell I.ok.kind hk hc z (fun h' hc' hs => ?_)
  obtain ⟨oc, hoc, hocd⟩ := id z
  refine h { s with heap := h' } ⟨I.ok, I.os, I.bare, ⟨fun b o e n hb hx => ?_, fun b o e n hb hx => ?_, I.base.free, fun b o e hx => ?_, I.base.tups, I.base.frzs, I.base.tbls⟩, ⟨m, hn.sameBut hs (Ne.symm (cne x c hc)), fun j y v' e1 e2 e3 => ?_⟩, fun y c' e => ?_, I.free, I.freeC, fun p hp => ?_, tracked ⟨oc, hoc, I.freeC x c hc⟩ hs, by simpa using I.len⟩ ⟨c, hs, .inr hc⟩
  ·exact (hs.2 b (Nat.ne_of_lt (Nat.lt_of_lt_of_le (Heap.lt_size e) (I.ok.cab x c hfn hc)))).trans (I.base.keep b o e n hb hx)
  ·obtain ⟨sl, e1⟩ := I.base.slot b o e n hb hx
   exact ⟨sl, (hs.2 b (Nat.ne_of_lt (Nat.lt_of_lt_of_le (Heap.lt_size e) (I.ok.cab x c hfn hc)))).trans e1⟩
  ·obtain ⟨o', e1⟩ := I.base.there b o e hx
   exact ⟨o', (hs.2 b (Nat.ne_of_lt (Nat.lt_of_lt_of_le (Heap.lt_size e) (I.ok.cab x c hfn hc)))).trans e1⟩
  ·by_cases hj : j = i
   ·subst hj
    rw [hi] at e1; cases e1
    rw [List.getElem?_set_self hiσ] at e2
    cases e2
    exact ⟨u, r, .inr ⟨.inl hk, c, hc, hc'⟩⟩
   ·rw [List.getElem?_set_ne (Ne.symm hj)] at e2
    obtain ⟨u', r', q⟩ := hl j y v' e1 e2 e3
    refine ⟨u', r', ?_⟩
    rcases q with q | ⟨k, c', e, z'⟩
    ·exact .inl q
    ·refine .inr ⟨k, c', e, z'.sameBut hs ?_⟩
     rintro rfl
     exact hj (nodup_ix hN e1 (I.ok.inj _ _ _ e hc ▸ hi))
  ·by_cases hcc : c' = c
   ·subst hcc; exact ⟨_, hc'⟩
   ·obtain ⟨w2, z2⟩ := I.cell y c' e
    exact ⟨w2, z2.sameBut hs hcc⟩
  ·obtain ⟨e, n, ne, nf, d⟩ := I.pin p hp
   refine ⟨(hs.2 p.1 ?_).trans e, n, ne, nf, d⟩
   intro q
   rw [q, hoc] at e
   have q' : oc = p.2 := Option.some.inj e
   exact d w' (by rw [<- q']; exact hocd)
theorem store_ok {M : Model} {A : Around} {E : Value -> Shared -> Prop} {i : Nat} {x : Str} {v : V} {u : Value} {Q : Unit -> Shared -> Prop} (I : Inv X pins σ H s) (hN : X.N.Nodup) (hi : X.N[i]? = some x) (hx : Loc X.env.scope x) (r : RelV v u)
  (h : ∀ s', Inv X pins (σ.set i (some v)) H s' -> Q () s') (hf : X.fn x = true ∨ X.env.scope.names.lookup x = some .local := by first | exact .inl rfl | exact .inr rfl | assumption) : wpAny M A (storeName X.env x u) Q E s :=
 store_ok2 I hN hi hx r (fun s' I' _ => h s' I') hf
theorem Inv.call' {s' : Shared} {ch : List Addr} (I : Inv X pins σ H s) (ho : s'.os = s.os) (u : Un (frs X.stack) ch H H' s.heap s'.heap) (hok : HOk X.prog X.w H' s'.heap) (hg : AllBare s'.gens)
  (hch : ∀ b ∈ ch, (b ∈ X.ex ∨ X.s₀.heap.objs.size <= b) /\ b ≠ X.env.locals /\ (∀ x c, X.env.cells.lookup x = some c -> c ≠ b) /\ ∀ p ∈ X.pn ++ pins, p.1 ≠ b) : Inv X pins σ H' s' := by
 obtain ⟨h', g', d', t', o'⟩ := s'
 have e : o' = s.os := ho
 subst e
 exact I.call (g' := g') (t' := t') (d' := d') u hok hg hch
end
noncomputable abbrev XK := Value -> Option Addr -> Hp -> Prop
noncomputable abbrev St := List (Option V)
noncomputable abbrev VK := V -> Hp -> Prop
noncomputable abbrev TE := St -> Hp -> VK -> Prop
noncomputable abbrev TT := St -> Hp -> (Bool -> Hp -> Prop) -> Prop
noncomputable abbrev TA := St -> Hp -> (List V -> Hp -> Prop) -> Prop
structure Ends where
 nx : St -> Hp -> Prop
 rt : VK
 bk : St -> Hp -> Prop := fun _ _ => False
 ct : St -> Hp -> Prop := fun _ _ => False
noncomputable abbrev TS := Ends -> St -> Hp -> Prop
noncomputable def EP (X : Cx) (pins : List (Addr × Obj)) (σ : St) (Q : VK) (u : Value) (s' : Shared) : Prop := ∃ v H', Inv X pins σ H' s' /\ RelV v u /\ Q v H'
noncomputable def TP (X : Cx) (pins : List (Addr × Obj)) (σ : St) (Q : Bool -> Hp -> Prop) (b : Bool) (s' : Shared) : Prop := ∃ H', Inv X pins σ H' s' /\ Q b H'
noncomputable def AP (X : Cx) (pins : List (Addr × Obj)) (σ : St) (Q : List V -> Hp -> Prop) (us : List Value) (s' : Shared) : Prop := ∃ vs H', Inv X pins σ H' s' /\ Vals vs us /\ Q vs H'
noncomputable def SP (X : Cx) (pins : List (Addr × Obj)) (D : Ends) (f : Flow) (s' : Shared) : Prop :=
 match f with
 | .next => ∃ σ' H', Inv X pins σ' H' s' /\ D.nx σ' H'
 | .brk => ∃ σ' H', Inv X pins σ' H' s' /\ D.bk σ' H'
 | .cont => ∃ σ' H', Inv X pins σ' H' s' /\ D.ct σ' H'
 | .ret u => ∃ v σ' H', Inv X pins σ' H' s' /\ RelV v u /\ D.rt v H'
noncomputable def PE (X : Cx) (e : Expr) (t : TE) : Prop :=
 ∀ (pins : List (Addr × Obj)) (s : Shared) (σ : St) (H : Hp) (Q : VK), Inv X pins σ H s -> t σ H Q -> wpAny (model X.prog X.w) X.A (eval e X.env) (EP X pins σ Q) X.xe s
noncomputable def PT (X : Cx) (e : Expr) (t : TT) : Prop :=
 ∀ (pins : List (Addr × Obj)) (s : Shared) (σ : St) (H : Hp) (Q : Bool -> Hp -> Prop), Inv X pins σ H s -> t σ H Q -> wpAny (model X.prog X.w) X.A (isTrue e X.env (eval e X.env)) (TP X pins σ Q) X.xe s
noncomputable def PW (X : Cx) (e : Expr) (t : TT) : Prop :=
 ∀ (whole : Sem Value) (pins : List (Addr × Obj)) (s : Shared) (σ : St) (H : Hp) (Q : Bool -> Hp -> Prop), Inv X pins σ H s -> t σ H Q -> wpAny (model X.prog X.w) X.A (isTrue e X.env whole) (TP X pins σ Q) X.xe s
theorem PW.pt {X : Cx} {e : Expr} {t : TT} (h : PW X e t) : PT X e t := h _
noncomputable def PA (X : Cx) (es : List Expr) (t : TA) : Prop :=
 ∀ (pos : Pos) (pins : List (Addr × Obj)) (s : Shared) (σ : St) (H : Hp) (Q : List V -> Hp -> Prop), Inv X pins σ H s -> t σ H Q -> wpAny (model X.prog X.w) X.A (spliced (backTo pos (starEach es X.env))) (AP X pins σ Q) X.xe s
noncomputable def PS (X : Cx) (st : Stmt) (t : TS) : Prop :=
 ∀ (pins : List (Addr × Obj)) (s : Shared) (σ : St) (H : Hp) (D : Ends), Inv X pins σ H s -> t D σ H -> wpAny (model X.prog X.w) X.A (exec st X.env) (SP X pins D) X.xe s
noncomputable def PSs (X : Cx) (st : List Stmt) (t : TS) : Prop :=
 ∀ (pins : List (Addr × Obj)) (s : Shared) (σ : St) (H : Hp) (D : Ends), Inv X pins σ H s -> t D σ H -> wpAny (model X.prog X.w) X.A (execs st X.env) (SP X pins D) X.xe s
theorem thn {α : Type} {t : Sem α} {Q Q' : α -> Shared -> Prop} {M : Model} {A : Around} {E : Value -> Shared -> Prop} {s : Shared} (h : wpAny M A t Q E s) (hQ : ∀ a s, Q a s -> Q' a s) : wpAny M A t Q' E s := wpAny_mono h hQ fun _ _ x => x
end L2
namespace L2
open PySem PySem.Spec PyProof.Rows
section
variable {X : Cx}
noncomputable def tVar (i : Nat) : TE := fun σ H Q => ∃ v, σ[i]? = some (some v) /\ Q v H
noncomputable def tC (v : V) : TE := fun _ H Q => Q v H
theorem pe_var {i : Nat} {x : Str} {pos : Pos} (hN : X.N[i]? = some x) (hv : Vis X.env.scope x) (hd : (x == ("__debug__" : Str)) = false := by decide) (hcd : (x == ("__classdict__" : Str)) = false := by decide) : PE X (.Name x pos) (tVar i) := by
 intro pins s σ H Q I h
 obtain ⟨v, e, h⟩ := h
 obtain ⟨m, hn, hl⟩ := I.loc
 obtain ⟨u, r, l⟩ := hl i x v hN e hv
 have fin : EP X pins σ Q u s := ⟨v, H, I, r, h⟩
 rcases l with ⟨hk, hm⟩ | ⟨hk, c, hc, hcell⟩
 ·exact wpAny_Name (wpAny_loadName_local I.ok.kind hk hn hm fin) hd
 ·rcases hk with hk | hk
  ·exact wpAny_Name (wpAny_loadName_cell I.ok.kind hk hc hcell fin) hd
  ·exact wpAny_Name (wpAny_loadName_free I.ok.kind hk hc hcell fin hcd) hd
theorem pe_int {i j pos} : PE X (.Constant (.int i) j pos) (tC (.int i)) := fun _ _ _ H _ I h => wpAny_Constant_int ⟨.int i, H, I.tok _, ⟨_, rfl⟩, h⟩
theorem pe_bl {b j pos} : PE X (.Constant (.bool b) j pos) (tC (.bl b)) := fun _ _ _ H _ I h => Constant_bool ⟨.bl b, H, I, rfl, h⟩
noncomputable def Gl (X : Cx) (x : Str) : Prop := X.env.kindOf x = some .globalImplicit
theorem ld_glob {E : Value -> Shared -> Prop} {pins : List (Addr × Obj)} {s : Shared} {σ : St} {H : Hp} {x : Str} {u : Value} {pos : Pos} {Q : Value -> Shared -> Prop} (I : Inv X pins σ H s) (hg : Gl X x) (hm : X.mg x = some u) (h : Q u s)
  (hd : (x == ("__debug__" : Str)) = false := by decide) : wpAny (model X.prog X.w) X.A (eval (.Name x pos) X.env) Q E s :=
 Calls.Name_function_global I.ok.kind hg (Calls.loadGlobal_global (by rw [I.ok.glob]; exact I.mod.glob.keeps I.bk) hm h) hd
theorem ld_blt {E : Value -> Shared -> Prop} {pins : List (Addr × Obj)} {s : Shared} {σ : St} {H : Hp} {x : Str} {u : Value} {pos : Pos} {Q : Value -> Shared -> Prop} (I : Inv X pins σ H s) (hg : Gl X x) (hm : X.mg x = none) (hv : bootBuiltins x = some u) (h : Q u s)
  (hn : x ≠ "__name__" := by decide) (hd : (x == ("__debug__" : Str)) = false := by decide) : wpAny (model X.prog X.w) X.A (eval (.Name x pos) X.env) Q E s := by
 obtain ⟨mb, h1, h2⟩ := I.mod.blt
 exact Calls.Name_function_global I.ok.kind hg (Calls.loadGlobal_builtin (by rw [I.ok.glob]; exact I.mod.glob.keeps I.bk) hm (by rw [I.ok.blt]; exact h1.keeps I.bk) ((h2 x hn).trans hv) h) hd
theorem pe_bltn {x : Str} {v : V} {u : Value} {pos : Pos} (hg : Gl X x) (hm : X.mg x = none) (hv : bootBuiltins x = some u) (r : RelV v u) (hn : x ≠ "__name__" := by decide) (hd : (x == ("__debug__" : Str)) = false := by decide) : PE X (.Name x pos) (tC v) :=
 fun _ _ _ H _ I h => ld_blt I hg hm hv ⟨v, H, I, r, h⟩ hn hd
variable {a b : Expr} {ta tb : TE} {pos : Pos}
noncomputable def PC (X : Cx) (op : CmpOp) (a b : Expr) (t : TE) : Prop :=
 ∀ (pins : List (Addr × Obj)) (s : Shared) (σ : St) (H : Hp) (Q : VK), Inv X pins σ H s -> t σ H Q ->
  wpAny (model X.prog X.w) X.A (eval a X.env) (fun v s₁ => wpAny (model X.prog X.w) X.A (eval b X.env) (fun u s₂ => wpAny (model X.prog X.w) X.A (compareOp op v u) (EP X pins σ Q) X.xe s₂) X.xe s₁) X.xe s
noncomputable def tB (t : TE) : TT := fun σ H Q => t σ H fun x H1 => ∃ c, x = .bl c /\ Q c H1
theorem pt_cmp {op : CmpOp} {t : TE} (h : PC X op a b t) (h1 : behindInMarks op b = false := by first | exact nobehind _ (by decide) (by decide) | rfl) : PT X (.Compare a [op] [b] pos) (tB t) := by
 intro pins s σ H Q I hw
 refine wpAny_isTrue_Compare1 (thn (h pins s σ H _ I hw) fun v s1 h1 => thn h1 fun u s2 h2 => thn h2 fun c s3 ⟨x, H1, I1, r1, q1⟩ => ?_) h1
 obtain ⟨d, rfl, q⟩ := q1
 cases r1
 exact wpAny_truthy_bool ⟨H1, I1, q⟩
theorem pt_val {e : Expr} {t : TE} (h : PE X e t) (he : ∀ whole, isTrue e X.env whole = (do let v <- whole; standAt e.pos; holding [v] (truthy v)) := by intro _; rfl) : PT X e (tB t) := by
 intro pins s σ H Q I hw
 refine isTrue_plain (thn (h pins s σ H _ I hw) fun v s1 ⟨x, H1, I1, r1, q1⟩ => ?_) (he _)
 obtain ⟨d, rfl, q⟩ := q1
 cases r1
 exact wpAny_truthy_bool ⟨H1, I1, q⟩
variable {tA tB' : TT} {rest : List Expr}
noncomputable def tAnd (t u : TT) : TT := fun σ H Q => t σ H fun c H1 => if c = true then u σ H1 Q else Q false H1
noncomputable def tOr (t u : TT) : TT := fun σ H Q => t σ H fun c H1 => if c = true then Q true H1 else u σ H1 Q
noncomputable def tNot (t : TT) : TT := fun σ H Q => t σ H fun c H1 => Q (!c) H1
theorem pw_and1 (ha : PT X a tA) : PW X (.BoolOp .And [a] pos) tA := by
 intro wh pins s σ H Q I h
 refine isTrue_and (thn (ha pins s σ H Q I h) fun c s1 e => ?_)
 cases c with
 | true => exact isTrue_and_nil e
 | false => exact e
theorem pw_or1 (ha : PT X a tA) : PW X (.BoolOp .Or [a] pos) tA := by
 intro wh pins s σ H Q I h
 refine isTrue_or (thn (ha pins s σ H Q I h) fun c s1 e => ?_)
 cases c with
 | false => exact isTrue_or_nil e
 | true => exact e
theorem pw_and (ha : PT X a tA) (hb : PW X (.BoolOp .And (b :: rest) pos) tB') : PW X (.BoolOp .And (a :: b :: rest) pos) (tAnd tA tB') := by
 intro wh pins s σ H Q I h
 refine isTrue_and (thn (ha pins s σ H _ I h) fun c s1 ⟨H1, I1, q1⟩ => ?_)
 cases c with
 | true => exact hb wh pins s1 σ H1 Q I1 q1
 | false => exact ⟨H1, I1, q1⟩
theorem pw_or (ha : PT X a tA) (hb : PW X (.BoolOp .Or (b :: rest) pos) tB') : PW X (.BoolOp .Or (a :: b :: rest) pos) (tOr tA tB') := by
 intro wh pins s σ H Q I h
 refine isTrue_or (thn (ha pins s σ H _ I h) fun c s1 ⟨H1, I1, q1⟩ => ?_)
 cases c with
 | true => exact ⟨H1, I1, q1⟩
 | false => exact hb wh pins s1 σ H1 Q I1 q1
theorem pt_not (ha : PT X a tA) : PT X (.UnaryOp .Not a pos) (tNot tA) := by
 intro pins s σ H Q I h
 exact isTrue_not (ha pins s σ H (fun c H1 => Q (!c) H1) I h)
noncomputable def tAndV (ta tb : TE) : TE := fun σ H Q => ta σ H fun x H1 => ∃ c, x = .bl c /\ if c = true then tb σ H1 Q else Q (.bl false) H1
noncomputable def tNotV (ta : TE) : TE := fun σ H Q => ta σ H fun x H1 => ∃ c, x = .bl c /\ Q (.bl (!c)) H1
theorem pe_one {op} {t : TE} (h : PE X a t) : PE X (.BoolOp op [a] pos) t := fun pins s σ H Q I hw => BoolOp_one (h pins s σ H Q I hw)
theorem pe_and (ha : PE X a ta) (hb : PE X (.BoolOp .And (b :: rest) pos) tb) : PE X (.BoolOp .And (a :: b :: rest) pos) (tAndV ta tb) := by
 intro pins s σ H Q I h
 refine BoolOp_and (thn (ha pins s σ H _ I h) fun v s1 ⟨x, H1, I1, r1, q1⟩ => ?_)
 obtain ⟨c, rfl, q1⟩ := q1
 cases r1
 refine wpAny_truthy_bool ?_
 cases c with
 | true => exact hb pins s1 σ H1 Q I1 q1
 | false => exact ⟨.bl false, H1, I1, rfl, q1⟩
theorem pe_not (ha : PE X a ta) : PE X (.UnaryOp .Not a pos) (tNotV ta) := by
 intro pins s σ H Q I h
 refine UnaryOp_ (thn (ha pins s σ H _ I h) fun v s1 ⟨x, H1, I1, r1, q1⟩ => ?_)
 obtain ⟨c, rfl, q1⟩ := q1
 cases r1
 exact not_of (wpAny_truthy_bool ⟨.bl (!c), H1, I1, rfl, q1⟩)
end
end L2
namespace L2
open PySem PySem.Spec PyProof.Rows
noncomputable def SqL (K : PySem.W.Frag) (H : Hp) (a : Addr) (xs : List V) : Prop :=
 Rd H a (.lst xs) ∨
  ∃ (o : Obj) (its : Array Value) (n : Nat), K.lookup a = some o /\ o.cls = .type "list" /\ o.dict = none /\ o.data = .seq its n /\ its.size <= sizeLine /\ Vals xs its.toList
noncomputable def SqT (K : PySem.W.Frag) (H : Hp) (a : Addr) (xs : List V) : Prop :=
 Rd H a (.tup xs) ∨
  ∃ (o : Obj) (its : Array Value) (n : Nat), K.lookup a = some o /\ o.cls = .type "tuple" /\ o.data = .seq its n /\ its.size <= sizeLine /\ Vals xs its.toList
noncomputable def absV : Value -> Option V
 | .none => some .non
 | .bool b => some (.bl b)
 | .int i _ => some (.int i)
 | .str x _ => some (.str x)
 | .bytes b _ => some (.byt b)
 | .float b _ => some (.flt b)
 | .ref a => some (.ref a)
 | .type n => some (.ty n)
 | _ => none
theorem RelV.abs {x : V} {u : Value} (r : RelV x u) : absV u = some x := by
 cases x with
 | non => cases r; rfl
 | bl _ => cases r; rfl
 | int _ => obtain ⟨t, rfl⟩ := r; rfl
 | str _ => obtain ⟨t, rfl⟩ := r; rfl
 | byt _ => obtain ⟨t, rfl⟩ := r; rfl
 | flt _ => obtain ⟨t, rfl⟩ := r; rfl
 | ref _ => cases r; rfl
 | ty _ => cases r; rfl
theorem RelV.inj {x y : V} {u : Value} (r : RelV x u) (q : RelV y u) : x = y := Option.some.inj (r.abs.symm.trans q.abs)
theorem Vals.inj : ∀ {xs ys : List V} {us : List Value}, Vals xs us -> Vals ys us -> xs = ys
 | _, _, _, .nil, .nil => rfl
 | _, _, _, .cons r t, .cons r' t' => by rw [r.inj r', Vals.inj t t']
section
variable {X : Cx} {pins : List (Addr × Obj)} {σ : St} {H : Hp} {s : Shared} {a : Addr} {xs ys : List V}
theorem SqL.of {K : PySem.W.Frag} (h : H a = some (.lst xs)) : SqL K H a xs := .inl (.inl h)
theorem SqT.of {K : PySem.W.Frag} (h : H a = some (.tup xs)) : SqT K H a xs := .inl (.inl h)
theorem Inv.list (I : Inv X pins σ H s) (h : SqL X.K H a xs) : ∃ its : List Value, Vals xs its /\ PlainL s.heap a its.toArray /\ xs.length <= sizeLine := by
 rcases h with h | ⟨o, its, n, hk, hc, hd, hs, hz, r⟩
 ·obtain ⟨z, its, n, r, e⟩ := h.ok I.hok
  exact ⟨its, r, ⟨_, n, e, rfl, rfl, rfl⟩, z⟩
 ·refine ⟨its.toList, r, ⟨o, n, I.kIn a o hk, hc, hd, by simpa using hs⟩, ?_⟩
  have e := r.length
  simp only [Array.length_toList] at e
  (first | lia | omega)
theorem Inv.tuple (I : Inv X pins σ H s) (h : SqT X.K H a xs) : ∃ its : List Value, Vals xs its /\ IsTup s.heap a its.toArray /\ xs.length <= sizeLine := by
 rcases h with h | ⟨o, its, n, hk, hc, hs, hz, r⟩
 ·obtain ⟨z, its, r, p⟩ := h.ok I.hok
  exact ⟨its, r, p.tup, z⟩
 ·refine ⟨its.toList, r, ⟨o, I.kIn a o hk, hc, n, by simpa using hs⟩, ?_⟩
  have e := r.length
  simp only [Array.length_toList] at e
  (first | lia | omega)
theorem Inv.list_inj (I : Inv X pins σ H s) (h : SqL X.K H a xs) (h' : SqL X.K H a ys) : xs = ys := by
 obtain ⟨its, r, ⟨o, n, e, _, _, d⟩, _⟩ := I.list h
 obtain ⟨its', r', ⟨o', n', e', _, _, d'⟩, _⟩ := I.list h'
 rw [e] at e'; cases e'
 rw [d] at d'
 injection d' with d1 _
 have : its = its' := by simpa using congrArg Array.toList d1
 subst this
 exact r.inj r'
theorem Inv.tuple_inj (I : Inv X pins σ H s) (h : SqT X.K H a xs) (h' : SqT X.K H a ys) : xs = ys := by
 obtain ⟨its, r, ⟨o, e, _, n, d⟩, _⟩ := I.tuple h
 obtain ⟨its', r', ⟨o', e', _, n', d'⟩, _⟩ := I.tuple h'
 rw [e] at e'; cases e'
 rw [d] at d'
 injection d' with d1 _
 have : its = its' := by simpa using congrArg Array.toList d1
 subst this
 exact r.inj r'
end
noncomputable abbrev Cx.wish (X : Cx) (E : Value -> Shared -> Prop) : Cx := { X with xe := E }
noncomputable abbrev Cx.nox (X : Cx) : Cx := X.wish fun _ _ => False
theorem Cx.Ok.wish {X : Cx} (ok : X.Ok) (E : Value -> Shared -> Prop) : (X.wish E).Ok :=
 ⟨ok.mod, ok.kind, ok.glob, ok.blt, ok.above, ok.inj, ok.has, ok.cab, ok.hd, ok.frames, ok.stk, ok.exf, ok.bs, ok.bsz, ok.noex, ok.exfs, ok.funs, ok.frf⟩
theorem Cx.Ok.unwish {X : Cx} {E : Value -> Shared -> Prop} (ok : (X.wish E).Ok) : X.Ok :=
 ⟨ok.mod, ok.kind, ok.glob, ok.blt, ok.above, ok.inj, ok.has, ok.cab, ok.hd, ok.frames, ok.stk, ok.exf, ok.bs, ok.bsz, ok.noex, ok.exfs, ok.funs, ok.frf⟩
section
variable {X : Cx} {pins : List (Addr × Obj)} {σ : St} {H : Hp} {s : Shared} {E : Value -> Shared -> Prop}
theorem Inv.wish (I : Inv X pins σ H s) (E : Value -> Shared -> Prop) : Inv (X.wish E) pins σ H s := ⟨I.ok.wish E, I.os, I.bare, I.base, I.loc, I.cell, I.free, I.freeC, I.pin, I.hok, I.len⟩
theorem Inv.unwish (I : Inv (X.wish E) pins σ H s) : Inv X pins σ H s := ⟨I.ok.unwish, I.os, I.bare, I.base, I.loc, I.cell, I.free, I.freeC, I.pin, I.hok, I.len⟩
theorem SP.unwish {D : Ends} {f : Flow} {s' : Shared} (h : SP (X.wish E) pins D f s') : SP X pins D f s' := by
 cases f with
 | next => obtain ⟨σ', H', I, q⟩ := h; exact ⟨σ', H', I.unwish, q⟩
 | brk => obtain ⟨σ', H', I, q⟩ := h; exact ⟨σ', H', I.unwish, q⟩
 | cont => obtain ⟨σ', H', I, q⟩ := h; exact ⟨σ', H', I.unwish, q⟩
 | ret u => obtain ⟨v, σ', H', I, r, q⟩ := h; exact ⟨v, σ', H', I.unwish, r, q⟩
theorem PSs.nox {st : List Stmt} {t : TS} (h : PSs X.nox st t) : PSs X st t := fun pins s σ H D I hw =>
 wpAny_mono (h pins s σ H D (I.wish _) hw) (fun _ _ q => q.unwish) fun _ _ z => False.elim z
end
section
variable {X : Cx} {st : Stmt} {rest : List Stmt} {t u : TS} {e : Expr} {te : TE} {pos : Pos}
noncomputable def tNext : TS := fun D σ H => D.nx σ H
noncomputable def tSeq (t u : TS) : TS := fun D σ H => t { D with nx := u D } σ H
theorem pss_nil : PSs X [] tNext := fun _ _ σ H _ I h => wpAny_execs_nil ⟨σ, H, I, h⟩
theorem pss_cons (h1 : PS X st t) (h2 : PSs X rest u) : PSs X (st :: rest) (tSeq t u) := by
 intro pins s σ H D I h
 refine wpAny_execs_cons (thn (h1 pins s σ H { D with nx := u D } I h) fun f s1 q => ?_)
 cases f with
 | next =>
  obtain ⟨σ', H', I', q⟩ := q
  exact h2 pins s1 σ' H' D I' q
 | ret v => exact q
 | brk => exact q
 | cont => exact q
theorem pss_one (h1 : PS X st t) : PSs X [st] t := by
 intro pins s σ H D I h
 refine wpAny_execs_cons (thn (h1 pins s σ H D I h) fun f s1 q => ?_)
 cases f with
 | next => exact wpAny_execs_nil q
 | ret v => exact q
 | brk => exact q
 | cont => exact q
theorem Inv.quiet {pins : List (Addr × Obj)} {σ : St} {H : Hp} {s : Shared} (I : Inv X pins σ H s) : interactive X.env = false := by simp [interactive, I.ok.kind]
noncomputable def tDrop (te : TE) : TS := fun D σ H => te σ H fun _ H1 => D.nx σ H1
theorem ps_expr (he : PE X e te) (hs : swapsWith e none pos.line X.env = pure false := by rfl) : PS X (.Expr e pos) (tDrop te) := by
 intro pins s σ H D I h
 exact wpAny_Expr_any (thn (he pins s σ H _ I h) fun v s1 ⟨x, H1, I1, r1, q1⟩ => ⟨σ, H1, I1, q1⟩) I.quiet hs
noncomputable def tRet (te : TE) : TS := fun D σ H => te σ H D.rt
theorem ps_ret (he : PE X e te) : PS X (.Return (some e) pos) (tRet te) := by
 intro pins s σ H D I h
 exact wpAny_Return_some (thn (he pins s σ H _ I h) fun v s1 ⟨x, H1, I1, r1, q1⟩ => ⟨x, σ, H1, I1, r1, q1⟩)
noncomputable def tIfS (c : TT) (t u : TS) : TS := fun D σ H => c σ H fun b H1 => if b = true then t D σ H1 else u D σ H1
theorem ps_if {c : Expr} {a b : List Stmt} {tc : TT} (hc : PT X c tc) (ha : PSs X a t) (hb : PSs X b u) : PS X (.If c a b pos) (tIfS tc t u) := by
 intro pins s σ H D I h
 refine wpAny_If (thn (hc pins s σ H _ I h) fun d s1 ⟨H1, I1, q1⟩ => ?_)
 cases d with
 | true => exact ha pins s1 σ H1 D I1 q1
 | false => exact hb pins s1 σ H1 D I1 q1
noncomputable def tNever : TS := fun _ _ _ => False
theorem pss_never {sts : List Stmt} : PSs X sts tNever := fun _ _ _ _ _ _ h => h.elim
end
noncomputable abbrev TG := V -> St -> Hp -> (St -> Hp -> Prop) -> Prop
noncomputable abbrev TGs := List V -> St -> Hp -> (St -> Hp -> Prop) -> Prop
noncomputable def PG (X : Cx) (target : Expr) (t : TG) : Prop :=
 ∀ (pins : List (Addr × Obj)) (s : Shared) (σ : St) (H : Hp) (v : V) (u : Value) (Q : St -> Hp -> Prop), Inv X pins σ H s -> RelV v u -> t v σ H Q ->
  wpAny (model X.prog X.w) X.A (assign target X.env u) (fun _ s' => ∃ σ' H', Inv X pins σ' H' s' /\ Q σ' H') X.xe s
noncomputable def PGs (X : Cx) (ts : List Expr) (t : TGs) : Prop :=
 ∀ (pins : List (Addr × Obj)) (s : Shared) (σ : St) (H : Hp) (vs : List V) (us : List Value) (Q : St -> Hp -> Prop), Inv X pins σ H s -> Vals vs us -> t vs σ H Q ->
  wpAny (model X.prog X.w) X.A (assignInOrder ((assignEach ts X.env).map (·.2)) us) (fun _ s' => ∃ σ' H', Inv X pins σ' H' s' /\ Q σ' H') X.xe s
noncomputable abbrev TSet := V -> V -> V -> Hp -> (Hp -> Prop) -> Prop
noncomputable def PSet (X : Cx) (t : TSet) : Prop :=
 ∀ (pins : List (Addr × Obj)) (s : Shared) (σ : St) (H : Hp) (o i v : V) (ov iv u : Value) (Q : Hp -> Prop), Inv X pins σ H s -> RelV o ov -> RelV i iv -> RelV v u -> t o i v H Q ->
  wpAny (model X.prog X.w) X.A (setItem ov iv u) (fun _ s' => ∃ H', Inv X pins σ H' s' /\ Q H') X.xe s
section
variable {X : Cx} {pos : Pos}
noncomputable def gName (i : Nat) : TG := fun v σ H Q => Q (σ.set i (some v)) H
theorem pg_name {i : Nat} {x : Str} (hN : X.N.Nodup) (hi : X.N[i]? = some x) (hx : Loc X.env.scope x) (hf : X.fn x = true ∨ X.env.scope.names.lookup x = some .local := by first | exact .inl rfl | exact .inr rfl | assumption) : PG X (.Name x pos) (gName i) := by
 intro pins s σ H v u Q I r h
 exact wpAny_assign_Name (store_ok I hN hi hx r (fun s' I' => ⟨_, H, I', h⟩) hf)
noncomputable def gNil : TGs := fun vs σ H Q => vs = [] /\ Q σ H
noncomputable def gCons (t : TG) (u : TGs) : TGs := fun vs σ H Q => ∃ v r, vs = v :: r /\ t v σ H fun σ' H' => u r σ' H' Q
theorem pgs_nil : PGs X [] gNil := by
 intro pins s σ H vs us Q I r h
 obtain ⟨e, h⟩ := h
 subst e
 cases r
 exact assignInOrder_nil ⟨σ, H, I, h⟩
theorem pgs_cons {e : Expr} {es : List Expr} {t : TG} {u : TGs} (h1 : PG X e t) (h2 : PGs X es u)
  (hs : (assignEach (e :: es) X.env).map (·.2) = assign e X.env :: (assignEach es X.env).map (·.2) := by rfl) : PGs X (e :: es) (gCons t u) := by
 intro pins s σ H vs us Q I r h
 obtain ⟨v, vr, e1, h⟩ := h
 subst e1
 cases r with
 | cons r rr =>
  rw [hs]
  refine assignInOrder_cons (thn (h1 pins s σ H _ _ _ I r h) fun _ s1 ⟨σ1, H1, I1, q1⟩ => ?_)
  exact h2 pins s1 σ1 H1 _ _ Q I1 rr q1
noncomputable def gTup (K : PySem.W.Frag) (n : Nat) (t : TGs) : TG := fun v σ H Q => ∃ a xs, v = .ref a /\ SqT K H a xs /\ xs.length = n /\ t xs σ H Q
theorem pg_tup {es : List Expr} {k : Nat} {t : TGs} {n : Nat} (hc : X.calm = true) (h : PGs X es t)
  (hn : (assignEach es X.env).length = n := by rfl) (hst : (assignEach es X.env).findIdx? (·.1) = none := by rfl) : PG X (.Tuple es k pos) (gTup X.K n t) := by
 intro pins s σ H v u Q I r hw
 obtain ⟨a, xs, e1, hq, hl, hw⟩ := hw
 subst e1
 cases r
 obtain ⟨its, rv, ht, hz⟩ := I.tuple hq
 refine assign_Tuple_tuple (I.ok.hd hc) ht (by simp [hn, <- hl, rv.length]) hst fun h' hx => ?_
 have I1 : Inv X pins σ H { s with heap := h' } := I.kept (t' := s.toks) fun b o e => hx b o (Nat.ne_of_lt (Heap.lt_size e)) e
 exact h pins _ σ H xs _ Q I1 (by simpa using rv) hw
noncomputable def gSub (to ti : TE) (t : TSet) : TG := fun v σ H Q => to σ H fun o H1 => ti σ H1 fun i H2 => t o i v H2 fun H3 => Q σ H3
theorem pg_sub {o i : Expr} {to ti : TE} {t : TSet} (ho : PE X o to) (hi : PE X i ti) (hs : PSet X t)
  (ha : ∀ v, assign (.Subscript o i pos) X.env v = (do
   let ov <- holding [v] (eval o X.env)
   let iv <- holding [v, ov] (eval i X.env)
   standAt pos
   holding [v, ov, iv] (setItem ov iv v)
   release [v, ov, iv] []) := by intro _; rfl) : PG X (.Subscript o i pos) (gSub to ti t) := by
 intro pins s σ H v u Q I r h
 rw [ha]
 refine wpAny_bind (wpAny_holding (thn (ho pins s σ H _ I h) fun ov s1 ⟨x, H1, I1, r1, q1⟩ => ?_))
 refine wpAny_bind (wpAny_holding (thn (hi pins s1 σ H1 _ I1 q1) fun iv s2 ⟨y, H2, I2, r2, q2⟩ => ?_))
 refine wpAny_bind (wpAny_standAt (wpAny_bind (wpAny_holding (thn (hs pins s2 σ H2 x y v ov iv u _ I2 r1 r2 r q2) fun _ s3 ⟨H3, I3, q3⟩ => ?_))))
 exact wpAny_release ⟨σ, H3, I3, q3⟩
noncomputable def tAsg (te : TE) (g : TG) : TS := fun D σ H => te σ H fun x H1 => g x σ H1 D.nx
theorem ps_asg {tg e : Expr} {te : TE} {g : TG} (he : PE X e te) (hg : PG X tg g) (hs : swapsWithSole [tg] e pos.line X.env = pure false := by rfl) (hw : swappedStores [tg] e X.env = pure none := by rfl)
  (h1 : (assignEach [tg] X.env).map (·.2) = [assign tg X.env] := by rfl) : PS X (.Assign [tg] e pos) (tAsg te g) := by
 intro pins s σ H D I h
 refine wpAny_Assign_stores (thn (he pins s σ H _ I h) fun v s1 ⟨x, H1, I1, r1, q1⟩ => ?_) hs hw
 rw [h1]
 exact thn (hg pins s1 σ H1 x v _ I1 r1 q1) fun _ s2 q => q
theorem ps_set {i : Nat} {x : Str} {e : Expr} {te : TE} {pos' : Pos} (hN : X.N.Nodup) (hi : X.N[i]? = some x) (hx : Loc X.env.scope x) (he : PE X e te) (hs : swapsWith e (some (.Name x pos')) pos.line X.env = pure false := by rfl) (hf : X.fn x = true ∨ X.env.scope.names.lookup x = some .local := by first | exact .inl rfl | exact .inr rfl | assumption) :
  PS X (.Assign [.Name x pos'] e pos) (tAsg te (gName i)) := by
 intro pins s σ H D I h
 refine wpAny_Assign_Name (thn (he pins s σ H _ I h) fun v s1 ⟨y, H1, I1, r1, q1⟩ => ?_) hs
 exact store_ok I1 hN hi hx r1 (fun s2 I2 => ⟨_, H1, I2, q1⟩) hf
noncomputable def tPar (i j : Nat) (ta : TA) : TS := fun D σ H => ta σ H fun vs H1 => ∃ v w, vs = [v, w] /\ D.nx ((σ.set i (some v)).set j (some w)) H1
theorem ps_par {i j : Nat} {x y : Str} {a b : Expr} {ta : TA} {px py pt : Pos} {kt k2 pt2} (hc : X.calm = true) (hN : X.N.Nodup) (hi : X.N[i]? = some x) (hj : X.N[j]? = some y) (hij : i ≠ j)
  (hx : X.env.scope.names.lookup x = some .local) (hy : X.env.scope.names.lookup y = some .local) (ha : PA X [a, b] ta)
  (hw : swappedStores [.Tuple [.Name x px, .Name y py] kt pt] (.Tuple [a, b] k2 pt2) X.env = pure (some [x, y]))
  (hs : swapsWithSole [.Tuple [.Name x px, .Name y py] kt pt] (.Tuple [a, b] k2 pt2) pos.line X.env = pure false := by rfl) :
  PS X (.Assign [.Tuple [.Name x px, .Name y py] kt pt] (.Tuple [a, b] k2 pt2) pos) (tPar i j ta) := by
 intro pins s σ H D I h
 rw [exec_Assign_arm]
 refine wpAny_bind (wpAny_standAt ?_)
 rw [hs]
 refine wpAny_bind (wpAny_pure ?_)
 rw [if_neg (by decide)]
 refine wpAny_bind (Tuple_ (thn (ha _ pins s σ H _ I h) fun us s1 ⟨vs, H1, I1, r1, q1⟩ => ?_))
 obtain ⟨v, w, e1, q1⟩ := q1
 subst e1
 obtain ⟨u1, u2, rfl, rv, rw'⟩ : ∃ u1 u2, us = [u1, u2] /\ RelV v u1 /\ RelV w u2 := by
  cases r1 with
  | cons p q =>
   cases q with
   | cons p' q' =>
    cases q'
    exact ⟨_, _, rfl, p, p'⟩
 refine wpAny_newObj_type ?_ (by show 2 <= sizeLine; decide)
 have I2 : Inv X pins σ H1 { s1 with heap := s1.heap.push { cls := .type "tuple", data := .seq [u1, u2].toArray } } := I1.kept (t' := s1.toks) fun b o e => Heap.get?_push_of_some _ e
 rw [hw]
 refine wpAny_bind (wpAny_pure ?_)
 show wpAny (model X.prog X.w) X.A (do rule "assign.swapped-stores"; let items <- unpackItems (.ref s1.heap.objs.size) 2 none; assignInOrder [fun v => bindName X.env y v, fun v => bindName X.env x v] items.reverse; pure Flow.next) _ _ _
 refine wpAny_bind (wpAny_rule (wpAny_bind (unpackItems_tuple (items := #[u1, u2]) (I.ok.hd hc) (IsTup.new s1.heap _) fun h' hx' => ?_)))
 have I3 := I2.kept (h' := h') (t' := s1.toks) fun b o e => hx' b o (Nat.ne_of_lt (Heap.lt_size e)) e
 show wpAny _ _ (assignInOrder [fun v => bindName X.env y v, fun v => bindName X.env x v] [u2, u1] >>= fun _ => pure Flow.next) _ _ _
 refine wpAny_bind (assignInOrder_cons (wpAny_bindName (store_ok I3 hN hj (.inl hy) rw' (fun s2 I4 => ?_) (.inr hy))))
 refine assignInOrder_cons (wpAny_bindName (store_ok I4 hN hi (.inl hx) rv (fun s3 I5 => assignInOrder_nil (wpAny_pure ?_)) (.inr hx)))
 rw [List.set_comm _ _ (Ne.symm hij)] at I5
 exact ⟨_, H1, I5, q1⟩
end
section
variable {X : Cx} {pos : Pos}
noncomputable def tWhile (c : TT) (tb : TS) : TS := fun D σ H => ∃ W : Nat -> St -> Hp -> Prop, (∃ m, W m σ H) /\ ∀ m σ H, W m σ H ->
 c σ H fun b H1 => if b = true then ∃ N : St -> Hp -> Prop, (∀ σ' H', N σ' H' -> ∃ m', m' < m /\ W m' σ' H') /\ tb { D with nx := N, ct := N, bk := D.nx } σ H1 else D.nx σ H1
theorem ps_while {c : Expr} {body : List Stmt} {tc : TT} {tb : TS} (hp : PassesOwn (model X.prog X.w) X.A X.env X.xe) (hc : PT X c tc) (hb : PSs X body tb) : PS X (.While c body [] pos) (tWhile tc tb) := by
 intro pins s σ H D I h
 obtain ⟨W, ⟨m0, w0⟩, turn⟩ := h
 refine wpAny_While (codeAny_whileLoop (fun n s' => ∃ σ' H', Inv X pins σ' H' s' /\ W n σ' H') ?_ m0 ⟨σ, H, I, w0⟩)
 rintro n s1 ⟨σ1, H1, I1, w1⟩
 refine wpAny_passesOwn hp (thn (hc pins s1 σ1 H1 _ I1 (turn n σ1 H1 w1)) fun b s2 ⟨H2, I2, q2⟩ => ?_)
 cases b with
 | true =>
  obtain ⟨N, hN, q2⟩ := q2
  rw [if_pos rfl]
  refine wpAny_passesOwn hp (thn (hb pins s2 σ1 H2 _ I2 q2) fun f s3 q3 => ?_)
  cases f with
  | next =>
   obtain ⟨σ3, H3, I3, n3⟩ := q3
   obtain ⟨m', hm, w3⟩ := hN σ3 H3 n3
   exact ⟨m', hm, σ3, H3, I3, w3⟩
  | cont =>
   obtain ⟨σ3, H3, I3, n3⟩ := q3
   obtain ⟨m', hm, w3⟩ := hN σ3 H3 n3
   exact ⟨m', hm, σ3, H3, I3, w3⟩
  | brk => exact q3
  | ret v => exact q3
 | false =>
  rw [if_neg Bool.false_ne_true]
  exact wpAny_execs_nil ⟨σ1, H2, I2, q2⟩
end
structure It where
 go : Nat -> Hp -> Prop
 yld : Nat -> Hp -> V -> Hp -> Prop
 stop : Nat -> Hp -> Prop
noncomputable def FpOk (X : Cx) (pins : List (Addr × Obj)) (H : Hp) (b : Addr) : Prop :=
 H b = none /\ b ≠ X.env.locals /\ b ∉ X.fs /\ (b ∈ X.ex ∨ X.s₀.heap.objs.size <= b) /\ (∀ x c, X.env.cells.lookup x = some c -> c ≠ b) /\ ∀ p ∈ X.pn ++ pins, p.1 ≠ b
theorem Inv.fpOk {X : Cx} {pins : List (Addr × Obj)} {σ : St} {H H' : Hp} {s : Shared} {b : Addr} (I : Inv X pins σ H s) (hb : s.heap.objs.size <= b) (hn : H' b = none) : FpOk X pins H' b := by
 refine ⟨hn, Nat.ne_of_gt (Nat.lt_of_lt_of_le I.lt hb), I.nofs hb, .inr (Nat.le_trans I.sz hb), fun x c e z => ?_, fun p hp z => ?_⟩
 ·obtain ⟨v, q⟩ := I.cell x c e
  exact absurd (Nat.lt_of_lt_of_le q.lt (by rw [z]; exact hb)) (Nat.lt_irrefl _)
 ·exact absurd (Nat.lt_of_lt_of_le (Heap.lt_size (I.pin p hp).1) (by rw [z]; exact hb)) (Nat.lt_irrefl _)
structure Turn (P : Program) (w : World) (K : PySem.W.Frag) (tg : Expr) (J : It) (fp : List Addr) (it : Addr) (tn : Nat -> Heap -> Prop) : Prop where
 mem : it ∈ fp
 obj : ∀ i h, tn i h -> ∀ b ∈ fp, ∃ o, h.get? b = some o /\ ∀ v, o.data ≠ .cell v
 keep : ∀ i h h', tn i h -> (∀ b ∈ fp, ∀ o, h.get? b = some o -> h'.get? b = some o) -> tn i h'
 item : ∀ (X : Cx), X.prog = P -> X.w = w -> X.K = K -> X.calm = true -> ∀ (i : Nat) (pins : List (Addr × Obj)) (s : Shared) (σ : St) (H : Hp) (E : Value -> Shared -> Prop), Inv X pins σ H s -> (∀ b ∈ fp, FpOk X pins H b) -> tn i s.heap -> J.go i H ->
  wpAny (model P w) X.A (pyNext (.ref it)) (fun r s1 => ∃ u, r = some u /\
   wpAny (model P w) X.A (letOwnedTupleGo tg (.ref it) u) (fun _ s2 => ∃ x H', Inv X pins σ H' s2 /\ RelV x u /\ J.yld i H x H' /\ tn (i + 1) s2.heap /\ ∀ b ∈ fp, H' b = none) E s1) E s
 done : ∀ (X : Cx), X.prog = P -> X.w = w -> X.K = K -> X.calm = true -> ∀ (i : Nat) (pins : List (Addr × Obj)) (s : Shared) (σ : St) (H : Hp) (E : Value -> Shared -> Prop), Inv X pins σ H s -> (∀ b ∈ fp, FpOk X pins H b) -> tn i s.heap -> J.stop i H ->
  wpAny (model P w) X.A (pyNext (.ref it)) (fun r s1 => r = none /\ Inv X pins σ H s1) E s
 self : ∀ (A : Around) (i : Nat) (s : Shared) (Q : Value -> Shared -> Prop) (E : Value -> Shared -> Prop), tn i s.heap -> Q (.ref it) s -> wpAny (model P w) A (pyIter (.ref it)) Q E s
noncomputable abbrev TI := St -> Hp -> (It -> Hp -> Prop) -> Prop
noncomputable def PIE (X : Cx) (pins : List (Addr × Obj)) (σ : St) (tg : Expr) (R : It -> Hp -> Prop) (itv : Value) (s2 : Shared) : Prop :=
 ∃ (it : Addr) (fp : List Addr) (tn : Nat -> Heap -> Prop) (J : It) (H' : Hp), itv = .ref it /\ Inv X pins σ H' s2 /\ Turn X.prog X.w X.K tg J fp it tn /\ tn 0 s2.heap /\ (∀ b ∈ fp, FpOk X pins H' b) /\ R J H'
noncomputable def PI (X : Cx) (tg iter : Expr) (wi : TI) : Prop :=
 ∀ (pins : List (Addr × Obj)) (s : Shared) (σ : St) (H : Hp) (R : It -> Hp -> Prop), Inv X pins σ H s -> wi σ H R ->
  wpAny (model X.prog X.w) X.A (eval iter X.env) (fun v s1 => wpAny (model X.prog X.w) X.A (pyIter v) (PIE X pins σ tg R) X.xe s1) X.xe s
theorem go_of {M : Model} {A : Around} {E : Value -> Shared -> Prop} {s : Shared} {tg : Expr} {it : Addr} {u : Value} {o : Obj} {n : String} {vs : Array Value} {Q : Unit -> Shared -> Prop} (ho : s.heap.get? it = some o) (hc : o.cls = .type n) (hd : o.data = .fields vs)
    (hn : ["enumerate", "zip", "dict_itemiterator", "dict_reverseitemiterator", "odict_iterator", "itertools.zip_longest", "itertools.pairwise"].contains n = false) (hQ : Q () s) : wpAny M A (letOwnedTupleGo tg (.ref it) u) Q E s := by
  unfold letOwnedTupleGo
  cases tg <;> first
    | exact wpAny_pure hQ
    | (cases u <;> first
        | exact wpAny_pure hQ
        | (refine wpAny_bind (wpAny_load ho ?_)
           rw [hc, hd]
           show wpAny M A (if (["enumerate", "zip", "dict_itemiterator", "dict_reverseitemiterator", "odict_iterator", "itertools.zip_longest", "itertools.pairwise"].contains n && vs[0]? == some (rawInt _)) = true then _ else _) Q E s
           rw [if_neg (by intro h; rw [hn, Bool.false_and] at h; cases h)]
           exact wpAny_pure hQ))
noncomputable def Itl (K : PySem.W.Frag) (a : Addr) : It :=
 ⟨fun i H => ∃ xs x, SqL K H a xs /\ xs[i]? = some x, fun i H x H' => H' = H /\ ∀ xs, SqL K H a xs -> xs[i]? = some x, fun i H => ∃ xs, SqL K H a xs /\ xs.length <= i⟩
noncomputable def Itt (K : PySem.W.Frag) (a : Addr) : It :=
 ⟨fun i H => ∃ xs x, SqT K H a xs /\ xs[i]? = some x, fun i H x H' => H' = H /\ ∀ xs, SqT K H a xs -> xs[i]? = some x, fun i H => ∃ xs, SqT K H a xs /\ xs.length <= i⟩
noncomputable def Itr (lo : Int) (n : Nat) : It := ⟨fun i _ => i < n, fun i H x H' => H' = H /\ x = .int (lo + i), fun i _ => n <= i⟩
theorem turn_list {P : Program} {w : World} {K : PySem.W.Frag} {tg : Expr} (a it : Addr) : Turn P w K tg (Itl K a) [it] it (fun i h => h.IsListIter it a i) where
 mem := by simp
 obj := fun i h st b hb => by
  have e : b = it := by simpa using hb
  subst e
  obtain ⟨o, e, c, d⟩ := st
  exact ⟨o, e, fun v z => by rw [d] at z; cases z⟩
 keep := fun i h h' st k => st.at fun o e => k it (by simp) o e
 item := by
  intro X hP hw hK hc i pins s σ H E I hf st hg
  subst hP hw hK
  obtain ⟨xs, x, hq, hx⟩ := hg
  obtain ⟨its, rv, p, hz⟩ := I.list hq
  obtain ⟨u, hu, ru⟩ := rv.get hx
  obtain ⟨f0, f1, f2, f3, f4, f5⟩ := hf it (by simp)
  refine wpAny_pyNext_list_item st p.isList (x := u) (by simpa using hu) fun h' st' sb => ?_
  have I1 : Inv X pins σ H { s with heap := h' } := I.turned (t' := s.toks) (fun b o hb e => (sb.2 b hb).trans e) f0 f1 f3 f4 f5
  obtain ⟨o, e, c, d⟩ := id st'
  exact ⟨u, rfl, go_of (s := { s with heap := h' }) e c d (by decide) ⟨x, H, I1, ru, ⟨rfl, fun ys hy => by rw [I.list_inj hy hq]; exact hx⟩, st', fun b hb => (hf b hb).1⟩⟩
 done := by
  intro X hP hw hK hc i pins s σ H E I hf st hg
  subst hP hw hK
  obtain ⟨xs, hq, hx⟩ := hg
  obtain ⟨its, rv, p, hz⟩ := I.list hq
  obtain ⟨f0, f1, f2, f3, f4, f5⟩ := hf it (by simp)
  have hl := rv.length
  exact wpAny_pyNext_list_end (I.ok.hd hc) st p.isList (by simp; (first | lia | omega)) fun h' eb => ⟨rfl, I.turned (t' := s.toks) (fun b o hb e => eb b o hb e) f0 f1 f3 f4 f5⟩
 self := fun _ _ _ _ _ st h => wpAny_pyIter_listiter st h
theorem turn_tuple {P : Program} {w : World} {K : PySem.W.Frag} {tg : Expr} (a it : Addr) : Turn P w K tg (Itt K a) [it] it (fun i h => h.IsTupleIter it a i) where
 mem := by simp
 obj := fun i h st b hb => by
  have e : b = it := by simpa using hb
  subst e
  obtain ⟨o, e, c, d⟩ := st
  exact ⟨o, e, fun v z => by rw [d] at z; cases z⟩
 keep := fun i h h' st k => st.at fun o e => k it (by simp) o e
 item := by
  intro X hP hw hK hc i pins s σ H E I hf st hg
  subst hP hw hK
  obtain ⟨xs, x, hq, hx⟩ := hg
  obtain ⟨its, rv, p, hz⟩ := I.tuple hq
  obtain ⟨u, hu, ru⟩ := rv.get hx
  obtain ⟨f0, f1, f2, f3, f4, f5⟩ := hf it (by simp)
  refine wpAny_pyNext_tuple_item st (show s.heap.IsTuple a its.toArray from p) (x := u) (by simpa using hu) fun h' st' sb => ?_
  have I1 : Inv X pins σ H { s with heap := h' } := I.turned (t' := s.toks) (fun b o hb e => (sb.2 b hb).trans e) f0 f1 f3 f4 f5
  obtain ⟨o, e, c, d⟩ := id st'
  exact ⟨u, rfl, go_of (s := { s with heap := h' }) e c d (by decide) ⟨x, H, I1, ru, ⟨rfl, fun ys hy => by rw [I.tuple_inj hy hq]; exact hx⟩, st', fun b hb => (hf b hb).1⟩⟩
 done := by
  intro X hP hw hK hc i pins s σ H E I hf st hg
  subst hP hw hK
  obtain ⟨xs, hq, hx⟩ := hg
  obtain ⟨its, rv, p, hz⟩ := I.tuple hq
  obtain ⟨f0, f1, f2, f3, f4, f5⟩ := hf it (by simp)
  have hl := rv.length
  exact wpAny_pyNext_tuple_end (I.ok.hd hc) st (show s.heap.IsTuple a its.toArray from p) (by simp; (first | lia | omega)) fun h' eb => ⟨rfl, I.turned (t' := s.toks) (fun b o hb e => eb b o hb e) f0 f1 f3 f4 f5⟩
 self := fun _ _ _ _ _ st h => wpAny_pyIter_tupleiter st h
theorem turn_range {P : Program} {w : World} {K : PySem.W.Frag} {tg : Expr} (it : Addr) (lo : Int) (n : Nat) : Turn P w K tg (Itr lo n) [it] it (fun i h => IsRangeIter h it (lo + (i : Nat) * 1) ((n : Int) - (i : Nat)) 1) where
 mem := by simp
 obj := fun i h st b hb => by
  have e : b = it := by simpa using hb
  subst e
  exact ⟨_, st, fun v z => by
   have z' : Data.fields _ = Data.cell v := z
   cases z'⟩
 keep := fun i h h' st k => k it (by simp) _ st
 item := by
  intro X hP hw hK hc i pins s σ H E I hf st hg
  subst hP hw hK
  obtain ⟨f0, f1, f2, f3, f4, f5⟩ := hf it (by simp)
  have W := Walks.range (prog := X.prog) (w := X.w) (I.ok.hd hc) it lo 1 n
  refine W.item i s _ _ hg st fun v h' tk hv st' kk => ?_
  obtain ⟨t, rfl⟩ := hv
  have I1 : Inv X pins σ H { s with heap := h', toks := tk } := I.turned (fun b o hb e => kk b o (by simpa using hb) e) f0 f1 f3 f4 f5
  refine ⟨_, rfl, go_of (s := { s with heap := h', toks := tk }) (n := "range_iterator") st' rfl rfl (by decide) ⟨.int (lo + i), H, I1, ⟨t, ?_⟩, ⟨rfl, rfl⟩, st', fun b hb => (hf b hb).1⟩⟩
  rw [Int.mul_one]
 done := by
  intro X hP hw hK hc i pins s σ H E I hf st hg
  subst hP hw hK
  obtain ⟨f0, f1, f2, f3, f4, f5⟩ := hf it (by simp)
  exact wpAny_pyNext_range_end (I.ok.hd hc) st (by have : n <= i := hg; (first | lia | omega)) fun h' eb => ⟨rfl, I.turned (t' := s.toks) (fun b o hb e => eb b o hb e) f0 f1 f3 f4 f5⟩
 self := fun _ _ _ _ _ st h => wpAny_pyIter_rangeiter st h
end L2
namespace L2
open PySem PySem.Spec PyProof.Rows
section
variable {X : Cx} {tg : Expr}
noncomputable def iList (K : PySem.W.Frag) (tl : TE) : TI := fun σ H R => tl σ H fun x H1 => ∃ a, x = .ref a /\ (∃ xs, SqL K H1 a xs) /\ R (Itl K a) H1
noncomputable def iTup (K : PySem.W.Frag) (tl : TE) : TI := fun σ H R => tl σ H fun x H1 => ∃ a, x = .ref a /\ (∃ xs, SqT K H1 a xs) /\ R (Itt K a) H1
theorem pi_list {l : Expr} {tl : TE} (hl : PE X l tl) : PI X tg l (iList X.K tl) := by
 intro pins s σ H R I h
 refine thn (hl pins s σ H _ I h) fun v s1 ⟨x, H1, I1, r1, q1⟩ => ?_
 obtain ⟨a, e, ⟨xs, hq⟩, q⟩ := q1
 subst e
 cases r1
 obtain ⟨its, rv, p, hz⟩ := I1.list hq
 refine wpAny_pyIter_list p.isList ?_
 refine ⟨s1.heap.objs.size, [s1.heap.objs.size], _, _, H1, rfl, I1.kept (t' := s1.toks) fun b o e => Heap.get?_push_of_some _ e, turn_list a _, ⟨_, Heap.get?_push_size _ rfl, rfl, rfl⟩, fun b hb => ?_, q⟩
 have e : b = s1.heap.objs.size := by simpa using hb
 subst e
 exact I1.fpOk (Nat.le_refl _) (I1.hok.fresh (Nat.le_refl _))
theorem pi_tup {l : Expr} {tl : TE} (hl : PE X l tl) : PI X tg l (iTup X.K tl) := by
 intro pins s σ H R I h
 refine thn (hl pins s σ H _ I h) fun v s1 ⟨x, H1, I1, r1, q1⟩ => ?_
 obtain ⟨a, e, ⟨xs, hq⟩, q⟩ := q1
 subst e
 cases r1
 obtain ⟨its, rv, p, hz⟩ := I1.tuple hq
 refine wpAny_pyIter_tuple (show s1.heap.IsTuple a its.toArray from p) ?_
 refine ⟨s1.heap.objs.size, [s1.heap.objs.size], _, _, H1, rfl, I1.kept (t' := s1.toks) fun b o e => Heap.get?_push_of_some _ e, turn_tuple a _, ⟨_, Heap.get?_push_size _ rfl, rfl, rfl⟩, fun b hb => ?_, q⟩
 have e : b = s1.heap.objs.size := by simpa using hb
 subst e
 exact I1.fpOk (Nat.le_refl _) (I1.hok.fresh (Nat.le_refl _))
theorem range_it {pins : List (Addr × Obj)} {σ : St} {H : Hp} {s : Shared} {R : It -> Hp -> Prop} {E : Value -> Shared -> Prop} {lo hi : Int} {t u v : Tok} {tk : Nat} (I : Inv X pins σ H s) (h1 : -(2 ^ 62) <= lo) (h2 : lo < 2 ^ 62) (h3 : -(2 ^ 62) <= hi) (h4 : hi < 2 ^ 62)
  (q : R (Itr lo (hi - lo).toNat) H) : wpAny (model X.prog X.w) X.A (pyIter (.ref s.heap.objs.size)) (PIE X pins σ tg R) E { s with heap := s.heap.push { cls := .type "range", data := .fields #[.int lo t, .int hi u, .int 1 v] }, toks := tk } := by
 refine wpAny_pyIter_range (IsRange.new ..) (small_one h1 h2 h3 h4) ?_
 have I1 : Inv X pins σ H { s with heap := s.heap.push { cls := .type "range", data := .fields #[.int lo t, .int hi u, .int 1 v] }, toks := tk } := I.kept fun b o e => Heap.get?_push_of_some _ e
 refine ⟨(s.heap.push { cls := .type "range", data := .fields #[.int lo t, .int hi u, .int 1 v] }).objs.size, [(s.heap.push { cls := .type "range", data := .fields #[.int lo t, .int hi u, .int 1 v] }).objs.size], _, _, H, rfl,
  I1.kept (t' := tk) fun b o e => Heap.get?_push_of_some _ e, turn_range _ lo (hi - lo).toNat, ?_, fun b hb => ?_, q⟩
 ·have e1 : lo + ((0 : Nat) : Int) * 1 = lo := by simp
  have e2 : (((hi - lo).toNat : Nat) : Int) - ((0 : Nat) : Int) = Builtin.Range.rangeSize lo hi 1 := by rw [rangeSize_one]; split <;> (first | lia | omega)
  show IsRangeIter _ _ (lo + ((0 : Nat) : Int) * 1) ((((hi - lo).toNat : Nat) : Int) - ((0 : Nat) : Int)) 1
  rw [e1, e2]
  exact Heap.get?_push_size _ rfl
 ·have e : b = (s.heap.push { cls := .type "range", data := .fields #[.int lo t, .int hi u, .int 1 v] }).objs.size := by simpa using hb
  subst e
  exact I1.fpOk (Nat.le_refl _) (I1.hok.fresh (Nat.le_refl _))
noncomputable def iRng1 (ta : TA) : TI := fun σ H R => ta σ H fun vs H1 => ∃ j : Int, vs = [.int j] /\ -(2 ^ 62) <= j /\ j < 2 ^ 62 /\ R (Itr 0 j.toNat) H1
noncomputable def iRng2 (ta : TA) : TI := fun σ H R => ta σ H fun vs H1 => ∃ i j : Int, vs = [.int i, .int j] /\ (-(2 ^ 62) <= i /\ i < 2 ^ 62 /\ -(2 ^ 62) <= j /\ j < 2 ^ 62) /\ R (Itr i (j - i).toNat) H1
theorem pi_range1 {a : Expr} {ta : TA} {p pos : Pos} (hg : Gl X "range") (hm : X.mg "range" = none) (ha : PA X [a] ta) (hs : starEach [a] X.env = [(false, eval a X.env)] := by rfl) : PI X tg (.Call (.Name "range" p) [a] [] pos) (iRng1 ta) := by
 intro pins s σ H R I h
 refine Call_ (ld_blt I hg hm boot_range (PyProof.Rows.callWith_type1 (thn (ha pos pins s σ H _ I h) fun us s1 ⟨vs, H1, I1, r1, q1⟩ => ?_) hs rfl))
 obtain ⟨j, e, q1, q2, q⟩ := q1
 subst e
 cases r1 with
 | cons r rr =>
  cases rr
  obtain ⟨t, rfl⟩ := r
  exact call_range_1 (range_it I1 (by (first | lia | omega)) (by (first | lia | omega)) q1 q2 (by simpa using q))
theorem pi_range2 {a b : Expr} {ta : TA} {p pos : Pos} (hg : Gl X "range") (hm : X.mg "range" = none) (ha : PA X [a, b] ta) (hs : starEach [a, b] X.env = [(false, eval a X.env), (false, eval b X.env)] := by rfl) (hs2 : starEach [b] X.env = [(false, eval b X.env)] := by rfl) :
  PI X tg (.Call (.Name "range" p) [a, b] [] pos) (iRng2 ta) := by
 intro pins s σ H R I h
 refine Call_ (ld_blt I hg hm boot_range (PyProof.Rows.callWith_type1 (thn (ha pos pins s σ H _ I h) fun us s1 ⟨vs, H1, I1, r1, q1⟩ => ?_) (by rw [hs, hs2]) (by rw [hs2]; rfl)))
 obtain ⟨i, j, e, ⟨q1, q2, q3, q4⟩, q⟩ := q1
 subst e
 cases r1 with
 | cons r rr =>
  cases rr with
  | cons r' rr =>
   cases rr
   obtain ⟨t, rfl⟩ := r
   obtain ⟨t', rfl⟩ := r'
   exact call_range_2 (range_it I1 q1 q2 q3 q4 q)
noncomputable def tFor (wi : TI) (g : TG) (tb : TS) : TS := fun D σ H => wi σ H fun J H1 => ∃ W : Nat -> Nat -> St -> Hp -> Prop, (∃ m, W 0 m σ H1) /\ ∀ i m σ H, W i m σ H ->
 (J.stop i H /\ D.nx σ H) ∨ (J.go i H /\ ∃ N : St -> Hp -> Prop, (∀ σ' H', N σ' H' -> ∃ m', m' < m /\ W (i + 1) m' σ' H') /\ ∀ x H', J.yld i H x H' -> g x σ H' fun σ2 H2 => tb { D with nx := N, ct := N, bk := D.nx } σ2 H2)
noncomputable def pinsAt (fp : List Addr) (h : Heap) : List (Addr × Obj) := fp.filterMap fun b => (h.get? b).map fun o => (b, o)
theorem mem_pinsAt {fp : List Addr} {h : Heap} {b : Addr} {o : Obj} (hb : b ∈ fp) (e : h.get? b = some o) : (b, o) ∈ pinsAt fp h := List.mem_filterMap.mpr ⟨b, hb, by rw [e]; rfl⟩
theorem of_pinsAt {fp : List Addr} {h : Heap} {p : Addr × Obj} (hp : p ∈ pinsAt fp h) : p.1 ∈ fp /\ h.get? p.1 = some p.2 := by
 obtain ⟨b, hb, e⟩ := List.mem_filterMap.mp hp
 cases q : h.get? b with
 | none => rw [q] at e; cases e
 | some o =>
  rw [q] at e
  have e' : (b, o) = p := Option.some.inj e
  subst e'
  exact ⟨hb, q⟩
theorem Inv.pinned {pins : List (Addr × Obj)} {σ : St} {H : Hp} {s : Shared} {fp : List Addr} (I : Inv X pins σ H s) (hf : ∀ b ∈ fp, FpOk X pins H b) (ho : ∀ b ∈ fp, ∃ o, s.heap.get? b = some o /\ ∀ v, o.data ≠ .cell v) : Inv X (pins ++ pinsAt fp s.heap) σ H s :=
 I.pins_of fun p hp => (List.mem_append.mp hp).elim (fun z => I.pin p (List.mem_append_right _ z)) fun z => by
  obtain ⟨hb, e⟩ := of_pinsAt z
  obtain ⟨f0, f1, f2, _⟩ := hf p.1 hb
  obtain ⟨o, e', d⟩ := ho p.1 hb
  rw [e] at e'; cases e'
  exact ⟨e, f0, f1, f2, d⟩
theorem Inv.unpinned {pins pl : List (Addr × Obj)} {σ : St} {H : Hp} {s : Shared} (I : Inv X (pins ++ pl) σ H s) : Inv X pins σ H s := I.pins_of fun p hp => I.pin p (List.mem_append_right _ (List.mem_append_left _ hp))
theorem ps_for {iter : Expr} {body : List Stmt} {wi : TI} {g : TG} {tb : TS} {pos : Pos} (hp : PassesOwn (model X.prog X.w) X.A X.env X.xe) (hc : X.calm = true) (hi : PI X tg iter wi) (hg : PG X tg g) (hb : PSs X body tb)
  (hs : ∀ x, foldedSetIterable iter X.env x = pure x := by intro _; rfl) : PS X (.For tg iter body [] pos) (tFor wi g tb) := by
 intro pins s σ H D I h
 refine wpAny_For (thn (hi pins s σ H _ I h) fun v s1 h1 => thn h1 fun itv s2 h2 => ?_) hs
 obtain ⟨it, fp, tn, J, H2, e, I2, T, st2, f2, W, ⟨m0, w0⟩, turn⟩ := h2
 subst e
 have stat : ∀ {H' : Hp}, (∀ b ∈ fp, H' b = none) -> ∀ b ∈ fp, FpOk X pins H' b := fun hn b hb => ⟨hn b hb, (f2 b hb).2⟩
 refine codeAny_forLoop_any (fun n s' => ∃ i σ' H', Inv X pins σ' H' s' /\ tn i s'.heap /\ (∀ b ∈ fp, H' b = none) /\ W i n σ' H') ?_ m0 ⟨0, σ, H2, I2, st2, fun b hb => (f2 b hb).1, w0⟩
 rintro n s3 ⟨i, σ3, H3, I3, st3, fr3, w3⟩
 rcases turn i n σ3 H3 w3 with ⟨stop, qn⟩ | ⟨go, N, hN, step⟩
 ·refine wpAny_passesOwn hp (thn (T.done X rfl rfl rfl hc i pins s3 σ3 H3 X.xe I3 (stat fr3) st3 stop) fun r s4 ⟨hr, I4⟩ => ?_)
  subst hr
  exact wpAny_execs_nil ⟨σ3, H3, I4, qn⟩
 ·refine wpAny_passesOwn hp (thn (T.item X rfl rfl rfl hc i pins s3 σ3 H3 X.xe I3 (stat fr3) st3 go) fun r s4 ⟨u, hr, h4⟩ => ?_)
  subst hr
  refine wpAny_passesOwn hp (thn h4 fun _ s5 ⟨x, H5, I5, r5, y5, st5, fr5⟩ => ?_)
  have I5' := I5.pinned (stat fr5) (T.obj _ _ st5)
  refine wpAny_passesOwn hp (thn (hg _ s5 σ3 H5 x u _ I5' r5 (step x H5 y5)) fun _ s6 ⟨σ6, H6, I6, q6⟩ => ?_)
  refine wpAny_passesOwn hp (thn (hb _ s6 σ6 H6 _ I6 q6) fun f s7 q7 => ?_)
  have again : ∀ {σ7 : St} {H7 : Hp}, Inv X (pins ++ pinsAt fp s5.heap) σ7 H7 s7 -> N σ7 H7 -> ∃ m, m < n /\ ∃ i σ' H', Inv X pins σ' H' s7 /\ tn i s7.heap /\ (∀ b ∈ fp, H' b = none) /\ W i m σ' H' := fun {σ7 H7} I7 n7 => by
   obtain ⟨m', hm, w7⟩ := hN σ7 H7 n7
   refine ⟨m', hm, i + 1, σ7, H7, I7.unpinned, T.keep _ _ _ st5 fun b hb o e => (I7.pin (b, o) (List.mem_append_right _ (List.mem_append_right _ (mem_pinsAt hb e)))).1, fun b hb => ?_, w7⟩
   obtain ⟨o, e, d⟩ := T.obj _ _ st5 b hb
   exact (I7.pin (b, o) (List.mem_append_right _ (List.mem_append_right _ (mem_pinsAt hb e)))).2.1
  cases f with
  | next => obtain ⟨σ7, H7, I7, n7⟩ := q7; exact again I7 n7
  | cont => obtain ⟨σ7, H7, I7, n7⟩ := q7; exact again I7 n7
  | brk => obtain ⟨σ7, H7, I7, q7⟩ := q7; exact ⟨σ7, H7, I7.unpinned, q7⟩
  | ret v => obtain ⟨x7, σ7, H7, I7, r7, q7⟩ := q7; exact ⟨x7, σ7, H7, I7.unpinned, r7, q7⟩
end
theorem for_list {K : PySem.W.Frag} {a : Addr} {xs : List V} {g : TG} {tb : TS} {D : Ends} {σ : St} {H : Hp} (Pv : Nat -> St -> Hp -> Prop) (h0 : Pv 0 σ H) (hl : ∀ i σ H, i <= xs.length -> Pv i σ H -> SqL K H a xs)
  (hs : ∀ i x σ H, xs[i]? = some x -> Pv i σ H -> g x σ H fun σ2 H2 => tb { D with nx := Pv (i + 1), ct := Pv (i + 1), bk := D.nx } σ2 H2) (hd : ∀ σ H, Pv xs.length σ H -> D.nx σ H) :
  ∃ W : Nat -> Nat -> St -> Hp -> Prop, (∃ m, W 0 m σ H) /\ ∀ i m σ H, W i m σ H ->
   ((Itl K a).stop i H /\ D.nx σ H) ∨ ((Itl K a).go i H /\ ∃ N : St -> Hp -> Prop, (∀ σ' H', N σ' H' -> ∃ m', m' < m /\ W (i + 1) m' σ' H') /\ ∀ x H', (Itl K a).yld i H x H' -> g x σ H' fun σ2 H2 => tb { D with nx := N, ct := N, bk := D.nx } σ2 H2) := by
 refine ⟨fun i m σ H => m = xs.length - i /\ i <= xs.length /\ Pv i σ H, ⟨xs.length, by simp, Nat.zero_le _, h0⟩, ?_⟩
 rintro i m σ H ⟨rfl, hi, p⟩
 have q := hl i σ H hi p
 by_cases hlt : i < xs.length
 ·refine .inr ⟨⟨xs, xs[i], q, by simp [hlt]⟩, Pv (i + 1), fun σ' H' p' => ⟨xs.length - (i + 1), by (first | lia | omega), rfl, hlt, p'⟩, fun x H' y => ?_⟩
  obtain ⟨e, y⟩ := y
  subst e
  exact hs i x σ _ (y xs q) p
 ·have e : i = xs.length := by (first | lia | omega)
  subst e
  exact .inl ⟨⟨xs, q, Nat.le_refl _⟩, hd σ H p⟩
theorem for_range {lo : Int} {n : Nat} {g : TG} {tb : TS} {D : Ends} {σ : St} {H : Hp} (Pv : Nat -> St -> Hp -> Prop) (h0 : Pv 0 σ H)
  (hs : ∀ i σ H, i < n -> Pv i σ H -> g (.int (lo + i)) σ H fun σ2 H2 => tb { D with nx := Pv (i + 1), ct := Pv (i + 1), bk := D.nx } σ2 H2) (hd : ∀ σ H, Pv n σ H -> D.nx σ H) :
  ∃ W : Nat -> Nat -> St -> Hp -> Prop, (∃ m, W 0 m σ H) /\ ∀ i m σ H, W i m σ H ->
   ((Itr lo n).stop i H /\ D.nx σ H) ∨ ((Itr lo n).go i H /\ ∃ N : St -> Hp -> Prop, (∀ σ' H', N σ' H' -> ∃ m', m' < m /\ W (i + 1) m' σ' H') /\ ∀ x H', (Itr lo n).yld i H x H' -> g x σ H' fun σ2 H2 => tb { D with nx := N, ct := N, bk := D.nx } σ2 H2) := by
 refine ⟨fun i m σ H => m = n - i /\ i <= n /\ Pv i σ H, ⟨n, by simp, Nat.zero_le _, h0⟩, ?_⟩
 rintro i m σ H ⟨rfl, hi, p⟩
 by_cases hlt : i < n
 ·refine .inr ⟨hlt, Pv (i + 1), fun σ' H' p' => ⟨n - (i + 1), by (first | lia | omega), rfl, hlt, p'⟩, fun x H' y => ?_⟩
  obtain ⟨e, y⟩ := y
  subst e y
  exact hs i σ _ hlt p
 ·have e : i = n := by (first | lia | omega)
  subst e
  exact .inl ⟨Nat.le_refl _, hd σ H p⟩
end L2
namespace L2
open PySem PySem.Spec PyProof.Rows
noncomputable abbrev R2 := V -> V -> Hp -> VK -> Prop
noncomputable def OpR (X : Cx) (f : Value -> Value -> Sem Value) (r : R2) : Prop :=
 ∀ (pins : List (Addr × Obj)) (s : Shared) (σ : St) (H : Hp) (x y : V) (v u : Value) (Q : VK), Inv X pins σ H s -> RelV x v -> RelV y u -> r x y H Q ->
  wpAny (model X.prog X.w) X.A (f v u) (EP X pins σ Q) X.xe s
noncomputable def CallR (X : Cx) (f : Value) (r : List V -> Hp -> VK -> Prop) : Prop :=
 ∀ (pins : List (Addr × Obj)) (s : Shared) (σ : St) (H : Hp) (xs : List V) (us : List Value) (Q : VK), Inv X pins σ H s -> Vals xs us -> r xs H Q ->
  wpAny (model X.prog X.w) X.A (call f us) (EP X pins σ Q) X.xe s
noncomputable def tOp (r : R2) (ta tb : TE) : TE := fun σ H Q => ta σ H fun x H1 => tb σ H1 fun y H2 => r x y H2 Q
noncomputable def rI (C : Int -> Int -> Prop) (g : Int -> Int -> V) : R2 := fun x y H Q => ∃ i j, x = .int i /\ y = .int j /\ C i j /\ Q (g i j) H
noncomputable def rI0 (g : Int -> Int -> V) : R2 := fun x y H Q => ∃ i j, x = .int i /\ y = .int j /\ Q (g i j) H
section
variable {X : Cx} {a b c : Expr} {ta tb tc : TE} {pos : Pos}
theorem binT (ha : PE X a ta) (hb : PE X b tb) {pins : List (Addr × Obj)} {s : Shared} {σ : St} {H : Hp} {R : V -> V -> Hp -> Prop} (I : Inv X pins σ H s)
  (h : ta σ H fun x H1 => tb σ H1 fun y H2 => R x y H2) {Q : Value -> Shared -> Prop} {f : Value -> Value -> Sem Value}
  (hf : ∀ v u s2 x y H2, Inv X pins σ H2 s2 -> RelV x v -> RelV y u -> R x y H2 -> wpAny (model X.prog X.w) X.A (f v u) Q X.xe s2) :
  wpAny (model X.prog X.w) X.A (eval a X.env) (fun v s₁ => wpAny (model X.prog X.w) X.A (eval b X.env) (fun u s₂ => wpAny (model X.prog X.w) X.A (f v u) Q X.xe s₂) X.xe s₁) X.xe s := by
 refine thn (ha pins s σ H _ I h) fun v s1 ⟨x, H1, I1, r1, q1⟩ => ?_
 refine thn (hb pins s1 σ H1 _ I1 q1) fun u s2 ⟨y, H2, I2, r2, q2⟩ => ?_
 exact hf v u s2 x y H2 I2 r1 r2 q2
theorem pe_op {op : Operator} {r : R2} (ho : OpR X (binaryOp op) r) (ha : PE X a ta) (hb : PE X b tb) : PE X (.BinOp a op b pos) (tOp r ta tb) := by
 intro pins s σ H Q I h
 exact wpAny_BinOp (binT ha hb I h fun v u s2 x y H2 I2 rx ry q => ho pins s2 σ H2 x y v u Q I2 rx ry q)
theorem opI {f : Value -> Value -> Sem Value} {C : Int -> Int -> Prop} {g : Int -> Int -> Int}
  (rule : ∀ (i j : Int) (t u : Tok) (s : Shared) (Q : Value -> Shared -> Prop) (E : Value -> Shared -> Prop), C i j -> Q (.int (g i j) s.toks) { s with toks := s.toks + 1 } -> wpAny (model X.prog X.w) X.A (f (.int i t) (.int j u)) Q E s) :
  OpR X f (rI C fun i j => .int (g i j)) := by
 intro pins s σ H x y v u Q I rx ry h
 obtain ⟨i, j, rfl, rfl, hc, q⟩ := h
 obtain ⟨t, rfl⟩ := rx
 obtain ⟨t', rfl⟩ := ry
 exact rule i j t t' s _ _ hc ⟨.int (g i j), H, I.tok _, ⟨_, rfl⟩, q⟩
theorem opI0 {f : Value -> Value -> Sem Value} {g : Int -> Int -> Int}
  (rule : ∀ (i j : Int) (t u : Tok) (s : Shared) (Q : Value -> Shared -> Prop) (E : Value -> Shared -> Prop), Q (.int (g i j) s.toks) { s with toks := s.toks + 1 } -> wpAny (model X.prog X.w) X.A (f (.int i t) (.int j u)) Q E s) :
  OpR X f (rI0 fun i j => .int (g i j)) := by
 intro pins s σ H x y v u Q I rx ry h
 obtain ⟨i, j, rfl, rfl, q⟩ := h
 obtain ⟨t, rfl⟩ := rx
 obtain ⟨t', rfl⟩ := ry
 exact rule i j t t' s _ _ ⟨.int (g i j), H, I.tok _, ⟨_, rfl⟩, q⟩
theorem opB0 {f : Value -> Value -> Sem Value} {g : Int -> Int -> Bool}
  (rule : ∀ (i j : Int) (t u : Tok) (s : Shared) (Q : Value -> Shared -> Prop) (E : Value -> Shared -> Prop), Q (.bool (g i j)) s -> wpAny (model X.prog X.w) X.A (f (.int i t) (.int j u)) Q E s) :
  OpR X f (rI0 fun i j => .bl (g i j)) := by
 intro pins s σ H x y v u Q I rx ry h
 obtain ⟨i, j, rfl, rfl, q⟩ := h
 obtain ⟨t, rfl⟩ := rx
 obtain ⟨t', rfl⟩ := ry
 exact rule i j t t' s _ _ ⟨.bl (g i j), H, I, rfl, q⟩
noncomputable def CDiv (i j : Int) : Prop := 0 < j /\ j < 1073741824
noncomputable def CPow (i j : Int) : Prop := 0 <= j /\ j <= 1000000 /\ i.natAbs < 2 ^ 64
noncomputable def CMul (i j : Int) : Prop := (-(2 ^ 64) < i /\ i < 2 ^ 64) ∨ (-(2 ^ 64) < j /\ j < 2 ^ 64)
theorem CMul.ok {i j : Int} (h : CMul i j) : IntMulOk i j := by
 rcases h with ⟨h1, h2⟩ | ⟨h1, h2⟩
 ·exact .of_left (intBits_le_64 h1 h2)
 ·exact .of_right (intBits_le_64 h1 h2)
theorem op_add : OpR X (binaryOp .Add) (rI0 fun i j => .int (i + j)) := opI0 fun _ _ _ _ _ _ _ q => add_int q
theorem op_sub : OpR X (binaryOp .Sub) (rI0 fun i j => .int (i - j)) := opI0 fun _ _ _ _ _ _ _ q => sub_int q
theorem op_mul : OpR X (binaryOp .Mult) (rI CMul fun i j => .int (i * j)) := opI fun _ _ _ _ _ _ _ hc q => mul_int q hc.ok
theorem op_fdiv : OpR X (binaryOp .FloorDiv) (rI CDiv fun i j => .int (i / j)) := opI fun i j _ _ _ _ _ hc q => by
 have h1 : (0 : Int) < j := hc.1
 have h2 : j < 1073741824 := hc.2
 exact floordiv_int (by (first | lia | omega)) (by rw [Int.fdiv_eq_ediv_of_nonneg i (by (first | lia | omega))]; exact q) (.inl (PyProof.noPylong_small (by (first | lia | omega))))
theorem op_mod : OpR X (binaryOp .Mod) (rI (fun _ j => 0 < j) fun i j => .int (i % j)) := opI fun i j _ _ _ _ _ hc q => by
 have h1 : (0 : Int) < j := hc
 exact mod_int' (by (first | lia | omega)) (by rw [Int.fmod_eq_emod_of_nonneg i (by (first | lia | omega))]; exact q)
theorem op_pow : OpR X (binaryOp .Pow) (rI CPow fun i j => .int (i ^ j.toNat)) := opI fun _ _ _ _ _ _ _ hc q => pow_int_small hc.1 hc.2.1 hc.2.2 q
end
noncomputable def scal : V -> V -> Bool
 | .non, .non => true | .non, .int _ => true | .int _, .non => true | .non, .bl _ => true | .bl _, .non => true | .non, .str _ => true | .str _, .non => true
 | .int _, .int _ => true | .bl _, .bl _ => true | .str _, .str _ => true | .byt _, .byt _ => true
 | .int _, .str _ => true | .str _, .int _ => true | .bl _, .str _ => true | .str _, .bl _ => true
 | _, _ => false
noncomputable def rEq : R2 := fun x y H Q => scal x y = true /\ Q (.bl (decide (x = y))) H
noncomputable def rNe : R2 := fun x y H Q => scal x y = true /\ Q (.bl (!decide (x = y))) H
theorem dec_int {i j : Int} : decide (V.int i = V.int j) = (i == j) := by
 rw [Bool.eq_iff_iff]
 simp
theorem dec_bl {i j : Bool} : decide (V.bl i = V.bl j) = (i == j) := by
 rw [Bool.eq_iff_iff]
 simp
theorem dec_str {i j : Str} : decide (V.str i = V.str j) = (i == j) := by
 rw [Bool.eq_iff_iff]
 simp
theorem dec_byt {i j : Array UInt8} : decide (V.byt i = V.byt j) = (i.toList == j.toList) := by
 rw [Bool.eq_iff_iff]
 cases i
 cases j
 simp
section
variable {X : Cx} {a b c : Expr} {ta tb tc : TE} {pos : Pos}
theorem fin_bl {pins : List (Addr × Obj)} {σ : St} {H : Hp} {s : Shared} {Q : VK} {k k' : Bool} (I : Inv X pins σ H s) (q : Q (.bl k) H) (e : k = k') : EP X pins σ Q (.bool k') s := by
 subst e
 exact ⟨.bl k, H, I, rfl, q⟩
theorem op_eq : OpR X (compareOp .Eq) rEq := by
 intro pins s σ H x y v u Q I rx ry h
 obtain ⟨hs, q⟩ := h
 cases x with
 | non =>
  cases rx
  cases y with
  | non => cases ry; exact PySem.EqNone.eq_none_none (fin_bl I q (by simp))
  | bl j => cases ry; exact PySem.EqNone.eq_none_bool (fin_bl I q (by simp))
  | int j => obtain ⟨t', rfl⟩ := ry; exact PySem.EqNone.eq_none_int (fin_bl I q (by simp))
  | str j => obtain ⟨t', rfl⟩ := ry; exact PySem.EqNone.eq_none_str (fin_bl I q (by simp))
  | _ => exact absurd (show false = true from hs) Bool.false_ne_true
 | bl i =>
  cases rx
  cases y with
  | non => cases ry; exact PySem.EqNone.eq_bool_none (fin_bl I q (by simp))
  | bl j => cases ry; exact eq_bool (fin_bl I q dec_bl)
  | str j => obtain ⟨t', rfl⟩ := ry; exact PySem.EqMixed.eq_bool_str (fin_bl I q (by simp))
  | _ => exact absurd (show false = true from hs) Bool.false_ne_true
 | int i =>
  obtain ⟨t, rfl⟩ := rx
  cases y with
  | non => cases ry; exact PySem.EqNone.eq_int_none (fin_bl I q (by simp))
  | int j => obtain ⟨t', rfl⟩ := ry; exact eq_int (fin_bl I q dec_int)
  | str j => obtain ⟨t', rfl⟩ := ry; exact PySem.EqMixed.eq_int_str (fin_bl I q (by simp))
  | _ => exact absurd (show false = true from hs) Bool.false_ne_true
 | str i =>
  obtain ⟨t, rfl⟩ := rx
  cases y with
  | non => cases ry; exact PySem.EqNone.eq_str_none (fin_bl I q (by simp))
  | bl j => cases ry; exact PySem.EqMixed.eq_str_bool (fin_bl I q (by simp))
  | int j => obtain ⟨t', rfl⟩ := ry; exact PySem.EqMixed.eq_str_int (fin_bl I q (by simp))
  | str j => obtain ⟨t', rfl⟩ := ry; exact eq_str (fin_bl I q dec_str)
  | _ => exact absurd (show false = true from hs) Bool.false_ne_true
 | byt i =>
  obtain ⟨t, rfl⟩ := rx
  cases y with
  | byt j => obtain ⟨t', rfl⟩ := ry; exact PySem.W.eq_bytes (fin_bl I q dec_byt)
  | _ => exact absurd (show false = true from hs) Bool.false_ne_true
 | _ => cases y <;> exact absurd (show false = true from hs) Bool.false_ne_true
theorem op_ne : OpR X (compareOp .NotEq) rNe := by
 intro pins s σ H x y v u Q I rx ry h
 obtain ⟨hs, q⟩ := h
 cases x with
 | non =>
  cases rx
  cases y with
  | non => cases ry; exact PySem.EqNone.ne_none_none (fin_bl I q (by simp))
  | bl j => cases ry; exact PySem.EqNone.ne_none_bool (fin_bl I q (by simp))
  | int j => obtain ⟨t', rfl⟩ := ry; exact PySem.EqNone.ne_none_int (fin_bl I q (by simp))
  | str j => obtain ⟨t', rfl⟩ := ry; exact PySem.EqNone.ne_none_str (fin_bl I q (by simp))
  | _ => exact absurd (show false = true from hs) Bool.false_ne_true
 | bl i =>
  cases rx
  cases y with
  | non => cases ry; exact PySem.EqNone.ne_bool_none (fin_bl I q (by simp))
  | bl j => cases ry; exact ne_bool (fin_bl I q (congrArg not dec_bl))
  | str j => obtain ⟨t', rfl⟩ := ry; exact PySem.EqMixed.ne_bool_str (fin_bl I q (by simp))
  | _ => exact absurd (show false = true from hs) Bool.false_ne_true
 | int i =>
  obtain ⟨t, rfl⟩ := rx
  cases y with
  | non => cases ry; exact PySem.EqNone.ne_int_none (fin_bl I q (by simp))
  | int j => obtain ⟨t', rfl⟩ := ry; exact ne_int (fin_bl I q (congrArg not dec_int))
  | str j => obtain ⟨t', rfl⟩ := ry; exact PySem.EqMixed.ne_int_str (fin_bl I q (by simp))
  | _ => exact absurd (show false = true from hs) Bool.false_ne_true
 | str i =>
  obtain ⟨t, rfl⟩ := rx
  cases y with
  | non => cases ry; exact PySem.EqNone.ne_str_none (fin_bl I q (by simp))
  | bl j => cases ry; exact PySem.EqMixed.ne_str_bool (fin_bl I q (by simp))
  | int j => obtain ⟨t', rfl⟩ := ry; exact PySem.EqMixed.ne_str_int (fin_bl I q (by simp))
  | str j => obtain ⟨t', rfl⟩ := ry; exact ne_str (fin_bl I q (congrArg not dec_str))
  | _ => exact absurd (show false = true from hs) Bool.false_ne_true
 | byt i =>
  obtain ⟨t, rfl⟩ := rx
  cases y with
  | byt j => obtain ⟨t', rfl⟩ := ry; exact PySem.W.ne_bytes (fin_bl I q (congrArg not dec_byt))
  | _ => exact absurd (show false = true from hs) Bool.false_ne_true
 | _ => cases y <;> exact absurd (show false = true from hs) Bool.false_ne_true
theorem op_lt : OpR X (compareOp .Lt) (rI0 fun i j => .bl (decide (i < j))) := opB0 fun _ _ _ _ _ _ _ q => lt_int q
theorem op_gt : OpR X (compareOp .Gt) (rI0 fun i j => .bl (decide (j < i))) := opB0 fun _ _ _ _ _ _ _ q => gt_int q
theorem op_ge : OpR X (compareOp .GtE) (rI0 fun i j => .bl (decide (j <= i))) := opB0 fun _ _ _ _ _ _ _ q => ge_int q
theorem nomark (b : Expr) {op : CmpOp} (h : op ≠ .In := by decide) (h2 : op ≠ .NotIn := by decide) : behindInMarks op b = false := by
 have e1 : (op == CmpOp.In) = false := by cases op <;> first | rfl | exact absurd rfl h
 have e2 : (op == CmpOp.NotIn) = false := by cases op <;> first | rfl | exact absurd rfl h2
 cases b <;> simp [behindInMarks, e1, e2]
theorem pe_cmpR {op : CmpOp} {r : R2} (ho : OpR X (compareOp op) r) (ha : PE X a ta) (hb : PE X b tb) (hm : behindInMarks op b = false) : PE X (.Compare a [op] [b] pos) (tOp r ta tb) := by
 intro pins s σ H Q I h
 exact wpAny_Compare1 (binT ha hb I h fun v u s2 x y H2 I2 rx ry q => ho pins s2 σ H2 x y v u Q I2 rx ry q) hm
noncomputable def tTest (t : TE) : TT := fun σ H Q => t σ H fun x H' => ∃ k, x = .bl k /\ Q k H'
theorem pt_cmpR {op : CmpOp} {r : R2} (ho : OpR X (compareOp op) r) (ha : PE X a ta) (hb : PE X b tb) (hm : behindInMarks op b = false) : PT X (.Compare a [op] [b] pos) (tTest (tOp r ta tb)) := by
 intro pins s σ H Q I h
 refine wpAny_isTrue_Compare1 (thn (ha pins s σ H _ I h) fun v s1 ⟨x, H1, I1, r1, q1⟩ => thn (hb pins s1 σ H1 _ I1 q1) fun u s2 ⟨y, H2, I2, r2, q2⟩ =>
  thn (ho pins s2 σ H2 x y v u _ I2 r1 r2 q2) fun c s3 ⟨z, H3, I3, r3, k, e, q3⟩ => ?_) hm
 subst e
 cases r3
 exact wpAny_truthy_bool ⟨H3, I3, q3⟩
theorem line63 : (sizeLine : Nat) < 2 ^ 63 := by rw [sizeLine_eq]; decide
theorem vals1 {x : V} {us : List Value} (r : Vals [x] us) : ∃ u, us = [u] /\ RelV x u := by
 cases r with
 | cons r1 r2 => cases r2; exact ⟨_, rfl, r1⟩
theorem vals2 {x y : V} {us : List Value} (r : Vals [x, y] us) : ∃ u w', us = [u, w'] /\ RelV x u /\ RelV y w' := by
 cases r with
 | cons r1 r2 =>
  cases r2 with
  | cons r3 r4 => cases r4; exact ⟨_, _, rfl, r1, r3⟩
theorem call_min2 (hc : X.calm = true) : CallR X (.builtin "min") (fun xs H Q => ∃ i j, xs = [.int i, .int j] /\ Q (.int (if j < i then j else i)) H) := by
 intro pins s σ H xs us Q I r h
 obtain ⟨i, j, rfl, q⟩ := h
 obtain ⟨u, w', rfl, ⟨t, rfl⟩, ⟨t', rfl⟩⟩ := vals2 r
 refine min_two_ints (I.ok.hd hc) fun h' tk k => ⟨_, H, I.kept k, ?_, q⟩
 by_cases hj : j < i
 ·rw [if_pos hj, if_pos hj]; exact ⟨_, rfl⟩
 ·rw [if_neg hj, if_neg hj]; exact ⟨_, rfl⟩
end
end L2
namespace L2
open PySem PySem.Spec PyProof.Rows
structure ObjM (h : Heap) (x dx C : Addr) (mA : Str -> Option Value) : Prop where
 obj : h.get? x = some (PySem.W.instObj C dx)
 ns : h.Ns1 dx mA
 ne : dx ≠ x
theorem lookIn_ns {h : Heap} {dx : Addr} {mA : Str -> Option Value} (n : h.Ns1 dx mA) : ∃ od, h.get? dx = some od /\ ∀ name, PySem.W.lookIn name od = some (mA name) := by
 obtain ⟨o, es, ep, ho, hd, hk, _, hm⟩ := n
 refine ⟨o, ho, fun name => ?_⟩
 have e := hm name
 unfold nsFind findBy at e
 rw [<- Array.find?_toList] at e
 unfold PySem.W.lookIn
 rw [hd]
 dsimp only
 split
 ·rename_i y q
  rw [q] at e
  exact congrArg some e
 ·rename_i q
  rw [q] at e
  have a : es.toList.any (·.refKey) = false := by
   rw [List.any_eq_false]
   intro y hy
   obtain ⟨z, t, hkey⟩ := hk y (Array.mem_toList_iff.mp hy)
   simp [DictEntry.refKey, hkey]
  have a' : ¬ es.toList.any (·.refKey) = true := by rw [a]; exact Bool.false_ne_true
  rw [if_neg a']
  exact congrArg some e
theorem ObjM.look {h : Heap} {x dx C : Addr} {mA : Str -> Option Value} (I : ObjM h x dx C mA) : ∃ od, PySem.W.InstAt h x (PySem.W.instObj C dx) C (some od) /\ ∀ name, PySem.W.lookIn name od = some (mA name) :=
 let ⟨od, ho, hl⟩ := lookIn_ns I.ns
 ⟨od, ⟨I.obj, rfl, rfl, ho⟩, hl⟩
section
variable {prog : Program} {w : World} {A : Around} {E : Value -> Shared -> Prop} {s : Shared} {K : PySem.W.Frag} {x dx C f : Addr} {mA : Str -> Option Value} {name : Str} {v : Value}
end
theorem RelO.some_of {v : V} {o : Option Value} (r : RelO (some v) o) : ∃ u, o = some u /\ RelV v u := by
 cases o with
 | none => exact (show False from r).elim
 | some u => exact ⟨u, rfl, r⟩
section
variable {P : Program} {w : World} {H H' : Hp} {h h' : Heap} {a C dx : Addr} {fs fs' : List (Str × V)}
theorem ins_get (hok : HOk P w H h) (e : H a = some (.ins C dx fs)) : ∃ mA, ObjM h a dx C mA /\ (∀ f, RelO (fs.lookup f) (mA f)) /\ PySem.Within mA (fs.map (·.1)) /\ fs.length <= 1000 /\ H dx = some (.own a) := by
 obtain ⟨d, z, ne, ob, mA, n, r, q⟩ := (show ObjOk P w H h a (.ins C dx fs) from hok a _ e)
 exact ⟨mA, ⟨ob, n, ne⟩, r, q, z, d⟩
end
structure Cls (K : PySem.W.Frag) (C : Addr) : Prop where
 pg : PySem.W.plainGet K C Str.empty = true
 hd : PySem.W.hasDictIn K C = true
 po : PySem.W.plainOver K C = true
 sa : PySem.W.findIn K (.ref C) "__setattr__" = some (some (.builtin "object.__setattr__"))
theorem Cls.get {K : PySem.W.Frag} {C : Addr} (c : Cls K C) (f : Str) : PySem.W.plainGet K C f = true := c.pg
structure Con (K : PySem.W.Frag) (C : Addr) (f : Str) (v : V) (u : Value) : Prop where
 at_ : PySem.W.findIn K (.ref C) f = some (some u)
 rel : RelV v u
 get : PySem.W.specialIn K u "__get__" = some none
 cp : PySem.W.copiedNames.contains f = false
structure Meth (K : PySem.W.Frag) (C : Addr) (m : Str) (f : Addr) : Prop where
 at_ : PySem.W.findIn K (.ref C) m = some (some (.ref f))
 fn : PySem.W.isFn K (.ref f) = true
 kp : PySem.W.keepIn K (.ref f) = true
section
variable {X : Cx} {pins : List (Addr × Obj)} {σ : St} {H : Hp} {s : Shared} {a C dx : Addr} {fs : List (Str × V)} {f : Str} {v : V} {A : Around} {E : Value -> Shared -> Prop}
end
section
variable {X : Cx} {o e value : Expr} {f : Str} {pos pos' tpos : Pos} {ta tv : TE}
end
section
variable {X : Cx} {pins : List (Addr × Obj)} {σ : St} {H : Hp} {s : Shared} {A : Around} {E : Value -> Shared -> Prop} {Q : Value -> Shared -> Prop} {c : Value} {b : Bool}
inductive TyOf (K : PySem.W.Frag) (H : Hp) : V -> Value -> Prop where
 | non : TyOf K H .non (.type "NoneType")
 | bl (x : Bool) : TyOf K H (.bl x) (.type "bool")
 | int (i : Int) : TyOf K H (.int i) (.type "int")
 | str (x : Str) : TyOf K H (.str x) (.type "str")
 | flt (x : UInt64) : TyOf K H (.flt x) (.type "float")
 | lst {a : Addr} {xs : List V} (e : H a = some (.lst xs)) : TyOf K H (.ref a) (.type "list")
 | frz {a : Addr} {o : Obj} {xs : List V} (e : H a = some (.frz o (.lst xs))) : TyOf K H (.ref a) (.type "list")
 | tup {a : Addr} {xs : List V} (e : H a = some (.tup xs)) : TyOf K H (.ref a) (.type "tuple")
 | dK {a : Addr} {kvs : List (Key × V)} (e : H a = some (.dK kvs)) : TyOf K H (.ref a) (.type "dict")
 | dT {a : Addr} {kvs : List (List Key × V)} (e : H a = some (.dT kvs)) : TyOf K H (.ref a) (.type "dict")
 | ins {a C dx : Addr} {fs : List (Str × V)} (e : H a = some (.ins C dx fs)) (cl : Cls K C) (ha : PySem.W.findIn K (.ref C) "__class__" = some (some (.builtin "object.__class__")))
   (hn : PySem.W.specialIn K (.builtin "object.__class__") "__get__" = some (some (.builtin "getset_descriptor.__get__"))) (htk : PySem.W.takesIn K (.builtin "object.__class__") = some true)
   (hm : PySem.W.mroIn K C (.type "object") = some true) : TyOf K H (.ref a) (.ref C)
theorem isinst_ok {x : V} {u t : Value} (I : Inv X pins σ H s) (rx : RelV x u) (ty : TyOf X.K H x t) (e : PySem.W.kitOne X.K t c = some b) (h : ∀ tk, Q (.bool b) { s with toks := tk }) :
  wpAny (model X.prog X.w) A (call (.builtin "isinstance") [u, c]) Q E s := by
 cases ty with
 | non => cases (show u = Value.none from rx); exact PySem.W.kia_one PySem.W.kitx_none I.kIn True.intro e (fun z => nomatch z) h
 | bl y => cases (show u = Value.bool y from rx); exact PySem.W.kia_one PySem.W.kitx_bool I.kIn True.intro e (fun z => nomatch z) h
 | int i => obtain ⟨t, q⟩ := (show ∃ t, u = Value.int i t from rx); cases q; exact PySem.W.kia_one PySem.W.kitx_int I.kIn True.intro e (fun z => nomatch z) h
 | str y => obtain ⟨t, q⟩ := (show ∃ t, u = Value.str y t from rx); cases q; exact PySem.W.kia_one PySem.W.kitx_str I.kIn True.intro e (fun z => nomatch z) h
 | flt y => obtain ⟨t, q⟩ := (show ∃ t, u = Value.float y t from rx); cases q; exact PySem.W.kia_one PySem.W.kitx_float I.kIn True.intro e (fun z => nomatch z) h
 | @lst a xs ea =>
  cases (show u = Value.ref a from rx)
  obtain ⟨_, _, n, _, h1⟩ := (show ObjOk X.prog X.w H s.heap a (.lst xs) from I.hok a _ ea)
  exact PySem.W.kia_one PySem.W.kitx_list I.kIn ⟨_, h1, rfl⟩ e (fun z => nomatch z) h
 | @frz a ob xs ea =>
  cases (show u = Value.ref a from rx)
  obtain ⟨_, _, _, n, _, h1⟩ := (show ObjOk X.prog X.w H s.heap a (.frz ob (.lst xs)) from I.hok a _ ea)
  exact PySem.W.kia_one PySem.W.kitx_list I.kIn ⟨_, h1, rfl⟩ e (fun z => nomatch z) h
 | @tup a xs ea =>
  cases (show u = Value.ref a from rx)
  obtain ⟨_, _, _, p⟩ := (show ObjOk X.prog X.w H s.heap a (.tup xs) from I.hok a _ ea)
  obtain ⟨o, h1, h2, _⟩ := p
  exact PySem.W.kia_one PySem.W.kitx_tuple I.kIn ⟨o, h1, h2⟩ e (fun z => nomatch z) h
 | @dK a kvs ea =>
  cases (show u = Value.ref a from rx)
  obtain ⟨_, _, vs, _, p⟩ := (show ObjOk X.prog X.w H s.heap a (.dK kvs) from I.hok a _ ea)
  obtain ⟨o, es, ep, h1, h2, _⟩ := p
  exact PySem.W.kia_one PySem.W.kitx_dict I.kIn ⟨o, h1, h2.1⟩ e (fun z => nomatch z) h
 | @dT a kvs ea =>
  cases (show u = Value.ref a from rx)
  obtain ⟨_, _, xs, _, o, es, ep, h1, h2, _⟩ := (show ObjOk X.prog X.w H s.heap a (.dT kvs) from I.hok a _ ea)
  exact PySem.W.kia_one PySem.W.kitx_dict I.kIn ⟨o, h1, h2.1⟩ e (fun z => nomatch z) h
 | @ins a C dx fs ea cl ha hn htk hm =>
  cases (show u = Value.ref a from rx)
  obtain ⟨mA, O, _⟩ := ins_get I.hok ea
  obtain ⟨od, J, _⟩ := O.look
  exact PySem.W.kia_one (PySem.W.kitx_own (cl.get _) cl.hd ha hn htk hm) I.kIn J e (fun z => nomatch z) h
end
end L2
namespace L2
open PySem PySem.Spec PyProof.Rows
structure Room (k : Nat) (A : Around) : Prop where
 hd : A.handled = none
 dp : A.depth + 3 * k + 5 < recursionLimit
 un : A.units + 16 * k + 200 < cLine
 gd : A.guards = some []
theorem Room.mono {j k : Nat} {A : Around} (r : Room k A) (h : j <= k) : Room j A := ⟨r.hd, by have := r.dp; (first | lia | omega), by have := r.un; (first | lia | omega), r.gd⟩
theorem Room.deeper {k : Nat} {A : Around} (r : Room (k + 1) A) (env : Env) : Room k (A.deeper env) :=
 ⟨r.hd, by have := r.dp; show A.depth + 1 + 3 * k + 5 < _; (first | lia | omega), by have := r.un; show A.units + 3 + 16 * k + 200 < _; (first | lia | omega), r.gd⟩
theorem Room.depth {k : Nat} {A : Around} (r : Room k A) : A.depth < recursionLimit := by have := r.dp; (first | lia | omega)
theorem Room.units {k : Nat} {A : Around} (r : Room k A) : A.units + 64 < cLine := by have := r.un; (first | lia | omega)
noncomputable def tNil : TA := fun _ H Q => Q [] H
noncomputable def tCons (ta : TE) (tr : TA) : TA := fun σ H Q => ta σ H fun x H1 => tr σ H1 fun xs H2 => Q (x :: xs) H2
section
variable {X : Cx} {e : Expr} {es : List Expr} {te : TE} {t : TA} {pos : Pos}
theorem pa_nil : PA X [] tNil := fun _ _ _ _ H Q I h => Calls.spliced_nil ⟨[], H, I, .nil, h⟩
theorem pa_cons (ha : PE X e te) (hr : PA X es t) (hs : starEach (e :: es) X.env = (false, eval e X.env) :: starEach es X.env := by rfl) : PA X (e :: es) (tCons te t) := by
 intro pos pins s σ H Q I h
 rw [hs]
 show wpAny _ _ (spliced ((false, eval e X.env) :: backTo pos (starEach es X.env))) _ _ s
 refine Calls.spliced_cons (thn (ha pins s σ H _ I h) fun u s1 ⟨x, H1, I1, r1, q1⟩ => ?_)
 exact thn (hr pos pins s1 σ H1 _ I1 q1) fun us s2 ⟨xs, H2, I2, r2, q2⟩ => ⟨x :: xs, H2, I2, .cons r1 r2, q2⟩
noncomputable def tTup (t : TA) : TE := fun σ H Q => t σ H fun xs H1 => xs.length <= sizeLine /\ ∀ p, H1 p = none -> Q (.ref p) (upd H1 p (.tup xs))
noncomputable def tLst (t : TA) : TE := fun σ H Q => t σ H fun xs H1 => xs.length <= sizeLine /\ ∀ p, H1 p = none -> Q (.ref p) (upd H1 p (.lst xs))
theorem pe_tup {x1} (h : PA X es t) : PE X (.Tuple es x1 pos) (tTup t) := by
 intro pins s σ H Q I hq
 refine wpAny_Tuple_spliced (thn (h pos pins s σ H _ I hq) fun us s1 ⟨xs, H1, I1, r, z, q⟩ => ⟨by rw [<- r.length]; exact z, ?_⟩)
 have hf : H1 s1.heap.objs.size = none := I1.hok.fresh (Nat.le_refl _)
 refine ⟨.ref s1.heap.objs.size, upd H1 s1.heap.objs.size (.tup xs), I1.laid (t' := s1.toks) (fun b u e => Heap.get?_push_of_some _ e) (Nat.le_refl _) ?_, rfl, q _ hf⟩
 exact ⟨z, us, r, PTup.new⟩
theorem pe_lst (h : PA X es t) : PE X (.List es pos) (tLst t) := by
 intro pins s σ H Q I hq
 refine wpAny_List_spliced (thn (h pos pins s σ H _ I hq) fun us s1 ⟨xs, H1, I1, r, z, q⟩ => ⟨by rw [<- r.length]; exact z, ?_⟩)
 have hf : H1 s1.heap.objs.size = none := I1.hok.fresh (Nat.le_refl _)
 refine ⟨.ref s1.heap.objs.size, upd H1 s1.heap.objs.size (.lst xs), I1.laid (t' := s1.toks) (fun b u e => Heap.get?_push_of_some _ e) (Nat.le_refl _) ?_, rfl, q _ hf⟩
 exact ⟨z, us, 0, r, Heap.get?_push_size _ rfl⟩
end
noncomputable abbrev Sp := List V -> Hp -> VK -> XK -> Prop
noncomputable abbrev CXT := List Env -> Hp -> Shared -> XK -> Value -> Shared -> Prop
structure Env0 (P : Program) (w : World) (K : PySem.W.Frag) (mg : Str -> Option Value) (base : Heap) (A : Around) (outer : List Env) (s : Shared) (H : Hp) : Prop where
 frames : A.frames = some outer
 mod : Mod K mg base
 bs : ∀ b o, base.get? b = some o -> s.heap.get? b = some o /\ H b = none
 bsz : base.objs.size <= s.heap.objs.size
 funs : s.heap.FunFrames base outer
 frf : ∀ b ∈ frs outer, H b = none
 hok : HOk P w H s.heap
 bare : AllBare s.gens
noncomputable def CE (outer : List Env) (P : Program) (w : World) (H : Hp) (s : Shared) (Q : VK) (u : Value) (s' : Shared) : Prop :=
 ∃ v H', s'.os = s.os /\ AllBare s'.gens /\ Un (frs outer) [] H H' s.heap s'.heap /\ HOk P w H' s'.heap /\ RelV v u /\ Q v H'
noncomputable def CR (CX : CXT) (outer : List Env) (P : Program) (w : World) (H : Hp) (s : Shared) (Q : VK) (E : XK) (r : Result) (s' : Shared) : Prop :=
 match r with
 | .ok (.ret u) => CE outer P w H s Q u s'
 | .ok _ => False
 | .error e => CX outer H s E e s'
structure FnOk (P : Program) (w : World) (K : PySem.W.Frag) (mg : Str -> Option Value) (base : Heap) (CX : CXT) (k : Nat) (f : Addr) (fd : FuncData) (ps : List Str) (sp : Sp) : Prop where
 len : ∀ vs H Q E, sp vs H Q E -> vs.length = ps.length
 run : ∀ (A : Around) (outer : List Env) (s : Shared) (H : Hp) (args : Args) (us : List Value) (vs : List V) (Q : VK) (E : XK), Room k A -> Env0 P w K mg base A outer s H -> BindsTo s fd args (ps.zip us) -> Vals vs us -> sp vs H Q E ->
  codeAny (model P w) A (.call (.ref f) args) (CR CX outer P w H s Q E) s
section
variable {X : Cx} {pins : List (Addr × Obj)} {σ : St} {H : Hp} {s s' : Shared}
theorem Inv.env0 (I : Inv X pins σ H s) : Env0 X.prog X.w X.K X.mg X.base X.A X.stack s H :=
 ⟨I.ok.frames, I.ok.mod, I.bs, Nat.le_trans I.ok.bsz I.sz, I.stack, I.stkFree, I.hok, I.bare⟩
theorem Inv.after {Q : VK} {u : Value} (I : Inv X pins σ H s) (h : CE X.stack X.prog X.w H s Q u s') : EP X pins σ Q u s' := by
 obtain ⟨v, H', os, bare, un, hok, r, q⟩ := h
 obtain ⟨hh, g, d, t, os'⟩ := s'
 obtain rfl : os' = s.os := os
 exact ⟨v, H', I.call (h' := hh) (g' := g) (d' := d) (t' := t) (ch := []) un hok bare (fun b z => absurd z (by simp)), r, q⟩
end
noncomputable def tCall (sp : Sp) (dvs : List V) (E : XK) (t : TA) : TE := fun σ H Q => t σ H fun vs H1 => sp (vs ++ dvs) H1 Q E
noncomputable def Binds (K : PySem.W.Frag) (fd : FuncData) (ps : List Str) (ds : List Value) : Prop :=
 ∀ (s : Shared) (us : List Value), K.In s.heap -> (us ++ ds).length = ps.length -> BindsTo s fd ⟨us, []⟩ (ps.zip (us ++ ds))
theorem Binds.all {K : PySem.W.Frag} {fd : FuncData} {ps : List Str} (h : ∀ us : List Value, us.length = ps.length -> bindArgs fd ⟨us, []⟩ = pure (ps.zip us)) : Binds K fd ps [] := fun s us _ hl => by
 rw [List.append_nil] at hl ⊢
 exact .of_eq (h us hl)
noncomputable def Passes (CX : CXT) (X : Cx) (E : XK) : Prop := ∀ (pins : List (Addr × Obj)) (σ : St) (H : Hp) (s : Shared) (e : Value) (s' : Shared), Inv X pins σ H s -> CX X.stack H s E e s' -> X.xe e s'
section
variable {X : Cx} {CX : CXT} {k : Nat} {f C : Addr} {fd : FuncData} {ps : List Str} {sp : Sp} {dvs : List V} {ds : List Value} {E : XK} {x m : Str} {p pos apos : Pos} {e o : Expr} {es : List Expr} {ta : TE} {t : TA}
theorem run_fn {pins : List (Addr × Obj)} {σ : St} {H : Hp} {s : Shared} {Q : VK} {us : List Value} {vs : List V} (F : FnOk X.prog X.w X.K X.mg X.base CX k f fd ps sp) (hr : Room k X.A) (hb : Binds X.K fd ps ds) (hd : Vals dvs ds) (hx : Passes CX X E)
  (I : Inv X pins σ H s) (r : Vals vs us) (h : sp (vs ++ dvs) H Q E) : wpAny (model X.prog X.w) X.A (call (.ref f) us) (EP X pins σ Q) X.xe s := by
 have r2 : Vals (vs ++ dvs) (us ++ ds) := r.append hd
 have hl : (us ++ ds).length = ps.length := by rw [<- r2.length]; exact F.len _ _ _ _ h
 refine wpAny_call (codeAny_mono (F.run X.A X.stack s H ⟨us, []⟩ (us ++ ds) (vs ++ dvs) Q E hr I.env0 (hb s us I.kIn hl) r2 h) fun r s' hq => ?_)
 cases r with
 | error e => exact hx pins σ H s e s' I hq
 | ok fl =>
  cases fl with
  | ret u => exact I.after hq
  | next => exact False.elim hq
  | brk => exact False.elim hq
  | cont => exact False.elim hq
theorem pe_call (F : FnOk X.prog X.w X.K X.mg X.base CX k f fd ps sp) (hr : Room k X.A) (hg : Gl X x) (hm : X.mg x = some (.ref f)) (hk : PySem.W.keepIn X.K (.ref f) = true) (hb : Binds X.K fd ps ds) (hd : Vals dvs ds) (hx : Passes CX X E)
  (ha : PA X (e :: es) t) (hdb : (x == ("__debug__" : Str)) = false := by decide) (he : starEach (e :: es) X.env = (false, eval e X.env) :: starEach es X.env := by rfl) (hpl : (backTo pos (starEach es X.env)).any (·.1) = false := by rfl) :
  PE X (.Call (.Name x p) (e :: es) [] pos) (tCall sp dvs E t) := by
 intro pins s σ H Q I h
 refine wpAny_Call_Name_kw (ld_glob I hg hm ?_ hdb)
 refine PySem.W.callWith_K (h₀ := X.base) I.ok.mod.kin hk (thn (ha pos pins s σ H _ I h) fun us s1 ⟨vs, H1, I1, r, q⟩ => ⟨I1.kIn, ?_⟩) he hpl
 exact run_fn F hr hb hd hx I1 r q
structure Mk (K : PySem.W.Frag) (C f : Addr) : Prop where
 makes : PySem.W.makesIn K C = true
 init : PySem.W.findIn K (.ref C) "__init__" = some (some (.ref f))
 fn : PySem.W.isFn K (.ref f) = true
 kp : PySem.W.keepIn K (.ref C) = true
end
section
variable {X : Cx} {CX : CXT} {k : Nat} {f C : Addr} {fd : FuncData} {ps ks : List Str} {sp : Sp} {E : XK} {x m : Str} {p pos apos kpos : Pos} {e o : Expr} {es : List Expr} {kws : List Keyword} {te ta : TE} {t tk : TA} {nm : Option Str}
structure KBinds (K : PySem.W.Frag) (fd : FuncData) (ps ks : List Str) (g : List Value -> List Value -> List Value) (gV : List V -> List V -> List V) : Prop where
 to : ∀ (s : Shared) (us ws : List Value), K.In s.heap -> (g us ws).length = ps.length -> BindsTo s fd ⟨us, ks.zip ws⟩ (ps.zip (g us ws))
 rel : ∀ {vs : List V} {us : List Value} {zs : List V} {ws : List Value}, Vals vs us -> Vals zs ws -> Vals (gV vs zs) (g us ws)
variable {g : List Value -> List Value -> List Value} {gV : List V -> List V -> List V}
end
structure FnScope (N P : List Str) (sc : Scope) : Prop where
 kind : sc.kind = .function
 co : sc.isCoroutine = false
 gen : sc.isGenerator = false
 nd : N.Nodup
 pre : N.take P.length = P
 par : ∀ x ∈ P, sc.names.lookup x = some .local ∨ sc.names.lookup x = some .cell
 nofree : ∀ y ∈ sc.names, y.2 ≠ .free
theorem bindL_out {kindOf : Str -> Option NameKind} {x : Str} : ∀ {binds : List (Str × Value)} {m : Str -> Option Value}, (∀ v, (x, v) ∉ binds) -> bindL kindOf binds m x = m x
 | [], _, _ => rfl
 | (n, v) :: r, m, h => by
  unfold bindL
  rw [bindL_out fun w hw => h w (List.mem_cons_of_mem _ hw)]
  split
  ·have : x ≠ n := by rintro rfl; exact h v List.mem_cons_self
   simp [this]
  ·rfl
theorem bindC_out {kindOf : Str -> Option NameKind} {x : Str} : ∀ {binds : List (Str × Value)} {m : Str -> Option Value}, (∀ v, (x, v) ∉ binds) -> bindC kindOf binds m x = m x
 | [], _, _ => rfl
 | (n, v) :: r, m, h => by
  unfold bindC
  rw [bindC_out fun w hw => h w (List.mem_cons_of_mem _ hw)]
  split
  ·rfl
  ·have : x ≠ n := by rintro rfl; exact h v List.mem_cons_self
   simp [this]
theorem bindL_get {kindOf : Str -> Option NameKind} {x : Str} {v : Value} : ∀ {P : List Str} {vs : List Value} {i : Nat} {m : Str -> Option Value}, P.Nodup -> P[i]? = some x -> vs[i]? = some v -> kindOf x = some .local ->
  bindL kindOf (P.zip vs) m x = some v
 | [], _, _, _, _, h, _, _ => by simp at h
 | _ :: _, [], _, _, _, _, h, _ => by simp at h
 | p :: P, w :: vs, 0, m, nd, h1, h2, hk => by
  simp at h1 h2; subst h1; subst h2
  show bindL kindOf ((p, w) :: P.zip vs) m p = _
  unfold bindL
  rw [bindL_out fun v hv => (List.nodup_cons.mp nd).1 (List.of_mem_zip hv).1, if_pos hk]
  simp
 | p :: P, w :: vs, i + 1, m, nd, h1, h2, hk => by
  show bindL kindOf ((p, w) :: P.zip vs) m x = _
  unfold bindL
  exact bindL_get (i := i) (List.nodup_cons.mp nd).2 (by simpa using h1) (by simpa using h2) hk
theorem bindC_get {kindOf : Str -> Option NameKind} {x : Str} {v : Value} : ∀ {P : List Str} {vs : List Value} {i : Nat} {m : Str -> Option Value}, P.Nodup -> P[i]? = some x -> vs[i]? = some v -> kindOf x ≠ some .local ->
  bindC kindOf (P.zip vs) m x = some v
 | [], _, _, _, _, h, _, _ => by simp at h
 | _ :: _, [], _, _, _, _, h, _ => by simp at h
 | p :: P, w :: vs, 0, m, nd, h1, h2, hk => by
  simp at h1 h2; subst h1; subst h2
  show bindC kindOf ((p, w) :: P.zip vs) m p = _
  unfold bindC
  rw [bindC_out fun v hv => (List.nodup_cons.mp nd).1 (List.of_mem_zip hv).1, if_neg hk]
  simp
 | p :: P, w :: vs, i + 1, m, nd, h1, h2, hk => by
  show bindC kindOf ((p, w) :: P.zip vs) m x = _
  unfold bindC
  exact bindC_get (i := i) (List.nodup_cons.mp nd).2 (by simpa using h1) (by simpa using h2) hk
noncomputable def start (N : List Str) (vs : List V) : St := vs.map some ++ List.replicate (N.length - vs.length) none
noncomputable def cxOf (CX : CXT) (P : Program) (w : World) (K : PySem.W.Frag) (mg : Str -> Option Value) (base : Heap) (N : List Str) (qual : Str) (scope : Scope) (f : Addr) (cd : Value) (A : Around) (outer : List Env) (s : Shared) (H : Hp) (E : XK) : Cx where
 prog := P
 w := w
 K := K
 mg := mg
 base := base
 A := A.deeper (envOfC qual scope s.heap.objs.size f cd)
 N := N
 s₀ := s
 H₀ := H
 env := envOfC qual scope s.heap.objs.size f cd
 outer := outer
 stack := envOfC qual scope s.heap.objs.size f cd :: outer
 ex := []
 calm := true
 fn := fun _ => true
 pn := []
 xe := fun e s' => wpAny (model P w) (A.deeper (envOfC qual scope s.heap.objs.size f cd)) (leaving (envOfC qual scope s.heap.objs.size f cd) e) (fun _ s'' => CX outer H s E e s'') (fun e' s'' => CX outer H s E e' s'') s'
theorem cell_has {sc : Scope} {n : Nat} {x : Str} (h : sc.names.lookup x = some .cell) : ∃ c, (cellsFrom n sc.names []).lookup x = some c := by
 have q := PySem.W.cellsFrom_some sc.names n [] (.inl h)
 exact Option.isSome_iff_exists.mp q
theorem inv_start {CX : CXT} {P : Program} {w : World} {K : PySem.W.Frag} {mg : Str -> Option Value} {base : Heap} {N ps : List Str} {qual : Str} {scope : Scope} {f : Addr} {cd : Value} {A : Around} {outer : List Env} {s s1 : Shared} {H : Hp} {E : XK} {us : List Value} {vs : List V}
  (S : FnScope N ps scope) (hd : A.handled = none) (e0 : Env0 P w K mg base A outer s H) (hl : vs.length = ps.length) (r : Vals vs us)
  (x : InCallC s s.heap.objs.size (bindL (envOfC qual scope s.heap.objs.size f cd).kindOf (ps.zip us) fun _ => none) (cellsFrom (s.heap.objs.size + 1) scope.names []) (bindC (envOfC qual scope s.heap.objs.size f cd).kindOf (ps.zip us) fun _ => none) s1) :
  Inv (cxOf CX P w K mg base N qual scope f cd A outer s H E) [] (start N vs) H s1 := by
 have hpl : ps.length <= N.length := by have := congrArg List.length S.pre; rw [List.length_take] at this; (first | lia | omega)
 obtain ⟨h1, tk, rfl, hk⟩ := x.done
 have noA : ∀ b : Addr, b ∉ (cxOf CX P w K mg base N qual scope f cd A outer s H E).ex := fun b z => absurd (show b ∈ ([] : List Addr) from z) (by simp)
 refine ⟨⟨e0.mod, S.kind, rfl, rfl, Nat.le_refl _, fun y z c h1 h2 => ?_, fun y hy => ?_, fun y c _ h => ?_, fun _ => hd, Around.frames_deeper e0.frames, .inr ⟨rfl, rfl⟩, fun b z => absurd z (noA b), e0.bs, e0.bsz, fun b _ _ => noA b, fun b z => absurd z (noA b), e0.funs, e0.frf⟩,
  rfl, e0.bare, Un.kept hk, ⟨_, x.toInCall.ns, fun i y v h1 h2 h3 => ?_⟩, fun y c h => ⟨_, x.cell y c h⟩, e0.hok.fresh (Nat.le_refl _), fun y c h => ?_, fun p hp => absurd (show p ∈ ([] : List (Addr × Obj)) from hp) (by simp), e0.hok.kept hk, ?_⟩
 ·exact name_of_addr x.apart (PySem.mem_of_lookup h1) (PySem.mem_of_lookup h2)
 ·have hy : scope.names.lookup y = some .cell ∨ scope.names.lookup y = some .free := hy
  rcases hy with hy | hy
  ·exact cell_has hy
  ·exact absurd rfl (S.nofree _ (PySem.mem_of_lookup hy))
 ·exact Nat.le_of_lt (x.above y c (PySem.mem_of_lookup h))
 ·have hi : i < vs.length := by
   unfold start at h2
   by_cases hi : i < vs.length
   ·exact hi
   ·rw [List.getElem?_append_right (by simpa using hi)] at h2
    rw [List.getElem?_replicate] at h2
    split at h2 <;> cases h2
  have ha : vs[i]? = some v := by
   unfold start at h2
   rw [List.getElem?_append_left (by simpa using hi), List.getElem?_map] at h2
   cases e : vs[i]? with
   | none => rw [e] at h2; cases h2
   | some a => rw [e] at h2; cases h2; rfl
  obtain ⟨u, hu, rv⟩ := r.get ha
  have hp : ps[i]? = some y := by
   rw [<- S.pre, List.getElem?_take_of_lt (by (first | lia | omega))]; exact h1
  have ndP : ps.Nodup := by rw [<- S.pre]; exact S.nd.sublist (List.take_sublist _ _)
  refine ⟨u, rv, ?_⟩
  rcases S.par y (List.mem_of_getElem? hp) with k | k
  ·exact .inl ⟨k, bindL_get ndP hp hu k⟩
  ·obtain ⟨c, e⟩ := cell_has (n := s.heap.objs.size + 1) k
   refine .inr ⟨.inl k, c, e, ?_⟩
   have q := x.cell y c e
   rw [bindC_get ndP hp hu (by show scope.names.lookup y ≠ _; rw [k]; decide)] at q
   exact q
 ·exact e0.hok.fresh (Nat.le_of_lt (x.above y c (PySem.mem_of_lookup h)))
 ·unfold start
  show _ = N.length
  rw [List.length_append, List.length_map, List.length_replicate]
  (first | lia | omega)
theorem fn_of {CX : CXT} {P : Program} {w : World} {K : PySem.W.Frag} {mg : Str -> Option Value} {base : Heap} {k : Nat} {f : Addr} {name qual : Str} {params : Arguments} {body : List Stmt} {scope : Scope} {dV kV doc pm cdv ct oc : Value} {an od : Option Addr}
  {osl : Array (Option Value)} {N ps : List Str} {sp : Sp} (lk : K.lookup f = some ⟨oc, od, .func (PySem.W.fnOf name qual params body scope dV kV doc pm an cdv ct), osl⟩) (hcd : PySem.W.codeIn K cdv qual = true) (S : FnScope N ps scope)
  (len : ∀ vs H Q E, sp vs H Q E -> vs.length = ps.length)
  (hbody : ∀ (A : Around) (outer : List Env) (s : Shared) (H : Hp) (vs : List V) (Q : VK) (E : XK), Room k (A.deeper (envOfC qual scope s.heap.objs.size f cdv)) -> sp vs H Q E ->
   ∃ t, PSs (cxOf CX P w K mg base N qual scope f cdv A outer s H E) body t /\ t { nx := fun _ H' => Q .non H', rt := Q } (start N vs) H) :
  FnOk P w K mg base CX (k + 1) f (PySem.W.fnOf name qual params body scope dV kV doc pm an cdv ct) ps sp := by
 refine ⟨len, fun A outer s H args us vs Q E hr e0 hb r hsp => ?_⟩
 have hl := len _ _ _ _ hsp
 have KX : K.In s.heap := e0.mod.kin.keeps fun b o e => (e0.bs b o e).1
 have lim : s.heap.NoLimit := e0.mod.nolimit.keeps fun b o e => (e0.bs b o e).1
 have hkind : ∀ y ∈ ps.zip us, scope.names.lookup y.1 = some .local ∨ (scope.names.lookup y.1 = some .cell /\ ((cellsFrom (s.heap.objs.size + 1) scope.names []).lookup y.1).isSome = true) := fun ⟨n, v⟩ hy => by
  rcases S.par n (List.of_mem_zip hy).1 with q | q
  ·exact .inl q
  ·exact .inr ⟨q, PySem.W.cellsFrom_some _ _ _ (.inl q)⟩
 refine codeAny_call_function hr.depth (KX _ _ lk) rfl S.co S.gen rfl (PySem.W.codeRec_of KX hcd) (hb _ _ _ _ ?_)
 refine wpAny_newFunctionEnv_cells S.kind hkind fun env he s1 x => ?_
 subst he
 refine ⟨lim.keeps x.toInCall.keep, codeAny_func ?_⟩
 obtain ⟨t, ht, hq⟩ := hbody A outer s H vs Q E (hr.deeper _) hsp
 have I : Inv (cxOf CX P w K mg base N qual scope f cdv A outer s H E) [] (start N vs) H s1 := inv_start S hr.hd e0 hl r x
 refine wpAny_mono (ht [] s1 (start N vs) H _ I hq) (fun fl s' hs => ?_) fun e s' hs => hs
 have fin : ∀ {σ' : St} {H' : Hp} {v : V} {u : Value}, Inv (cxOf CX P w K mg base N qual scope f cdv A outer s H E) [] σ' H' s' -> RelV v u -> Q v H' -> CE outer P w H s Q u s' :=
  fun {σ' H' v u} J rv q => ⟨v, H', J.os, J.bare, J.base, J.hok, rv, q⟩
 cases fl with
 | ret u =>
  obtain ⟨v, σ', H', J, rv, q⟩ := hs
  exact fin J rv q
 | next =>
  obtain ⟨σ', H', J, q⟩ := hs
  exact fin (v := V.non) (u := Value.none) J rfl q
 | brk =>
  obtain ⟨_, _, _, q⟩ := hs
  exact False.elim q
 | cont =>
  obtain ⟨_, _, _, q⟩ := hs
  exact False.elim q
end L2
namespace L2
open PySem PySem.Spec PyProof.Rows
section
variable {X : Cx} {x : Str} {p pos : Pos} {e : Expr} {es : List Expr} {t : TA} {id T : String} {r : List V -> Hp -> VK -> Prop}
noncomputable def tCB (r : List V -> Hp -> VK -> Prop) (t : TA) : TE := fun σ H Q => t σ H fun vs H1 => r vs H1 Q
theorem pe_callB (hc : CallR X (.builtin id) r) (hg : Gl X x) (hm : X.mg x = none) (hv : bootBuiltins x = some (.builtin id)) (ha : PA X (e :: es) t) (hn : x ≠ "__name__" := by decide) (hdb : (x == ("__debug__" : Str)) = false := by decide)
  (he : starEach (e :: es) X.env = (false, eval e X.env) :: starEach es X.env := by rfl) (hpl : (backTo pos (starEach es X.env)).any (·.1) = false := by rfl) : PE X (.Call (.Name x p) (e :: es) [] pos) (tCB r t) := by
 intro pins s σ H Q I h
 refine wpAny_Call_Name_kw (ld_blt I hg hm hv ?_ hn hdb)
 exact PyProof.Rows.callWith_builtin1 (thn (ha pos pins s σ H _ I h) fun us s1 ⟨vs, H1, I1, r1, q1⟩ => hc pins s1 σ H1 vs us Q I1 r1 q1) he hpl
theorem pe_callTy (hc : CallR X (.type T) r) (hg : Gl X x) (hm : X.mg x = none) (hv : bootBuiltins x = some (.type T)) (ha : PA X (e :: es) t) (hn : x ≠ "__name__" := by decide) (hdb : (x == ("__debug__" : Str)) = false := by decide)
  (he : starEach (e :: es) X.env = (false, eval e X.env) :: starEach es X.env := by rfl) (hpl : (backTo pos (starEach es X.env)).any (·.1) = false := by rfl) : PE X (.Call (.Name x p) (e :: es) [] pos) (tCB r t) := by
 intro pins s σ H Q I h
 refine wpAny_Call_Name_kw (ld_blt I hg hm hv ?_ hn hdb)
 exact PyProof.Rows.callWith_type1 (thn (ha pos pins s σ H _ I h) fun us s1 ⟨vs, H1, I1, r1, q1⟩ => hc pins s1 σ H1 vs us Q I1 r1 q1) he hpl
end
end L2
namespace HT
open PySem PyProof.Rows
section
open PySem.SeqAt
open PySem.AutoSeq1 (wpAny_loadPart')
open PySem.MeetsSeq PySem.MeetsSeq2 PySem.MeetsSeq3
end
section
variable {prog : Program} {w : World} {A : Around} {E : Value -> Shared -> Prop} {s : Shared}
theorem cat_tup {t b : Addr} {vs ws : List Value} {Q : Value -> Shared -> Prop} (ht : IsTup s.heap t vs.toArray) (hb : IsTup s.heap b ws.toArray) (hv : vs ≠ [])
  (h1 : ws = [] -> Q (.ref t) s) (h2 : ws ≠ [] -> Q (.ref s.heap.objs.size) { s with heap := s.heap.push { cls := .type "tuple", data := .seq (vs ++ ws).toArray } })
  (hsz : vs.length + ws.length <= sizeLine) : wpAny (model prog w) A (binaryOp .Add (.ref t) (.ref b)) Q E s := by
 obtain ⟨⟨cls, dd, data, sl⟩, ho, hc, n, hd⟩ := id ht
 obtain ⟨⟨cls2, dd2, data2, sl2⟩, ho2, hc2, n2, hd2⟩ := id hb
 simp only at hc hd hc2 hd2
 subst hc hd hc2 hd2
 have e : vs.toArray ++ ws.toArray = (vs ++ ws).toArray := by simp
 by_cases hw : ws = []
 ·exact concat_meets ⟨_, ho, rfl⟩ ⟨_, ho2, rfl⟩ noFill_tuple_add seq_tuple_add PySem.F.slot_tuple_add PySem.F.entry_tuple_add (PySem.F.args_tuple_add_2 _ _)
   (tuple_addW1 t b vs.toArray ws.toArray n n2 dd dd2 sl sl2 (by simpa using hv) (by simp [hw])) ⟨ho, ho2, h1 hw⟩
 ·refine concat_meets ⟨_, ho, rfl⟩ ⟨_, ho2, rfl⟩ noFill_tuple_add seq_tuple_add PySem.F.slot_tuple_add PySem.F.entry_tuple_add (PySem.F.args_tuple_add_2 _ _)
   (tuple_addW2 t b vs.toArray ws.toArray n n2 dd dd2 sl sl2 (by simpa using hv) (by simpa using hw) (by rw [List.size_toArray, List.size_toArray]; exact hsz)) ⟨ho, ho2, ?_⟩
  rw [e]
  exact h2 hw
noncomputable def sIx (n d : Nat) : Option Int -> Nat
 | none => d
 | some v => if v < 0 then (v + (n : Int)).toNat else min v.toNat n
theorem sIx_none (n d : Nat) : sIx n d none = d := rfl
theorem sIx_nat (n d k : Nat) : sIx n d (some (k : Int)) = min k n := by
 show (if (k : Int) < 0 then ((k : Int) + (n : Int)).toNat else min (k : Int).toNat n) = min k n
 rw [if_neg (by (first | lia | omega)), Int.toNat_natCast]
theorem sIx_le (n d : Nat) (hd : d <= n) (o : Option Int) : sIx n d o <= n := by
 cases o with
 | none => exact hd
 | some v =>
  show (if v < 0 then (v + (n : Int)).toNat else min v.toNat n) <= n
  by_cases hv : v < 0
  ·rw [if_pos hv]; (first | lia | omega)
  ·rw [if_neg hv]; exact Nat.min_le_right _ _
theorem clip_eq (v : Int) (n d : Nat) : (if v < 0 then max (v + (n : Int)) 0 else min v (n : Int)) = ((sIx n d (some v) : Nat) : Int) := by
 show (if v < 0 then max (v + (n : Int)) 0 else min v (n : Int)) = (((if v < 0 then (v + (n : Int)).toNat else min v.toNat n) : Nat) : Int)
 by_cases hv : v < 0
 ·simp only [if_pos hv]; (first | lia | omega)
 ·simp only [if_neg hv]; (first | lia | omega)
theorem adjust_gen (lo hi : Option Int) (n : Nat) : Builtin.Slice.sliceAdjust lo hi 1 (n : Int) = (((sIx n 0 lo : Nat) : Int), ((sIx n n hi : Nat) : Int)) := by
 have h1 : ¬ ((1 : Int) < 0) := by (first | lia | omega)
 unfold Builtin.Slice.sliceAdjust
 simp only [h1, if_false]
 refine Prod.ext ?_ ?_
 ·cases lo with
  | none => rfl
  | some v => exact clip_eq v n 0
 ·cases hi with
  | none => rfl
  | some v => exact clip_eq v n n
theorem places_gen (i j : Nat) : Builtin.Slice.slicePlaces (i : Int) (j : Int) 1 = j - i := by
 unfold Builtin.Slice.slicePlaces
 have h1 : (1 : Int) > 0 := by (first | lia | omega)
 simp only [h1, if_true, Int.ediv_one]
 split <;> (first | lia | omega)
theorem slicePart_ {v : Value} {o : Option Int} {Q : Option Int -> Shared -> Prop} (p : IsPart v o) (h : Q o s) : wpAny (model prog w) A (Builtin.Slice.slicePartIndex v) Q E s := by
 cases p with
 | none => exact slicePart_none h
 | int i t => exact slicePart_int h
theorem sliceApplied_gen {sl : Addr} {vl vu : Value} {lo hi : Option Int} {n : Nat} {Q : Int × Int × Nat -> Shared -> Prop} (hs : s.heap.IsSliceOf sl vl vu .none) (pl : IsPart vl lo) (pu : IsPart vu hi)
  (h : Q (((sIx n 0 lo : Nat) : Int), 1, sIx n n hi - sIx n 0 lo) s) : wpAny (model prog w) A (Builtin.Slice.sliceApplied (.ref sl) (pure (n : Int))) Q E s := by
 obtain ⟨os, hos, hcs, hds⟩ := id hs
 unfold Builtin.Slice.sliceApplied Builtin.Slice.sliceFields
 refine wpAny_bind (wpAny_bind (wpAny_field hos hds (x := vl) rfl (wpAny_bind (wpAny_field hos hds (x := vu) rfl (wpAny_bind (wpAny_field hos hds (x := .none) rfl (wpAny_pure ?_)))))))
 refine wpAny_bind (slicePart_none ?_)
 show wpAny _ _ (if ((1 : Int) == 0) = true then _ else _) _ _ s
 rw [if_neg (by decide)]
 refine wpAny_bind (slicePart_ pl (wpAny_bind (slicePart_ pu (wpAny_bind (wpAny_pure ?_)))))
 show wpAny _ _ (match Builtin.Slice.sliceAdjust lo hi 1 (n : Int) with | (lo, hi) => pure (lo, (1 : Int), Builtin.Slice.slicePlaces lo hi 1)) _ _ s
 rw [adjust_gen lo hi n]
 show wpAny _ _ (pure (((sIx n 0 lo : Nat) : Int), (1 : Int), Builtin.Slice.slicePlaces ((sIx n 0 lo : Nat) : Int) ((sIx n n hi : Nat) : Int) 1)) _ _ s
 rw [places_gen]
 exact wpAny_pure h
theorem pick_gen (xs : Array Value) (i k : Nat) : ((List.range k).filterMap fun (m : Nat) => xs[((i : Int) + (m : Int) * 1).toNat]?).toArray = ((xs.toList.drop i).take k).toArray := by
 have e : (fun (m : Nat) => xs[((i : Int) + (m : Int) * 1).toNat]?) = fun m => xs[i + m]? := by
  funext m
  have : ((i : Int) + (m : Int) * 1).toNat = i + m := by (first | lia | omega)
  rw [this]
 rw [e]
 have := pick_run xs i k
 rw [List.filterMap_map] at this
 have e2 : ((fun x => xs[x]?) ∘ fun x => i + x) = fun m => xs[i + m]? := rfl
 rw [e2] at this
 rw [this]
theorem getItem_tuple_cut {t sl : Addr} {items : Array Value} {vl vu : Value} {lo hi : Option Int} {Q : Value -> Shared -> Prop} (ht : IsTup s.heap t items) (hs : s.heap.IsSliceOf sl vl vu .none) (pl : IsPart vl lo) (pu : IsPart vu hi)
  (hw : ¬ (sIx items.size 0 lo = 0 /\ sIx items.size items.size hi = items.size))
  (h : Q (.ref s.heap.objs.size) { s with heap := s.heap.push { cls := .type "tuple", data := .seq ((items.toList.drop (sIx items.size 0 lo)).take (sIx items.size items.size hi - sIx items.size 0 lo)).toArray } })
  (hsz : items.size <= sizeLine) : wpAny (model prog w) A (getItem (.ref t) (.ref sl)) Q E s := by
 have htake : sizeOk (.seq ((items.toList.drop (sIx items.size 0 lo)).take (sIx items.size items.size hi - sIx items.size 0 lo)).toArray) := by
  show ((items.toList.drop (sIx items.size 0 lo)).take (sIx items.size items.size hi - sIx items.size 0 lo)).toArray.size <= sizeLine
  rw [List.size_toArray, List.length_take, List.length_drop, Array.length_toList]
  (first | lia | omega)
 have hj : sIx items.size items.size hi <= items.size := sIx_le _ _ (Nat.le_refl _) hi
 obtain ⟨os, hos, hcs, hds⟩ := id hs
 have hTs : s.TypeIs (.ref sl) "slice" := ⟨os, hos, hcs⟩
 unfold getItem
 try with_reducible refine wpAny_holding ?_
 first | refine wpAny_bind (wpAny_pure ?_) | skip
 refine wpAny_bind (wpAny_sequenceKey ht.typeIs (by decide) ?_)
 refine wpAny_bind (wpAny_callSpecial?_slot (name := Str.ofString "__getitem__") ht.typeIs PyProof.Rows.slot_tuple_getitem
  (wpAny_call_entry PyProof.Rows.slot_tuple_getitem ht.typeIs entry_tuple_getitem ?_ (args_tuple_getitem _ _)))
 show wpAny _ _ (Builtin.Tuple.tupleItemsOf (.ref t) >>= _) _ _ s
 refine wpAny_bind (tupleItemsOf_ ht ?_)
 refine wpAny_bind (wpAny_typeOf hTs ?_)
 rw [if_pos (by decide)]
 refine wpAny_bind (sliceApplied_gen hs pl pu ?_)
 have hno : ¬ ((((sIx items.size 0 lo : Nat) : Int) == 0 && (1 : Int) == 1 && (sIx items.size items.size hi - sIx items.size 0 lo) == items.size) = true) := by
  intro q
  rw [Bool.and_eq_true, Bool.and_eq_true] at q
  have q1 : ((sIx items.size 0 lo : Nat) : Int) = 0 := eq_of_beq q.1.1
  have q2 : sIx items.size items.size hi - sIx items.size 0 lo = items.size := eq_of_beq q.2
  exact hw ⟨by (first | lia | omega), by (first | lia | omega)⟩
 show wpAny _ _ (if (((sIx items.size 0 lo : Nat) : Int) == 0 && (1 : Int) == 1 && (sIx items.size items.size hi - sIx items.size 0 lo) == items.size) = true then _ else _) _ _ s
 rw [if_neg hno, pick_gen]
 first
  | exact wpAny_bind (m := Builtin.Tuple.tupleExact _) (wpAny_newObj_type (wpAny_pure ⟨_, rfl, wpAny_pure h⟩) htake)
  | exact wpAny_bind (m := Builtin.Tuple.tupleExact _) (wpAny_newObj_type (wpAny_bind (wpAny_pure (wpAny_pure ⟨_, rfl, wpAny_pure h⟩))) htake)
  | exact wpAny_bind (wpAny_bind (m := Builtin.Tuple.tupleExact _) (wpAny_newObj_type (wpAny_pure (wpAny_pure ⟨_, rfl, wpAny_pure h⟩)) htake))
  | exact wpAny_bind (wpAny_bind (m := Builtin.Tuple.tupleExact _) (wpAny_newObj_type (wpAny_pure ⟨_, rfl, wpAny_pure h⟩) htake))
end
end HT
namespace L2
open PySem PySem.Spec PyProof.Rows
noncomputable abbrev TO := St -> Hp -> (Option Int -> Hp -> Prop) -> Prop
noncomputable def PO (X : Cx) (e : Option Expr) (t : TO) : Prop :=
 ∀ (pins : List (Addr × Obj)) (s : Shared) (σ : St) (H : Hp) (Q : Option Int -> Hp -> Prop), Inv X pins σ H s -> t σ H Q ->
  wpAny (model X.prog X.w) X.A (evalPart e X.env) (fun u s' => ∃ o H', Inv X pins σ H' s' /\ IsPart u o /\ Q o H') X.xe s
noncomputable def tNoPart : TO := fun _ H Q => Q none H
noncomputable def tPart (t : TE) : TO := fun σ H Q => t σ H fun x H1 => ∃ i, x = .int i /\ Q (some i) H1
theorem intsAre_of {ns : List Int} : ∀ {us : List Value}, Vals (ns.map V.int) us -> IntsAre us ns := by
 induction ns with
 | nil => intro us r; rw [List.map_nil] at r; cases r; exact .nil
 | cons n ns ih =>
  intro us r
  rw [List.map_cons] at r
  cases r with
  | cons r1 r2 =>
   obtain ⟨t, e⟩ := r1
   subst e
   exact .cons n t (ih r2)
section
variable {X : Cx} {e : Expr} {te : TE} {lo hi : Option Expr} {tl th : TO} {pos p2 : Pos}
theorem po_none : PO X none tNoPart := by
 intro pins s σ H Q I h
 rw [evalPart_none]
 exact wpAny_pure ⟨none, H, I, .none, h⟩
theorem po_some (h : PE X e te) : PO X (some e) (tPart te) := by
 intro pins s σ H Q I hw
 rw [evalPart_some]
 refine thn (h pins s σ H _ I hw) fun u s1 ⟨x, H1, I1, r1, q1⟩ => ?_
 obtain ⟨i, rfl, q⟩ := q1
 obtain ⟨t, rfl⟩ := r1
 exact ⟨some i, H1, I1, .int i t, q⟩
noncomputable def SlR (X : Cx) (r : V -> Option Int -> Option Int -> Hp -> VK -> Prop) : Prop :=
 ∀ (pins : List (Addr × Obj)) (s : Shared) (σ : St) (H : Hp) (x : V) (v vl vu : Value) (lo hi : Option Int) (sl : Addr) (Q : VK), Inv X pins σ H s -> RelV x v -> s.heap.IsSliceOf sl vl vu .none -> IsPart vl lo -> IsPart vu hi -> r x lo hi H Q ->
  ∃ T id, typeLookup (.type T) "__getitem__" = pure (some (.builtin id)) /\ s.TypeIs v T /\ wpAny (model X.prog X.w) X.A (getItem v (.ref sl)) (EP X pins σ Q) X.xe s
noncomputable def tSl (r : V -> Option Int -> Option Int -> Hp -> VK -> Prop) (te : TE) (tl th : TO) : TE := fun σ H Q => te σ H fun x H1 => tl σ H1 fun l H2 => th σ H2 fun u H3 => r x l u H3 Q
theorem pe_slice {r : V -> Option Int -> Option Int -> Hp -> VK -> Prop} (hr : SlR X r) (he : PE X e te) (hl : PO X lo tl) (hu : PO X hi th) : PE X (.Subscript e (.Slice lo hi none p2) pos) (tSl r te tl th) := by
 intro pins s σ H Q I h
 refine Subscript_ (thn (he pins s σ H _ I h) fun v s1 ⟨x, H1, I1, r1, q1⟩ => ?_)
 refine wpAny_Slice (thn (hl pins s1 σ H1 _ I1 q1) fun vl s2 ⟨l, H2, I2, pl, q2⟩ => thn (hu pins s2 σ H2 _ I2 q2) fun vu s3 ⟨u, H3, I3, pu, q3⟩ => ?_)
 rw [evalPart_none]
 refine wpAny_pure ?_
 have I4 : Inv X pins σ H3 { s3 with heap := s3.heap.push { cls := .type "slice", data := .fields #[vl, vu, .none] } } := I3.kept (t' := s3.toks) fun b ob q => Heap.get?_push_of_some _ q
 obtain ⟨T, id, hT, ht, hg⟩ := hr pins { s3 with heap := s3.heap.push { cls := .type "slice", data := .fields #[vl, vu, .none] } } σ H3 x v vl vu l u s3.heap.objs.size Q I4 r1 (Heap.IsSliceOf.new ..) pl pu q3
 show wpAny (model X.prog X.w) X.A (subscriptTail e (.Slice lo hi none p2) v (.ref s3.heap.objs.size)) (EP X pins σ Q) X.xe { s3 with heap := s3.heap.push { cls := .type "slice", data := .fields #[vl, vu, .none] } }
 exact tail_any (ops := [.ref s3.heap.objs.size, v]) ht hT hg (by with_unfolding_all rfl)
noncomputable def cutV (xs : List V) (lo hi : Option Int) : List V := (xs.drop (HT.sIx xs.length 0 lo)).take (HT.sIx xs.length xs.length hi - HT.sIx xs.length 0 lo)
theorem cutV_length (xs : List V) (lo hi : Option Int) : (cutV xs lo hi).length <= xs.length := by
 unfold cutV
 rw [List.length_take, List.length_drop]
 (first | lia | omega)
noncomputable def rSlT (K : PySem.W.Frag) : V -> Option Int -> Option Int -> Hp -> VK -> Prop := fun x lo hi H Q => ∃ a xs, x = .ref a /\ SqT K H a xs /\
 ¬ (HT.sIx xs.length 0 lo = 0 /\ HT.sIx xs.length xs.length hi = xs.length) /\ ∀ p, H p = none -> Q (.ref p) (upd H p (.tup (cutV xs lo hi)))
theorem sl_tup : SlR X (rSlT X.K) := by
 intro pins s σ H x v vl vu lo hi sl Q I rx hs pl pu h
 obtain ⟨a, xs, rfl, hx, hw, q⟩ := h
 cases rx
 obtain ⟨its, r, ht, hz⟩ := I.tuple hx
 have hlen : its.toArray.size = xs.length := by rw [List.size_toArray]; exact r.length.symm
 refine ⟨"tuple", _, PyProof.Rows.slot_tuple_getitem.lookup, ht.typeIs, ?_⟩
 refine HT.getItem_tuple_cut ht hs pl pu (by rw [hlen]; exact hw) ?_ (by rw [hlen]; exact hz)
 rw [hlen]
 refine ⟨.ref s.heap.objs.size, _, I.laid (t' := s.toks) (o := .tup (cutV xs lo hi)) (fun b ob q => Heap.get?_push_of_some _ q) (Nat.le_refl _) ?_, rfl, q _ (I.hok.fresh (Nat.le_refl _))⟩
 exact ⟨Nat.le_trans (cutV_length xs lo hi) hz, _, (r.drop (HT.sIx xs.length 0 lo)).take (HT.sIx xs.length xs.length hi - HT.sIx xs.length 0 lo), PTup.new⟩
noncomputable def rCatT (K : PySem.W.Frag) : R2 := fun x y H Q => ∃ a b xs ys, x = .ref a /\ y = .ref b /\ SqT K H a xs /\ SqT K H b ys /\ xs ≠ [] /\ xs.length + ys.length <= sizeLine /\
 (ys = [] -> Q (.ref a) H) /\ (ys ≠ [] -> ∀ p, H p = none -> Q (.ref p) (upd H p (.tup (xs ++ ys))))
theorem Vals.nil_iff {xs : List V} {us : List Value} (r : Vals xs us) : us = [] ↔ xs = [] := by
 cases r with
 | nil => simp
 | cons _ _ => simp
theorem op_catT : OpR X (binaryOp .Add) (rCatT X.K) := by
 intro pins s σ H x y v u Q I rx ry h
 obtain ⟨a, b, xs, ys, rfl, rfl, ha, hb, hx, hz, q1, q2⟩ := h
 cases rx
 cases ry
 obtain ⟨its, r1, p1, _⟩ := I.tuple ha
 obtain ⟨its2, r2, p2, _⟩ := I.tuple hb
 refine HT.cat_tup p1 p2 (fun z => hx (r1.nil_iff.mp z)) (fun z => ⟨.ref a, H, I, rfl, q1 (r2.nil_iff.mp z)⟩) (fun z => ?_) (by rw [<- r1.length, <- r2.length]; exact hz)
 refine ⟨.ref s.heap.objs.size, _, I.laid (t' := s.toks) (o := .tup (xs ++ ys)) (fun b ob q => Heap.get?_push_of_some _ q) (Nat.le_refl _) ?_, rfl, q2 (fun w => z (r2.nil_iff.mpr w)) _ (I.hok.fresh (Nat.le_refl _))⟩
 exact ⟨by rw [List.length_append]; exact hz, _, r1.append r2, PTup.new⟩
end
end L2
namespace L2
open PySem PySem.Spec PyProof.Rows
noncomputable def ixN (n : Nat) (i : Int) : Option Nat := if 0 <= i then (if i < n then some i.toNat else none) else if -(n : Int) <= i then some (i + n).toNat else none
noncomputable def atI {α : Type} (xs : List α) (i : Int) : Option α := (ixN xs.length i).bind fun j => xs[j]?
theorem ixN_seq {n : Nat} {i : Int} {j : Nat} (h : ixN n i = some j) : seqIndex? i n = some j /\ j < n /\ -(n : Int) <= i /\ i < n := by
 unfold ixN at h
 by_cases h0 : 0 <= i
 ·rw [if_pos h0] at h
  by_cases h1 : i < n
  ·rw [if_pos h1] at h
   have e : i.toNat = j := Option.some.inj h
   exact ⟨by rw [seqIndex_of h0 h1, e], by (first | lia | omega), by (first | lia | omega), h1⟩
  ·rw [if_neg h1] at h; cases h
 ·rw [if_neg h0] at h
  by_cases h1 : -(n : Int) <= i
  ·rw [if_pos h1] at h
   have e : (i + n).toNat = j := Option.some.inj h
   exact ⟨by rw [seqIndex_neg (by (first | lia | omega)) h1, e], by (first | lia | omega), h1, by (first | lia | omega)⟩
  ·rw [if_neg h1] at h; cases h
theorem atI_get {α : Type} {xs : List α} {i : Int} {v : α} (h : atI xs i = some v) : ∃ j, seqIndex? i xs.length = some j /\ xs[j]? = some v /\ j < xs.length /\ -(xs.length : Int) <= i /\ i < xs.length := by
 unfold atI at h
 cases e : ixN xs.length i with
 | none => rw [e] at h; cases h
 | some j =>
  rw [e] at h
  obtain ⟨h1, h2, h3, h4⟩ := ixN_seq e
  exact ⟨j, h1, h, h2, h3, h4⟩
theorem atI_nat {α : Type} {xs : List α} {j : Nat} {v : α} (h : xs[j]? = some v) : atI xs (j : Int) = some v := by
 have hj : j < xs.length := (List.getElem?_eq_some_iff.mp h).1
 have e : ixN xs.length (j : Int) = some j := by
  unfold ixN
  rw [if_pos (by (first | lia | omega)), if_pos (by (first | lia | omega))]; simp
 unfold atI; rw [e]; exact h
noncomputable def PlainIx (b : Expr) : Prop := ∀ o i, subscripted b false o i = operate [o, i] (getItem o i)
noncomputable def IxR (X : Cx) (r : R2) : Prop :=
 ∀ (value slice : Expr) (pins : List (Addr × Obj)) (s : Shared) (σ : St) (H : Hp) (x y : V) (v u : Value) (Q : VK), Inv X pins σ H s -> RelV x v -> RelV y u -> r x y H Q ->
  subscripted slice false v u = operate [v, u] (getItem v u) -> wpAny (model X.prog X.w) X.A (subscriptTail value slice v u) (EP X pins σ Q) X.xe s
noncomputable def MtR (X : Cx) (id : String) (r : V -> List V -> Hp -> VK -> Prop) : Prop :=
 ∀ (pins : List (Addr × Obj)) (s : Shared) (σ : St) (H : Hp) (x : V) (xs : List V) (v : Value) (us : List Value) (Q : VK), Inv X pins σ H s -> RelV x v -> Vals xs us -> r x xs H Q ->
  wpAny (model X.prog X.w) X.A (call (.builtin id) (v :: us)) (EP X pins σ Q) X.xe s
section
variable {X : Cx} {a b : Expr} {ta tb : TE} {pos : Pos}
theorem pe_ix {r : R2} (hr : IxR X r) (ha : PE X a ta) (hb : PE X b tb) (hs : PlainIx b) : PE X (.Subscript a b pos) (tOp r ta tb) := by
 intro pins s σ H Q I h
 exact Subscript_ (binT ha hb I h fun v u s2 x y H2 I2 rx ry q => hr a b pins s2 σ H2 x y v u Q I2 rx ry q (hs _ _))
noncomputable def rIxL (K : PySem.W.Frag) : R2 := fun x y H Q => ∃ p xs i v, x = .ref p /\ y = .int i /\ SqL K H p xs /\ atI xs i = some v /\ Q v H
noncomputable def rIxT (K : PySem.W.Frag) : R2 := fun x y H Q => ∃ p xs i v, x = .ref p /\ y = .int i /\ SqT K H p xs /\ atI xs i = some v /\ Q v H
theorem ix_list : IxR X (rIxL X.K) := by
 intro value slice pins s σ H x y v u Q I rx ry h hs
 obtain ⟨p, xs, i, z, rfl, rfl, hq, he, q⟩ := h
 cases rx
 obtain ⟨t, rfl⟩ := ry
 obtain ⟨its, r, pl, hz⟩ := I.list hq
 obtain ⟨j, h1, h2, h3, h4, h5⟩ := atI_get he
 obtain ⟨w, ew, rw'⟩ := r.get h2
 have hl := r.length
 have hn := line63
 have fin : EP X pins σ Q w s := ⟨z, H, I, rw', q⟩
 by_cases h0 : 0 <= i
 ·have hj : i.toNat = j := by
   rw [seqIndex_of h0 h5] at h1
   exact Option.some.inj h1
  exact item_listR pl.isList h0 (by (first | lia | omega)) (by rw [hj]; simpa using ew) fin hs
 ·have hj : (i + (its.toArray.size : Int)).toNat = j := by
   rw [seqIndex_neg (by (first | lia | omega)) h4] at h1
   rw [List.size_toArray, <- hl]
   exact Option.some.inj h1
  exact subscriptTail_builtinR (x := w) pl.isList.typeIs slot_list_getitem.lookup
   (wpAny_getItem_list_neg (Q := fun r s' => r = w /\ EP X pins σ Q r s') pl.isList (by (first | lia | omega)) (by rw [List.size_toArray] <;> (first | lia | omega)) (by (first | lia | omega)) (by rw [hj]; simpa using ew) ⟨rfl, fin⟩) hs
theorem ix_tup : IxR X (rIxT X.K) := by
 intro value slice pins s σ H x y v u Q I rx ry h hs
 obtain ⟨p, xs, i, z, rfl, rfl, hq, he, q⟩ := h
 cases rx
 obtain ⟨t, rfl⟩ := ry
 obtain ⟨its, r, pl, hz⟩ := I.tuple hq
 obtain ⟨j, h1, h2, h3, h4, h5⟩ := atI_get he
 obtain ⟨w, ew, rw'⟩ := r.get h2
 have hl := r.length
 have hn := line63
 have fin : EP X pins σ Q w s := ⟨z, H, I, rw', q⟩
 exact subscriptTail_builtinR (x := w) pl.typeIs slot_tuple_getitem.lookup
  (getItem_tuple (j := j) (Q := fun r s' => r = w /\ EP X pins σ Q r s') pl (by (first | lia | omega)) (by (first | lia | omega)) (by rw [List.size_toArray, <- hl]; exact h1) (by simpa using ew) ⟨rfl, fin⟩) hs
theorem mapSeq_set (its : List Value) (n j : Nat) (u : Value) : Obj.mapSeq (·.setIfInBounds j u) { cls := .type "list", data := .seq its.toArray n } = { cls := .type "list", data := .seq (its.set j u).toArray n } := by
 simp [Obj.mapSeq]
theorem Inv.lst {pins : List (Addr × Obj)} {σ : St} {H : Hp} {s : Shared} {p : Addr} {xs : List V} (I : Inv X pins σ H s) (h : H p = some (.lst xs)) :
  ∃ (its : List Value) (n : Nat), Vals xs its /\ s.heap.get? p = some { cls := .type "list", data := .seq its.toArray n } /\ xs.length <= sizeLine := by
 obtain ⟨z, its, n, r, e⟩ := I.hok p _ h
 exact ⟨its, n, r, e, z⟩
theorem Inv.lstUpd {pins : List (Addr × Obj)} {σ : St} {H : Hp} {s : Shared} {p : Addr} {xs ys : List V} {its its' : List Value} {n n' : Nat} {f : Obj -> Obj} (I : Inv X pins σ H s) (h : H p = some (.lst xs))
  (ho : s.heap.get? p = some { cls := .type "list", data := .seq its.toArray n }) (hf : f { cls := .type "list", data := .seq its.toArray n } = { cls := .type "list", data := .seq its'.toArray n' }) (r : Vals ys its') (hz : ys.length <= sizeLine) (t : Nat) :
  Inv X pins σ (upd H p (.lst ys)) { s with heap := s.heap.update p f, toks := t } := by
 have e : (s.heap.update p f).get? p = some { cls := .type "list", data := .seq its'.toArray n' } := by
  rw [Heap.get?_update_self f ho (by rw [hf] <;> rfl), hf]
 refine I.write (x := p) (e := p) (by rw [h]; trivial) (.inl rfl) (fun b u hb q => (Heap.get?_update_other _ _ (Ne.symm hb)).trans q) ⟨_, e⟩ ?_
 exact ⟨hz, its', n', r, e⟩
noncomputable def rSetL : V -> V -> V -> Hp -> (Hp -> Prop) -> Prop := fun o i v H Q => ∃ p xs k j, o = .ref p /\ i = .int k /\ H p = some (.lst xs) /\ ixN xs.length k = some j /\ Q (upd H p (.lst (xs.set j v)))
theorem set_list : PSet X rSetL := by
 intro pins s σ H o i v ov iv u Q I ro ri rv h
 obtain ⟨p, xs, k, j, rfl, rfl, hp, hj, q⟩ := h
 cases ro
 obtain ⟨t, rfl⟩ := ri
 obtain ⟨its, n, r, ho, hz⟩ := I.lst hp
 obtain ⟨h1, h2, h3, h4⟩ := ixN_seq hj
 have hl := r.length
 have hn := line63
 have I' : Inv X pins σ (upd H p (.lst (xs.set j v))) { s with heap := s.heap.update p (Obj.mapSeq (·.setIfInBounds j u)) } :=
  I.lstUpd hp ho (mapSeq_set its n j u) (r.set rv j) (by rw [List.length_set]; exact hz) s.toks
 by_cases h0 : 0 <= k
 ·have hk : k.toNat = j := by
   rw [seqIndex_of h0 h4] at h1
   exact Option.some.inj h1
  exact PySem.W.ki_setAt ho h0 (by (first | lia | omega)) (by rw [List.size_toArray, <- hl]; exact h4) (by rw [hk]; exact ⟨_, I', q⟩)
 ·have hk : (k + (its.toArray.size : Int)).toNat = j := by
   rw [seqIndex_neg (by (first | lia | omega)) h3] at h1
   rw [List.size_toArray, <- hl]
   exact Option.some.inj h1
  exact PySem.W.ki_setBack ho (by (first | lia | omega)) (by rw [List.size_toArray, <- hl]; exact h3) (by (first | lia | omega)) (by rw [hk]; exact ⟨_, I', q⟩)
theorem slice_bounds (lo hi : Option Int) (n : Nat) : (sliceBounds lo hi none n).1 = ((HT.sIx n 0 lo : Nat) : Int) /\ (sliceBounds lo hi none n).2.1 = ((HT.sIx n n hi : Nat) : Int) /\ (sliceBounds lo hi none n).2.2 = 1 := by
 refine ⟨?_, ?_, rfl⟩
 ·cases lo with
  | none => simp [sliceBounds, HT.sIx]
  | some i =>
   simp only [sliceBounds, HT.sIx, Option.getD_none, show (1 : Int) > 0 by decide, if_true]
   by_cases h : i < 0
   ·simp only [h, if_true] <;> (first | lia | omega)
   ·simp only [h, if_false] <;> (first | lia | omega)
 ·cases hi with
  | none => simp [sliceBounds, HT.sIx]
  | some i =>
   simp only [sliceBounds, HT.sIx, Option.getD_none, show (1 : Int) > 0 by decide, if_true]
   by_cases h : i < 0
   ·simp only [h, if_true] <;> (first | lia | omega)
   ·simp only [h, if_false] <;> (first | lia | omega)
theorem slicePick_cut (its : List Value) (lo hi : Option Int) : slicePick its.toArray lo hi none = ((its.drop (HT.sIx its.length 0 lo)).take (HT.sIx its.length its.length hi - HT.sIx its.length 0 lo)).toArray := by
 obtain ⟨h1, h2, h3⟩ := slice_bounds lo hi its.toArray.size
 unfold slicePick
 rw [h1, h2, h3]
 simp only [sliceRange_one, pick_run, List.size_toArray] <;> rfl
noncomputable def rSlL (K : PySem.W.Frag) : V -> Option Int -> Option Int -> Hp -> VK -> Prop := fun x lo hi H Q => ∃ a xs, x = .ref a /\ SqL K H a xs /\ ∀ p, H p = none -> Q (.ref p) (upd H p (.lst (cutV xs lo hi)))
theorem sl_list : SlR X (rSlL X.K) := by
 intro pins s σ H x v vl vu lo hi sl Q I rx hs pl pu h
 obtain ⟨a, xs, rfl, hx, q⟩ := h
 cases rx
 obtain ⟨its, r, ht, hz⟩ := I.list hx
 have hlen := r.length
 refine ⟨"list", _, slot_list_getitem.lookup, ht.isList.typeIs, ?_⟩
 refine wpAny_getItem_list_slice ht.isList hs pl pu .none (by simp) ?_ (by rw [List.size_toArray] <;> (first | lia | omega))
 rw [slicePick_cut, <- hlen]
 refine ⟨.ref s.heap.objs.size, _, I.laid (t' := s.toks) (o := .lst (cutV xs lo hi)) (fun b ob q => Heap.get?_push_of_some _ q) (Nat.le_refl _) ?_, rfl, q _ (I.hok.fresh (Nat.le_refl _))⟩
 exact ⟨Nat.le_trans (cutV_length xs lo hi) hz, _, 0, (r.drop (HT.sIx xs.length 0 lo)).take (HT.sIx xs.length xs.length hi - HT.sIx xs.length 0 lo), Heap.get?_push_size _ rfl⟩
theorem call_len_seq : CallR X (.builtin "len") (fun xs H Q => ∃ p ys, xs = [.ref p] /\ (SqL X.K H p ys ∨ SqT X.K H p ys) /\ Q (.int ys.length) H) := by
 intro pins s σ H xs us Q I r h
 obtain ⟨p, ys, rfl, hq, q⟩ := h
 obtain ⟨u, rfl, rx⟩ := vals1 r
 cases rx
 have hn := line63
 rcases hq with hq | hq
 ·obtain ⟨its, r', pl, hz⟩ := I.list hq
  have hlen := r'.length
  exact Calls.call_len_list pl.isList (by simp only [List.size_toArray] <;> (first | lia | omega)) ⟨.int ys.length, H, I.tok _, ⟨s.toks + 1, by rw [List.size_toArray, hlen]⟩, q⟩
 ·obtain ⟨its, r', pl, hz⟩ := I.tuple hq
  have hlen := r'.length
  exact len_tuple pl (by simp only [List.size_toArray] <;> (first | lia | omega)) ⟨.int ys.length, H, I.tok _, ⟨s.toks + 1, by rw [List.size_toArray, hlen]⟩, q⟩
theorem call_tuple_of : CallR X (.type "tuple") (fun xs H Q => ∃ p ys, xs = [.ref p] /\ ((SqL X.K H p ys /\ ∀ l, H l = none -> Q (.ref l) (upd H l (.tup ys))) ∨ (SqT X.K H p ys /\ Q (.ref p) H))) := by
 intro pins s σ H xs us Q I r h
 obtain ⟨p, ys, rfl, h⟩ := h
 obtain ⟨u, rfl, rx⟩ := vals1 r
 cases rx
 rcases h with ⟨hq, q⟩ | ⟨hq, q⟩
 ·obtain ⟨its, r', pl, hz⟩ := I.list hq
  have hlen := r'.length
  refine call_tuple_list pl.isList (fun h' kp => ?_) (by simp only [List.size_toArray] <;> (first | lia | omega))
  have I1 : Inv X pins σ H { s with heap := h' } := I.kept (t' := s.toks) kp
  have I2 : Inv X pins σ (upd H h'.objs.size (.tup ys)) { s with heap := h'.push { cls := .type "tuple", data := .seq its.toArray } } :=
   I1.laid (t' := s.toks) (fun b o e => Heap.get?_push_of_some _ e) (Nat.le_refl _) (show ObjOk X.prog X.w _ _ _ (.tup ys) from ⟨hz, its, r', PTup.new⟩)
  exact ⟨.ref h'.objs.size, _, I2, rfl, q _ (I1.hok.fresh (Nat.le_refl _))⟩
 ·obtain ⟨its, r', pl, hz⟩ := I.tuple hq
  exact call_tuple_same pl ⟨.ref p, H, I, rfl, q⟩
noncomputable def tyV (K : PySem.W.Frag) (T : String) (x : V) (H : Hp) : Prop := match x with
 | .str _ => T = "str"
 | .int _ => T = "int"
 | .ref p => (T = "list" /\ ∃ xs, SqL K H p xs) ∨ (T = "tuple" /\ ∃ o, K.lookup p = some o /\ o.cls = .type "tuple" /\ o.dict = none) ∨
   (T = "dict" /\ ((∃ kvs, H p = some (.dK kvs)) ∨ ∃ kvs, H p = some (.dT kvs))) ∨ (T = "set" /\ ∃ S n, H p = some (.set S n))
 | _ => False
theorem tyV_is {pins : List (Addr × Obj)} {σ : St} {H : Hp} {s : Shared} {T : String} {x : V} {v : Value} (I : Inv X pins σ H s) (r : RelV x v) (ty : tyV X.K T x H) :
  s.TypeIs v T /\ ∀ a, v = .ref a -> ∃ ob, s.heap.get? a = some ob /\ ob.dict = none := by
 cases x with
 | str z =>
  obtain ⟨t, rfl⟩ := r
  cases (show T = "str" from ty)
  exact ⟨typeIs_str s z t, fun _ e => nomatch e⟩
 | int i =>
  obtain ⟨t, rfl⟩ := r
  cases (show T = "int" from ty)
  exact ⟨typeIs_int s i t, fun _ e => nomatch e⟩
 | ref p =>
  cases r
  rcases ty with ⟨rfl, xs, hq⟩ | ⟨rfl, o, hk, hc, hd⟩ | ⟨rfl, hk⟩ | ⟨rfl, S, n, hk⟩
  ·obtain ⟨its, _, pl, _⟩ := I.list hq
   refine ⟨pl.isList.typeIs, fun a e => ?_⟩
   cases e
   obtain ⟨o, n, e, c, hd, _⟩ := pl
   exact ⟨o, e, hd⟩
  ·refine ⟨⟨o, I.kIn p o hk, hc⟩, fun a e => ?_⟩
   cases e
   exact ⟨o, I.kIn _ o hk, hd⟩
  ·have z : ∃ o, s.heap.get? p = some o /\ o.ExactDict := by
    rcases hk with ⟨kvs, hk⟩ | ⟨kvs, hk⟩
    ·obtain ⟨_, _, _, _, o, _, _, e, ex, _⟩ := I.hok p _ hk
     exact ⟨o, e, ex⟩
    ·obtain ⟨_, _, _, _, o, _, _, e, ex, _⟩ := I.hok p _ hk
     exact ⟨o, e, ex⟩
   obtain ⟨o, e, ex⟩ := z
   refine ⟨⟨o, e, ex.1⟩, fun a e2 => ?_⟩
   cases e2
   exact ⟨o, e, ex.2.1⟩
  ·obtain ⟨o, _, _, _, e, ex, _⟩ := I.hok p _ hk
   refine ⟨⟨o, e, ex.1⟩, fun a e2 => ?_⟩
   cases e2
   exact ⟨o, e, ex.2.1⟩
 | _ => exact False.elim ty
noncomputable def tBM (K : PySem.W.Frag) (T : String) (r : V -> List V -> Hp -> VK -> Prop) (to : TE) (t : TA) : TE := fun σ H Q => to σ H fun x H1 => tyV K T x H1 /\ t σ H1 fun xs H2 => r x xs H2 Q
variable {o e : Expr} {es : List Expr} {to : TE} {t : TA} {name : Str} {apos cpos : Pos} {T id : String} {r : V -> List V -> Hp -> VK -> Prop}
theorem pe_bm (pa : PlainAttrs T) (slot : Slot T name id) (hty : typeOf (.builtin id) = pure (.type "method_descriptor")) (hm : MtR X id r) (ho : PE X o to) (ha : PA X (e :: es) t)
  (hbase : attributeBase o name X.env (eval o X.env) = eval o X.env := by rfl)
  (hfew : ((backTo cpos (starEach (e :: es) X.env)).all (fun x => !x.1) && (backToKw cpos (keywordEach [] X.env)).all (fun x => x.1.isSome)
   && decide ((e :: es).length + ([] : List Keyword).length + (if ([] : List Keyword).isEmpty then 0 else 1) < 30)) = true := by rfl)
  (hline : (apos.endLine == cpos.line) = true := by rfl) (hs : starEach (e :: es) X.env = (false, eval e X.env) :: starEach es X.env := by rfl) (hplain : (backTo cpos (starEach es X.env)).any (·.1) = false := by rfl) :
  PE X (.Call (.Attribute o name apos) (e :: es) [] cpos) (tBM X.K T r to t) := by
 intro pins s σ H Q I h
 refine wpAny_Call_method_late hbase hfew hline rfl (thn (ho pins s σ H _ I h) fun v s1 ⟨x, H1, I1, r1, ty, q1⟩ => ?_)
 obtain ⟨h1, h2⟩ := tyV_is I1 r1 ty
 refine ⟨T, id, pa, slot, hty, h1, h2, ?_⟩
 have hA := ha cpos pins s1 σ H1 _ I1 q1
 rw [hs] at hA ⊢
 refine Calls.callWith_builtin (by show (false || (backTo cpos (starEach es X.env)).any (·.1)) = false; rw [hplain] <;> rfl) (Calls.evalArgs_plain ?_)
 exact thn hA fun us s2 ⟨vs, H2, I2, r2, q2⟩ => hm pins s2 σ H2 x vs v us Q I2 r1 r2 q2
end
end L2
namespace L2
open PySem PySem.Spec PyProof.Rows
noncomputable def MtM (X : Cx) (id : String) (r : V -> List V -> Hp -> VK -> Prop) : Prop :=
 ∀ (pins : List (Addr × Obj)) (s : Shared) (σ : St) (H : Hp) (x : V) (xs : List V) (v : Value) (us : List Value) (Q : VK), Inv X pins σ H s -> RelV x v -> Vals xs us -> r x xs H Q ->
  wpAny (model X.prog X.w) X.A (call (.builtin id) (v :: us)) (EP X pins σ Q) X.xe s
theorem Vals.one : ∀ {x : V} {us : List Value}, Vals [x] us -> ∃ u, us = [u] /\ RelV x u
 | _, _, .cons r .nil => ⟨_, rfl, r⟩
theorem Vals.eraseIdx : ∀ {xs : List V} {us : List Value} (i : Nat), Vals xs us -> Vals (xs.eraseIdx i) (us.eraseIdx i)
 | _, _, _, .nil => .nil
 | _, _, 0, .cons _ t => t
 | _, _, i + 1, .cons r t => .cons r (Vals.eraseIdx i t)
theorem len_erase {α : Type} : ∀ (l : List α) (i : Nat), (l.eraseIdx i).length <= l.length
 | [], _ => Nat.le_refl _
 | _ :: _, 0 => Nat.le_succ _
 | _ :: r, i + 1 => Nat.succ_le_succ (len_erase r i)
section
variable {X : Cx} {pins : List (Addr × Obj)} {σ : St} {H : Hp} {s : Shared} {l b : Addr} {xs ys zs : List V}
theorem Inv.lset {its its' : List Value} {n : Nat} {f : Array Value -> Array Value} {t' : Nat} (I : Inv X pins σ H s) (hH : H l = some (.lst xs))
  (e : s.heap.get? l = some { cls := .type "list", data := .seq its.toArray n }) (hf : f its.toArray = its'.toArray) (hv : Vals ys its') (hz : ys.length <= sizeLine) :
  Inv X pins σ (upd H l (.lst ys)) { s with heap := s.heap.update l (Obj.mapSeq f), toks := t' } := by
 have q := PySem.IsL.update e f
 rw [hf] at q
 refine I.write (x := l) (e := l) (by rw [hH]; exact trivial) (.inl rfl) (fun b' u hb hu => (Heap.get?_update_other s.heap (Obj.mapSeq f) (Ne.symm hb)).trans hu) ⟨_, q⟩ ?_
 exact ⟨hz, its', _, hv, q⟩
theorem Inv.lnew {its : List Value} {t' : Nat} (I : Inv X pins σ H s) (hv : Vals ys its) (hz : ys.length <= sizeLine) :
  Inv X pins σ (upd H s.heap.objs.size (.lst ys)) { s with heap := s.heap.push { cls := .type "list", data := .seq its.toArray }, toks := t' } :=
 I.laid (fun _ _ q => Heap.get?_push_of_some _ q) (Nat.le_refl _) ⟨hz, its, 0, hv, Heap.get?_push_size _ rfl⟩
theorem Inv.fresh (I : Inv X pins σ H s) : H s.heap.objs.size = none := I.hok.fresh (Nat.le_refl _)
theorem Inv.lstM (I : Inv X pins σ H s) (hH : H l = some (.lst xs)) : xs.length <= sizeLine /\ ∃ (its : List Value) (n : Nat), Vals xs its /\ xs.length = its.length /\ s.heap.get? l = some { cls := .type "list", data := .seq its.toArray n } := by
 obtain ⟨z, its, n, r, e⟩ := I.hok l _ hH
 exact ⟨z, its, n, r, r.length, e⟩
theorem notLongL {n : Nat} (h : n <= sizeLine) : Builtin.List.listTooLong n = false := by
 unfold Builtin.List.listTooLong
 exact decide_eq_false (by (first | lia | omega))
end
section
variable {X : Cx}
noncomputable def rAppend : V -> List V -> Hp -> VK -> Prop := fun x vs H Q => ∃ l xs y, x = .ref l /\ vs = [y] /\ H l = some (.lst xs) /\ xs.length < sizeLine /\ Q .non (upd H l (.lst (xs ++ [y])))
theorem mt_append : MtM X "list.append" rAppend := by
 intro pins s σ H x vs v us Q I rx rv h
 obtain ⟨l, xs, y, rfl, rfl, hH, hz, q⟩ := h
 cases rx
 obtain ⟨u, rfl, ru⟩ := rv.one
 obtain ⟨z, its, n, r, hl, e⟩ := I.lstM hH
 refine call_meets F.slot_list_append ⟨_, e, rfl⟩ F.entry_list_append (F.args_list_append_2 _ _) (PySem.list_append l its.toArray n u (by rw [List.size_toArray]; (first | lia | omega))) ⟨e, ?_⟩
 refine ⟨.non, _, I.lset (its' := its ++ [u]) hH e (by simp) (r.append (.cons ru .nil)) ?_, rfl, q⟩
 rw [List.length_append, List.length_singleton]
 (first | lia | omega)
noncomputable def rExtend : V -> List V -> Hp -> VK -> Prop := fun x vs H Q => ∃ l b xs zs, x = .ref l /\ vs = [.ref b] /\ H l = some (.lst xs) /\ H b = some (.lst zs) /\ xs.length + zs.length <= sizeLine /\ Q .non (upd H l (.lst (xs ++ zs)))
theorem mt_extend : MtM X "list.extend" rExtend := by
 intro pins s σ H x vs v us Q I rx rv h
 obtain ⟨l, b, xs, zs, rfl, rfl, hH, hB, hz, q⟩ := h
 cases rx
 obtain ⟨u, rfl, ru⟩ := rv.one
 cases ru
 obtain ⟨z, its, n, r, hl, e⟩ := I.lstM hH
 obtain ⟨z2, its2, n2, r2, hl2, e2⟩ := I.lstM hB
 have hsz : its.toArray.size + its2.toArray.size <= sizeLine := by rw [List.size_toArray, List.size_toArray]; (first | lia | omega)
 have hlong : ¬ (!its.toArray.isEmpty && Builtin.List.listTooLong (its.toArray.size + its2.toArray.size)) = true := by
  rw [notLongL hsz, Bool.and_false]
  exact Bool.false_ne_true
 refine call_meets F.slot_list_extend ⟨_, e, rfl⟩ F.entry_list_extend (F.args_list_extend_2 _ _)
  (AutoSeq1.list_extend_list_list_0 l its.toArray n b its2.toArray n2 hlong (by rw [List.size_toArray]; (first | lia | omega)) (by (first | lia | omega))) ⟨e, e2, ?_⟩
 refine ⟨.non, _, I.lset (its' := its ++ its2) hH e (by simp) (r.append r2) ?_, rfl, q⟩
 rw [List.length_append]
 (first | lia | omega)
noncomputable def rPopAt : V -> List V -> Hp -> VK -> Prop := fun x vs H Q => ∃ l xs i k y, x = .ref l /\ vs = [.int i] /\ H l = some (.lst xs) /\ -(2 ^ 63) <= i /\ i < 2 ^ 63 /\ seqIndex? i xs.length = some k /\ xs[k]? = some y /\ Q y (upd H l (.lst (xs.eraseIdx k)))
theorem mt_popAt : MtM X "list.pop" rPopAt := by
 intro pins s σ H x vs v us Q I rx rv h
 obtain ⟨l, xs, i, k, y, rfl, rfl, hH, h1, h2, hk, hy, q⟩ := h
 cases rx
 obtain ⟨u, rfl, ru⟩ := rv.one
 obtain ⟨t, rfl⟩ := ru
 obtain ⟨z, its, n, r, hl, e⟩ := I.lstM hH
 obtain ⟨w, hw, rw'⟩ := r.get hy
 refine call_meets F.slot_list_pop ⟨_, e, rfl⟩ F.entry_list_pop (F.args_list_pop_2 _ _)
  (MeetsSeq.list_pop_at l its.toArray n i t k w (fitsIndex_both h1 h2) (by rw [List.size_toArray, <- hl]; exact hk) (by rw [<- Array.getElem?_toList]; exact hw) (by rw [List.size_toArray]; (first | lia | omega))) ⟨e, ?_⟩
 refine ⟨y, _, I.lset (its' := its.eraseIdx k) hH e ?_ (r.eraseIdx k) ?_, rw', q⟩
 ·show its.toArray.eraseIdxIfInBounds k = (its.eraseIdx k).toArray
  rw [List.eraseIdxIfInBounds_toArray]
 ·have := len_erase xs k
  (first | lia | omega)
noncomputable def rCat : R2 := fun x y H Q => ∃ l b xs zs, x = .ref l /\ y = .ref b /\ H l = some (.lst xs) /\ H b = some (.lst zs) /\ xs.length + zs.length <= sizeLine /\ ∀ p, H p = none -> Q (.ref p) (upd H p (.lst (xs ++ zs)))
theorem op_cat : OpR X (binaryOp .Add) rCat := by
 intro pins s σ H x y v u Q I rx ry h
 obtain ⟨l, b, xs, zs, rfl, rfl, hH, hB, hz, q⟩ := h
 cases rx
 cases ry
 obtain ⟨z, its, n, r, hl, e⟩ := I.lstM hH
 obtain ⟨z2, its2, n2, r2, hl2, e2⟩ := I.lstM hB
 refine PySem.P.add_list e e2 ?_ (by rw [List.size_toArray, List.size_toArray]; (first | lia | omega))
 have ea : its.toArray ++ its2.toArray = (its ++ its2).toArray := by simp
 rw [ea]
 exact ⟨.ref _, _, I.lnew (t' := s.toks) (r.append r2) (by rw [List.length_append]; (first | lia | omega)), rfl, q _ I.fresh⟩
end
section
variable {prog : Program} {w : World} {A : Around} {E : Value -> Shared -> Prop} {s : Shared}
end
section
variable {X : Cx}
end
end L2
namespace Att
open PySem PySem.W PySem.Calls PyProof.Rows
theorem ints_of_wellAll {P : Params} {h : Heap} : ∀ (ns : List Int) (vs : List Value), WellAll P h vs (ns.map WData.int) -> IntsAre vs ns := by
 intro ns
 induction ns with
 | nil =>
  intro vs w
  rw [List.map_nil] at w
  cases w
  exact .nil
 | cons n ns ih =>
  intro vs w
  rw [List.map_cons] at w
  cases w with
  | cons a b =>
   cases a
   exact .cons _ _ (ih _ b)
theorem script_of {l : OpenLaw} {n : Nat} (hn : l.most = some n) {P : Params} {h : Heap} {args : List WData} {vals : List Value}
  (hpre : l.row.toRowW.claim.pre args = true) (hwl : WellAll P h vals args) :
  ∃ a vs ns, vals = [Value.ref a] /\ args = [WData.list (ns.map WData.int)] /\ h.get? a = some { cls := .type "list", data := .seq vs.toArray } /\ IntsAre vs ns /\ ns.length <= n := by
 have hsh : WShape.hasAll [] args [.list .int] = true := (pre_splitW hpre).1
 have hc : l.pre.holds [] { args := args } = true := (pre_splitW hpre).2
 obtain ⟨d, r, rfl, h1, h2⟩ := hasAllW_cons hsh
 obtain rfl := hasAllW_nil h2
 obtain ⟨xs, rfl, h3⟩ := hasW_list h1
 obtain ⟨ns, rfl⟩ := items_int h3
 have hlen : ns.length <= n := by
  unfold OpenLaw.pre at hc
  have h4 : (WTm.not (.lt (.lit (.int (n : Int))) (.len (.arg 0)))).holds [] { args := [.list (ns.map .int)] } = true := by
   have h4 := (holds_andW hc).1
   rw [hn] at h4
   exact h4
  have h5 := condW_of h4 (w_not (w_lt w_lit (w_len_list (w_arg rfl))))
  rw [List.length_map] at h5
  refine Nat.le_of_not_lt fun q => ?_
  have q' : (n : Int) < ((ns.length : Nat) : Int) := by (first | lia | omega)
  first
   | (rw [decide_eq_true q'] at h5; exact absurd h5 (by decide))
   | (simp at h5; (first | lia | omega))
 cases hwl with
 | cons w1 w2 =>
  cases w2
  cases w1 with
  | list ho hall => exact ⟨_, _, ns, rfl, rfl, ho, ints_of_wellAll ns _ hall, hlen⟩
theorem post_true (l : OpenLaw) (args : List WData) : l.row.toRowW.claim.post args (.bool true) args = true :=
 postW_of (r := l.row.toRowW) (X := (true == true))
  (show WShape.has [] (.bool true) .bool = true by first | rfl | decide | simp [WShape.has, WShape.arms, WShape.armsAll])
  (show (WTm.eq .res (.lit (.bool true))).value [] { args := args, res := some (.bool true), after := args } = some (.bool (true == true)) from w_eq_bool (w_res rfl) w_lit) rfl
theorem attach_call {l : OpenLaw} {n : Nat} {q : Program} {loose : List Str} {XP : (Str -> Option Value) -> Heap -> Prop} {YP : World -> Heap -> Prop} {d : DefRec}
  (hn : l.most = some n) (hdf : d.params.defaults = [])
  (call : ∀ (w : World) (s₀ s₁ : Shared) (mg mb : Str -> Option Value) (fa : Addr) (o : Obj) (pm cd doc : Value) (a : Addr) (vs : List Value) (ns : List Int),
   Ground q loose [] XP w s₀ mg mb s₁.heap -> YP w s₁.heap ->
   s₁.heap.get? fa = some o -> o.data = .func (docDef d.name d.params d.body d.scope pm cd doc) -> s₁.heap.CodeRec cd d.name -> mg d.name = some (.ref fa) ->
   s₁.heap.get? a = some { cls := .type "list", data := .seq vs.toArray } -> IntsAre vs ns -> ns.length <= n -> s₁.gens = #[] ->
   codeAny (model l.prog w) callerA (.call (.ref fa) ⟨[.ref a], []⟩) (fun r s' => r = .ok (.ret (.bool true)) /\ OldK s₁.heap s'.heap /\ s'.os = s₁.os /\ AllBare s'.gens) s₁) :
  WalkO q loose XP YP l.row.toRowW d [] (fun f vs => PySem.call f vs) := by
 intro w s₀ s₁ mg mb G Y fa o pm cd doc dV kV ho hd hcd hD hmg hg args vals as hpre hlay hrd hwl hlo
 obtain rfl : dV = .none := Dflts.none hD hdf
 obtain rfl : kV = .none := Dflts.noKw hD
 obtain ⟨a, vs, ns, rfl, rfl, hobj, hints, hlen⟩ := script_of hn hpre hwl
 refine enter_call (codeAny_mono (call w s₀ s₁ mg mb fa o pm cd doc a vs ns G Y ho (fd_plain hd) hcd hmg hobj hints hlen hg) fun r s' hq => ?_)
 obtain ⟨rfl, h2, h3, h4⟩ := hq
 exact ⟨.inl ⟨.bool true, .bool true, [], rfl, fun _ => rfl, .bool true, post_true l _, fun _ => ⟨List.Pairwise.nil, fun _ hm => (nomatch hm)⟩⟩, h2, h3, h4⟩
section
variable {prog : Program} {w : World} {A : Around} {E : Value -> Shared -> Prop} {s : Shared} {K : Frag}
end
end Att
namespace L2
open PySem PySem.Spec PyProof.Rows
theorem vals_ints : ∀ {vs : List Value} {ns : List Int}, IntsAre vs ns -> Vals (ns.map V.int) vs
 | _, _, .nil => .nil
 | _, _, .cons n t h => .cons ⟨t, rfl⟩ (vals_ints h)
noncomputable def Only (H : Hp) : Prop := ∀ b, H b = none ∨ ∃ o xs, H b = some (.frz o (.lst xs))
theorem law_call {P : Program} {w : World} {K : PySem.W.Frag} {mg mb : Str -> Option Value} {CX : CXT} {k : Nat} {fa a : Addr} {fd : FuncData} {x : Str} {sp : Sp} {s₁ : Shared} {vs : List Value} {ns : List Int}
  (KX : K.In s₁.heap) (hns : s₁.heap.Ns mainGlobals mg) (hb : s₁.heap.Ns builtinsNs mb) (hbb : ∀ x : Str, x ≠ "__name__" -> mb x = bootBuiltins x) (hlim : s₁.heap.NoLimit) (hg : s₁.gens = #[])
  (ha : s₁.heap.get? a = some { cls := .type "list", data := .seq vs.toArray }) (hi : IntsAre vs ns) (hl : ns.length <= sizeLine) (hr : Room k callerA)
  (F : ∀ base : Heap, K.In base -> base.Ns mainGlobals mg -> FnOk P w K mg base CX k fa fd [x] sp) (hbind : ∀ (s : Shared) (u : Value), BindsTo s fd ⟨[u], []⟩ [(x, u)])
  (hsp : ∀ H : Hp, Only H -> SqL K H a (ns.map V.int) -> sp [.ref a] H (fun v _ => v = .bl true) fun _ _ _ => False)
  (hCX : ∀ H e s', CX [] H s₁ (fun _ _ _ => False) e s' -> False) :
  codeAny (model P w) callerA (.call (.ref fa) ⟨[.ref a], []⟩) (fun r s' => r = .ok (.ret (.bool true)) /\ OldK s₁.heap s'.heap /\ s'.os = s₁.os /\ AllBare s'.gens) s₁ := by
 have rv := vals_ints hi
 have lenV := hi.length
 have core : ∀ H : Hp, Only H -> SqL K H a (ns.map V.int) -> HOk P w H s₁.heap -> (∀ b, H b ≠ none -> b = a) -> (H a ≠ none -> K.lookup a = none) ->
   codeAny (model P w) callerA (.call (.ref fa) ⟨[.ref a], []⟩) (fun r s' => r = .ok (.ret (.bool true)) /\ OldK s₁.heap s'.heap /\ s'.os = s₁.os /\ AllBare s'.gens) s₁ := by
  intro H hO hS hok hA hK
  have base_of : ∀ {b : Addr} {o : Obj}, s₁.heap.get? b = some o -> H b = none -> (hidT s₁.heap H).get? b = some o := fun e n => hidT_get e n
  have noA : ∀ {b : Addr} {o : Obj} {es : Array DictEntry} {ep : Nat}, s₁.heap.get? b = some o -> o.data = .dict es ep -> H b = none := fun {b o es ep} e d => by
   cases q : H b with
   | none => rfl
   | some u =>
    have e' : b = a := hA b (by rw [q]; simp)
    subst e'
    rw [ha] at e; cases e
    have d' : Data.seq vs.toArray _ = Data.dict es ep := d
    cases d'
  have nsK : ∀ {b : Addr} {m : Str -> Option Value}, s₁.heap.Ns b m -> (hidT s₁.heap H).Ns b m := fun {b m} ⟨o, es, ep, e, d, r⟩ => ⟨o, es, ep, base_of e (noA e d), d, r⟩
  have hKb : K.In (hidT s₁.heap H) := fun b o e => base_of (KX b o e) (by
   cases q : H b with
   | none => rfl
   | some u =>
    have e' : b = a := hA b (by rw [q]; simp)
    subst e'
    rw [hK (by rw [q]; simp)] at e; cases e)
  have hM : Mod K mg (hidT s₁.heap H) := ⟨hKb, nsK hns, ⟨mb, nsK hb, hbb⟩, let ⟨mc, h1, h2⟩ := hlim; ⟨mc, nsK h1, h2⟩⟩
  have e0 : Env0 P w K mg (hidT s₁.heap H) callerA [] s₁ H := ⟨rfl, hM, fun b o e => of_hidT e, Nat.le_of_eq (hidT_size _ _), trivial, fun b hb => absurd (show b ∈ ([] : List Addr) from hb) (by simp), hok, .of_eq hg⟩
  refine codeAny_mono ((F _ hKb (nsK hns)).run callerA [] s₁ H ⟨[.ref a], []⟩ [.ref a] [.ref a] _ _ hr e0 (hbind s₁ (.ref a)) (.cons rfl .nil) (hsp H hO hS)) fun r s' h => ?_
  cases r with
  | error e => exact (hCX H e s' h).elim
  | ok fl =>
   cases fl with
   | next => exact False.elim h
   | brk => exact False.elim h
   | cont => exact False.elim h
   | ret u =>
    obtain ⟨v, H', os, bare, un, hok', r', q⟩ := h
    have q' : v = .bl true := q
    subst q'
    obtain rfl : u = Value.bool true := r'
    refine ⟨rfl, OldK.of_keep fun b o e => ?_, os, bare⟩
    cases q : H b with
    | none => exact un.keep b o e q (by intro z; exact absurd (show b ∈ ([] : List Addr) from z) (by simp)) (by simp)
    | some u =>
     rcases hO b with z | ⟨ob, xs, z⟩
     ·rw [q] at z; cases z
     ·have z2 := un.frzs b ob _ z
      obtain ⟨e1, _⟩ := hok b _ z
      obtain ⟨e2, _⟩ := hok' b _ z2
      rw [e] at e1; cases e1
      exact e2
 cases hk : K.lookup a with
 | some o =>
  have e := KX a o hk
  rw [ha] at e
  cases e
  refine core (fun _ => none) (fun _ => .inl rfl) (.inr ⟨_, vs.toArray, _, hk, rfl, rfl, rfl, by rw [List.size_toArray, lenV]; exact hl, by simpa using rv⟩) (fun b u z => by have z' : (none : Option HO) = some u := z; cases z') (fun b z => absurd rfl z) fun z => absurd rfl z
 | none =>
  refine core (fun b => if b = a then some (.frz { cls := .type "list", data := .seq vs.toArray } (.lst (ns.map V.int))) else none) (fun b => ?_) (.inl (.inr ⟨{ cls := .type "list", data := .seq vs.toArray }, if_pos rfl⟩)) (fun b u z => ?_) (fun b z => ?_) fun _ => hk
  ·by_cases hb : b = a
   ·exact .inr ⟨_, _, if_pos hb⟩
   ·exact .inl (if_neg hb)
  ·by_cases hb : b = a
   ·have z' := (if_pos hb).symm.trans z
    cases z'
    subst hb
    exact ⟨ha, by rw [List.length_map]; exact hl, vs, _, rv, ha⟩
   ·have z' := (if_neg hb).symm.trans z
    cases z'
  ·by_cases hb : b = a
   ·exact hb
   ·exact absurd (if_neg hb) z
end L2
namespace L2
open PySem PySem.Spec PyProof.Rows
theorem walk_of {l : PySem.W.OpenLaw} {n k : Nat} {q : Program} {loose : List Str} {XP : (Str -> Option Value) -> Heap -> Prop} {YP : World -> Heap -> Prop} {d : DefRec} {K : Params -> PySem.W.Frag} {CX : World -> CXT} {sp : World -> Sp} {x : Str}
  (hn : l.most = some n) (hn2 : n <= sizeLine) (hdf : d.params.defaults = []) (hr : Room k callerA)
  (hY : ∀ (w : World) (h : Heap), YP w h -> (K w.params).In h)
  (F : ∀ (w : World) (mg : Str -> Option Value) (fa : Addr) (h : Heap), (K w.params).In h -> h.Ns mainGlobals mg -> mg d.name = some (.ref fa) ->
   ∃ fd : FuncData, (∀ (s : Shared) (u : Value), BindsTo s fd ⟨[u], []⟩ [(x, u)]) /\
    ∀ base : Heap, (K w.params).In base -> base.Ns mainGlobals mg -> FnOk l.prog w (K w.params) mg base (CX w) k fa fd [x] (sp w))
  (hsp : ∀ (w : World) (H : Hp) (a : Addr) (ns : List Int), ns.length <= n -> Only H -> SqL (K w.params) H a (ns.map V.int) -> sp w [.ref a] H (fun v _ => v = .bl true) fun _ _ _ => False)
  (hCX : ∀ (w : World) (H : Hp) (s : Shared) (e : Value) (s' : Shared), CX w [] H s (fun _ _ _ => False) e s' -> False) :
  PySem.W.WalkO q loose XP YP l.row.toRowW d [] (fun f vs => PySem.call f vs) := by
 refine Att.attach_call hn hdf fun w s₀ s₁ mg mb fa o pm cd doc a vs ns G Y ho hd hcd hmg hobj hints hlen hg => ?_
 have KX := hY w _ Y
 obtain ⟨fd, hb, hF⟩ := F w mg fa _ KX G.T.g hmg
 exact law_call KX G.T.g G.T.b G.T.builtins G.T.nolimit hg hobj hints (Nat.le_trans hlen hn2) hr hF hb (fun H hO hS => hsp w H a ns hlen hO hS) fun H e s' => hCX w H s₁ e s'
end L2
namespace L2
open PySem PySem.Spec PyProof.Rows
noncomputable def defArgs (s : Stmt) : Arguments := match s with
 | .FunctionDef _ a _ _ _ _ _ _ _ _ => a
 | _ => { posonlyargs := [], args := [], vararg := none, kwonlyargs := [], kw_defaults := [], kwarg := none, defaults := [] }
noncomputable def defBody (s : Stmt) : List Stmt := match s with
 | .FunctionDef _ _ b _ _ _ _ _ _ _ => b
 | _ => []
noncomputable def defScope (s : Stmt) : Scope := match s with
 | .FunctionDef _ _ _ _ _ _ sc _ _ _ => sc
 | _ => { kind := .function, names := [], isGenerator := false, isCoroutine := false }
noncomputable abbrev CX0 : CXT := fun _ _ _ _ _ _ => False
noncomputable abbrev E0 : XK := fun _ _ _ => False
theorem pass0 {X : Cx} : Passes CX0 X E0 := fun _ _ _ _ _ _ _ h => h.elim
structure Fun (K : PySem.W.Frag) (x qual : Str) (st : Stmt) (f : Addr) (fd : FuncData) : Prop where
 ex : ∃ (oc : Value) (od : Option Addr) (kV doc pm : Value) (an : Option Addr) (cdv ct : Value) (osl : Array (Option Value)),
  fd = PySem.W.fnOf x qual (defArgs st) (defBody st) (defScope st) .none kV doc pm an cdv ct /\ K.lookup f = some ⟨oc, od, .func fd, osl⟩ /\ PySem.W.codeIn K cdv qual = true
 kp : PySem.W.keepIn K (.ref f) = true
section
variable {P : Program} {w : World} {K : PySem.W.Frag} {mg : Str -> Option Value} {base : Heap}
theorem Fun.ok {x qual : Str} {st : Stmt} {f : Addr} {fd : FuncData} {N ps : List Str} {k : Nat} {sp : Sp} (F : Fun K x qual st f fd) (S : FnScope N ps (defScope st)) (len : ∀ vs H Q E, sp vs H Q E -> vs.length = ps.length)
  (hbody : ∀ (cdv : Value) (A : Around) (outer : List Env) (s : Shared) (H : Hp) (vs : List V) (Q : VK) (E : XK), Room k (A.deeper (envOfC qual (defScope st) s.heap.objs.size f cdv)) -> sp vs H Q E ->
   ∃ t, PSs (cxOf CX0 P w K mg base N qual (defScope st) f cdv A outer s H E).nox (defBody st) t /\ t { nx := fun _ H' => Q .non H', rt := Q } (start N vs) H) : FnOk P w K mg base CX0 (k + 1) f fd ps sp := by
 obtain ⟨oc, od, kV, doc, pm, an, cdv, ct, osl, rfl, lk, hcd⟩ := F.ex
 refine fn_of lk hcd S len fun A outer s H vs Q E hr hsp => ?_
 obtain ⟨t, h, q⟩ := hbody cdv A outer s H vs Q E hr hsp
 exact ⟨t, h.nox, q⟩
theorem Fun.binds {x qual : Str} {st : Stmt} {f : Addr} {fd : FuncData} {ps : List Str} (F : Fun K x qual st f fd)
  (h : ∀ (kV doc pm : Value) (an : Option Addr) (cdv ct : Value) (us : List Value), us.length = ps.length -> bindArgs (PySem.W.fnOf x qual (defArgs st) (defBody st) (defScope st) .none kV doc pm an cdv ct) ⟨us, []⟩ = pure (ps.zip us)) : Binds K fd ps [] := by
 obtain ⟨oc, od, kV, doc, pm, an, cdv, ct, osl, rfl, lk, hcd⟩ := F.ex
 exact .all (h kV doc pm an cdv ct)
theorem fun_mk {x qual : Str} {st : Stmt} {f : Addr} {oc : Value} {od an : Option Addr} {osl : Array (Option Value)} {kV doc pm cdv ct : Value} (l : K.lookup f = some ⟨oc, od, .func (PySem.W.fnOf x qual (defArgs st) (defBody st) (defScope st) .none kV doc pm an cdv ct), osl⟩)
  (c : PySem.W.codeIn K cdv qual = true) (k : PySem.W.keepIn K (.ref f) = true) : Fun K x qual st f (PySem.W.fnOf x qual (defArgs st) (defBody st) (defScope st) .none kV doc pm an cdv ct) := ⟨⟨oc, od, kV, doc, pm, an, cdv, ct, osl, rfl, l, c⟩, k⟩
end
theorem hu_of {A : Around} {k : Nat} (hr : Room k A) : A.units + 1 < cLine := Nat.lt_of_le_of_lt (Nat.add_le_add_left (by decide : 1 <= 64) _) hr.units
section
variable {X : Cx}
theorem pv (i : Nat) {x : Str} {pos : Pos} (hN : X.N[i]? = some x := by rfl) (hv : Vis X.env.scope x := by first | exact Or.inl rfl | exact Or.inr (Or.inl rfl) | exact Or.inr (Or.inr rfl)) (hd : (x == ("__debug__" : Str)) = false := by decide)
  (hcd : (x == ("__classdict__" : Str)) = false := by decide) : PE X (.Name x pos) (tVar i) := pe_var hN hv hd hcd
end
theorem iteF {A B : Prop} (h : B) : if false = true then A else B := by
 rw [if_neg Bool.false_ne_true]
 exact h
theorem iteT {A B : Prop} (h : A) : if true = true then A else B := by
 rw [if_pos rfl]
 exact h
theorem ite2 {c A B : Prop} [Decidable c] (h1 : c -> A) (h2 : ¬ c -> B) : if c then A else B := by
 by_cases h : c
 ·rw [if_pos h]
  exact h1 h
 ·rw [if_neg h]
  exact h2 h
noncomputable def Same (H H' : Hp) : Prop := ∀ b o, H b = some o -> H' b = some o
theorem Same.refl (H : Hp) : Same H H := fun _ _ h => h
theorem Same.trans {H H1 H2 : Hp} (a : Same H H1) (b : Same H1 H2) : Same H H2 := fun c o h => b c o (a c o h)
theorem Same.free {H H' : Hp} (e : Same H H') {l : Addr} (h : H' l = Option.none) : H l = Option.none := by
 cases q : H l with
 | none => rfl
 | some o =>
  rw [e l o q] at h
  cases h
theorem Same.seq {K : PySem.W.Frag} {H H' : Hp} {a : Addr} {xs : List V} (e : Same H H') (h : SqL K H a xs) : SqL K H' a xs := by
 rcases h with (h | ⟨o, h⟩) | h
 ·exact .inl (.inl (e _ _ h))
 ·exact .inl (.inr ⟨o, e _ _ h⟩)
 ·exact .inr h
end L2
namespace L2
open PySem PySem.Spec PyProof.Rows
theorem closure_ok {env : Env} {scope : Scope} (h : ∀ y ∈ scope.names, y.2 = .free -> ∃ c, env.cells.lookup y.1 = some c) :
  ∃ cl, closureFor scope env = pure cl /\ (∀ x c, cl.lookup x = some c -> env.cells.lookup x = some c) /\ ∀ y ∈ scope.names, y.2 = .free -> cl.lookup y.1 = env.cells.lookup y.1 := by
 have go : ∀ (names : List (Str × NameKind)) (acc : List (Str × Addr)), (∀ y ∈ names, y.2 = .free -> ∃ c, env.cells.lookup y.1 = some c) ->
   (∀ x c, acc.lookup x = some c -> env.cells.lookup x = some c) ->
   ∃ cl, (forIn names acc (fun (y : Str × NameKind) (cs : List (Str × Addr)) => if (y.2 == .free) = true then (do let c <- cellOf env y.1; pure (ForInStep.yield ((y.1, c) :: cs))) else pure (ForInStep.yield cs)) : Sem (List (Str × Addr))) = pure cl /\
    (∀ x c, cl.lookup x = some c -> env.cells.lookup x = some c) /\ (∀ x c, acc.lookup x = some c -> cl.lookup x = some c) /\ ∀ y ∈ names, y.2 = .free -> cl.lookup y.1 = env.cells.lookup y.1 := by
  intro names
  induction names with
  | nil => intro acc _ ha; exact ⟨acc, rfl, ha, fun _ _ h => h, fun y hy => nomatch hy⟩
  | cons y r ih =>
   intro acc hn ha
   obtain ⟨n, k⟩ := y
   by_cases hk : k = .free
   ·subst hk
    obtain ⟨c, hc⟩ := hn (n, .free) List.mem_cons_self rfl
    have ha' : ∀ x d, (((n, c) :: acc : List (Str × Addr))).lookup x = some d -> env.cells.lookup x = some d := fun x d e => by
     rw [List.lookup_cons] at e
     cases hx : x == n with
     | true =>
      rw [hx] at e
      have e1 : x = n := eq_of_beq hx
      subst e1
      cases e
      exact hc
     | false => rw [hx] at e; exact ha x d e
    obtain ⟨cl, e, h1, h2, h3⟩ := ih ((n, c) :: acc) (fun y hy => hn y (List.mem_cons_of_mem _ hy)) ha'
    refine ⟨cl, ?_, h1, fun x d e => ?_, fun y hy hf => ?_⟩
    ·rw [List.forIn_cons]
     have ec : cellOf env n = pure c := by unfold cellOf; rw [hc]
     simp only [beq_self_eq_true, if_true]
     rw [ec]
     exact e
    ·have e' := ha x d e
     by_cases hx : x = n
     ·subst hx
      rw [hc] at e'; cases e'
      exact h2 x c (by rw [List.lookup_cons]; simp)
     ·exact h2 x d (by rw [List.lookup_cons, beq_eq_false_iff_ne.mpr hx]; exact e)
    ·rcases List.mem_cons.mp hy with rfl | hy
     ·show cl.lookup n = env.cells.lookup n
      rw [hc]
      exact h2 n c (by rw [List.lookup_cons]; simp)
     ·exact h3 y hy hf
   ·obtain ⟨cl, e, h1, h2, h3⟩ := ih acc (fun y hy => hn y (List.mem_cons_of_mem _ hy)) ha
    refine ⟨cl, ?_, h1, h2, fun y hy hf => ?_⟩
    ·rw [List.forIn_cons]
     have : (k == NameKind.free) = false := by simpa using hk
     simp only [this, Bool.false_eq_true, if_false]
     exact e
    ·rcases List.mem_cons.mp hy with rfl | hy
     ·exact absurd hf hk
     ·exact h3 y hy hf
 obtain ⟨cl, e, h1, _, h3⟩ := go scope.names [] h (fun x c e => by simp at e)
 refine ⟨cl, ?_, h1, h3⟩
 unfold closureFor
 exact (congrArg (fun m => m >>= fun r => pure r) e).trans rfl
noncomputable def compSt (n : Nat) (ix : List Nat) (σ : St) : St := List.replicate n none ++ ix.map fun i => σ.getD i none
noncomputable def Cx.comp (X : Cx) (s₂ : Shared) (H₂ : Hp) (N' : List Str) (scope : Scope) (cl : List (Str × Addr)) (C : Addr) (fp : List Addr) : Cx :=
 { X with N := N', s₀ := s₂, H₀ := H₂, env := compEnvC scope cl C X.env, outer := X.stack, stack := X.stack, ex := fp, fn := fun _ => false, pn := [], xe := fun _ _ => False }
structure CompScope (X : Cx) (scope : Scope) (N' : List Str) (n : Nat) (ix : List Nat) : Prop where
 kind : scope.kind = .function
 nocell : ∀ y ∈ scope.names, y.2 ≠ .cell
 names : ∀ y ∈ scope.names, y.2 = .local -> scope.names.lookup y.1 = some .local
 free : ∀ y ∈ scope.names, y.2 = .free -> X.env.scope.names.lookup y.1 = some .cell ∨ X.env.scope.names.lookup y.1 = some .free
 nodup : ∀ y : Str, (y, NameKind.free) ∈ scope.names -> scope.names.lookup y = some .local -> False
 len : N'.length = n + ix.length
 at_ : ∀ (j i : Nat), ix[j]? = some i -> ∃ x, N'[n + j]? = some x /\ X.N[i]? = some x /\ (x, NameKind.free) ∈ scope.names
end L2
namespace L2
open PySem PySem.Spec PyProof.Rows
theorem relabel_lookup {env : Env} {scope : Scope} (x : Str) : (relabel scope env).names.lookup x = (scope.names.lookup x).map fun k => if (k == .free && env.scope.kind == .function && env.kindOf x == some .cell) then .cell else k := by
 show (scope.names.map fun (n, k) => if (k == NameKind.free && env.scope.kind == .function && env.kindOf n == some .cell) then (n, NameKind.cell) else (n, k)).lookup x = _
 generalize scope.names = l
 induction l with
 | nil => rfl
 | cons y r ih =>
  obtain ⟨n, k⟩ := y
  rw [List.map_cons, List.lookup_cons]
  cases hx : x == n with
  | true =>
   have e : x = n := eq_of_beq hx
   subst e
   by_cases hc : (k == NameKind.free && env.scope.kind == .function && env.kindOf x == some .cell) = true
   ·rw [if_pos hc, List.lookup_cons]
    simp only [beq_self_eq_true]
    show some NameKind.cell = some (ite _ _ _)
    rw [if_pos hc]
   ·rw [if_neg hc, List.lookup_cons]
    simp only [beq_self_eq_true]
    show some k = some (ite _ _ _)
    rw [if_neg hc]
  | false =>
   by_cases hc : (k == NameKind.free && env.scope.kind == .function && env.kindOf n == some .cell) = true
   ·rw [if_pos hc, List.lookup_cons, hx]; exact ih
   ·rw [if_neg hc, List.lookup_cons, hx]; exact ih
section
variable {X : Cx} {pins : List (Addr × Obj)} {σ : St} {H : Hp} {s : Shared}
theorem relabel_free {env : Env} {scope : Scope} {x : Str} (h : scope.names.lookup x = some .free) : (relabel scope env).names.lookup x = some .cell ∨ (relabel scope env).names.lookup x = some .free := by
 rw [relabel_lookup, h]
 by_cases hc : (NameKind.free == NameKind.free && env.scope.kind == .function && env.kindOf x == some .cell) = true
 ·exact .inl (by show some (ite _ _ _) = _; rw [if_pos hc])
 ·exact .inr (by show some (ite _ _ _) = _; rw [if_neg hc])
theorem of_relabel {env : Env} {scope : Scope} {x : Str} (hn : ∀ y ∈ scope.names, y.2 ≠ .cell) (h : (relabel scope env).names.lookup x = some .cell ∨ (relabel scope env).names.lookup x = some .free) : scope.names.lookup x = some .free := by
 rw [relabel_lookup] at h
 cases e : scope.names.lookup x with
 | none => rw [e] at h; rcases h with h | h <;> cases h
 | some k =>
  rw [e] at h
  have hk := hn _ (PySem.mem_of_lookup e)
  by_cases hf : k = .free
  ·rw [hf]
  ·have hb : (k == NameKind.free) = false := by simpa using hf
   have hr : Option.map (fun k => if (k == NameKind.free && env.scope.kind == .function && env.kindOf x == some .cell) = true then NameKind.cell else k) (some k) = some k := by
    show some (ite _ _ _) = _
    rw [if_neg (by rw [hb]; simp)]
   rw [hr] at h
   rcases h with h | h
   ·cases h; exact absurd rfl hk
   ·exact h
theorem inv_comp {scope : Scope} {N' : List Str} {n : Nat} {ix : List Nat} {cl : List (Str × Addr)} {fp : List Addr} {h₁ : Heap} {acc C : Addr} {na : Nat} {m : Str -> Option Value} {tk : Nat}
  (I : Inv X pins σ H s) (S : CompScope X scope N' n ix) (hcl1 : ∀ x c, cl.lookup x = some c -> X.env.cells.lookup x = some c) (hcl2 : ∀ y ∈ scope.names, y.2 = .free -> cl.lookup y.1 = X.env.cells.lookup y.1)
  (hf : ∀ b ∈ fp, FpOk X pins H b) (hlt : ∀ b ∈ fp, b < s.heap.objs.size) (ha : s.heap.objs.size <= acc) (hC : s.heap.objs.size <= C) (hne : C ≠ acc)
  (k : ∀ b u, s.heap.get? b = some u -> h₁.get? b = some u) (hacc : h₁.get? acc = some { cls := .type "list", data := .seq ([] : List Value).toArray na }) (hns : h₁.Ns C m) :
  Inv (X.comp s H N' scope cl C fp) [] (compSt n ix σ) (upd H acc (.lst [])) { s with heap := h₁, toks := tk } := by
 have fr : ∀ b : Addr, s.heap.objs.size <= b -> H b = none := fun b hb => I.hok.fresh hb
 have cellLt : ∀ x c, cl.lookup x = some c -> c < s.heap.objs.size := fun x c e => by
  obtain ⟨v, q⟩ := I.cell x c (hcl1 x c e)
  exact q.lt
 refine ⟨⟨I.ok.mod, S.kind, I.ok.glob, I.ok.blt, hC, fun x y c e1 e2 => I.ok.inj x y c (hcl1 x c e1) (hcl1 y c e2), fun x hx => ?_, fun x c e _ => absurd e Bool.false_ne_true, I.ok.hd, I.ok.frames, .inl rfl, fun b hb => ⟨Nat.ne_of_lt (Nat.lt_of_lt_of_le (hlt b hb) hC), fun x c e => (hf b hb).2.2.2.2.1 x c (hcl1 x c e)⟩,
   I.bs, Nat.le_trans I.ok.bsz I.sz, fun b o e hb => ?_, fun b hb hs => ?_, I.stack, I.stkFree⟩,
  rfl, I.bare, Un.laid k ha (fr acc ha), ⟨m, hns, fun i x v e1 e2 e3 => ?_⟩, fun x c e => ?_, ?_, fun x c e => ?_, fun p hp => absurd (show p ∈ ([] : List (Addr × Obj)) from hp) (by simp), I.hok.laid k ha ⟨Nat.zero_le _, [], na, .nil, hacc⟩, ?_⟩
 ·have hx' : scope.names.lookup x = some .free := of_relabel (env := X.env) S.nocell hx
  have hm := PySem.mem_of_lookup hx'
  obtain ⟨c, e⟩ := I.ok.has x (S.free _ hm rfl)
  exact ⟨c, (hcl2 _ hm rfl).trans e⟩
 ·rcases (hf b hb).2.2.2.1 with z | z
  ·exact I.ok.noex b o e z
  ·exact absurd (Nat.lt_of_lt_of_le (Heap.lt_size e) (Nat.le_trans I.ok.bsz z)) (Nat.lt_irrefl _)
 ·rcases List.mem_cons.mp (I.stkSub b hs) with z | z
  ·exact (hf b hb).2.1 z
  ·exact (hf b hb).2.2.1 z
 ·-- a name of the frame, seen through its cell
  have hi : n <= i := by
   by_cases hi : n <= i
   ·exact hi
   ·unfold compSt at e2
    rw [List.getElem?_append_left (by simp; (first | lia | omega)), List.getElem?_replicate] at e2
    split at e2 <;> cases e2
  obtain ⟨j, rfl⟩ : ∃ j, i = n + j := ⟨i - n, by (first | lia | omega)⟩
  unfold compSt at e2
  rw [List.getElem?_append_right (by simp), List.length_replicate, Nat.add_sub_cancel_left, List.getElem?_map] at e2
  cases ej : ix[j]? with
  | none => rw [ej] at e2; cases e2
  | some q =>
   rw [ej] at e2
   have e2' : σ.getD q none = some v := Option.some.inj e2
   have e2'' : σ[q]? = some (some v) := by
    rw [List.getD_eq_getElem?_getD] at e2'
    cases eq : σ[q]? with
    | none => rw [eq] at e2'; cases e2'
    | some z => rw [eq] at e2'; exact congrArg some e2'
   obtain ⟨y, h1, h2, h3⟩ := S.at_ j q ej
   have ey : y = x := Option.some.inj (h1.symm.trans e1)
   subst ey
   have hk := S.free _ h3 rfl
   obtain ⟨mX, _, hl⟩ := I.loc
   obtain ⟨u, r, l⟩ := hl q y v h2 e2'' (.inr hk)
   refine ⟨u, r, .inr ?_⟩
   have hkc : X.env.kindOf y = some .cell ∨ X.env.kindOf y = some .free := hk
   have l' : ∃ c, X.env.cells.lookup y = some c /\ s.heap.IsCell c (some u) := by
    rcases l with ⟨z, _⟩ | ⟨_, c, ec, hc⟩
    ·rcases hkc with q | q <;> (rw [q] at z; cases z)
    ·exact ⟨c, ec, hc⟩
   obtain ⟨c, ec, o, ho, hd⟩ := l'
   have e3' : Vis (relabel scope X.env) y := e3
   refine ⟨?_, c, (hcl2 _ h3 rfl).trans ec, o, k _ _ ho, hd⟩
   have nl : scope.names.lookup y ≠ some .local := fun z => ?_
   ·cases el : scope.names.lookup y with
    | none =>
     have : (relabel scope X.env).names.lookup y = none := by rw [relabel_lookup, el]; rfl
     rcases e3' with z | z | z <;> (rw [this] at z; cases z)
    | some kk =>
     have hmem := PySem.mem_of_lookup el
     have ncell := S.nocell _ hmem
     have hr : (relabel scope X.env).names.lookup y = some (if (kk == NameKind.free && X.env.scope.kind == .function && X.env.kindOf y == some .cell) = true then .cell else kk) := by rw [relabel_lookup, el]; rfl
     by_cases hkf : kk = .free
     ·subst hkf
      exact relabel_free (env := X.env) el
     ·have hb : (kk == NameKind.free) = false := by simpa using hkf
      have hr' : (relabel scope X.env).names.lookup y = some kk := by rw [hr, hb]; rfl
      rcases e3' with z | z | z
      ·rw [hr'] at z; cases z; exact absurd el nl
      ·rw [hr'] at z; cases z; exact absurd rfl ncell
      ·rw [hr'] at z; cases z; exact absurd rfl hkf
   ·exact S.nodup _ h3 z
 ·obtain ⟨v, o, ho, hd⟩ := I.cell x c (hcl1 x c e)
  exact ⟨v, o, k _ _ ho, hd⟩
 ·show upd H acc (.lst []) C = none
  rw [upd_ne hne]; exact fr C hC
 ·show upd H acc (.lst []) c = none
  have := cellLt x c e
  rw [upd_ne (Nat.ne_of_lt (Nat.lt_of_lt_of_le this ha))]
  exact I.freeC x c (hcl1 x c e)
 ·show (compSt n ix σ).length = N'.length
  unfold compSt
  rw [List.length_append, List.length_replicate, List.length_map, S.len]
end
end L2
namespace L2
open PySem PySem.Spec PyProof.Rows
noncomputable def Wk (σ σ' : St) : Prop := σ.length = σ'.length /\ ∀ (i : Nat) v, σ[i]? = some (some v) -> σ'[i]? = some (some v)
noncomputable def PTs (Y : Cx) (ifs : List Expr) (t : TT) : Prop :=
 ∀ (pins : List (Addr × Obj)) (s : Shared) (σ : St) (H : Hp) (Q : Bool -> Hp -> Prop), Inv Y pins σ H s -> t σ H Q ->
  wpAny (model Y.prog Y.w) Y.A (forIn ifs true fun c r => if r = true then do let ok <- isTrue c Y.env (eval c Y.env); pure (ForInStep.yield ok) else pure (ForInStep.yield r)) (TP Y pins σ Q) Y.xe s
noncomputable def tNoTest : TT := fun _ H Q => Q true H
theorem pts_nil {Y : Cx} : PTs Y [] tNoTest := fun _ _ _ H _ I h => wpAny_tests_nil ⟨H, I, h⟩
theorem pts_one {Y : Cx} {c : Expr} {t : TT} (h : PT Y c t) : PTs Y [c] t := fun pins s σ H Q I q => wpAny_tests_one (h pins s σ H Q I q)
theorem compLoop_gen {prog : Program} {w : World} {A : Around} {R : Result -> Shared -> Prop} {s : Shared} {elt target iter : Expr} {ifs : List Expr} {scope : Scope} {pos : Pos} {it acc : Value} {env : Env} (I : Nat -> Shared -> Prop)
  (turn : ∀ n s, I n s -> wpAny (model prog w) A (pyNext it) (fun r s₁ => match r with
   | none => R (.ok .next) s₁
   | some v => wpAny (model prog w) A (letOwnedTupleGo target it v) (fun _ s₂ => wpAny (model prog w) A (assign target env v) (fun _ s₃ =>
     wpAny (model prog w) A (forIn ifs true fun c r => if r = true then do let ok <- isTrue c env (eval c env); pure (ForInStep.yield ok) else pure (ForInStep.yield r)) (fun ok s₄ =>
      if ok = true then wpAny (model prog w) A (eval elt env) (fun x s₅ =>
       wpAny (model prog w) A (call (.builtin "list.append") [acc, x]) (fun _ s₆ => ∃ m, m < n /\ I m s₆) (fun _ _ => False) s₅) (fun _ _ => False) s₄
      else ∃ m, m < n /\ I m s₄) (fun _ _ => False) s₃) (fun _ _ => False) s₂) (fun _ _ => False) s₁) (fun _ _ => False) s)
  (n : Nat) (h : I n s) :
  codeAny (model prog w) A (.compLoop (.ListComp elt [⟨target, iter, ifs, 0⟩] scope pos) 0 it acc env) R s := by
 refine codeAny_loop rfl I (fun n s hI => ?_) n h
 show wpAny _ A ((compTurn (.ListComp elt [⟨target, iter, ifs, 0⟩] scope pos) 0 it acc env).onRaise (fun x => do noteFrame x env; theTreesLotGoes x)) _ _ s
 refine wpAny_noted (wpAny_noRaise ?_)
 rw [compTurn_list]
 refine wpAny_bind (wpAny_standAt (wpAny_bind (thn (turn n s hI) fun r s₁ h₁ => ?_)))
 cases r with
 | none => exact wpAny_pure h₁
 | some v =>
  refine wpAny_bind (thn h₁ fun _ s₂ h₂ => wpAny_bind (thn h₂ fun _ s₃ h₃ => wpAny_bind (thn h₃ fun ok s₄ h₄ => ?_)))
  cases ok with
  | false => exact wpAny_pure ⟨rfl, h₄⟩
  | true => exact wpAny_bind (wpAny_bind (thn h₄ fun x s₅ h₅ => wpAny_bind (thn h₅ fun _ s₆ h₆ => wpAny_pure (wpAny_pure ⟨rfl, h₆⟩))))
noncomputable def LcW (J : It) (H1 : Hp) (g : TG) (tt : TT) (te : TE) (n : Nat) (ix : List Nat) (σ : St) (Q : VK) : Prop := ∀ acc, H1 acc = none ->
 ∃ W : Nat -> Nat -> Hp -> Prop, (∃ m, W 0 m (upd H1 acc (.lst []))) /\ ∀ i m H, W i m H ->
  (J.stop i H /\ Q (.ref acc) H) ∨ (J.go i H /\ ∀ x H', J.yld i H x H' -> g x (compSt n ix σ) H' fun σ2 H2 => Wk (compSt n ix σ) σ2 /\ tt σ2 H2 fun b H3 =>
   if b = true then te σ2 H3 fun v H4 => ∃ ys, H4 acc = some (.lst ys) /\ ys.length < sizeLine /\ ∃ m', m' < m /\ W (i + 1) m' (upd H4 acc (.lst (ys ++ [v])))
   else ∃ m', m' < m /\ W (i + 1) m' H3)
noncomputable def tLc (wi : TI) (g : TG) (tt : TT) (te : TE) (n : Nat) (ix : List Nat) : TE := fun σ H Q => wi σ H fun J H1 => LcW J H1 g tt te n ix σ Q
section
variable {X : Cx} {elt tg iter : Expr} {ifs : List Expr} {scope : Scope} {pos : Pos} {wi : TI} {g : TG} {tt : TT} {te : TE} {N' : List Str} {n : Nat} {ix : List Nat}
theorem lc_core {pins : List (Addr × Obj)} {σ : St} {H2 : Hp} {s2 : Shared} {cl : List (Str × Addr)} {it : Addr} {fp : List Addr} {tn : Nat -> Heap -> Prop} {J : It} {Q : VK} {R : Value -> Addr -> Result -> Shared -> Prop}
  (hc : X.calm = true) (S : CompScope X scope N' n ix)
  (hY : ∀ s₂ H₂ cl C fp, PG (X.comp s₂ H₂ N' scope cl C fp) tg g /\ PTs (X.comp s₂ H₂ N' scope cl C fp) ifs tt /\ PE (X.comp s₂ H₂ N' scope cl C fp) elt te)
  (I2 : Inv X pins σ H2 s2) (hcl1 : ∀ x c, cl.lookup x = some c -> X.env.cells.lookup x = some c) (hcl2 : ∀ y ∈ scope.names, y.2 = .free -> cl.lookup y.1 = X.env.cells.lookup y.1)
  (T : Turn X.prog X.w X.K tg J fp it tn) (st2 : tn 0 s2.heap) (f2 : ∀ b ∈ fp, FpOk X pins H2 b)
  (hW : LcW J H2 g tt te n ix σ Q)
  (hR : ∀ acc C s' H' m, s'.heap.Ns C m -> Inv X pins σ H' s' -> H' C = none -> C ≠ X.env.locals -> (C ∈ X.ex ∨ X.s₀.heap.objs.size <= C) -> (∀ x c, X.env.cells.lookup x = some c -> c ≠ C) -> (∀ p ∈ X.pn ++ pins, p.1 ≠ C) -> C ∉ X.fs -> Q (.ref acc) H' -> R (.ref acc) C (.ok .next) s') :
  wpAny (model X.prog X.w) X.A (newList []) (fun acc s₃ => wpAny (model X.prog X.w) X.A (newFunctionEnv scope X.env.globals cl [] X.env.qual none .none (some X.env)) (fun cenv s₄ =>
   codeAny (model X.prog X.w) X.A (.compStart (.ListComp elt [⟨tg, iter, ifs, 0⟩] scope pos) 0 (.ref it) acc { cenv with scope := relabel scope X.env }) (R acc cenv.locals) s₄) X.xe s₃) X.xe s2 := by
 refine wpAny_newObj_type (wpAny_newFunctionEnv S.nocell (by intro y hy; simp at hy) (fun h₁ hns₁ hsb₁ => ?_) S.kind)
 dsimp only at hns₁ hsb₁ ⊢
 generalize hH2 : s2.heap.push { cls := .type "list", dict := none, data := .seq ([] : List Value).toArray } = G at hns₁ hsb₁ ⊢
 have hC : G.objs.size = s2.heap.objs.size + 1 := by rw [<- hH2, Heap.size_push]
 have hlt : ∀ b ∈ fp, b < s2.heap.objs.size := fun b hb => by
  obtain ⟨o, e, _⟩ := T.obj _ _ st2 b hb
  exact Heap.lt_size e
 have old : ∀ b o, s2.heap.get? b = some o -> h₁.get? b = some o := fun b o e => hsb₁.extBut b o (by rw [hC]; exact Nat.ne_of_lt (Nat.lt_succ_of_lt (Heap.lt_size e))) (Heap.get?_push_of_some _ (hH2 ▸ Heap.get?_push_of_some _ e))
 have hacc : h₁.get? s2.heap.objs.size = some { cls := .type "list", dict := none, data := .seq ([] : List Value).toArray } := hsb₁.extBut _ _ (by rw [hC]; exact Nat.ne_of_lt (Nat.lt_succ_self _)) (Heap.get?_push_of_some _ (hH2 ▸ Heap.get?_push_size _ rfl))
 obtain ⟨W, ⟨m0, w0⟩, turn⟩ := hW s2.heap.objs.size (I2.hok.fresh (Nat.le_refl _))
 obtain ⟨hYg, hYt, hYe⟩ := hY s2 H2 cl G.objs.size fp
 have fpY : ∀ {H' : Hp}, (∀ b ∈ fp, H' b = none) -> ∀ b ∈ fp, FpOk (X.comp s2 H2 N' scope cl G.objs.size fp) [] H' b := fun {H'} hn b hb => by
  obtain ⟨_, q1, q2, q3, q4, q5⟩ := f2 b hb
  refine ⟨hn b hb, ?_, fun z => ?_, .inl hb, fun x c e => q4 x c (hcl1 x c e), fun p hp => absurd (show p ∈ ([] : List (Addr × Obj)) from hp) (by simp)⟩
  ·show b ≠ G.objs.size
   rw [hC]
   exact Nat.ne_of_lt (Nat.lt_succ_of_lt (hlt b hb))
  ·rcases List.mem_cons.mp (I2.stkSub b z) with y | y
   ·exact q1 y
   ·exact q2 y
 have loop : ∀ s₃ : Shared, s₃ = { s2 with heap := h₁, toks := s2.toks + ([] : List (Str × Value)).length } ->
   codeAny (model X.prog X.w) X.A (.compLoop (.ListComp elt [⟨tg, iter, ifs, 0⟩] scope pos) 0 (.ref it) (.ref s2.heap.objs.size) (compEnvC scope cl G.objs.size X.env)) (R (.ref s2.heap.objs.size) G.objs.size) s₃ := by
  rintro s₃ rfl
  have I4 := inv_comp (tk := s2.toks + ([] : List (Str × Value)).length) I2 S hcl1 hcl2 f2 hlt (Nat.le_refl _) (by rw [hC]; exact Nat.le_succ _) (by rw [hC]; exact Nat.ne_of_gt (Nat.lt_succ_self _)) old hacc hns₁
  refine compLoop_gen (fun n' s' => ∃ i H', Inv (X.comp s2 H2 N' scope cl G.objs.size fp) [] (compSt n ix σ) H' s' /\ tn i s'.heap /\ (∀ b ∈ fp, H' b = none) /\ W i n' H') ?_ m0
   ⟨0, _, I4, T.keep _ _ _ st2 fun b hb o e => old b o e, fun b hb => ?_, w0⟩
  ·rintro n' s3 ⟨i, H3, I3, st3, fr3, w3⟩
   rcases turn i n' H3 w3 with ⟨stop, q⟩ | ⟨go, step⟩
   ·refine thn (T.done (X.comp s2 H2 N' scope cl G.objs.size fp) rfl rfl rfl hc i [] s3 _ H3 _ I3 (fpY fr3) st3 stop) fun r s4 ⟨hr, I5⟩ => ?_
    subst hr
    obtain ⟨mC, hnC, _⟩ := I5.loc
    have IX : Inv X pins σ H3 s4 := I2.call' I5.os I5.base I5.hok I5.bare fun b hb => by
     obtain ⟨_, q1, q2, q3, q4, q5⟩ := f2 b hb
     exact ⟨q3, q1, q4, q5⟩
    refine hR _ _ s4 H3 mC hnC IX I5.free ?_ (.inr ?_) (fun x c e z => ?_) (fun p hp z => ?_) (I2.nofs (by rw [hC]; exact Nat.le_succ _)) q
    ·rw [hC]
     exact Nat.ne_of_gt (Nat.lt_succ_of_lt I2.lt)
    ·rw [hC]
     exact Nat.le_succ_of_le I2.sz
    ·obtain ⟨v, q⟩ := I2.cell x c e
     rw [hC] at z
     exact absurd z (Nat.ne_of_lt (Nat.lt_succ_of_lt q.lt))
    ·rw [hC] at z
     exact absurd z (Nat.ne_of_lt (Nat.lt_succ_of_lt (Heap.lt_size (I2.pin p hp).1)))
   ·refine thn (T.item (X.comp s2 H2 N' scope cl G.objs.size fp) rfl rfl rfl hc i [] s3 _ H3 _ I3 (fpY fr3) st3 go) fun r s4 ⟨u, hr, h4⟩ => ?_
    subst hr
    refine thn h4 fun _ s5 ⟨x, H5, I5, r5, y5, st5, fr5⟩ => ?_
    have I5' := I5.pinned (fpY fr5) (T.obj _ _ st5)
    refine thn (hYg _ s5 _ H5 x u _ I5' r5 (step x H5 y5)) fun _ s6 ⟨σ6, H6, I6, wk, q6⟩ => ?_
    have back : ∀ {H' : Hp} {s' : Shared}, Inv (X.comp s2 H2 N' scope cl G.objs.size fp) ([] ++ pinsAt fp s5.heap) σ6 H' s' ->
      Inv (X.comp s2 H2 N' scope cl G.objs.size fp) [] (compSt n ix σ) H' s' /\ tn (i + 1) s'.heap /\ ∀ b ∈ fp, H' b = none := fun {H' s'} I7 => by
     refine ⟨I7.unpinned.weak wk.1 wk.2, T.keep _ _ _ st5 fun b hb o e => (I7.pin (b, o) (List.mem_append_right _ (List.mem_append_right _ (mem_pinsAt hb e)))).1, fun b hb => ?_⟩
     obtain ⟨o, e, d⟩ := T.obj _ _ st5 b hb
     exact (I7.pin (b, o) (List.mem_append_right _ (List.mem_append_right _ (mem_pinsAt hb e)))).2.1
    refine thn (hYt _ s6 σ6 H6 _ I6 q6) fun ok s7 ⟨H7, I7, q7⟩ => ?_
    cases ok with
    | false =>
     rw [if_neg Bool.false_ne_true] at q7 ⊢
     obtain ⟨m', hm, w7⟩ := q7
     obtain ⟨b1, b2, b3⟩ := back I7
     exact ⟨m', hm, i + 1, H7, b1, b2, b3, w7⟩
    | true =>
     rw [if_pos rfl] at q7 ⊢
     refine thn (hYe _ s7 σ6 H7 _ I7 q7) fun xv s8 ⟨v8, H8, I8, r8, ys, ha, hz, m', hm, w8⟩ => ?_
     refine thn (mt_append _ s8 σ6 H8 (.ref s2.heap.objs.size) [v8] (.ref s2.heap.objs.size) [xv] (fun _ H' => H' = upd H8 s2.heap.objs.size (.lst (ys ++ [v8]))) I8 rfl (.cons r8 .nil) ⟨_, ys, v8, rfl, rfl, ha, hz, rfl⟩) fun _ s9 ⟨_, H9, I9, _, e9⟩ => ?_
     subst e9
     obtain ⟨b1, b2, b3⟩ := back I9
     exact ⟨m', hm, i + 1, _, b1, b2, b3, w8⟩
  ·rw [upd_ne (Nat.ne_of_lt (hlt b hb))]
   exact (f2 b hb).1
 exact codeAny_compStart_list (loop _ rfl) (T.self _ 0 _ _ _ (T.keep _ _ _ st2 fun b hb o e => old b o e) (loop _ rfl))
theorem pe_lc (hc : X.calm = true) (S : CompScope X scope N' n ix) (hi : PI X tg iter wi)
  (hY : ∀ s₂ H₂ cl C fp, PG (X.comp s₂ H₂ N' scope cl C fp) tg g /\ PTs (X.comp s₂ H₂ N' scope cl C fp) ifs tt /\ PE (X.comp s₂ H₂ N' scope cl C fp) elt te)
  (hs : ∀ x, foldedSetIterable iter X.env x = pure x := by intro _; rfl) : PE X (.ListComp elt [⟨tg, iter, ifs, 0⟩] scope pos) (tLc wi g tt te n ix) := by
 intro pins s σ H Q I h
 obtain ⟨cl, hcl, hcl1, hcl2⟩ := closure_ok (env := X.env) (scope := scope) fun y hy hf => I.ok.has _ (S.free y hy hf)
 rw [eval_ListComp]
 refine wpAny_comprehension_free (use := none) rfl hs hcl S.kind S.names (thn (hi pins s σ H _ I h) fun v s1 h1 => thn h1 fun itv s2 h2 => ?_)
 obtain ⟨it, fp, tn, J, H2, rfl, I2, T, st2, f2, hW⟩ := h2
 refine lc_core (R := fun acc C => compPost (model X.prog X.w) X.A X.xe none (EP X pins σ Q) acc C) hc S hY I2 hcl1 hcl2 T st2 f2 hW ?_
 intro acc C s' H' m hn IX hf hL h1 h2 h3 h4 q
 exact ⟨m, hn, fun h' sb => ⟨.ref acc, H', IX.turned (t' := s'.toks) (fun b o hb e => sb.extBut b o hb e) hf hL h1 h2 h3, rfl, q⟩⟩
end
end L2
namespace L2
open PySem PySem.Spec PyProof.Rows
theorem PE.mono {X : Cx} {e : Expr} {t t' : TE} (h : PE X e t) (m : ∀ σ H Q, t' σ H Q -> t σ H Q) : PE X e t' := fun pins s σ H Q I q => h pins s σ H Q I (m σ H Q q)
theorem same_upd {H : Hp} {a : Addr} {o : HO} (h : H a = none) : Same H (upd H a o) := fun b u e => by
 rw [upd_ne (ne_of_none e h)]; exact e
theorem same_updR {H H' : Hp} {a : Addr} {o : HO} (s : Same H H') (h : H a = none) : Same H (upd H' a o) := fun b u e => by
 rw [upd_ne (ne_of_none e h)]; exact s b u e
noncomputable def SameT (H H' : Hp) : Prop := ∀ b xs, H b = some (.tup xs) -> H' b = some (.tup xs)
theorem Same.t {H H' : Hp} (h : Same H H') : SameT H H' := fun b xs e => h b _ e
theorem SameT.trans {H H1 H2 : Hp} (a : SameT H H1) (b : SameT H1 H2) : SameT H H2 := fun c o h => b c o (a c o h)
theorem sameT_lst {H : Hp} {a : Addr} {xs ys : List V} (h : H a = some (.lst xs)) : SameT H (upd H a (.lst ys)) := fun b zs e => by
 rw [upd_ne (ne_of e h (by intro z; cases z))]; exact e
structure Yields (J : It) (Ok : Hp -> Prop) (xs : List V) : Prop where
 go : ∀ i H, Ok H -> i < xs.length -> J.go i H
 yld : ∀ i H x H', Ok H -> i < xs.length -> J.yld i H x H' -> H' = H /\ xs[i]? = some x
 stop : ∀ H, Ok H -> J.stop xs.length H
theorem yields_list {K : PySem.W.Frag} {a : Addr} {xs : List V} : Yields (Itl K a) (fun H => SqL K H a xs) xs :=
 ⟨fun i H q h => ⟨xs, xs[i], q, by simp [h]⟩, fun i H x H' q _ y => ⟨y.1, y.2 xs q⟩, fun H q => ⟨xs, q, Nat.le_refl _⟩⟩
theorem yields_tup {K : PySem.W.Frag} {a : Addr} {xs : List V} : Yields (Itt K a) (fun H => SqT K H a xs) xs :=
 ⟨fun i H q h => ⟨xs, xs[i], q, by simp [h]⟩, fun i H x H' q _ y => ⟨y.1, y.2 xs q⟩, fun H q => ⟨xs, q, Nat.le_refl _⟩⟩
noncomputable def rangeV (lo : Int) (n : Nat) : List V := (List.range n).map fun (i : Nat) => V.int (lo + (i : Int))
theorem rangeV_len (lo : Int) (n : Nat) : (rangeV lo n).length = n := by simp [rangeV]
theorem rangeV_get {lo : Int} {n i : Nat} (h : i < n) : (rangeV lo n)[i]? = some (V.int (lo + (i : Int))) := by
 simp [rangeV, h]
theorem yields_range {lo : Int} {n : Nat} : Yields (Itr lo n) (fun _ => True) (rangeV lo n) := by
 refine ⟨fun i H _ h => ?_, fun i H x H' _ h y => ?_, fun H _ => ?_⟩
 ·rw [rangeV_len] at h; exact h
 ·obtain ⟨y1, y2⟩ := y
  rw [rangeV_len] at h
  exact ⟨y1, by rw [rangeV_get h, y2]⟩
 ·rw [rangeV_len]; exact Nat.le_refl _
section
variable {J : It} {Ok : Hp -> Prop} {xs : List V} {tt : TT} {te : TE} {ix : List Nat} {σ : St} {H1 : Hp} {Q : VK}
theorem lc_pure (Y : Yields J Ok xs) (small : xs.length < sizeLine) (p : V -> Bool) (f : V -> V) (hok : ∀ H, Same H1 H -> Ok H)
  (ht : ∀ x ∈ xs, ∀ H, Same H1 H -> ∀ Q' : Bool -> Hp -> Prop, Q' (p x) H -> tt (some x :: ix.map fun i => σ.getD i none) H Q')
  (he : ∀ x ∈ xs, p x = true -> ∀ H, Same H1 H -> ∀ Q' : VK, Q' (f x) H -> te (some x :: ix.map fun i => σ.getD i none) H Q')
  (fin : ∀ acc, H1 acc = none -> Q (.ref acc) (upd H1 acc (.lst ((xs.filter p).map f)))) :
  LcW J H1 (gName 0) tt te 1 ix σ Q := by
 intro acc ha
 refine ⟨fun i m H => m = xs.length - i /\ i <= xs.length /\ H = upd H1 acc (.lst (((xs.take i).filter p).map f)), ⟨xs.length, by simp, Nat.zero_le _, rfl⟩, ?_⟩
 rintro i m H ⟨rfl, hi, rfl⟩
 have sm : Same H1 (upd H1 acc (.lst (((xs.take i).filter p).map f))) := same_upd ha
 have o := hok _ sm
 by_cases hlt : i < xs.length
 ·refine .inr ⟨Y.go i _ o hlt, fun x H' y => ?_⟩
  obtain ⟨rfl, hx⟩ := Y.yld i _ x H' o hlt y
  have hmem : x ∈ xs := List.mem_of_getElem? hx
  have htk : xs.take (i + 1) = xs.take i ++ [x] := by
   rw [List.take_succ, hx]; rfl
  refine ⟨⟨rfl, fun j v e => ?_⟩, ?_⟩
  ·cases j with
   | zero => cases e
   | succ j => exact e
  ·refine ht x hmem _ sm _ ?_
   cases hp : p x with
   | false =>
    rw [if_neg Bool.false_ne_true]
    refine ⟨xs.length - (i + 1), by (first | lia | omega), rfl, hlt, ?_⟩
    rw [htk, List.filter_append]
    simp [hp]
   | true =>
    rw [if_pos rfl]
    refine he x hmem hp _ sm _ ?_
    refine ⟨_, upd_same, ?_, xs.length - (i + 1), by (first | lia | omega), rfl, hlt, ?_⟩
    ·rw [List.length_map]
     refine Nat.lt_of_le_of_lt (List.length_filter_le _ _) ?_
     rw [List.length_take]; (first | lia | omega)
    ·rw [upd_upd, htk, List.filter_append, List.map_append]
     simp [hp]
 ·have e : i = xs.length := by (first | lia | omega)
  subst e
  refine .inl ⟨Y.stop _ o, ?_⟩
  rw [List.take_length]
  exact fin acc ha
theorem lc_grow (Y : Yields J Ok xs) (small : xs.length < sizeLine) (R : V -> V -> Hp -> Prop) (hR : ∀ x v H H', SameT H H' -> R x v H -> R x v H') (hok : ∀ H, Same H1 H -> Ok H)
  (he : ∀ x ∈ xs, ∀ H, Same H1 H -> ∀ Q' : VK, (∀ v H', Same H H' -> R x v H' -> Q' v H') -> te (some x :: ix.map fun i => σ.getD i none) H Q')
  (fin : ∀ acc ys H', H1 acc = none -> Same H1 H' -> H' acc = some (.lst ys) -> Paired (fun x v => R x v H') xs ys -> Q (.ref acc) H') :
  LcW J H1 (gName 0) tNoTest te 1 ix σ Q := by
 intro acc ha
 refine ⟨fun i m H => m = xs.length - i /\ i <= xs.length /\ Same H1 H /\ ∃ ys, H acc = some (.lst ys) /\ Paired (fun x v => R x v H) (xs.take i) ys, ⟨xs.length, by simp, Nat.zero_le _, same_upd ha, [], upd_same, .nil⟩, ?_⟩
 rintro i m H ⟨rfl, hi, sm, ys, hacc, pr⟩
 have o := hok _ sm
 have hlen : ys.length = i := by rw [<- Paired.length pr, List.length_take]; (first | lia | omega)
 by_cases hlt : i < xs.length
 ·refine .inr ⟨Y.go i _ o hlt, fun x H' y => ?_⟩
  obtain ⟨rfl, hx⟩ := Y.yld i _ x H' o hlt y
  have hmem : x ∈ xs := List.mem_of_getElem? hx
  have htk : xs.take (i + 1) = xs.take i ++ [x] := by
   rw [List.take_succ, hx]; rfl
  refine ⟨⟨rfl, fun j v e => ?_⟩, ?_⟩
  ·cases j with
   | zero => cases e
   | succ j => exact e
  ·unfold tNoTest
   dsimp only
   rw [if_pos rfl]
   refine he x hmem _ sm _ fun v H4 s4 r4 => ?_
   have h4 : H4 acc = some (.lst ys) := s4 _ _ hacc
   refine ⟨ys, h4, by (first | lia | omega), xs.length - (i + 1), by (first | lia | omega), rfl, hlt, same_updR (sm.trans s4) ha, ys ++ [v], upd_same, ?_⟩
   rw [htk]
   have st : SameT H4 (upd H4 acc (.lst (ys ++ [v]))) := sameT_lst h4
   exact Paired.snoc (Paired.mapP pr fun x' v' r' => hR _ _ _ _ (s4.t.trans st) r') (hR _ _ _ _ st r4)
 ·have e : i = xs.length := by (first | lia | omega)
  subst e
  refine .inl ⟨Y.stop _ o, ?_⟩
  rw [List.take_length] at pr
  exact fin acc ys H ha sm hacc pr
end
end L2
namespace L2
open PySem PySem.Spec PyProof.Rows
section
variable {prog : Program} {w : World} {A : Around} {E : Value -> Shared -> Prop} {s : Shared}
theorem nextT_item {it t : Addr} {i : Nat} {its : Array Value} {x : Value} {Q : Value -> Shared -> Prop} (hi : s.heap.IsTupleIter it t i) (ht : s.heap.IsTuple t its) (hx : its[i]? = some x)
  (q : ∀ h', h'.IsTupleIter it t (i + 1) -> Heap.SameBut it s.heap h' -> Q x { s with heap := h' }) : wpAny (model prog w) A (Builtin.SmallTypes.nextOf (.ref it)) Q E s := by
 obtain ⟨o, e1, e2, e3⟩ := id hi
 obtain ⟨u, f1, f2, nu, f3⟩ := ht
 unfold Builtin.SmallTypes.nextOf
 refine wpAny_bind (wpAny_callSpecial?_slot (name := Str.ofString "__next__") hi.typeIs F.slot_tuple_iterator_next (wpAny_call_entry F.slot_tuple_iterator_next hi.typeIs F.entry_tuple_iterator_next ?_ (F.args_tuple_iterator_next_1 _)))
 show wpAny _ _ (field (.ref it) 0 >>= _) _ _ s
 refine wpAny_bind (wpAny_field e1 e3 (x := .ref t) rfl ?_)
 show wpAny _ _ (if (Value.ref t == Value.none) = true then _ else _) _ _ s
 rw [if_neg (show ¬ ((Value.ref t == Value.none) = true) from Bool.false_ne_true)]
 show wpAny _ _ (field (.ref it) 1 >>= _) _ _ s
 refine wpAny_bind (wpAny_field e1 e3 (x := .int i 0) rfl ?_)
 show wpAny _ _ (seqItems? (.ref t) >>= _) _ _ s
 refine wpAny_bind (wpAny_seqItems f1 f3 ?_)
 simp only [Int.toNat_natCast, hx]
 refine wpAny_bind (wpAny_setField e1 e3 (by simp) (wpAny_pure ⟨x, rfl, wpAny_pure (q _ ⟨_, Heap.get?_update_self _ e1 (Obj.isFreed_of_fields (Obj.data_mapFields e3 _)), (Obj.cls_mapFields ..).trans e2, ?_⟩ (Heap.SameBut.update ..))⟩))
 rw [Obj.data_mapFields e3]
 simp [rawInt]
theorem nextT_end {it t : Addr} {i : Nat} {its : Array Value} {Q : Value -> Shared -> Prop} (hh : A.handled = none) (hi : s.heap.IsTupleIter it t i) (ht : s.heap.IsTuple t its) (hx : its[i]? = none)
  (q : ∀ h' e, Heap.ExtBut it s.heap h' -> (∃ o, h'.get? e = some o /\ o.cls = .type "StopIteration") -> E (.ref e) { s with heap := h' }) : wpAny (model prog w) A (Builtin.SmallTypes.nextOf (.ref it)) Q E s := by
 obtain ⟨o, e1, e2, e3⟩ := id hi
 obtain ⟨u, f1, f2, nu, f3⟩ := ht
 unfold Builtin.SmallTypes.nextOf
 refine wpAny_bind (wpAny_callSpecial?_slot (name := Str.ofString "__next__") hi.typeIs F.slot_tuple_iterator_next (wpAny_call_entry F.slot_tuple_iterator_next hi.typeIs F.entry_tuple_iterator_next ?_ (F.args_tuple_iterator_next_1 _)))
 show wpAny _ _ (field (.ref it) 0 >>= _) _ _ s
 refine wpAny_bind (wpAny_field e1 e3 (x := .ref t) rfl ?_)
 show wpAny _ _ (if (Value.ref t == Value.none) = true then _ else _) _ _ s
 rw [if_neg (show ¬ ((Value.ref t == Value.none) = true) from Bool.false_ne_true)]
 show wpAny _ _ (field (.ref it) 1 >>= _) _ _ s
 refine wpAny_bind (wpAny_field e1 e3 (x := .int i 0) rfl ?_)
 show wpAny _ _ (seqItems? (.ref t) >>= _) _ _ s
 refine wpAny_bind (wpAny_seqItems f1 f3 ?_)
 simp only [Int.toNat_natCast, hx]
 refine wpAny_bind (wpAny_rule (wpAny_bind (wpAny_setField e1 e3 (by simp) ?_)))
 show wpAny _ _ (newExc (.type "StopIteration") [] >>= _) _ _ _
 refine wpAny_bind ?_
 simp only [newExc, newTuple]
 refine wpAny_bind (wpAny_newObj_type ?_ (by size_fits))
 refine wpAny_bind (m := firstArgMember _ _) (wpAny_of_eq (a := Value.none) (by first | rfl | (simp only [firstArgMember]; rfl)) ?_)
 refine wpAny_newObj_type ?_ (by size_fits)
 simp only [raiseNew]
 refine wpAny_bind (wpAny_handled ?_)
 first | rw [show A.in1.handled = none from hh] | rw [hh]
 refine wpAny_bind (wpAny_pure (wpAny_throw ?_))
 exact q _ _ (((Heap.SameBut.update ..).extBut.push _).push _) ⟨_, Heap.get?_push_size _ rfl, rfl⟩
end
theorem drawsT {prog : Program} {w : World} {A : Around} (hh : A.handled = none) (it t : Addr) (hne : t ≠ it) (its : Array Value) :
  Draws prog w A it [it, t] its.size (fun i v => its[i]? = some v) (fun i h => h.IsTupleIter it t i /\ h.IsTuple t its) where
 live := fun _ _ st => let ⟨o, ho, _⟩ := st.1; ⟨o, ho⟩
 frame := fun _ _ _ st hk => ⟨let ⟨o, ho, r⟩ := st.1; ⟨o, hk it (by simp) o ho, r⟩, let ⟨o, ho, r⟩ := st.2; ⟨o, hk t (by simp) o ho, r⟩⟩
 item := fun i s Q E hi st hQ => nextT_item st.1 st.2 (x := its[i]) (by simp [hi]) fun h' a b => hQ _ h' s.toks (by simp [hi]) ⟨a, st.2.extBut b.extBut hne⟩ b
 done := fun s Q E st hE => nextT_end hh st.1 st.2 (by simp) hE
theorem enum_newT (l : Addr) (items : Array Value) (n : Nat) (dct : Option Addr) (sl : Array (Option Value)) :
  Meets (Builtin.«enumerate.__new__» ⟨[.type "enumerate", .ref l], []⟩) (fun _ R s => s.heap.get? l = some { cls := .type "tuple", dict := dct, data := .seq items n, slots := sl } /\
   R (.ok (.ret (.ref (s.heap.push { cls := .type "tuple_iterator", data := .fields #[.ref l, .int 0 0] }).objs.size)))
    { s with heap := (s.heap.push { cls := .type "tuple_iterator", data := .fields #[.ref l, .int 0 0] }).push { cls := .type "enumerate", data := .fields #[.none, .bool false, .ref s.heap.objs.size, rawInt 0, .none, .none] } }) :=
 .of_wp fun prog w A R s h => by
  obtain ⟨hp, g, d, tk, os⟩ := s; obtain ⟨hl, h⟩ := h
  have hsub := sub_enumerate
  have hL : Heap.IsTuple (Shared.heap ⟨hp, g, d, tk, os⟩) l items := ⟨_, hl, rfl, n, rfl⟩
  wp_walk using AutoSeq1.wpAny_loadPart' hl
  refine wpAny_stack_any fun st => wpAny_pure ?_
  split
  ·rename_i c _ _ _ _ _
   cases (c == Value.type "enumerate") <;> (wp_walk using AutoSeq1.wpAny_loadPart' hl, wpAny_pyIter_tuple hL; exact ⟨_, rfl, h⟩)
  ·wp_walk using AutoSeq1.wpAny_loadPart' hl, wpAny_pyIter_tuple hL
   exact ⟨_, rfl, h⟩
theorem call_enumT {prog : Program} {w : World} {A : Around} {E : Value -> Shared -> Prop} {s : Shared} {l : Addr} {items : Array Value} {Q : Value -> Shared -> Prop} (hL : s.heap.IsTuple l items)
  (h : ∀ h', IsEnum h' (s.heap.objs.size + 1) s.heap.objs.size 0 .none -> h'.IsTupleIter s.heap.objs.size l 0 -> h'.objs.size = s.heap.objs.size + 2 ->
   (∀ b o, s.heap.get? b = some o -> h'.get? b = some o) -> Q (.ref (s.heap.objs.size + 1)) { s with heap := h' }) :
  wpAny (model prog w) A (call (.type "enumerate") [.ref l]) Q E s := by
 obtain ⟨⟨c, dct, dt, sl⟩, hl, hc, n, hd⟩ := hL
 replace hc : c = .type "tuple" := hc
 replace hd : dt = .seq items n := hd
 subst hc hd
 refine callType_new F.called_enumerate (by decide) (F.typeCall_enumerate_1 _) (F.newCall_enumerate_1 _) (fun obj => F.args_object_init_2 obj _) F.entry_enumerate_new (enum_newT l items n dct sl) ⟨hl, ?_⟩
 have hz : (s.heap.push { cls := .type "tuple_iterator", data := .fields #[.ref l, .int 0 0] }).objs.size = s.heap.objs.size + 1 := Heap.size_push ..
 show _ /\ _
 rw [hz]
 have he := Heap.get?_push_size (s.heap.push { cls := .type "tuple_iterator", data := .fields #[.ref l, .int 0 0] }) (o := { cls := .type "enumerate", data := .fields #[.none, .bool false, .ref s.heap.objs.size, rawInt 0, .none, .none] }) rfl
 rw [hz] at he
 exact ⟨⟨_, he, rfl⟩, h _ he ⟨_, Heap.get?_push_of_some _ (Heap.get?_push_size _ rfl), rfl, rfl⟩ (by rw [Heap.size_push, hz]) fun b o x => Heap.get?_push_of_some _ (Heap.get?_push_of_some _ x)⟩
end L2
namespace L2
open PySem PySem.Spec PyProof.Rows
section
variable {X : Cx} {pins : List (Addr × Obj)} {σ : St} {H : Hp} {s : Shared} {h' : Heap}
theorem Inv.turnedN {t' : Nat} {fp : List Addr} (I : Inv X pins σ H s) (hf : ∀ b ∈ fp, FpOk X pins H b) (k : ∀ b o, b ∉ fp -> s.heap.get? b = some o -> h'.get? b = some o) : Inv X pins σ H { s with heap := h', toks := t' } := by
 have nit : ∀ b u, H b = some u -> b ∉ fp := fun b u e z => by rw [(hf b z).1] at e; cases e
 refine I.step (g' := s.gens) (d' := s.drawn) (ch := fp) (fun b hb => ?_) (fun b o _ _ hc e _ => k b o hc e) (fun b o _ _ hc e _ => ⟨o.slots, k b o hc e⟩) (fun _ _ _ _ n => n)
  (fun b o hc e => ⟨o, k b o hc e⟩) (fun _ _ e => e) (fun _ _ _ e => e) (fun b ps e => ⟨#[], by rw [e]; simp⟩) (fun m hm => ?_) (fun b u e => ?_) I.bare
 ·obtain ⟨_, q1, q2, q3, q4, q5⟩ := hf b hb
  exact ⟨q3, q1, q4, q5⟩
 ·obtain ⟨o, es, ep, ho, r⟩ := hm
  exact ⟨o, es, ep, k _ o (fun z => (hf _ z).2.1 rfl) ho, r⟩
 ·refine (I.hok b u e).stay (fun c v hc q => k c v ?_ q) (fun _ q => q) fun _ _ q => q
  rcases hc with z | z
  ·rw [z]; exact nit b u e
  ·exact nit c _ z
theorem Inv.trackT {a : Addr} {xs : List V} {its : List Value} (I : Inv X pins σ H s) (hn : H a = none) (hs : X.s₀.heap.objs.size <= a) (hL : a ≠ X.env.locals) (hc : ∀ x c, X.env.cells.lookup x = some c -> c ≠ a) (hp : ∀ p ∈ X.pn ++ pins, p.1 ≠ a)
  (rv : Vals xs its) (ht : PTup s.heap a its.toArray) (hz : xs.length <= sizeLine) : Inv X pins σ (upd H a (.tup xs)) s := by
 have ne : ∀ {b u}, H b = some u -> b ≠ a := fun e => ne_of_none e hn
 refine ⟨I.ok, I.os, I.bare, ⟨I.base.keep, I.base.slot, fun b o e n hx => ?_, I.base.there, fun b ys e => ?_, fun b o u e => ?_, fun b ps e => ?_⟩, I.loc, I.cell, ?_, fun x c e => ?_, fun p hp' => ?_, fun b u e => ?_, I.len⟩
 ·rw [upd_ne (Nat.ne_of_lt (Nat.lt_of_lt_of_le (Heap.lt_size e) hs))]
  exact I.base.free b o e n hx
 ·have q := I.base.tups b ys e
  rw [upd_ne (ne q)]; exact q
 ·have q := I.base.frzs b o u e
  rw [upd_ne (ne q)]; exact q
 ·obtain ⟨m, q⟩ := I.base.tbls b ps e
  exact ⟨m, by rw [upd_ne (ne q)]; exact q⟩
 ·rw [upd_ne (Ne.symm hL)]; exact I.free
 ·rw [upd_ne (hc x c e)]; exact I.freeC x c e
 ·obtain ⟨q1, q2, q3⟩ := I.pin p hp'
  exact ⟨q1, by rw [upd_ne (hp p hp')]; exact q2, q3⟩
 ·by_cases hb : b = a
  ·subst hb
   rw [upd_same] at e; cases e
   exact ⟨hz, its, rv, ht⟩
  ·rw [upd_ne hb] at e
   exact (I.hok b u e).stay (fun _ _ _ q => q) (fun c q => by rw [upd_ne (ne q)]; exact q) fun c ys q => by rw [upd_ne (ne q)]; exact q
theorem Inv.turnedT {t' : Nat} {fp : List Addr} {xs : List V} {its : List Value} (I : Inv X pins σ H s) (hf : ∀ b ∈ fp, FpOk X pins H b) (k : ∀ b o, b ∉ fp -> s.heap.get? b = some o -> h'.get? b = some o)
  (rv : Vals xs its) (ht : PTup h' s.heap.objs.size its.toArray) (hz : xs.length <= sizeLine) : Inv X pins σ (upd H s.heap.objs.size (.tup xs)) { s with heap := h', toks := t' } := by
 refine (I.turnedN (t' := t') hf k).trackT (I.hok.fresh (Nat.le_refl _)) I.sz (Nat.ne_of_gt I.lt) (fun x c e => ?_) (fun p hp => ?_) rv ht hz
 ·obtain ⟨v, q⟩ := I.cell x c e
  exact Nat.ne_of_lt q.lt
 ·exact Nat.ne_of_lt (Heap.lt_size (I.pin p hp).1)
end
noncomputable def Ite (K : PySem.W.Frag) (a : Addr) : It :=
 ⟨fun i H => ∃ xs x, SqT K H a xs /\ xs[i]? = some x, fun i H v H' => ∃ t x, H t = none /\ v = .ref t /\ H' = upd H t (.tup [.int i, x]) /\ ∀ xs, SqT K H a xs -> xs[i]? = some x, fun i H => ∃ xs, SqT K H a xs /\ xs.length = i⟩
theorem turn_enumT {P : Program} {w : World} {K : PySem.W.Frag} {els : List Expr} {kx} {tp : Pos} (a e it : Addr) (hne : e ≠ it) : Turn P w K (.Tuple els kx tp) (Ite K a) [e, it] e (fun i h => (∃ old, IsEnum h e it i old) /\ h.IsTupleIter it a i) where
 mem := by simp
 obj := fun i h st b hb => by
  obtain ⟨⟨old, he⟩, o, ho, hc, hd⟩ := st
  rcases List.mem_cons.mp hb with rfl | hb
  ·exact ⟨_, he, fun v z => by cases z⟩
  ·rw [List.mem_singleton.mp hb]
   exact ⟨o, ho, fun v z => by rw [hd] at z; cases z⟩
 keep := fun i h h' st k => by
  obtain ⟨⟨old, he⟩, o, ho, r⟩ := st
  exact ⟨⟨old, k e (by simp) _ he⟩, o, k it (by simp) _ ho, r⟩
 item := by
  intro X hP hw hK hc i pins s σ H E I hf st hg
  subst hP hw hK
  obtain ⟨xs, x, hq, hx⟩ := hg
  obtain ⟨its, rv, p, hz⟩ := I.tuple hq
  obtain ⟨u, hu, ru⟩ := rv.get hx
  obtain ⟨⟨old, he⟩, hi⟩ := st
  obtain ⟨o, ho, hcl, hd⟩ := id hi
  have hT : s.heap.IsTuple a its.toArray := p
  have hai : a ≠ it := fun z => by
   obtain ⟨o', e1, e2, _⟩ := p
   rw [z, ho] at e1; cases e1; rw [hcl] at e2; injection e2 with z2; revert z2; decide
  have hae : e ≠ a := fun z => by
   obtain ⟨o', e1, e2, _⟩ := p
   rw [<- z, he] at e1; cases e1; injection e2 with z2; revert z2; decide
  have hlt : i < its.toArray.size := by
   have := (List.getElem?_eq_some_iff.mp hu).1
   simpa using this
  have hh : X.A.in1.handled = none := I.ok.hd hc
  refine wpAny_pyNext_enum_itemD (drawsT hh it a hai its.toArray) he ⟨hi, hT⟩ hlt hne (by simp [hne, hae]) fun x' h1 tk hP1 ho1 hs1 hT1 hz1 hk1 => ?_
  have ex : x' = u := by
   have q : its[i]? = some x' := by simpa using hP1
   rw [hu] at q; exact (Option.some.inj q).symm
  subst ex
  refine ⟨_, rfl, wpAny_letOwnedTupleGo_enum ho1 fun h2 he2 hs2 => ?_⟩
  have hne0 : s.heap.objs.size ≠ e := Nat.ne_of_gt (Heap.lt_size he)
  have keep : ∀ b o, b ∉ [e, it] -> s.heap.get? b = some o -> h2.get? b = some o := fun b o hb e0 => (hs2.2 b fun z => hb (by simp [z])).trans (hk1 b o (fun z => hb (by simp [z])) (fun z => hb (by simp [z])) e0)
  refine ⟨.ref s.heap.objs.size, _, I.turnedT (h' := h2) (t' := tk + 1) (xs := [.int i, x]) hf keep (.cons ⟨tk, rfl⟩ (.cons ru .nil)) ⟨_, (hs2.2 _ hne0).trans hT1, rfl, ⟨_, rfl⟩, rfl, rfl⟩ (by show 2 <= sizeLine; decide), rfl, ⟨_, x, I.hok.fresh (Nat.le_refl _), rfl, rfl, fun ys hy => by rw [I.tuple_inj hy hq]; exact hx⟩, ⟨⟨_, by simpa using he2⟩, ?_⟩, fun b hb => ?_⟩
  ·obtain ⟨⟨o1, e1, r1⟩, _⟩ := hs1
   exact ⟨o1, (hs2.2 it (Ne.symm hne)).trans e1, r1⟩
  ·rcases List.mem_cons.mp hb with rfl | hb'
   ·rw [upd_ne (Nat.ne_of_lt (Heap.lt_size he))]; exact (hf _ hb).1
   ·have e9 := List.mem_singleton.mp hb'
    subst e9
    rw [upd_ne (Nat.ne_of_lt (Heap.lt_size ho))]; exact (hf _ hb).1
 done := by
  intro X hP hw hK hc i pins s σ H E I hf st hg
  subst hP hw hK
  obtain ⟨xs, hq, hx⟩ := hg
  obtain ⟨its, rv, p, hz⟩ := I.tuple hq
  obtain ⟨⟨old, he⟩, hi⟩ := st
  obtain ⟨o, ho, hcl, hd⟩ := id hi
  have hT : s.heap.IsTuple a its.toArray := p
  have hai : a ≠ it := fun z => by
   obtain ⟨o', e1, e2, _⟩ := p
   rw [z, ho] at e1; cases e1; rw [hcl] at e2; injection e2 with z2; revert z2; decide
  have hh : X.A.in1.handled = none := I.ok.hd hc
  have hl : its.toArray.size = i := by rw [List.size_toArray, <- rv.length, hx]
  refine wpAny_pyNext_enum_endD (drawsT hh it a hai its.toArray) he (by rw [hl]; exact ⟨hi, hT⟩) fun h1 hk => ⟨rfl, ?_⟩
  exact I.turnedN (t' := s.toks) hf fun b o hb e0 => hk b o (fun z => hb (by simp [z])) e0
 self := fun _ _ _ _ _ st h => by
  obtain ⟨⟨old, he⟩, _⟩ := st
  exact wpAny_pyIter_enum he h
section
variable {X : Cx}
noncomputable def iEnum (K : PySem.W.Frag) (ta : TA) : TI := fun σ H R => ta σ H fun vs H1 => ∃ a, vs = [.ref a] /\ (∃ xs, SqT K H1 a xs) /\ R (Ite K a) H1
theorem pi_enumT {els : List Expr} {kx} {tp : Pos} {l : Expr} {ta : TA} {p pos : Pos} (hg : Gl X "enumerate") (hm : X.mg "enumerate" = none) (ha : PA X [l] ta) (hs : starEach [l] X.env = [(false, eval l X.env)] := by rfl) :
  PI X (.Tuple els kx tp) (.Call (.Name "enumerate" p) [l] [] pos) (iEnum X.K ta) := by
 intro pins s σ H R I h
 refine Call_ (ld_blt I hg hm boot_enumerate (PyProof.Rows.callWith_type1 (thn (ha pos pins s σ H _ I h) fun us s1 ⟨vs, H1, I1, r1, q1⟩ => ?_) hs rfl))
 obtain ⟨a, rfl, ⟨xs, hq⟩, q⟩ := q1
 obtain ⟨u, rfl, ru⟩ := vals1 r1
 cases (show u = Value.ref a from ru)
 obtain ⟨its, rv, p', hz⟩ := I1.tuple hq
 refine call_enumT (show s1.heap.IsTuple a its.toArray from p') fun h' he hi hsz hk => wpAny_pyIter_enum he ?_
 have I2 : Inv X pins σ H1 { s1 with heap := h' } := I1.kept (t' := s1.toks) hk
 refine ⟨s1.heap.objs.size + 1, [s1.heap.objs.size + 1, s1.heap.objs.size], _, _, H1, rfl, I2, turn_enumT a _ _ (Nat.ne_of_gt (Nat.lt_succ_self _)), ⟨⟨_, he⟩, hi⟩, fun b hb => ?_, q⟩
 rcases List.mem_cons.mp hb with rfl | hb
 ·exact I1.fpOk (Nat.le_succ _) (I1.hok.fresh (Nat.le_succ _))
 ·rw [List.mem_singleton.mp hb]
  exact I1.fpOk (Nat.le_refl _) (I1.hok.fresh (Nat.le_refl _))
end
end L2
namespace L2
open PySem PySem.Spec PyProof.Rows
structure ZipT (h : Heap) (z TI TO i1 i2 a b : Addr) (i : Nat) : Prop where
 z : IsZip h z TI TO .none
 ti : IsPair h TI (.ref i1) (.ref i2)
 to : ∃ x y, IsPair h TO x y
 one : h.IsTupleIter i1 a i
 two : h.IsTupleIter i2 b i
structure ZipNe (z TI TO i1 i2 : Addr) : Prop where
 az : TI ≠ z
 bz : TO ≠ z
 cz : i1 ≠ z
 dz : i2 ≠ z
 ab : TI ≠ TO
 ac : TI ≠ i1
 ad : TI ≠ i2
 bc : TO ≠ i1
 bd : TO ≠ i2
 cd : i1 ≠ i2
section
variable {prog : Program} {w : World} {A : Around} {E : Value -> Shared -> Prop} {s : Shared} {z TI TO i1 i2 a b : Addr} {i : Nat} {xs ys : Array Value}
end
end L2
namespace L2
open PySem PySem.Spec PyProof.Rows
section
variable {prog : Program} {w : World} {A : Around} {E : Value -> Shared -> Prop} {s : Shared} {z TI TO i1 i2 a b : Addr} {i : Nat} {xs ys : Array Value}
end
section
variable {X : Cx}
end
end L2
namespace L2
open PySem PySem.Spec PyProof.Rows
section
variable {X : Cx} {e : Expr} {te : TE} {p2 pos : Pos}
end
end L2
namespace L2
open PySem PySem.Spec PyProof.Rows
section
variable {X : Cx}
end
end L2
namespace L2
open PySem PySem.Spec PyProof.Rows
section
variable {X : Cx}
noncomputable def rIsi (K : PySem.W.Frag) : List V -> Hp -> VK -> Prop := fun xs H Q => ∃ x T t b, xs = [x, .ty T] /\ TyOf K H x t /\ PySem.W.kitOne K t (.type T) = some b /\ Q (.bl b) H
theorem call_isi : CallR X (.builtin "isinstance") (rIsi X.K) := by
 intro pins s σ H xs us Q I rs h
 obtain ⟨x, T, t, b, rfl, ty, e, q⟩ := h
 obtain ⟨u, c, rfl, ru, rc⟩ := vals2 rs
 cases (show c = Value.type T from rc)
 exact isinst_ok I ru ty e fun tk => ⟨.bl b, H, I.tok tk, rfl, q⟩
end
end L2
namespace L2
open PySem PySem.Spec PyProof.Rows
mutual
inductive Is (H : Hp) : V -> PyData -> Prop
 | non : Is H .non .none
 | bl (b : Bool) : Is H (.bl b) (.bool b)
 | int (i : Int) : Is H (.int i) (.int i)
 | str (x : Str) : Is H (.str x) (.str x)
 | tup {a : Addr} {vs : List V} {ds : List PyData} : H a = some (.tup vs) -> IsAll H vs ds -> Is H (.ref a) (.tuple ds)
 | lst {a : Addr} {vs : List V} {ds : List PyData} : H a = some (.lst vs) -> IsAll H vs ds -> Is H (.ref a) (.list ds)
inductive IsAll (H : Hp) : List V -> List PyData -> Prop
 | nil : IsAll H [] []
 | cons {v : V} {vs : List V} {d : PyData} {ds : List PyData} : Is H v d -> IsAll H vs ds -> IsAll H (v :: vs) (d :: ds)
end
theorem IsAll.ints {H : Hp} : ∀ ns : List Int, IsAll H (ns.map V.int) (ns.map PyData.int)
 | [] => .nil
 | n :: r => .cons (.int n) (IsAll.ints r)
theorem Is.ints {H : Hp} {a : Addr} {ns : List Int} (h : H a = some (.tup (ns.map V.int))) : Is H (.ref a) (.tuple (ns.map PyData.int)) := .tup h (IsAll.ints ns)
section
variable {X : Cx} {pins : List (Addr × Obj)} {σ : St} {H : Hp} {s : Shared}
mutual
theorem Inv.reads (I : Inv X pins σ H s) : ∀ {v : V} {d : PyData} {u : Value}, Is H v d -> RelV v u -> ∃ as, Reads s.heap u d as
 | _, _, _, .non, r => by cases (show _ = Value.none from r); exact ⟨_, .none⟩
 | _, _, _, .bl b, r => by cases (show _ = Value.bool b from r); exact ⟨_, .bool b⟩
 | _, _, _, .int i, r => by obtain ⟨t, rfl⟩ := r; exact ⟨_, .int i t⟩
 | _, _, _, .str x, r => by obtain ⟨t, rfl⟩ := r; exact ⟨_, .str x t⟩
 | _, _, _, .tup (a := a) (vs := vs) h al, r => by
  cases (show _ = Value.ref a from r)
  obtain ⟨_, its, rv, o, ho, hc, ⟨n, hd⟩, _⟩ := (show ObjOk X.prog X.w H s.heap a (.tup vs) from I.hok a _ h)
  obtain ⟨as, q⟩ := Inv.readsAll I al rv
  exact ⟨as, .tuple ho hc hd (by simpa using q)⟩
 | _, _, _, .lst (a := a) (vs := vs) h al, r => by
  cases (show _ = Value.ref a from r)
  obtain ⟨_, its, n, rv, ho⟩ := (show ObjOk X.prog X.w H s.heap a (.lst vs) from I.hok a _ h)
  obtain ⟨as, q⟩ := Inv.readsAll I al rv
  exact ⟨_, .list ho rfl rfl (by simpa using q)⟩
theorem Inv.readsAll (I : Inv X pins σ H s) : ∀ {vs : List V} {ds : List PyData} {us : List Value}, IsAll H vs ds -> Vals vs us -> ∃ as, ReadsAll s.heap us ds as
 | _, _, _, .nil, .nil => ⟨_, .nil⟩
 | _, _, _, .cons h al, .cons r rs => by
  obtain ⟨as, q⟩ := Inv.reads I h r
  obtain ⟨bs, q'⟩ := Inv.readsAll I al rs
  exact ⟨_, .cons q q'⟩
end
noncomputable def rNeD : R2 := fun x y H Q => ∃ d e, Is H x d /\ Is H y e /\ SeqAt.shaped d = true /\ SeqAt.shaped e = true /\ Q (.bl (!PyData.eqv d e)) H
theorem op_neD (hu : X.A.units + 64 < cLine) : OpR X (compareOp .NotEq) rNeD := by
 intro pins s σ H x y v u Q I rx ry h
 obtain ⟨d, e, hd, he, sd, se, q⟩ := h
 obtain ⟨as, ra⟩ := I.reads hd rx
 obtain ⟨bs, rb⟩ := I.reads he ry
 exact ne_dataH ra rb sd se hu ⟨.bl _, H, I, rfl, q⟩
end
theorem lay_ints : ∀ ns : List Int, PyData.canLayAll0 (ns.map PyData.int) = true
 | [] => rfl
 | _ :: r => by simp [PyData.canLayAll0, PyData.canLay0, lay_ints r]
theorem deep_ints : ∀ ns : List Int, PyData.depthAll (ns.map PyData.int) = 0
 | [] => rfl
 | _ :: r => by simp [PyData.depthAll, PyData.depth, deep_ints r]
theorem shaped_tints (ns : List Int) : SeqAt.shaped (.tuple (ns.map PyData.int)) = true := by
 simp [SeqAt.shaped, PyData.canLay0, PyData.depth, lay_ints, deep_ints]
theorem shaped_lints (ns : List Int) : SeqAt.shaped (.list (ns.map PyData.int)) = true := by
 simp [SeqAt.shaped, PyData.canLay0, PyData.depth, lay_ints, deep_ints]
end L2
namespace L2
open PySem PySem.Spec PyProof.Rows
noncomputable def cscopeB (sc : Scope) (N : List Str) (scope : Scope) (N' : List Str) (n : Nat) (ix : List Nat) : Bool :=
 scope.kind == .function && scope.names.all (fun y => y.2 != .cell) && scope.names.all (fun y => y.2 != .local || scope.names.lookup y.1 == some .local) &&
 scope.names.all (fun y => y.2 != .free || (sc.names.lookup y.1 == some .cell || sc.names.lookup y.1 == some .free)) && scope.names.all (fun y => y.2 != .free || scope.names.lookup y.1 != some .local) &&
 N'.length == n + ix.length && (List.range ix.length).all fun j => match ix[j]?, N'[n + j]? with
  | some i, some x => N[i]? == some x && scope.names.contains (x, .free)
  | _, _ => false
theorem CompScope.of {X : Cx} {sc : Scope} {N : List Str} {scope : Scope} {N' : List Str} {n : Nat} {ix : List Nat} (h : cscopeB sc N scope N' n ix = true) (hs : X.env.scope = sc) (hN : X.N = N) : CompScope X scope N' n ix := by
 unfold cscopeB at h
 simp only [Bool.and_eq_true, List.all_eq_true] at h
 obtain ⟨⟨⟨⟨⟨⟨h1, h2⟩, h3⟩, h4⟩, h5⟩, h6⟩, h7⟩ := h
 subst hs hN
 refine ⟨eq_of_beq h1, fun y hy => by simpa using h2 y hy, fun y hy hl => ?_, fun y hy hf => ?_, fun y hy hl => ?_, eq_of_beq h6, fun j i e => ?_⟩
 ·have := h3 y hy
  rw [hl] at this
  simpa using this
 ·have := h4 y hy
  rw [hf] at this
  simpa using this
 ·have := h5 _ hy
  rw [hl] at this
  simp at this
 ·have hj : j < ix.length := (List.getElem?_eq_some_iff.mp e).1
  have := h7 j (List.mem_range.mpr hj)
  rw [e] at this
  cases hx : N'[n + j]? with
  | none => rw [hx] at this; simp at this
  | some x =>
   rw [hx] at this
   simp only [Bool.and_eq_true] at this
   exact ⟨x, rfl, eq_of_beq this.1, by simpa using this.2⟩
structure Cal (P : Program) (w : World) (K : PySem.W.Frag) (mg : Str -> Option Value) (base : Heap) (k : Nat) (x : Str) (ps : List Str) (sp : Sp) : Prop where
 ex : ∃ f fd, FnOk P w K mg base CX0 k f fd ps sp /\ mg x = some (.ref f) /\ PySem.W.keepIn K (.ref f) = true /\ Binds K fd ps []
section
variable {X : Cx} {k : Nat} {ps : List Str} {sp : Sp} {x : Str} {p pos : Pos} {e : Expr} {es : List Expr} {t : TA}
theorem pe_cal (C : Cal X.prog X.w X.K X.mg X.base k x ps sp) (hr : Room k X.A) (hg : Gl X x) (ha : PA X (e :: es) t) (hdb : (x == ("__debug__" : Str)) = false := by decide) (he : starEach (e :: es) X.env = (false, eval e X.env) :: starEach es X.env := by rfl)
  (hpl : (backTo pos (starEach es X.env)).any (·.1) = false := by rfl) : PE X (.Call (.Name x p) (e :: es) [] pos) (fun σ H Q => t σ H fun vs H1 => sp vs H1 Q E0) := by
 obtain ⟨f, fd, F, hm, hk, hb⟩ := C.ex
 exact (pe_call F hr hg hm hk hb .nil pass0 ha hdb he hpl).mono fun σ H Q q => by
  have e : (fun (vs : List V) (H1 : Hp) => sp (vs ++ []) H1 Q E0) = fun vs H1 => sp vs H1 Q E0 := by funext vs H1; rw [List.append_nil]
  show t σ H fun vs H1 => sp (vs ++ []) H1 Q E0
  rw [e]
  exact q
end
structure Top (mg : Str -> Option Value) : Prop where
 n_len : mg "len" = none
 n_tuple : mg "tuple" = none
 n_list : mg "list" = none
 n_range : mg "range" = none
 n_int : mg "int" = none
 n_bool : mg "bool" = none
 n_isinstance : mg "isinstance" = none
 n_all : mg "all" = none
 n_zip : mg "zip" = none
 n_enumerate : mg "enumerate" = none
 n_min : mg "min" = none
 n_sum : mg "sum" = none
 n_max : mg "max" = none
 n_abs : mg "abs" = none
 n_sorted : mg "sorted" = none
end L2
namespace L2
open PySem PySem.Spec PyProof.Rows
section
variable {X : Cx}
noncomputable def rCat2 : R2 := fun x y H Q => ∃ a b xs ys, x = .ref a /\ y = .ref b /\ H a = some (.tup xs) /\ H b = some (.tup ys) /\ xs.length + ys.length <= sizeLine /\ ∀ p H', Same H H' -> H' p = some (.tup (xs ++ ys)) -> Q (.ref p) H'
theorem op_cat2 : OpR X (binaryOp .Add) rCat2 := by
 intro pins s σ H x y v u Q I rx ry h
 obtain ⟨a, b, xs, ys, rfl, rfl, ha, hb, hz, q⟩ := h
 have ha' : SqT X.K H a xs := SqT.of ha
 have hb' : SqT X.K H b ys := SqT.of hb
 by_cases hx : xs = []
 ·subst hx
  cases rx
  cases ry
  obtain ⟨its, r1, p1, _⟩ := I.tuple ha'
  obtain ⟨its2, r2, p2, _⟩ := I.tuple hb'
  cases r1
  obtain ⟨⟨cls, dd, data, sl⟩, ho, hc, n, hd⟩ := id p1
  obtain ⟨⟨cls2, dd2, data2, sl2⟩, ho2, hc2, n2, hd2⟩ := id p2
  simp only at hc hd hc2 hd2
  subst hc hd hc2 hd2
  exact concat_meets ⟨_, ho, rfl⟩ ⟨_, ho2, rfl⟩ noFill_tuple_add seq_tuple_add PySem.F.slot_tuple_add PySem.F.entry_tuple_add (PySem.F.args_tuple_add_2 _ _)
   (tuple_addW0 a b #[] its2.toArray n n2 dd dd2 sl sl2 rfl) ⟨ho, ho2, ⟨.ref b, H, I, rfl, q b H (Same.refl H) hb⟩⟩
 ·refine op_catT pins s σ H _ _ v u Q I rx ry ⟨a, b, xs, ys, rfl, rfl, ha', hb', hx, hz, fun hy => ?_, fun _ p hp => ?_⟩
  ·subst hy
   exact q a H (Same.refl H) (by rw [List.append_nil]; exact ha)
  ·exact q p _ (same_upd hp) upd_same
end
theorem small1 {n : Nat} (h : n <= 1000) : n < sizeLine := Nat.lt_of_le_of_lt h (by decide)
theorem mapI_len (ns : List Int) : (ns.map V.int).length = ns.length := List.length_map ..
end L2
namespace L2
open PySem PySem.Spec PyProof.Rows
noncomputable def Hand (H : Hp) (p q : Addr) : Prop := ∃ (ns : List Int) (seed : Int), H p = some (.lst [.ref q, .int seed]) /\ H q = some (.lst (ns.map V.int)) /\ (∀ n ∈ ns, 0 <= n) /\ ns.length <= 63
noncomputable def Keep (p q : Addr) (H H' : Hp) : Prop := ∀ b o, H b = some o -> b ≠ p -> b ≠ q -> H' b = some o
theorem Keep.refl (p q : Addr) (H : Hp) : Keep p q H H := fun _ _ h _ _ => h
theorem Keep.trans {p q : Addr} {H H1 H2 : Hp} (a : Keep p q H H1) (b : Keep p q H1 H2) : Keep p q H H2 := fun c o h h1 h2 => b c o (a c o h h1 h2) h1 h2
theorem Same.keep {p q : Addr} {H H' : Hp} (s : Same H H') : Keep p q H H' := fun b o h _ _ => s b o h
theorem Hand.same {p q : Addr} {H H' : Hp} (h : Hand H p q) (s : Same H H') : Hand H' p q := by
 obtain ⟨ns, seed, h1, h2, h3, h4⟩ := h
 exact ⟨ns, seed, s _ _ h1, s _ _ h2, h3, h4⟩
theorem Hand.ne {p q : Addr} {H : Hp} (h : Hand H p q) : p ≠ q := by
 obtain ⟨ns, seed, h1, h2, _⟩ := h
 refine ne_of h1 h2 fun z => ?_
 injection z with z
 cases ns with
 | nil => cases z
 | cons a r => injection z with z _; cases z
noncomputable def spHand (K : PySem.W.Frag) : Sp := fun vs H Q _ => ∃ (a : Addr) (ns : List Int), vs = [.ref a] /\ SqL K H a (ns.map V.int) /\ ns.length <= 63 /\ ∀ p q H', Same H H' -> Hand H' p q -> H p = none -> H q = none -> Q (.ref p) H'
noncomputable def spPick : Sp := fun vs H Q _ => ∃ (p q : Addr) (m : Int), vs = [.ref p, .int m] /\ 0 < m /\ m < 1073741824 /\ Hand H p q /\ ∀ d H', 0 <= d -> d < m -> Hand H' p q -> Keep p q H H' -> Q (.int d) H'
noncomputable def spSize : Sp := fun vs H Q _ => ∃ (p q : Addr) (m : Int), vs = [.ref p, .int m] /\ 9 <= m /\ m < 1000 /\ Hand H p q /\ ∀ d H', 0 <= d -> d <= m -> Hand H' p q -> Keep p q H H' -> Q (.int d) H'
noncomputable def num0 (n : Nat) : List Int := (List.range n).map fun (i : Nat) => (i : Int)
end L2
namespace L2
open PySem PySem.Spec PyProof.Rows
theorem rangeV_num0 (n : Nat) : rangeV 0 n = (num0 n).map V.int := by
 unfold rangeV num0
 rw [List.map_map]
 apply List.map_congr_left
 intro i _
 show V.int (0 + (i : Int)) = V.int (i : Int)
 rw [Int.zero_add]
theorem num0_mem {n : Nat} {x : Int} (h : x ∈ num0 n) : 0 <= x /\ x < n := by
 unfold num0 at h
 obtain ⟨i, hi, rfl⟩ := List.mem_map.mp h
 have := List.mem_range.mp hi
 (first | lia | omega)
end L2
namespace L2
open PySem PySem.Spec PyProof.Rows
theorem kit_tt {K : PySem.W.Frag} {a b : String} {r : Bool} (h : (if (Value.type a == Value.type b) = true then some true else if PySem.W.kitMeta b = true then (fastBuiltinMro a).map (·.contains (Value.type b)) else none) = some r) : PySem.W.kitOne K (.type a) (.type b) = some r := h
theorem pg_pair {X : Cx} {i j : Nat} {x y : Str} {px py pt : Pos} {kt : Nat} (hc : X.calm = true) (hN : X.N.Nodup) (hi : X.N[i]? = some x) (hj : X.N[j]? = some y) (hx : Loc X.env.scope x) (hy : Loc X.env.scope y) (fx : X.fn x = true ∨ X.env.scope.names.lookup x = some .local) (fy : X.fn y = true ∨ X.env.scope.names.lookup y = some .local) :
  PG X (.Tuple [.Name x px, .Name y py] kt pt) (gTup X.K 2 (gCons (gName i) (gCons (gName j) gNil))) := pg_tup hc (pgs_cons (pg_name hN hi hx fx) (pgs_cons (pg_name hN hj hy fy) pgs_nil))
theorem ix_listK {X : Cx} (K : PySem.W.Frag) (hK : X.K = K) : IxR X (rIxL K) := hK ▸ ix_list
end L2
namespace L2
open PySem PySem.Spec PyProof.Rows
theorem mem_rangeV {n : Nat} {x : V} (h : x ∈ rangeV 0 n) : ∃ k : Int, x = .int k /\ 0 <= k /\ k < n := by
 rw [rangeV_num0] at h
 obtain ⟨k, hk, rfl⟩ := List.mem_map.mp h
 exact ⟨k, rfl, num0_mem hk⟩
end L2
namespace L2
open PySem PySem.Spec PyProof.Rows
structure Def (K : PySem.W.Frag) (x : Str) (st : Stmt) : Prop where
 ex : ∃ (f : Addr) (oc : Value) (od an : Option Addr) (kV doc pm cdv ct : Value) (osl : Array (Option Value)), PySem.W.nsIn K mainGlobals x = some (some (.ref f)) /\
  K.lookup f = some ⟨oc, od, .func (PySem.W.fnOf x x (defArgs st) (defBody st) (defScope st) .none kV doc pm an cdv ct), osl⟩ /\ PySem.W.codeIn K cdv x = true /\ PySem.W.keepIn K (.ref f) = true
section
variable {K : PySem.W.Frag} {h : Heap} {mg : Str -> Option Value} {x : Str} {st : Stmt}
theorem Def.of {f : Addr} {oc : Value} {od an : Option Addr} {kV doc pm cdv ct : Value} {osl : Array (Option Value)} (a : PySem.W.nsIn K mainGlobals x = some (some (.ref f)))
  (l : K.lookup f = some ⟨oc, od, .func (PySem.W.fnOf x x (defArgs st) (defBody st) (defScope st) .none kV doc pm an cdv ct), osl⟩) (c : PySem.W.codeIn K cdv x = true) (k : PySem.W.keepIn K (.ref f) = true) : Def K x st :=
 ⟨f, oc, od, an, kV, doc, pm, cdv, ct, osl, a, l, c, k⟩
theorem Def.fn (D : Def K x st) (X : K.In h) (G : h.Ns mainGlobals mg) : ∃ f fd, Fun K x x st f fd /\ mg x = some (.ref f) := by
 obtain ⟨f, oc, od, an, kV, doc, pm, cdv, ct, osl, a, l, c, k⟩ := D.ex
 exact ⟨f, _, fun_mk (st := st) l c k, PySem.W.mg_of X G a⟩
end
structure TopK (K : PySem.W.Frag) : Prop where
 k_len : PySem.W.nsIn K mainGlobals "len" = some none
 k_tuple : PySem.W.nsIn K mainGlobals "tuple" = some none
 k_list : PySem.W.nsIn K mainGlobals "list" = some none
 k_range : PySem.W.nsIn K mainGlobals "range" = some none
 k_int : PySem.W.nsIn K mainGlobals "int" = some none
 k_bool : PySem.W.nsIn K mainGlobals "bool" = some none
 k_isinstance : PySem.W.nsIn K mainGlobals "isinstance" = some none
 k_all : PySem.W.nsIn K mainGlobals "all" = some none
 k_zip : PySem.W.nsIn K mainGlobals "zip" = some none
 k_enumerate : PySem.W.nsIn K mainGlobals "enumerate" = some none
 k_min : PySem.W.nsIn K mainGlobals "min" = some none
 k_sum : PySem.W.nsIn K mainGlobals "sum" = some none
 k_max : PySem.W.nsIn K mainGlobals "max" = some none
 k_abs : PySem.W.nsIn K mainGlobals "abs" = some none
 k_sorted : PySem.W.nsIn K mainGlobals "sorted" = some none
theorem TopK.top {K : PySem.W.Frag} {h : Heap} {mg : Str -> Option Value} (T : TopK K) (X : K.In h) (G : h.Ns mainGlobals mg) : Top mg :=
  ⟨PySem.W.mg_none_of X G T.k_len, PySem.W.mg_none_of X G T.k_tuple, PySem.W.mg_none_of X G T.k_list, PySem.W.mg_none_of X G T.k_range, PySem.W.mg_none_of X G T.k_int, PySem.W.mg_none_of X G T.k_bool, PySem.W.mg_none_of X G T.k_isinstance,
   PySem.W.mg_none_of X G T.k_all, PySem.W.mg_none_of X G T.k_zip, PySem.W.mg_none_of X G T.k_enumerate, PySem.W.mg_none_of X G T.k_min, PySem.W.mg_none_of X G T.k_sum, PySem.W.mg_none_of X G T.k_max, PySem.W.mg_none_of X G T.k_abs, PySem.W.mg_none_of X G T.k_sorted⟩
end L2
namespace L2
open PySem PySem.Spec PyProof.Rows
open Sem (wp)
open AutoSeq1 (wpAny_loadPart')
section
variable {prog : Program} {w : World} {A : Around} {E : Value -> Shared -> Prop} {s : Shared}
end
section
variable {X : Cx}
end
end L2
namespace L2
open PySem PySem.Spec PyProof.Rows
open Sem (wp)
open AutoSeq1 (wpAny_loadPart')
section
variable {prog : Program} {w : World} {A : Around} {E : Value -> Shared -> Prop} {s : Shared}
end
section
variable {X : Cx} {pos : Pos}
end
section
variable {prog : Program} {w : World} {A : Around} {E : Value -> Shared -> Prop} {s : Shared}
end
section
variable {X : Cx}
end
end L2
namespace L2
open PySem PySem.Spec PyProof.Rows
noncomputable def atO (ns : List Int) (x : Int) : Int := ns.getD x.toNat 0
section
variable {m : Nat} {ns ms ks : List Int} {x : Int}
end
theorem for_enum {K : PySem.W.Frag} {a : Addr} {xs : List V} {g : TG} {tb : TS} {D : Ends} {σ : L2.St} {H : Hp} (Pv : Nat -> L2.St -> Hp -> Prop) (h0 : Pv 0 σ H) (hl : ∀ i σ H, i <= xs.length -> Pv i σ H -> SqT K H a xs)
  (hs : ∀ i x t σ H, xs[i]? = some x -> Pv i σ H -> H t = none -> g (.ref t) σ (upd H t (.tup [.int i, x])) fun σ2 H2 => tb { D with nx := Pv (i + 1), ct := Pv (i + 1), bk := D.nx } σ2 H2) (hd : ∀ σ H, Pv xs.length σ H -> D.nx σ H) :
  ∃ W : Nat -> Nat -> L2.St -> Hp -> Prop, (∃ m, W 0 m σ H) /\ ∀ i m σ H, W i m σ H ->
   ((Ite K a).stop i H /\ D.nx σ H) ∨ ((Ite K a).go i H /\ ∃ N : L2.St -> Hp -> Prop, (∀ σ' H', N σ' H' -> ∃ m', m' < m /\ W (i + 1) m' σ' H') /\ ∀ x H', (Ite K a).yld i H x H' -> g x σ H' fun σ2 H2 => tb { D with nx := N, ct := N, bk := D.nx } σ2 H2) := by
 refine ⟨fun i m σ H => m = xs.length - i /\ i <= xs.length /\ Pv i σ H, ⟨xs.length, by simp, Nat.zero_le _, h0⟩, ?_⟩
 rintro i m σ H ⟨rfl, hi, p⟩
 have q := hl i σ H hi p
 by_cases hlt : i < xs.length
 ·refine .inr ⟨⟨xs, xs[i], q, by simp [hlt]⟩, Pv (i + 1), fun σ' H' p' => ⟨xs.length - (i + 1), by (first | lia | omega), rfl, hlt, p'⟩, fun x H' y => ?_⟩
  obtain ⟨t, x', ht, rfl, rfl, y⟩ := y
  exact hs i x' t σ _ (y xs q) p ht
 ·have e : i = xs.length := by (first | lia | omega)
  subst e
  exact .inl ⟨⟨xs, q, rfl⟩, hd σ H p⟩
end L2
namespace L2
open PySem PySem.Spec PyProof.Rows
noncomputable def itO (ns : List Int) (x : Int) : Nat -> Int
 | 0 => x
 | k + 1 => atO ns (itO ns x k)
noncomputable def orbO (ns : List Int) (x : Int) (k : Nat) : List Int := (List.range k).map (itO ns x)
structure IsRound (ns : List Int) (x : Int) (row : List Int) : Prop where
 ex : ∃ k, row = orbO ns x (k + 1) /\ itO ns x (k + 1) = x
 nd : row.Nodup
theorem len_le {α : Type} [DecidableEq α] : ∀ {l L : List α}, l.Nodup -> (∀ y ∈ l, y ∈ L) -> l.length <= L.length
 | [], _, _, _ => Nat.zero_le _
 | a :: t, L, h, s => by
  have ha := s a (by simp)
  have hn := List.nodup_cons.mp h
  have h1 : t.length <= (L.erase a).length := len_le hn.2 fun y hy => by
   have hne : y ≠ a := fun e => hn.1 (e ▸ hy)
   exact (List.mem_erase_of_ne hne).mpr (s y (by simp [hy]))
  have h2 := List.length_erase_of_mem ha
  have h3 : 0 < L.length := List.length_pos_of_mem ha
  simp only [List.length_cons]
  (first | lia | omega)
section
variable {m : Nat} {ns : List Int} {x y : Int}
open Classical in
noncomputable def rowO (ns : List Int) (x : Int) : List Int := if h : ∃ row, IsRound ns x row then choose h else []
structure MetO (ns : List Int) (m : Nat) (rows : List (List Int)) : Prop where
 nd : rows.flatten.Nodup
 rng : ∀ y ∈ rows.flatten, 0 <= y /\ y < m
 clo : ∀ y ∈ rows.flatten, atO ns y ∈ rows.flatten
 row : ∀ r ∈ rows, ∃ f : Int, 0 <= f /\ f < m /\ r = rowO ns f
end
end L2
namespace L2
open PySem PySem.Spec PyProof.Rows
section
variable {X : Cx}
end
section
variable {prog : Program} {w : World} {A : Around} {E : Value -> Shared -> Prop} {s : Shared}
theorem getItem_tuple_whole {t sl : Addr} {items : Array Value} {vl vu : Value} {lo hi : Option Int} {Q : Value -> Shared -> Prop} (ht : IsTup s.heap t items) (hs : s.heap.IsSliceOf sl vl vu .none) (pl : IsPart vl lo) (pu : IsPart vu hi)
  (hw : HT.sIx items.size 0 lo = 0 /\ HT.sIx items.size items.size hi = items.size) (h : Q (.ref t) s) : wpAny (model prog w) A (getItem (.ref t) (.ref sl)) Q E s := by
 obtain ⟨os, hos, hcs, hds⟩ := id hs
 have hTs : s.TypeIs (.ref sl) "slice" := ⟨os, hos, hcs⟩
 unfold getItem
 try with_reducible refine wpAny_holding ?_
 first | refine wpAny_bind (wpAny_pure ?_) | skip
 refine wpAny_bind (wpAny_sequenceKey ht.typeIs (by decide) ?_)
 refine wpAny_bind (wpAny_callSpecial?_slot (name := Str.ofString "__getitem__") ht.typeIs PyProof.Rows.slot_tuple_getitem
  (wpAny_call_entry PyProof.Rows.slot_tuple_getitem ht.typeIs entry_tuple_getitem ?_ (args_tuple_getitem _ _)))
 show wpAny _ _ (Builtin.Tuple.tupleItemsOf (.ref t) >>= _) _ _ s
 refine wpAny_bind (tupleItemsOf_ ht ?_)
 refine wpAny_bind (wpAny_typeOf hTs ?_)
 rw [if_pos (by decide)]
 refine wpAny_bind (HT.sliceApplied_gen hs pl pu ?_)
 show wpAny _ _ (if (((HT.sIx items.size 0 lo : Nat) : Int) == 0 && (1 : Int) == 1 && (HT.sIx items.size items.size hi - HT.sIx items.size 0 lo) == items.size) = true then _ else _) _ _ s
 rw [if_pos (by rw [hw.1, hw.2]; simp)]
 unfold Builtin.Tuple.tupleIsExact
 refine wpAny_bind (wpAny_bind (wpAny_typeOf ht.typeIs (wpAny_pure ?_)))
 rw [if_pos (by decide)]
 refine wpAny_bind (wpAny_rule ?_)
 exact wpAny_pure ⟨_, rfl, wpAny_pure h⟩
end
section
variable {X : Cx} {e : Expr} {te : TE} {p2 pos : Pos}
end
end L2
namespace L2
open PySem PySem.Spec PyProof.Rows
noncomputable abbrev RowsAt (H : Hp) (zs : List Addr) (rows : List (List Int)) : Prop := Paired (fun (z : Addr) (r : List Int) => H z = some (.tup (r.map V.int))) zs rows
theorem RowsAt.sameT {H H' : Hp} {zs : List Addr} {rows : List (List Int)} (h : RowsAt H zs rows) (s : SameT H H') : RowsAt H' zs rows := Paired.mapP h fun _ _ q => s _ _ q
theorem RowsAt.same {H H' : Hp} {zs : List Addr} {rows : List (List Int)} (h : RowsAt H zs rows) (s : Same H H') : RowsAt H' zs rows := h.sameT s.t
structure Bits (bs : List Bool) (m : Nat) (S : List Int) : Prop where
 len : bs.length = m
 bit : ∀ i, i < m -> bs[i]? = some (decide ((i : Int) ∈ S))
theorem mapR_len (zs : List Addr) : (zs.map V.ref).length = zs.length := List.length_map ..
end L2
namespace L2
open PySem PySem.Spec PyProof.Rows
inductive Ents (P : Params) : List DictEntry -> List (Str × Addr) -> Prop
 | nil : Ents P [] []
 | cons {x : Str} {t : Tok} {f : Addr} {es : List DictEntry} {kvs : List (Str × Addr)} : Ents P es kvs -> Ents P (⟨PyData.keyHash P x, .str x t, .ref f⟩ :: es) ((x, f) :: kvs)
structure GDict (K : PySem.W.Frag) (P : Params) (C : Addr) (kvs : List (Str × Addr)) : Prop where
 ex : ∃ es n, K.lookup C = some { cls := .type "dict", data := .dict es n } /\ Ents P es.toList kvs
 nd : (kvs.map (·.1)).Nodup
section
variable {X : Cx}
end
structure CalF (P : Program) (w : World) (K : PySem.W.Frag) (mg : Str -> Option Value) (base : Heap) (k : Nat) (f : Addr) (ps : List Str) (sp : Sp) : Prop where
 ex : ∃ fd, FnOk P w K mg base CX0 k f fd ps sp /\ PySem.W.keepIn K (.ref f) = true /\ Binds K fd ps []
section
variable {X : Cx} {k : Nat} {x : Str} {p pos : Pos} {e : Expr} {es : List Expr} {t : TA} {tf : TE}
noncomputable def rSumL : List V -> Hp -> VK -> Prop := fun xs H Q => ∃ (l : Addr) (ns : List Int), xs = [.ref l] /\ H l = some (.lst (ns.map V.int)) /\ Q (.int ns.sum) H
theorem call_sumL (hc : X.calm = true) : CallR X (.builtin "sum") rSumL := by
 intro pins s σ H xs us Q I rs h
 obtain ⟨l, ns, rfl, hH, q⟩ := h
 obtain ⟨u, rfl, ru⟩ := vals1 rs
 cases (show u = Value.ref l from ru)
 obtain ⟨z, its, n, r, hl, e⟩ := I.lstM hH
 have hI := intsAre_of r
 obtain ⟨xs, hxs⟩ := hI.allInts.items
 have hnum : (numsOf its.toArray.toList) = ns := hI.numsOf
 refine sum_intListG (xs := xs) (I.ok.hd hc) (by rw [<- hxs]; exact ⟨_, e, rfl, n, rfl⟩) fun h' tk t' hk => ?_
 have hs : preSum (numAt xs) xs.size = ns.sum := by
  rw [preSum_eq, List.take_of_length_le (by simp)]
  rw [<- nums_intItems, <- hxs, hnum]
 rw [hs]
 exact ⟨.int ns.sum, H, I.kept (t' := tk) hk, ⟨_, rfl⟩, q⟩
end
end L2
namespace L2
open PySem PySem.Spec PyProof.Rows
section
variable {prog : Program} {w : World} {A : Around} {R : Result -> Shared -> Prop} {s : Shared} {elt tg iter tg2 iter2 : Expr} {ifs ifs2 : List Expr} {scope : Scope} {pos : Pos} {it acc : Value} {env : Env}
end
end L2
namespace L2
open PySem PySem.Spec PyProof.Rows
section
variable {X : Cx} {elt tg iter tg2 iter2 : Expr} {ifs ifs2 : List Expr} {scope : Scope} {pos : Pos} {wi wi2 : TI} {g g2 : TG} {tt tt2 : TT} {te : TE} {N' : List Str} {n : Nat} {ix : List Nat}
end
end L2
namespace L2
open PySem PySem.Spec PyProof.Rows
section
variable {X : Cx}
end
end L2
namespace L2
open PySem PySem.Spec PyProof.Rows
end L2
namespace L2
open PySem PySem.Spec PyProof.Rows
section
variable {X : Cx}
noncomputable def rSlA : V -> Option Int -> Option Int -> Hp -> VK -> Prop := fun x lo hi H Q => ∃ a xs, x = .ref a /\ H a = some (.tup xs) /\ ∀ p H', Same H H' -> H' p = some (.tup (cutV xs lo hi)) -> Q (.ref p) H'
theorem sl_tupA : SlR X rSlA := by
 intro pins s σ H x v vl vu lo hi sl Q I rx hs pl pu h
 obtain ⟨a, xs, rfl, ha, q⟩ := h
 by_cases hw : HT.sIx xs.length 0 lo = 0 /\ HT.sIx xs.length xs.length hi = xs.length
 ·cases rx
  obtain ⟨its, r, ht, hz⟩ := I.tuple (SqT.of (K := X.K) ha)
  have hl : its.toArray.size = xs.length := by rw [List.size_toArray]; exact r.length.symm
  refine ⟨"tuple", _, PyProof.Rows.slot_tuple_getitem.lookup, ht.typeIs, ?_⟩
  refine getItem_tuple_whole ht hs pl pu (by rw [hl]; exact hw) ⟨.ref a, H, I, rfl, q a H (Same.refl H) ?_⟩
  unfold cutV
  rw [hw.1, hw.2, List.drop_zero, Nat.sub_zero, List.take_length]
  exact ha
 ·exact sl_tup pins s σ H _ v vl vu lo hi sl Q I rx hs pl pu ⟨a, xs, rfl, SqT.of ha, hw, fun p hp => q p _ (same_upd hp) upd_same⟩
end
section
variable {X : Cx} {elt tg iter tg2 iter2 : Expr} {ifs ifs2 : List Expr} {scope : Scope} {pos : Pos} {wi wi2 : TI} {g g2 : TG} {tt tt2 : TT} {te : TE} {N' : List Str} {n : Nat} {ix : List Nat}
end
end L2
namespace L2
open PySem PySem.Spec PyProof.Rows
noncomputable def freeO (m : Nat) (b : List Int) : List Int := (num0 m).filter fun x => decide (x ∉ b)
structure Beg (m k : Nat) (b : List Int) : Prop where
 len : b.length = k
 nd : b.Nodup
 rng : ∀ y ∈ b, 0 <= y /\ y < m
 free : (freeO m b).length + k = m
end L2
namespace L2
open PySem PySem.Spec PyProof.Rows
end L2
namespace L2
open PySem PySem.Spec PyProof.Rows
theorem RowsAt.get {H : Hp} : ∀ {zs : List Addr} {rows : List (List Int)}, RowsAt H zs rows -> ∀ {i : Nat} {z : Addr}, zs[i]? = some z -> ∃ r, rows[i]? = some r /\ H z = some (.tup (r.map V.int))
 | _, _, .nil, _, _, h => by simp at h
 | _, _, .cons r _, 0, _, h => by simp at h; subst h; exact ⟨_, rfl, r⟩
 | _, _, .cons _ t, i + 1, _, h => RowsAt.get t (i := i) (by simpa using h)
end L2
namespace L2
open PySem PySem.Spec PyProof.Rows
section
variable {X : Cx}
noncomputable def rMaxT : List V -> Hp -> VK -> Prop := fun xs H Q => ∃ (l : Addr) (ns : List Int), xs = [.ref l] /\ H l = some (.tup (ns.map V.int)) /\ ns ≠ [] /\ ∀ M, M ∈ ns -> (∀ a ∈ ns, a <= M) -> Q (.int M) H
theorem max_of_best {xs : Array (Int × Tok)} {ns : List Int} (hnum : xs.toList.map (·.1) = ns) (hsz : 0 < xs.size) :
  numAt xs (argBest (fun i j => decide (numAt xs i > numAt xs j)) (xs.size - 1)) ∈ ns /\ ∀ a ∈ ns, a <= numAt xs (argBest (fun i j => decide (numAt xs i > numAt xs j)) (xs.size - 1)) := by
 obtain ⟨h1, h2⟩ := argBest_gt (numAt xs) (xs.size - 1)
 subst hnum
 refine ⟨?_, fun a ha => ?_⟩
 ·rw [numAt_eq]; exact getD_mem (by rw [List.length_map, Array.length_toList]; (first | lia | omega))
 ·obtain ⟨j, hj, rfl⟩ := mem_getD ha
  rw [List.length_map, Array.length_toList] at hj
  rw [<- numAt_eq]; exact h2 j (by (first | lia | omega))
theorem call_maxT (hc : X.calm = true) : CallR X (.builtin "max") rMaxT := by
 intro pins s σ H xs us Q I rs h
 obtain ⟨l, ns, rfl, hH, hne, q⟩ := h
 obtain ⟨u, rfl, ru⟩ := vals1 rs
 cases (show u = Value.ref l from ru)
 obtain ⟨its, r, ht, hz⟩ := I.tuple (SqT.of (K := X.K) hH)
 have hI := intsAre_of r
 obtain ⟨xs, hxs⟩ := hI.allInts.items
 have hnum : xs.toList.map (·.1) = ns := by rw [<- nums_intItems, <- hxs]; exact hI.numsOf
 have hsz : 0 < xs.size := by
  have : ns.length = xs.size := by rw [<- hnum, List.length_map, Array.length_toList]
  have := List.length_pos_iff.mpr hne
  (first | lia | omega)
 obtain ⟨b1, b2⟩ := max_of_best hnum hsz
 have hT : s.heap.IsTuple l (intItems xs) := by rw [<- hxs]; exact ht
 have hlt : l < s.heap.objs.size := by obtain ⟨_, e, _⟩ := hT; exact Heap.lt_size e
 have hT2 : (s.heap.push { cls := .type "tuple_iterator", data := .fields #[.ref l, .int 0 0] }).IsTuple l (intItems xs) := by
  obtain ⟨o, e, r⟩ := hT
  exact ⟨o, Heap.get?_push_of_some _ e, r⟩
 have hh : X.A.handled = none := I.ok.hd hc
 refine call_max_walk (wpAny_pyIter_tuple hT ?_)
 refine ⟨_, _, _, _, _, _, _, rfl, Walks.tuple (A := X.A.in1) hh s.heap.objs.size l (Nat.ne_of_lt hlt) (intItems xs), ⟨⟨_, Heap.get?_push_size _ rfl, rfl, rfl⟩, hT2⟩, fun b hb => ?_, by simpa [intItems] using hsz, CmpOf.ints_gt (numAt xs) (fun _ _ => intItems_at), fun v h' tk hP hk => ?_⟩
 ·show b < (s.heap.push _).objs.size
  rw [Heap.size_push]
  rcases List.mem_cons.mp hb with rfl | hb
  ·exact Nat.lt_succ_self _
  ·rw [List.mem_singleton.mp hb]
   exact Nat.lt_succ_of_lt hlt
 ·have hv : (intItems xs)[argBest (fun i j => decide (numAt xs i > numAt xs j)) (xs.size - 1)]? = some v := by simpa [intItems] using hP
  obtain ⟨t, rfl⟩ := intItems_at hv
  refine ⟨.int _, H, I.kept (t' := tk) (fun b o e => hk b o (fun hm => ?_) (Heap.get?_push_of_some _ e)), ⟨_, rfl⟩, q _ b1 b2⟩
  rw [List.mem_singleton.mp hm] at e
  exact absurd (Heap.lt_size e) (Nat.lt_irrefl _)
end
end L2
namespace L2
open PySem PySem.Spec PyProof.Rows
end L2
namespace L2
open PySem PySem.Spec PyProof.Rows
structure Heaps (ns : List Int) (L : List Int) (es : List Int) : Prop where
 inc : L.Pairwise (· < ·)
 len : es.length = ns.length
 up : ∀ (j : Nat) a, L[j]? = some a -> ∃ k : Nat, ns[k]? = some a /\ es[k]? = some ((j : Int) + 1)
 dn : ∀ (k : Nat) e, es[k]? = some e -> ∃ (j : Nat) (a b : Int), e = (j : Int) + 1 /\ L[j]? = some a /\ ns[k]? = some b /\ a <= b
end L2
namespace L2
open PySem PySem.Spec PyProof.Rows
noncomputable def Cx.compZ (X : Cx) (s₂ : Shared) (H₂ : Hp) (N' : List Str) (scope : Scope) (cl : List (Str × Addr)) (C : Addr) (fp : List Addr) (z : Str) (Z : Addr) : Cx :=
 { X with N := N', s₀ := s₂, H₀ := H₂, env := compEnvC scope ((z, Z) :: cl) C X.env, outer := X.stack, stack := X.stack, ex := fp, fn := fun x => x == z, pn := [], xe := fun _ _ => False }
structure CompScopeZ (X : Cx) (scope : Scope) (N' : List Str) (n : Nat) (ix : List Nat) (z : Str) : Prop where
 kind : scope.kind = .function
 onecell : ∀ y ∈ scope.names, y.2 = .cell -> y.1 = z
 nz : ∀ y : Str, (y, NameKind.free) ∈ scope.names -> y ≠ z
 cf : ∀ (a : Addr) (cl : List (Str × Addr)), cellsFrom a scope.names cl = (z, a) :: cl
 pc : ∀ h : Heap, pushCells h scope.names = h.push { cls := .type "cell", data := .cell none }
 names : ∀ y ∈ scope.names, y.2 = .local -> scope.names.lookup y.1 = some .local
 free : ∀ y ∈ scope.names, y.2 = .free -> X.env.scope.names.lookup y.1 = some .cell ∨ X.env.scope.names.lookup y.1 = some .free
 nodup : ∀ y : Str, (y, NameKind.free) ∈ scope.names -> scope.names.lookup y = some .local -> False
 len : N'.length = n + ix.length
 at_ : ∀ (j i : Nat), ix[j]? = some i -> ∃ x, N'[n + j]? = some x /\ X.N[i]? = some x /\ (x, NameKind.free) ∈ scope.names
theorem newEnvZ {M : Model} {A : Around} {E : Value -> Shared -> Prop} {s : Shared} {z : Str} {scope : Scope} {globals : Addr} {cl : List (Str × Addr)} {qual : Str} {env : Env} {Q : Env -> Shared -> Prop} (hcf : ∀ a, cellsFrom a scope.names cl = (z, a) :: cl)
  (hpc : ∀ h : Heap, pushCells h scope.names = h.push { cls := .type "cell", data := .cell none })
  (hQ : ∀ env' : Env, env' = { scope, locals := s.heap.objs.size, globals, cells := (z, s.heap.objs.size + 1) :: cl, qual, func := none, code := env.code, frame := env.frame, builtins := env.builtins } ->
   Q env' { s with heap := (s.heap.push { cls := .type "dict", data := .dict #[] }).push { cls := .type "cell", data := .cell none } }) :
  wpAny M A (newFunctionEnv scope globals cl [] qual none .none (some env)) Q E s := by
 simp only [newFunctionEnv, Option.isSome_some, if_true]
 refine wpAny_bind (wpAny_alloc ?_)
 refine wpAny_bind (wpAny_layCells _ (fun name kind cells => by cases hkc : kind == NameKind.cell <;> simp [hkc]) _ _ _ _ ?_)
 rw [hcf, hpc]
 simp only [List.forIn_nil]
 have hz : (s.heap.push { cls := .type "dict", data := .dict #[] }).objs.size = s.heap.objs.size + 1 := Heap.size_push ..
 refine wpAny_bind (wpAny_pure (wpAny_pure ?_))
 exact hQ _ (by simp only [hz])
section
variable {X : Cx} {pins : List (Addr × Obj)} {σ : St} {H : Hp} {s : Shared}
theorem of_relabelZ {env : Env} {scope : Scope} {x z : Str} (hn : ∀ y ∈ scope.names, y.2 = .cell -> y.1 = z) (hxz : x ≠ z) (h : (relabel scope env).names.lookup x = some .cell ∨ (relabel scope env).names.lookup x = some .free) : scope.names.lookup x = some .free := by
 rw [relabel_lookup] at h
 cases e : scope.names.lookup x with
 | none => rw [e] at h; rcases h with h | h <;> cases h
 | some k =>
  rw [e] at h
  have hk : k ≠ .cell := fun q => hxz (hn _ (PySem.mem_of_lookup e) q)
  by_cases hf : k = .free
  ·rw [hf]
  ·have hb : (k == NameKind.free) = false := by simpa using hf
   have hr : Option.map (fun k => if (k == NameKind.free && env.scope.kind == .function && env.kindOf x == some .cell) = true then NameKind.cell else k) (some k) = some k := by
    show some (ite _ _ _) = _
    rw [if_neg (by rw [hb]; simp)]
   rw [hr] at h
   rcases h with h | h
   ·cases h; exact absurd rfl hk
   ·exact h
theorem inv_compZ {z : Str} {Z : Addr} {scope : Scope} {N' : List Str} {n : Nat} {ix : List Nat} {cl : List (Str × Addr)} {fp : List Addr} {h₁ : Heap} {acc C : Addr} {na : Nat} {m : Str -> Option Value} {tk : Nat}
  (I : Inv X pins σ H s) (S : CompScopeZ X scope N' n ix z) (hcl1 : ∀ x c, cl.lookup x = some c -> X.env.cells.lookup x = some c) (hcl2 : ∀ y ∈ scope.names, y.2 = .free -> cl.lookup y.1 = X.env.cells.lookup y.1)
  (hf : ∀ b ∈ fp, FpOk X pins H b) (hlt : ∀ b ∈ fp, b < s.heap.objs.size) (ha : s.heap.objs.size <= acc) (hC : s.heap.objs.size <= C) (hne : C ≠ acc) (hZ : s.heap.objs.size <= Z) (hZC : Z ≠ C) (hZa : Z ≠ acc) (hZc : h₁.IsCell Z none)
  (k : ∀ b u, s.heap.get? b = some u -> h₁.get? b = some u) (hacc : h₁.get? acc = some { cls := .type "list", data := .seq ([] : List Value).toArray na }) (hns : h₁.Ns C m) :
  Inv (X.compZ s H N' scope cl C fp z Z) [] (compSt n ix σ) (upd H acc (.lst [])) { s with heap := h₁, toks := tk } := by
 have fr : ∀ b : Addr, s.heap.objs.size <= b -> H b = none := fun b hb => I.hok.fresh hb
 have cellLt : ∀ x c, cl.lookup x = some c -> c < s.heap.objs.size := fun x c e => by
  obtain ⟨v, q⟩ := I.cell x c (hcl1 x c e)
  exact q.lt
 have look : ∀ x c, List.lookup x ((z, Z) :: cl) = some c -> (x = z /\ c = Z) ∨ (x ≠ z /\ cl.lookup x = some c) := fun x c e => by
  rw [List.lookup_cons] at e
  cases hb : x == z with
  | true =>
   rw [hb] at e
   exact .inl ⟨eq_of_beq hb, (Option.some.inj e).symm⟩
  | false =>
   rw [hb] at e
   exact .inr ⟨fun q => by (rw [q, beq_self_eq_true] at hb; cases hb), e⟩
 have look2 : ∀ x, x ≠ z -> List.lookup x ((z, Z) :: cl) = cl.lookup x := fun x hx => by
  rw [List.lookup_cons]
  have hb : (x == z) = false := beq_eq_false_iff_ne.mpr hx
  rw [hb]
 have nZ : ∀ x c, cl.lookup x = some c -> c ≠ Z := fun x c e q => absurd (cellLt x c e) (by rw [q]; exact Nat.not_lt.mpr hZ)
 refine ⟨⟨I.ok.mod, S.kind, I.ok.glob, I.ok.blt, hC, fun x y c e1 e2 => ?inj, fun x hx => ?has, fun x c e e' => ?cab, I.ok.hd, I.ok.frames, .inl rfl, fun b hb => ⟨Nat.ne_of_lt (Nat.lt_of_lt_of_le (hlt b hb) hC), fun x c e => ?exf⟩,
   I.bs, Nat.le_trans I.ok.bsz I.sz, fun b o e hb => ?noex, fun b hb hs => ?exfs, I.stack, I.stkFree⟩,
  rfl, I.bare, Un.laid k ha (fr acc ha), ⟨m, hns, fun i x v e1 e2 e3 => ?loc⟩, fun x c e => ?cell, ?free, fun x c e => ?freeC, fun p hp => absurd (show p ∈ ([] : List (Addr × Obj)) from hp) (by simp), I.hok.laid k ha ⟨Nat.zero_le _, [], na, .nil, hacc⟩, ?len⟩
 case inj =>
  rcases look x c e1 with ⟨h1, h2⟩ | ⟨h1, h2⟩ <;> rcases look y c e2 with ⟨h3, h4⟩ | ⟨h3, h4⟩
  ·rw [h1, h3]
  ·exact absurd h2 (nZ y c h4)
  ·exact absurd h4 (nZ x c h2)
  ·exact I.ok.inj x y c (hcl1 x c h2) (hcl1 y c h4)
 case has =>
  by_cases hxz : x = z
  ·exact ⟨Z, by show List.lookup x ((z, Z) :: cl) = _; rw [hxz, List.lookup_cons, beq_self_eq_true]⟩
  ·have hx' : scope.names.lookup x = some .free := of_relabelZ (env := X.env) S.onecell hxz hx
   have hm := PySem.mem_of_lookup hx'
   obtain ⟨c, e⟩ := I.ok.has x (S.free _ hm rfl)
   exact ⟨c, by show List.lookup x ((z, Z) :: cl) = _; rw [look2 x hxz]; exact (hcl2 _ hm rfl).trans e⟩
 case cab =>
  rcases look x c e' with ⟨_, h2⟩ | ⟨h1, _⟩
  ·rw [h2]; exact hZ
  ·exact absurd (eq_of_beq (show (x == z) = true from e)) h1
 case exf =>
  rcases look x c e with ⟨_, h2⟩ | ⟨_, h2⟩
  ·rw [h2]; exact Nat.ne_of_gt (Nat.lt_of_lt_of_le (hlt b hb) hZ)
  ·exact (hf b hb).2.2.2.2.1 x c (hcl1 x c h2)
 case noex =>
  rcases (hf b hb).2.2.2.1 with z | z
  ·exact I.ok.noex b o e z
  ·exact absurd (Nat.lt_of_lt_of_le (Heap.lt_size e) (Nat.le_trans I.ok.bsz z)) (Nat.lt_irrefl _)
 case exfs =>
  rcases List.mem_cons.mp (I.stkSub b hs) with z | z
  ·exact (hf b hb).2.1 z
  ·exact (hf b hb).2.2.1 z
 case loc =>
  have hi : n <= i := by
   by_cases hi : n <= i
   ·exact hi
   ·unfold compSt at e2
    rw [List.getElem?_append_left (by simp; (first | lia | omega)), List.getElem?_replicate] at e2
    split at e2 <;> cases e2
  obtain ⟨j, rfl⟩ : ∃ j, i = n + j := ⟨i - n, by (first | lia | omega)⟩
  unfold compSt at e2
  rw [List.getElem?_append_right (by simp), List.length_replicate, Nat.add_sub_cancel_left, List.getElem?_map] at e2
  cases ej : ix[j]? with
  | none => rw [ej] at e2; cases e2
  | some q =>
   rw [ej] at e2
   have e2' : σ.getD q none = some v := Option.some.inj e2
   have e2'' : σ[q]? = some (some v) := by
    rw [List.getD_eq_getElem?_getD] at e2'
    cases eq : σ[q]? with
    | none => rw [eq] at e2'; cases e2'
    | some z => rw [eq] at e2'; exact congrArg some e2'
   obtain ⟨y, h1, h2, h3⟩ := S.at_ j q ej
   have ey : y = x := Option.some.inj (h1.symm.trans e1)
   subst ey
   have hk := S.free _ h3 rfl
   obtain ⟨mX, _, hl⟩ := I.loc
   obtain ⟨u, r, l⟩ := hl q y v h2 e2'' (.inr hk)
   refine ⟨u, r, .inr ?_⟩
   have hkc : X.env.kindOf y = some .cell ∨ X.env.kindOf y = some .free := hk
   have l' : ∃ c, X.env.cells.lookup y = some c /\ s.heap.IsCell c (some u) := by
    rcases l with ⟨z, _⟩ | ⟨_, c, ec, hc⟩
    ·rcases hkc with q | q <;> (rw [q] at z; cases z)
    ·exact ⟨c, ec, hc⟩
   obtain ⟨c, ec, o, ho, hd⟩ := l'
   have e3' : Vis (relabel scope X.env) y := e3
   have hyz : y ≠ z := S.nz y h3
   refine ⟨?_, c, by show List.lookup y ((z, Z) :: cl) = _; rw [look2 y hyz]; exact (hcl2 _ h3 rfl).trans ec, o, k _ _ ho, hd⟩
   have nl : scope.names.lookup y ≠ some .local := fun z => ?_
   ·cases el : scope.names.lookup y with
    | none =>
     have : (relabel scope X.env).names.lookup y = none := by rw [relabel_lookup, el]; rfl
     rcases e3' with z | z | z <;> (rw [this] at z; cases z)
    | some kk =>
     have hmem := PySem.mem_of_lookup el
     have ncell : kk ≠ .cell := fun q => hyz (S.onecell _ hmem q)
     have hr : (relabel scope X.env).names.lookup y = some (if (kk == NameKind.free && X.env.scope.kind == .function && X.env.kindOf y == some .cell) = true then .cell else kk) := by rw [relabel_lookup, el]; rfl
     by_cases hkf : kk = .free
     ·subst hkf
      exact relabel_free (env := X.env) el
     ·have hb : (kk == NameKind.free) = false := by simpa using hkf
      have hr' : (relabel scope X.env).names.lookup y = some kk := by rw [hr, hb]; rfl
      rcases e3' with z | z | z
      ·rw [hr'] at z; cases z; exact absurd el nl
      ·rw [hr'] at z; cases z; exact absurd rfl ncell
      ·rw [hr'] at z; cases z; exact absurd rfl hkf
   ·exact S.nodup _ h3 z
 case cell =>
  rcases look x c e with ⟨_, h2⟩ | ⟨_, h2⟩
  ·rw [h2]; exact ⟨none, hZc⟩
  ·obtain ⟨v, o, ho, hd⟩ := I.cell x c (hcl1 x c h2)
   exact ⟨v, o, k _ _ ho, hd⟩
 case free =>
  show upd H acc (.lst []) C = none
  rw [upd_ne hne]; exact fr C hC
 case freeC =>
  show upd H acc (.lst []) c = none
  rcases look x c e with ⟨_, h2⟩ | ⟨_, h2⟩
  ·rw [h2, upd_ne hZa]; exact fr Z hZ
  ·have := cellLt x c h2
   rw [upd_ne (Nat.ne_of_lt (Nat.lt_of_lt_of_le this ha))]
   exact I.freeC x c (hcl1 x c h2)
 case len =>
  show (compSt n ix σ).length = N'.length
  unfold compSt
  rw [List.length_append, List.length_replicate, List.length_map, S.len]
end
section
variable {X : Cx} {elt tg iter : Expr} {ifs : List Expr} {scope : Scope} {pos : Pos} {wi : TI} {g : TG} {tt : TT} {te : TE} {N' : List Str} {n : Nat} {ix : List Nat}
theorem lc_coreZ {z : Str} {pins : List (Addr × Obj)} {σ : St} {H2 : Hp} {s2 : Shared} {cl : List (Str × Addr)} {it : Addr} {fp : List Addr} {tn : Nat -> Heap -> Prop} {J : It} {Q : VK} {R : Value -> Addr -> Result -> Shared -> Prop}
  (hc : X.calm = true) (S : CompScopeZ X scope N' n ix z)
  (hY : ∀ s₂ H₂ cl C fp Z, PG (X.compZ s₂ H₂ N' scope cl C fp z Z) tg g /\ PTs (X.compZ s₂ H₂ N' scope cl C fp z Z) ifs tt /\ PE (X.compZ s₂ H₂ N' scope cl C fp z Z) elt te)
  (I2 : Inv X pins σ H2 s2) (hcl1 : ∀ x c, cl.lookup x = some c -> X.env.cells.lookup x = some c) (hcl2 : ∀ y ∈ scope.names, y.2 = .free -> cl.lookup y.1 = X.env.cells.lookup y.1)
  (T : Turn X.prog X.w X.K tg J fp it tn) (st2 : tn 0 s2.heap) (f2 : ∀ b ∈ fp, FpOk X pins H2 b)
  (hW : LcW J H2 g tt te n ix σ Q)
  (hR : ∀ acc C s' H' m, s'.heap.Ns C m -> Inv X pins σ H' s' -> H' C = none -> C ≠ X.env.locals -> (C ∈ X.ex ∨ X.s₀.heap.objs.size <= C) -> (∀ x c, X.env.cells.lookup x = some c -> c ≠ C) -> (∀ p ∈ X.pn ++ pins, p.1 ≠ C) -> C ∉ X.fs -> Q (.ref acc) H' -> R (.ref acc) C (.ok .next) s') :
  wpAny (model X.prog X.w) X.A (newList []) (fun acc s₃ => wpAny (model X.prog X.w) X.A (newFunctionEnv scope X.env.globals cl [] X.env.qual none .none (some X.env)) (fun cenv s₄ =>
   codeAny (model X.prog X.w) X.A (.compStart (.ListComp elt [⟨tg, iter, ifs, 0⟩] scope pos) 0 (.ref it) acc { cenv with scope := relabel scope X.env }) (R acc cenv.locals) s₄) X.xe s₃) X.xe s2 := by
 refine wpAny_newObj_type (newEnvZ (z := z) (fun a => S.cf a cl) S.pc fun env' he' => ?_)
 subst he'
 dsimp only
 generalize hH2 : s2.heap.push { cls := .type "list", dict := none, data := .seq ([] : List Value).toArray } = G
 have hC : G.objs.size = s2.heap.objs.size + 1 := by rw [<- hH2, Heap.size_push]
 generalize hh1 : (G.push { cls := .type "dict", data := .dict #[] }).push { cls := .type "cell", data := .cell none } = h₁
 have hkp : ∀ b o, G.get? b = some o -> h₁.get? b = some o := fun b o e => hh1 ▸ Heap.get?_push_of_some _ (Heap.get?_push_of_some _ e)
 have hns₁ : h₁.Ns G.objs.size fun _ => none := hh1 ▸ (Heap.Ns.new G (.type "dict")).keeps fun b o e => Heap.get?_push_of_some _ e
 have hZc : h₁.IsCell (G.objs.size + 1) none := by
  rw [<- hh1]
  refine ⟨{ cls := .type "cell", data := .cell none }, ?_, rfl⟩
  have := Heap.get?_push_size (G.push { cls := .type "dict", data := .dict #[] }) (o := { cls := .type "cell", data := .cell none }) rfl
  rwa [Heap.size_push] at this
 have hlt : ∀ b ∈ fp, b < s2.heap.objs.size := fun b hb => by
  obtain ⟨o, e, _⟩ := T.obj _ _ st2 b hb
  exact Heap.lt_size e
 have old : ∀ b o, s2.heap.get? b = some o -> h₁.get? b = some o := fun b o e => hkp b o (hH2 ▸ Heap.get?_push_of_some _ e)
 have hacc : h₁.get? s2.heap.objs.size = some { cls := .type "list", dict := none, data := .seq ([] : List Value).toArray } := hkp _ _ (hH2 ▸ Heap.get?_push_size _ rfl)
 obtain ⟨W, ⟨m0, w0⟩, turn⟩ := hW s2.heap.objs.size (I2.hok.fresh (Nat.le_refl _))
 obtain ⟨hYg, hYt, hYe⟩ := hY s2 H2 cl G.objs.size fp (G.objs.size + 1)
 have fpY : ∀ {H' : Hp}, (∀ b ∈ fp, H' b = none) -> ∀ b ∈ fp, FpOk (X.compZ s2 H2 N' scope cl G.objs.size fp z (G.objs.size + 1)) [] H' b := fun {H'} hn b hb => by
  obtain ⟨_, q1, q2, q3, q4, q5⟩ := f2 b hb
  refine ⟨hn b hb, ?_, fun z => ?_, .inl hb, fun x c e => ?_, fun p hp => absurd (show p ∈ ([] : List (Addr × Obj)) from hp) (by simp)⟩
  ·show b ≠ G.objs.size
   rw [hC]
   exact Nat.ne_of_lt (Nat.lt_succ_of_lt (hlt b hb))
  ·rcases List.mem_cons.mp (I2.stkSub b z) with y | y
   ·exact q1 y
   ·exact q2 y
  ·have e' : List.lookup x ((z, G.objs.size + 1) :: cl) = some c := e
   rw [List.lookup_cons] at e'
   cases hb' : x == z with
   | true =>
    rw [hb'] at e'
    have e2 : G.objs.size + 1 = c := Option.some.inj e'
    rw [<- e2, hC]
    have := hlt b hb
    exact Nat.ne_of_gt (Nat.lt_of_lt_of_le this (Nat.le_trans (Nat.le_succ _) (Nat.le_succ _)))
   | false =>
    rw [hb'] at e'
    exact q4 x c (hcl1 x c e')
 have loop : ∀ s₃ : Shared, s₃ = { s2 with heap := h₁ } ->
   codeAny (model X.prog X.w) X.A (.compLoop (.ListComp elt [⟨tg, iter, ifs, 0⟩] scope pos) 0 (.ref it) (.ref s2.heap.objs.size) (compEnvC scope ((z, G.objs.size + 1) :: cl) G.objs.size X.env)) (R (.ref s2.heap.objs.size) G.objs.size) s₃ := by
  rintro s₃ rfl
  have I4 := inv_compZ (Z := G.objs.size + 1) (tk := s2.toks) I2 S hcl1 hcl2 f2 hlt (Nat.le_refl _) (by rw [hC]; exact Nat.le_succ _) (by rw [hC]; exact Nat.ne_of_gt (Nat.lt_succ_self _)) (by rw [hC]; exact Nat.le_trans (Nat.le_succ _) (Nat.le_succ _)) (Nat.ne_of_gt (Nat.lt_succ_self _)) (by rw [hC]; exact Nat.ne_of_gt (Nat.lt_succ_of_lt (Nat.lt_succ_self _))) hZc old hacc hns₁
  refine compLoop_gen (fun n' s' => ∃ i H', Inv (X.compZ s2 H2 N' scope cl G.objs.size fp z (G.objs.size + 1)) [] (compSt n ix σ) H' s' /\ tn i s'.heap /\ (∀ b ∈ fp, H' b = none) /\ W i n' H') ?_ m0
   ⟨0, _, I4, T.keep _ _ _ st2 fun b hb o e => old b o e, fun b hb => ?_, w0⟩
  ·rintro n' s3 ⟨i, H3, I3, st3, fr3, w3⟩
   rcases turn i n' H3 w3 with ⟨stop, q⟩ | ⟨go, step⟩
   ·refine thn (T.done (X.compZ s2 H2 N' scope cl G.objs.size fp z (G.objs.size + 1)) rfl rfl rfl hc i [] s3 _ H3 _ I3 (fpY fr3) st3 stop) fun r s4 ⟨hr, I5⟩ => ?_
    subst hr
    obtain ⟨mC, hnC, _⟩ := I5.loc
    have IX : Inv X pins σ H3 s4 := I2.call' I5.os I5.base I5.hok I5.bare fun b hb => by
     obtain ⟨_, q1, q2, q3, q4, q5⟩ := f2 b hb
     exact ⟨q3, q1, q4, q5⟩
    refine hR _ _ s4 H3 mC hnC IX I5.free ?_ (.inr ?_) (fun x c e z => ?_) (fun p hp z => ?_) (I2.nofs (by rw [hC]; exact Nat.le_succ _)) q
    ·rw [hC]
     exact Nat.ne_of_gt (Nat.lt_succ_of_lt I2.lt)
    ·rw [hC]
     exact Nat.le_succ_of_le I2.sz
    ·obtain ⟨v, q⟩ := I2.cell x c e
     rw [hC] at z
     exact absurd z (Nat.ne_of_lt (Nat.lt_succ_of_lt q.lt))
    ·rw [hC] at z
     exact absurd z (Nat.ne_of_lt (Nat.lt_succ_of_lt (Heap.lt_size (I2.pin p hp).1)))
   ·refine thn (T.item (X.compZ s2 H2 N' scope cl G.objs.size fp z (G.objs.size + 1)) rfl rfl rfl hc i [] s3 _ H3 _ I3 (fpY fr3) st3 go) fun r s4 ⟨u, hr, h4⟩ => ?_
    subst hr
    refine thn h4 fun _ s5 ⟨x, H5, I5, r5, y5, st5, fr5⟩ => ?_
    have I5' := I5.pinned (fpY fr5) (T.obj _ _ st5)
    refine thn (hYg _ s5 _ H5 x u _ I5' r5 (step x H5 y5)) fun _ s6 ⟨σ6, H6, I6, wk, q6⟩ => ?_
    have back : ∀ {H' : Hp} {s' : Shared}, Inv (X.compZ s2 H2 N' scope cl G.objs.size fp z (G.objs.size + 1)) ([] ++ pinsAt fp s5.heap) σ6 H' s' ->
      Inv (X.compZ s2 H2 N' scope cl G.objs.size fp z (G.objs.size + 1)) [] (compSt n ix σ) H' s' /\ tn (i + 1) s'.heap /\ ∀ b ∈ fp, H' b = none := fun {H' s'} I7 => by
     refine ⟨I7.unpinned.weak wk.1 wk.2, T.keep _ _ _ st5 fun b hb o e => (I7.pin (b, o) (List.mem_append_right _ (List.mem_append_right _ (mem_pinsAt hb e)))).1, fun b hb => ?_⟩
     obtain ⟨o, e, d⟩ := T.obj _ _ st5 b hb
     exact (I7.pin (b, o) (List.mem_append_right _ (List.mem_append_right _ (mem_pinsAt hb e)))).2.1
    refine thn (hYt _ s6 σ6 H6 _ I6 q6) fun ok s7 ⟨H7, I7, q7⟩ => ?_
    cases ok with
    | false =>
     rw [if_neg Bool.false_ne_true] at q7 ⊢
     obtain ⟨m', hm, w7⟩ := q7
     obtain ⟨b1, b2, b3⟩ := back I7
     exact ⟨m', hm, i + 1, H7, b1, b2, b3, w7⟩
    | true =>
     rw [if_pos rfl] at q7 ⊢
     refine thn (hYe _ s7 σ6 H7 _ I7 q7) fun xv s8 ⟨v8, H8, I8, r8, ys, ha, hz, m', hm, w8⟩ => ?_
     refine thn (mt_append _ s8 σ6 H8 (.ref s2.heap.objs.size) [v8] (.ref s2.heap.objs.size) [xv] (fun _ H' => H' = upd H8 s2.heap.objs.size (.lst (ys ++ [v8]))) I8 rfl (.cons r8 .nil) ⟨_, ys, v8, rfl, rfl, ha, hz, rfl⟩) fun _ s9 ⟨_, H9, I9, _, e9⟩ => ?_
     subst e9
     obtain ⟨b1, b2, b3⟩ := back I9
     exact ⟨m', hm, i + 1, _, b1, b2, b3, w8⟩
  ·rw [upd_ne (Nat.ne_of_lt (hlt b hb))]
   exact (f2 b hb).1
 exact codeAny_compStart_list (loop _ rfl) (T.self _ 0 _ _ _ (T.keep _ _ _ st2 fun b hb o e => old b o e) (loop _ rfl))
theorem pe_lcZ {z : Str} (hc : X.calm = true) (S : CompScopeZ X scope N' n ix z) (hi : PI X tg iter wi)
  (hY : ∀ s₂ H₂ cl C fp Z, PG (X.compZ s₂ H₂ N' scope cl C fp z Z) tg g /\ PTs (X.compZ s₂ H₂ N' scope cl C fp z Z) ifs tt /\ PE (X.compZ s₂ H₂ N' scope cl C fp z Z) elt te)
  (hs : ∀ x, foldedSetIterable iter X.env x = pure x := by intro _; rfl) : PE X (.ListComp elt [⟨tg, iter, ifs, 0⟩] scope pos) (tLc wi g tt te n ix) := by
 intro pins s σ H Q I h
 obtain ⟨cl, hcl, hcl1, hcl2⟩ := closure_ok (env := X.env) (scope := scope) fun y hy hf => I.ok.has _ (S.free y hy hf)
 rw [eval_ListComp]
 refine wpAny_comprehension_free (use := none) rfl hs hcl S.kind S.names (thn (hi pins s σ H _ I h) fun v s1 h1 => thn h1 fun itv s2 h2 => ?_)
 obtain ⟨it, fp, tn, J, H2, rfl, I2, T, st2, f2, hW⟩ := h2
 refine lc_coreZ (R := fun acc C => compPost (model X.prog X.w) X.A X.xe none (EP X pins σ Q) acc C) hc S hY I2 hcl1 hcl2 T st2 f2 hW ?_
 intro acc C s' H' m hn IX hf hL h1 h2 h3 h4 q
 exact ⟨m, hn, fun h' sb => ⟨.ref acc, H', IX.turned (t' := s'.toks) (fun b o hb e => sb.extBut b o hb e) hf hL h1 h2 h3, rfl, q⟩⟩
end
end L2
namespace L2
open PySem PySem.Spec PyProof.Rows
mutual
inductive IsK (K : PySem.W.Frag) (H : Hp) : V -> PyData -> Prop
 | non : IsK K H .non .none
 | bl (b : Bool) : IsK K H (.bl b) (.bool b)
 | int (i : Int) : IsK K H (.int i) (.int i)
 | str (x : Str) : IsK K H (.str x) (.str x)
 | tup {a : Addr} {vs : List V} {ds : List PyData} : SqT K H a vs -> IsAllK K H vs ds -> IsK K H (.ref a) (.tuple ds)
 | lst {a : Addr} {vs : List V} {ds : List PyData} : H a = some (.lst vs) -> IsAllK K H vs ds -> IsK K H (.ref a) (.list ds)
inductive IsAllK (K : PySem.W.Frag) (H : Hp) : List V -> List PyData -> Prop
 | nil : IsAllK K H [] []
 | cons {v : V} {vs : List V} {d : PyData} {ds : List PyData} : IsK K H v d -> IsAllK K H vs ds -> IsAllK K H (v :: vs) (d :: ds)
end
section
variable {X : Cx} {pins : List (Addr × Obj)} {σ : St} {H : Hp} {s : Shared}
end
end L2
namespace L2
open PySem PySem.Spec PyProof.Rows
end L2
namespace L2
open PySem PySem.Spec PyProof.Rows
end L2
namespace L2
open PySem PySem.Spec PyProof.Rows
end L2
namespace L2
open PySem PySem.Spec PyProof.Rows
section
variable {X : Cx}
noncomputable def rSumT (K : PySem.W.Frag) : List V -> Hp -> VK -> Prop := fun xs H Q => ∃ (l : Addr) (ns : List Int), xs = [.ref l] /\ SqT K H l (ns.map V.int) /\ Q (.int ns.sum) H
theorem call_sumT (hc : X.calm = true) : CallR X (.builtin "sum") (rSumT X.K) := by
 intro pins s σ H xs us Q I rs h
 obtain ⟨l, ns, rfl, hH, q⟩ := h
 obtain ⟨u, rfl, ru⟩ := vals1 rs
 cases (show u = Value.ref l from ru)
 obtain ⟨its, r, ht, hz⟩ := I.tuple hH
 have hI := intsAre_of r
 obtain ⟨xs, hxs⟩ := hI.allInts.items
 have hnum : (numsOf its.toArray.toList) = ns := hI.numsOf
 refine PySem.W.ktm_sumG (xs := xs) (I.ok.hd hc) (by rw [<- hxs]; exact ht) fun h' tk t' hk => ?_
 have hs : preSum (numAt xs) xs.size = ns.sum := by
  rw [preSum_eq, List.take_of_length_le (by simp)]
  rw [<- nums_intItems, <- hxs, hnum]
 rw [hs]
 exact ⟨.int ns.sum, H, I.kept (t' := tk) hk, ⟨_, rfl⟩, q⟩
end
theorem paired_tab {g : Int -> Int} : ∀ {l : List Int} {ys : List V}, Paired (fun x v => ∀ k, x = V.int k -> v = V.int (g k)) (l.map V.int) ys -> ys = (l.map g).map V.int
 | [], _, .nil => rfl
 | a :: l, _, .cons h t => by
  rw [List.map_cons, List.map_cons, <- paired_tab t, h a rfl]
theorem lc_tabG {n : Nat} {te : TE} {ix : List Nat} {σ : L2.St} {H1 : Hp} {Q : VK} (g : Int -> Int) (small : n <= 1000) (he : ∀ k : Int, 0 <= k -> k < n -> ∀ H, Same H1 H -> ∀ Q' : VK, (∀ H', Same H H' -> Q' (.int (g k)) H') -> te (some (.int k) :: ix.map fun i => σ.getD i none) H Q')
  (fin : ∀ acc H', H1 acc = none -> Same H1 H' -> H' acc = some (.lst (((num0 n).map g).map V.int)) -> Q (.ref acc) H') : LcW (Itr 0 n) H1 (gName 0) tNoTest te 1 ix σ Q := by
 refine lc_grow (yields_range (lo := 0) (n := n)) (small1 (by rw [rangeV_len]; exact small)) (fun x v _ => ∀ k, x = V.int k -> v = V.int (g k)) (fun _ _ _ _ _ h => h) (fun _ _ => trivial) (fun x hx H' s' Q' q => ?_) fun acc ys H' hacc sm hys pr => ?_
 ·obtain ⟨k, rfl, k0, k1⟩ := mem_rangeV hx
  exact he k k0 k1 H' s' Q' fun H2 s2 => q _ H2 s2 fun k' e => by cases e; rfl
 ·rw [rangeV_num0] at pr
  rw [paired_tab pr] at hys
  exact fin acc H' hacc sm hys
end L2
namespace L2
open PySem PySem.Spec PyProof.Rows
end L2
namespace L2
open PySem PySem.Spec PyProof.Rows
end L2
namespace L2
end L2
namespace L2
open PySem PySem.Spec PyProof.Rows
theorem cutV_from (ns : List Int) (lo : Nat) : cutV (ns.map V.int) (some (lo : Int)) none = (ns.drop lo).map V.int := by
 unfold cutV
 rw [HT.sIx_nat, HT.sIx_none, mapI_len, <- List.map_drop, <- List.map_take]
 congr 1
 by_cases h : lo <= ns.length
 ·rw [Nat.min_eq_left h, List.take_of_length_le (by rw [List.length_drop]; exact Nat.le_refl _)]
 ·rw [show min lo ns.length = ns.length by (first | lia | omega), List.drop_length, List.drop_of_length_le (by (first | lia | omega)), List.take_nil]
end L2
namespace L2
open PySem PySem.Spec PyProof.Rows
end L2
namespace L2
open PySem PySem.Spec PyProof.Rows
end L2
namespace L2
open PySem PySem.Spec PyProof.Rows
structure TopX (mg : Str -> Option Value) : Prop where
 n_str : mg "str" = none
 n_repr : mg "repr" = none
 n_divmod : mg "divmod" = none
structure TopXK (K : PySem.W.Frag) : Prop where
 k_str : PySem.W.nsIn K mainGlobals "str" = some none
 k_repr : PySem.W.nsIn K mainGlobals "repr" = some none
 k_divmod : PySem.W.nsIn K mainGlobals "divmod" = some none
end L2
namespace L2
open PySem PySem.Spec PyProof.Rows
end L2
namespace L2
open PySem PySem.Spec PyProof.Rows
end L2
namespace L2
open PySem PySem.Spec PyProof.Rows
theorem Paired.append {α β : Type} {F : α -> β -> Prop} : ∀ {l1 l2 : List α} {v1 v2 : List β}, Paired F l1 v1 -> Paired F l2 v2 -> Paired F (l1 ++ l2) (v1 ++ v2)
 | _, _, _, _, .nil, h => h
 | _, _, _, _, .cons r t, h => .cons r (Paired.append t h)
end L2
namespace L2
open PySem PySem.Spec PyProof.Rows
end L2
namespace L2
open PySem PySem.Spec PyProof.Rows
end L2
namespace L2
open PySem PySem.Spec PyProof.Rows
section
variable {κ : Type} [DecidableEq κ]
noncomputable def valV (kvs : List (κ × V)) (k : κ) : Option V := (kvs.find? fun kv => decide (kv.1 = k)).map (·.2)
noncomputable def putK (kvs : List (κ × V)) (k : κ) (v : V) : List (κ × V) :=
 if (kvs.any fun kv => decide (kv.1 = k)) = true then kvs.map (fun kv => if kv.1 = k then (kv.1, v) else kv) else kvs ++ [(k, v)]
theorem valV_pos {p : κ × V} {r : List (κ × V)} {k : κ} (e : p.1 = k) : valV (p :: r) k = some p.2 := by simp [valV, List.find?_cons, e]
theorem valV_neg {p : κ × V} {r : List (κ × V)} {k : κ} (e : ¬ p.1 = k) : valV (p :: r) k = valV r k := by simp [valV, List.find?_cons, e]
theorem valV_any (k : κ) : ∀ kvs : List (κ × V), (kvs.any fun kv => decide (kv.1 = k)) = (valV kvs k).isSome
 | [] => rfl
 | p :: r => by
  rw [List.any_cons]
  by_cases e : p.1 = k
  ·simp only [valV_pos e, decide_eq_true e, Bool.true_or, Option.isSome_some]
  ·rw [valV_neg e, decide_eq_false e, Bool.false_or]; exact valV_any k r
theorem valV_map (k j : κ) (y : V) : ∀ kvs : List (κ × V), valV (kvs.map fun kv => if kv.1 = k then (kv.1, y) else kv) j = (valV kvs j).map fun x => if j = k then y else x
 | [] => rfl
 | p :: r => by
  have ih := valV_map k j y r
  rw [List.map_cons]
  by_cases h : p.1 = k
  ·rw [if_pos h]
   by_cases e : p.1 = j
   ·rw [valV_pos (p := (p.1, y)) e, valV_pos e, Option.map_some, if_pos (e.symm.trans h)]
   ·rw [valV_neg (p := (p.1, y)) e, valV_neg e, ih]
  ·rw [if_neg h]
   by_cases e : p.1 = j
   ·rw [valV_pos (p := p) e, valV_pos e, Option.map_some, if_neg (fun z => h (e.trans z))]
   ·rw [valV_neg (p := p) e, valV_neg e, ih]
theorem valV_snoc (k j : κ) (y : V) : ∀ kvs : List (κ × V), valV kvs k = none -> valV (kvs ++ [(k, y)]) j = if j = k then some y else valV kvs j
 | [], _ => by
  by_cases e : k = j
  ·rw [if_pos e.symm]; exact valV_pos (p := (k, y)) e
  ·rw [if_neg (fun z => e z.symm)]; exact valV_neg (p := (k, y)) e
 | p :: r, hn => by
  rw [List.cons_append]
  have hk : ¬ p.1 = k := fun z => by rw [valV_pos z] at hn; cases hn
  rw [valV_neg hk] at hn
  have ih := valV_snoc k j y r hn
  by_cases e : p.1 = j
  ·rw [valV_pos e, valV_pos e, if_neg (fun z => hk (e.trans z))]
  ·rw [valV_neg e, valV_neg e, ih]
theorem valV_put (kvs : List (κ × V)) (k j : κ) (y : V) : valV (putK kvs k y) j = if j = k then some y else valV kvs j := by
 unfold putK
 by_cases a : (kvs.any fun kv => decide (kv.1 = k)) = true
 ·rw [if_pos a, valV_map]
  rw [valV_any] at a
  by_cases e : j = k
  ·obtain ⟨x, hx⟩ := Option.isSome_iff_exists.mp a
   rw [if_pos e, e, hx, Option.map_some, if_pos rfl]
  ·rw [if_neg e]
   cases valV kvs j with
   | none => rfl
   | some x => rw [Option.map_some, if_neg e]
 ·rw [if_neg a]
  refine valV_snoc k j y kvs ?_
  rw [valV_any] at a
  cases q : valV kvs k with
  | none => rfl
  | some x => rw [q] at a; exact (a rfl).elim
theorem length_putK (kvs : List (κ × V)) (k : κ) (v : V) : (putK kvs k v).length <= kvs.length + 1 := by
 unfold putK
 split
 ·rw [List.length_map]; (first | lia | omega)
 ·rw [List.length_append, List.length_cons, List.length_nil]; (first | lia | omega)
theorem putK_new {kvs : List (κ × V)} {k : κ} (v : V) (h : valV kvs k = none) : putK kvs k v = kvs ++ [(k, v)] := by
 unfold putK
 rw [valV_any, h]
 exact if_neg (by decide)
theorem RelO.isSome_eq {o : Option V} {u : Option Value} (r : RelO o u) : o.isSome = u.isSome := by
 cases o with
 | none => cases u with
  | none => rfl
  | some _ => exact (show False from r).elim
 | some _ => cases u with
  | none => exact (show False from r).elim
  | some _ => rfl
theorem KV.val {kvs : List (κ × V)} {vs : List (κ × Value)} (r : KV kvs vs) (k : κ) : RelO (valV kvs k) (valueAt vs k) := by
 unfold KV at r
 induction r with
 | nil => exact True.intro
 | @cons p q ps qs h t ih =>
  obtain ⟨h1, h2⟩ := h
  by_cases e : p.1 = k
  ·have e' : q.1 = k := h1.symm.trans e
   have b : valueAt (q :: qs) k = some q.2 := by simp [valueAt, List.find?_cons, e']
   rw [valV_pos e, b]; exact h2
  ·have e' : ¬ q.1 = k := fun z => e (h1.trans z)
   have b : valueAt (q :: qs) k = valueAt qs k := by simp [valueAt, List.find?_cons, e']
   rw [valV_neg e, b]; exact ih
theorem KV.any {kvs : List (κ × V)} {vs : List (κ × Value)} (r : KV kvs vs) (k : κ) : (kvs.any fun kv => decide (kv.1 = k)) = vs.any fun kv => decide (kv.1 = k) := by
 unfold KV at r
 induction r with
 | nil => rfl
 | cons h t ih => rw [List.any_cons, List.any_cons, ih, h.1]
theorem KV.repl {kvs : List (κ × V)} {vs : List (κ × Value)} (r : KV kvs vs) (k : κ) {y : V} {u : Value} (ry : RelV y u) :
  KV (kvs.map fun kv => if kv.1 = k then (kv.1, y) else kv) (vs.map fun kv => if kv.1 = k then (kv.1, u) else kv) := by
 unfold KV at r ⊢
 induction r with
 | nil => exact .nil
 | @cons p q ps qs h t ih =>
  rw [List.map_cons, List.map_cons]
  refine .cons ?_ ih
  obtain ⟨h1, h2⟩ := h
  by_cases e : p.1 = k
  ·rw [if_pos e, if_pos (h1.symm.trans e)]; exact ⟨h1, ry⟩
  ·rw [if_neg e, if_neg (fun z => e (h1.trans z))]; exact ⟨h1, h2⟩
theorem KV.put {kvs : List (κ × V)} {vs : List (κ × Value)} (r : KV kvs vs) (k : κ) {y : V} {u : Value} (ry : RelV y u) : KV (putK kvs k y) (stored vs k u) := by
 unfold putK stored
 rw [r.any k]
 by_cases e : (vs.any fun kv => decide (kv.1 = k)) = true
 ·rw [if_pos e, if_pos e]; exact r.repl k ry
 ·rw [if_neg e, if_neg e]; exact Paired.snoc r ⟨rfl, ry⟩
theorem KV.length {kvs : List (κ × V)} {vs : List (κ × Value)} (r : KV kvs vs) : kvs.length = vs.length := Paired.length r
end
theorem kV_is {P : Program} {w : World} {k : Key} {u : Value} (r : RelV (kV k) u) : (mixKind P w).is k u = true := by
 cases k with
 | inl i => obtain ⟨t, e⟩ := (show ∃ t, u = Value.int i t from r); subst e; exact mixKind_int P w i t
 | inr x => obtain ⟨t, e⟩ := (show ∃ t, u = Value.str x t from r); subst e; exact mixKind_str P w x t
theorem items_are {P : Program} {w : World} : ∀ {ks : List Key} {us : List Value}, Vals (ks.map kV) us -> ItemsAre (mixKind P w) ks us
 | [], _, r => by rw [List.map_nil] at r; cases r; exact .nil
 | k :: ks, _, r => by
  rw [List.map_cons] at r
  cases r with
  | cons h t => exact .cons (kV_is h) (items_are t)
noncomputable abbrev KT (H : Hp) : List (List Key × V) -> List (List Key × Addr × Value) -> Prop := Paired fun p q => p.1 = q.1 /\ H q.2.1 = some (.tup (p.1.map kV)) /\ RelV p.2 q.2.2
theorem KT.val {H : Hp} {kvs : List (List Key × V)} {xs : List (List Key × Addr × Value)} (r : KT H kvs xs) (k : List Key) : RelO (valV kvs k) ((atKey xs k).map (·.2)) := by
 induction r with
 | nil => exact True.intro
 | @cons p q ps qs h t ih =>
  obtain ⟨h1, _, h2⟩ := h
  by_cases e : p.1 = k
  ·have e' : q.1 = k := h1.symm.trans e
   have b : atKey (q :: qs) k = some q.2 := by simp [atKey, List.find?_cons, e']
   rw [valV_pos e, b]; exact h2
  ·have e' : ¬ q.1 = k := fun z => e (h1.trans z)
   have b : atKey (q :: qs) k = atKey qs k := by simp [atKey, List.find?_cons, e']
   rw [valV_neg e, b]; exact ih
theorem KT.repl {H : Hp} {kvs : List (List Key × V)} {xs : List (List Key × Addr × Value)} (r : KT H kvs xs) (k : List Key) {y : V} {u : Value} (ry : RelV y u) :
  KT H (kvs.map fun kv => if kv.1 = k then (kv.1, y) else kv) (xs.map (putAt k u)) := by
 induction r with
 | nil => exact .nil
 | @cons p q ps qs h t ih =>
  rw [List.map_cons, List.map_cons]
  refine .cons ?_ ih
  obtain ⟨h1, h2, h3⟩ := h
  unfold putAt
  by_cases e : p.1 = k
  ·rw [if_pos e, if_pos (h1.symm.trans e)]; exact ⟨h1, h2, ry⟩
  ·rw [if_neg e, if_neg (fun z => e (h1.trans z))]; exact ⟨h1, h2, h3⟩
theorem KT.put {H : Hp} {kvs : List (List Key × V)} {xs : List (List Key × Addr × Value)} (r : KT H kvs xs) (k : List Key) {b : Addr} {y : V} {u : Value} (hb : H b = some (.tup (k.map kV))) (ry : RelV y u) :
  KT H (putK kvs k y) (storedH xs k b u) := by
 have e : (kvs.any fun kv => decide (kv.1 = k)) = (atKey xs k).isSome := by
  rw [valV_any, (r.val k).isSome_eq, Option.isSome_map]
 unfold putK storedH
 rw [e]
 by_cases q : (atKey xs k).isSome = true
 ·rw [if_pos q, if_pos q]; exact r.repl k ry
 ·rw [if_neg q, if_neg q]; exact Paired.snoc r ⟨rfl, hb, ry⟩
theorem KT.keeps {H H' : Hp} {kvs : List (List Key × V)} {xs : List (List Key × Addr × Value)} (r : KT H kvs xs) (ht : ∀ b ys, H b = some (.tup ys) -> H' b = some (.tup ys)) : KT H' kvs xs :=
 Paired.mapP r fun _ _ z => ⟨z.1, ht _ _ z.2.1, z.2.2⟩
section
variable {P : Program} {w : World} {H : Hp} {h : Heap} {a : Addr}
theorem rd_of {u : HO} (ok : HOk P w H h) (e : Rd H a u) : ObjOk P w H h a u := e.ok ok
theorem dk_rd {kvs : List (Key × V)} (ok : HOk P w H h) (e : Rd H a (.dK kvs)) : kvs.length <= sizeLine /\ (a == sysModules) = false /\ ∃ vs, KV kvs vs /\ h.DictOf (mixKind P w) a vs :=
 show ObjOk P w H h a (.dK kvs) from rd_of ok e
theorem dk_of {kvs : List (Key × V)} (ok : HOk P w H h) (e : H a = some (.dK kvs)) : kvs.length <= sizeLine /\ (a == sysModules) = false /\ ∃ vs, KV kvs vs /\ h.DictOf (mixKind P w) a vs := dk_rd ok (.inl e)
theorem key_of {ks : List Key} (ok : HOk P w H h) (e : H a = some (.tup (ks.map kV))) : (tupleKind (mixKind P w)).is h ks a := by
 obtain ⟨_, its, r, o, h1, h2, ⟨n, h3⟩, _⟩ := (show ObjOk P w H h a (.tup (ks.map kV)) from ok a _ e)
 exact ⟨o, its.toArray, n, h1, h2, h3, by simpa using items_are r⟩
theorem dt_rd {kvs : List (List Key × V)} (ok : HOk P w H h) (e : Rd H a (.dT kvs)) : kvs.length <= sizeLine /\ (a == sysModules) = false /\
  ∃ xs, KT H kvs xs /\ h.DictOfH (tupleKind (mixKind P w)) a xs := by
 obtain ⟨z, y, xs, r, o, es, ep, h1, h2, h3, h4, h5⟩ := (show ObjOk P w H h a (.dT kvs) from rd_of ok e)
 refine ⟨z, y, xs, r, o, es, ep, h1, h2, h3, h4, fun x hx => ?_, h5⟩
 have all : ∀ {l : List (List Key × V)} {m : List (List Key × Addr × Value)}, KT H l m -> ∀ x ∈ m, (tupleKind (mixKind P w)).is h x.1 x.2.1 := by
  intro l m q
  induction q with
  | nil => intro x hx; exact nomatch hx
  | @cons p q ps qs hq t ih =>
   intro x hx
   rcases List.mem_cons.mp hx with e | hx
   ·subst e
    exact key_of ok (by rw [<- hq.1]; exact hq.2.1)
   ·exact ih x hx
 exact all r x hx
theorem dt_of {kvs : List (List Key × V)} (ok : HOk P w H h) (e : H a = some (.dT kvs)) : kvs.length <= sizeLine /\ (a == sysModules) = false /\
  ∃ xs, KT H kvs xs /\ h.DictOfH (tupleKind (mixKind P w)) a xs := dt_rd ok (.inl e)
end
noncomputable def DGet (H : Hp) (a : Addr) (y : V) (r : Option V) : Prop :=
 (∃ kvs k, Rd H a (.dK kvs) /\ y = kV k /\ r = valV kvs k) ∨ ∃ kvs k b, Rd H a (.dT kvs) /\ y = .ref b /\ H b = some (.tup (k.map kV)) /\ r = valV kvs k
noncomputable def DPut (H : Hp) (a : Addr) (y v : V) (H' : Hp) : Prop :=
 (∃ kvs k, H a = some (.dK kvs) /\ y = kV k /\ kvs.length < sizeLine /\ H' = upd H a (.dK (putK kvs k v))) ∨
 ∃ kvs k b, H a = some (.dT kvs) /\ y = .ref b /\ H b = some (.tup (k.map kV)) /\ kvs.length < sizeLine /\ H' = upd H a (.dT (putK kvs k v))
theorem DGet.t {H : Hp} {a b : Addr} {kvs : List (List Key × V)} {k : List Key} (e : H a = some (.dT kvs)) (eb : H b = some (.tup (k.map kV))) : DGet H a (.ref b) (valV kvs k) := .inr ⟨kvs, k, b, .inl e, rfl, eb, rfl⟩
theorem DPut.t {H : Hp} {a b : Addr} {kvs : List (List Key × V)} {k : List Key} {v : V} (e : H a = some (.dT kvs)) (eb : H b = some (.tup (k.map kV))) (hl : kvs.length < sizeLine) :
  DPut H a (.ref b) v (upd H a (.dT (putK kvs k v))) := .inr ⟨kvs, k, b, e, rfl, eb, hl, rfl⟩
section
variable {X : Cx} {pins : List (Addr × Obj)} {σ : St} {H : Hp} {s : Shared} {a : Addr} {y v : V} {u r : Value} {o : Option V} {A : Around} {E : Value -> Shared -> Prop}
theorem Inv.big (I : Inv X pins σ H s) : sysModules < s.heap.objs.size := by
 have h : mainGlobals < s.heap.objs.size := (I.mod.glob.keeps I.bk).lt
 exact Nat.lt_trans (by decide) h
theorem d_getItem {Q : Value -> Shared -> Prop} (hu : A.units + 1 < cLine) (I : Inv X pins σ H s) (g : DGet H a y (some v)) (ry : RelV y u) (h : ∀ w' s', Inv X pins σ H s' -> RelV v w' -> Q w' s') :
  wpAny (model X.prog X.w) A (getItem (.ref a) u) Q E s := by
 rcases g with ⟨kvs, k, e, ey, l⟩ | ⟨kvs, k, b, e, ey, eb, l⟩
 ·subst ey
  obtain ⟨z, hd, vs, rel, dd⟩ := dk_rd I.hok e
  obtain ⟨w', hw, rw'⟩ := RelO.some_of (v := v) (o := valueAt vs k) (by rw [l]; exact rel.val k)
  exact wpAny_getItem_of (kV_is ry) dd.mapOf hw (h w' _ (I.tok _) rw')
 ·subst ey
  cases (show u = Value.ref b from ry)
  obtain ⟨z, hd, xs, rel, dd⟩ := dt_rd I.hok e
  obtain ⟨w', hw, rw'⟩ := RelO.some_of (v := v) (o := (atKey xs k).map (·.2)) (by rw [l]; exact rel.val k)
  obtain ⟨p, hp, hp2⟩ := Option.map_eq_some_iff.mp hw
  refine wpAny_getItem_heap (tupleKind_room_in1 hu) (key_of I.hok eb) dd hp ?_
  rw [hp2]
  exact h w' _ (I.tok _) rw'
theorem d_notIn {Q : Value -> Shared -> Prop} (hu : A.units + 1 < cLine) (I : Inv X pins σ H s) (g : DGet H a y o) (ry : RelV y u) (h : ∀ s', Inv X pins σ H s' -> Q (.bool (!o.isSome)) s') :
  wpAny (model X.prog X.w) A (compareOp .NotIn u (.ref a)) Q E s := by
 rcases g with ⟨kvs, k, e, ey, l⟩ | ⟨kvs, k, b, e, ey, eb, l⟩
 ·subst ey
  obtain ⟨z, hd, vs, rel, dd⟩ := dk_rd I.hok e
  refine wpAny_notIn_of (kV_is ry) hd dd.mapOf ?_
  rw [<- (rel.val k).isSome_eq, <- l]
  exact h _ (I.tok _)
 ·subst ey
  cases (show u = Value.ref b from ry)
  obtain ⟨z, hd, xs, rel, dd⟩ := dt_rd I.hok e
  refine wpAny_notIn_heap (tupleKind_room_in1 hu) (key_of I.hok eb) hd dd ?_
  have q := (rel.val k).isSome_eq
  rw [Option.isSome_map] at q
  rw [<- q, <- l]
  exact h _ (I.tok _)
theorem d_write {h' : Heap} {t' : Nat} {ob : HO} (I : Inv X pins σ H s) (mu : Mut (H a)) (hs : Heap.SameBut a s.heap h') (he : ∃ q, h'.get? a = some q) (new : ObjOk X.prog X.w (upd H a ob) h' a ob) :
  Inv X pins σ (upd H a ob) { s with heap := h', toks := t' } :=
 I.write (x := a) (e := a) mu (.inl rfl) (fun b q hb z => (hs.2 b hb).trans z) he new
theorem dk_new {P : Program} {w : World} {H' : Hp} {h' : Heap} {kvs : List (Key × V)} {vs : List (Key × Value)} (z : kvs.length <= sizeLine) (hd : (a == sysModules) = false) (rel : KV kvs vs) (dd : h'.DictOf (mixKind P w) a vs) :
  ObjOk P w H' h' a (.dK kvs) := ⟨z, hd, vs, rel, dd⟩
theorem d_setItem {H' : Hp} {Q : Unit -> Shared -> Prop} (hu : A.units + 1 < cLine) (I : Inv X pins σ H s) (g : DPut H a y v H') (ry : RelV y u) (rv : RelV v r) (h : ∀ s', Inv X pins σ H' s' -> Q () s') :
  wpAny (model X.prog X.w) A (setItem (.ref a) u r) Q E s := by
 rcases g with ⟨kvs, k, e, ey, l, eH⟩ | ⟨kvs, k, b, e, ey, eb, l, eH⟩
 ·subst ey eH
  obtain ⟨z, hd, vs, rel, dd⟩ := dk_of I.hok e
  have hz : vs.length <= sizeLine := by rw [<- rel.length]; exact z
  have hl : (putK kvs k v).length <= sizeLine := by have := length_putK kvs k v; (first | lia | omega)
  refine wpAny_setItem_pairs (hsz := hz) (kV_is ry) dd fun h' dd' hs => h _ ?_
  have he : ∃ q, h'.get? a = some q := let ⟨q, _, _, hq, _⟩ := dd'; ⟨q, hq⟩
  exact d_write I (by rw [e]; exact True.intro) hs he (dk_new hl hd (rel.put k rv) dd')
 ·subst ey eH
  cases (show u = Value.ref b from ry)
  obtain ⟨z, hd, xs, rel, dd⟩ := dt_of I.hok e
  have hz : xs.length <= sizeLine := by rw [<- Paired.length rel]; exact z
  have hl : (putK kvs k v).length <= sizeLine := by have := length_putK kvs k v; (first | lia | omega)
  refine wpAny_setItem_heap (hsz := hz) (tupleKind_room_in1 hu) (key_of I.hok eb) dd fun h' dd' hs => h _ ?_
  obtain ⟨q, es, ep, hq, h2, h3, h4, _, h5⟩ := dd'
  refine d_write I (by rw [e]; exact True.intro) hs ⟨q, hq⟩ ⟨hl, hd, _, (rel.put k eb rv).keeps fun c ys ec => ?_, q, es, ep, hq, h2, h3, h4, h5⟩
  rw [upd_ne (ne_of ec e (fun z => nomatch z))]
  exact ec
end
section
variable {X : Cx} {pins : List (Addr × Obj)} {σ : St} {H : Hp} {s : Shared} {a : Addr} {kvs : List (Key × V)} {k : Key} {u : Value} {A : Around} {E : Value -> Shared -> Prop}
end
noncomputable def NoSl (i : Expr) : Prop := ∀ ov iv, subscripted i false ov iv = operate [ov, iv] (getItem ov iv)
theorem subD_of {prog : Program} {w : World} {A : Around} {E : Value -> Shared -> Prop} {s : Shared} {env : Env} {value slice : Expr} {pos : Pos} {T id : String} {Q : Value -> Shared -> Prop}
  (hl : typeLookup (.type T) "__getitem__" = pure (some (.builtin id))) (hs : NoSl slice)
  (h : wpAny (model prog w) A (eval value env) (fun o s₁ => wpAny (model prog w) A (eval slice env) (fun i s₂ => s₂.TypeIs o T /\ wpAny (model prog w) A (getItem o i) Q E s₂) E s₁) E s) :
  wpAny (model prog w) A (eval (.Subscript value slice pos) env) Q E s := by
 refine Subscript_ (wpAny_mono h (fun o s₁ h₁ => wpAny_mono h₁ (fun i s₂ h₂ => ?_) fun _ _ x => x) fun _ _ x => x)
 obtain ⟨hT, h₂⟩ := h₂
 unfold subscriptTail
 refine wpAny_bind ?_
 rw [getitemInPython_of_ne hT.not_modules]
 refine wpAny_bind (wpAny_specialOf hT hl ?_)
 have fin : wpAny (model prog w) A (subscripted slice false o i) (fun r s₃ => wpAny (model prog w) A (letTemporaryGo value o r >>= fun _ => pure r) Q E s₃) E s₂ := by
  rw [hs o i]
  exact wpAny_operating (wpAny_mono h₂ (fun r s₃ h₃ => wpAny_bind (wpAny_letTemporaryGo (wpAny_pure h₃))) fun _ _ x => x)
 first
  | exact wpAny_pure (wpAny_bind fin)
  | exact wpAny_bind (wpAny_pure (wpAny_bind fin))
  | exact wpAny_bind fin
theorem dict_typeIs {X : Cx} {pins : List (Addr × Obj)} {σ : St} {H : Hp} {s : Shared} {a : Addr} {y : V} {o : Option V} (I : Inv X pins σ H s) (g : DGet H a y o) : s.TypeIs (.ref a) "dict" := by
 rcases g with ⟨kvs, k, e, _, _⟩ | ⟨kvs, k, b, e, _, _, _⟩
 ·obtain ⟨_, _, vs, _, dd⟩ := dk_rd I.hok e
  exact dd.typeIs
 ·obtain ⟨_, _, xs, _, dd⟩ := dt_rd I.hok e
  exact dd.typeIs
noncomputable def tDGet (td ty : TE) : TE := fun σ H Q => td σ H fun x H1 => ty σ H1 fun y H2 => ∃ a v, x = .ref a /\ DGet H2 a y (some v) /\ Q v H2
noncomputable def tDNotIn (ty td : TE) : TE := fun σ H Q => ty σ H fun y H1 => td σ H1 fun x H2 => ∃ a o, x = .ref a /\ DGet H2 a y o /\ Q (.bl (!o.isSome)) H2
noncomputable def sDPut (td ty tv : TE) : TS := fun D σ H => tv σ H fun v H1 => td σ H1 fun x H2 => ty σ H2 fun y H3 => ∃ a H4, x = .ref a /\ DPut H3 a y v H4 /\ D.nx σ H4
section
variable {X : Cx} {o i e value : Expr} {pos pos' tpos : Pos} {td ty tv : TE}
theorem pe_dget (hu : X.A.units + 1 < cLine) (ho : PE X o td) (hi : PE X i ty) (hs : NoSl i) : PE X (.Subscript o i pos) (tDGet td ty) := by
 intro pins s σ H Q I h
 refine subD_of PySem.F.slot_dict_getitem.lookup hs (thn (ho pins s σ H _ I h) fun u s1 ⟨x, H1, I1, rx, q1⟩ => thn (hi pins s1 σ H1 _ I1 q1) fun iv s2 ⟨y, H2, I2, ry, a, v, ex, g, q2⟩ => ?_)
 subst ex
 obtain rfl : u = Value.ref a := rx
 exact ⟨dict_typeIs I2 g, d_getItem hu I2 g ry fun w' s3 I3 rw' => ⟨v, H2, I3, rw', q2⟩⟩
theorem pc_dnotin (hu : X.A.units + 1 < cLine) (hi : PE X i ty) (ho : PE X o td) : PC X .NotIn i o (tDNotIn ty td) := by
 intro pins s σ H Q I h
 refine thn (hi pins s σ H _ I h) fun iv s1 ⟨y, H1, I1, ry, q1⟩ => thn (ho pins s1 σ H1 _ I1 q1) fun u s2 ⟨x, H2, I2, rx, a, ov, ex, g, q2⟩ => ?_
 subst ex
 obtain rfl : u = Value.ref a := rx
 exact d_notIn hu I2 g ry fun s3 I3 => ⟨.bl (!ov.isSome), H2, I3, rfl, q2⟩
theorem ps_dput (hu : X.A.units + 1 < cLine) (ho : PE X o td) (hi : PE X i ty) (hv : PE X value tv) (hs : swapsWith value (some (.Subscript o i pos')) pos.line X.env = pure false) :
  PS X (.Assign [.Subscript o i pos'] value pos) (sDPut td ty tv) := by
 intro pins s σ H D I h
 refine wpAny_Assign_Subscript (thn (hv pins s σ H _ I h) fun r s1 ⟨v, H1, I1, rv, q1⟩ => thn (ho pins s1 σ H1 _ I1 q1) fun u s2 ⟨x, H2, I2, rx, q2⟩ => thn (hi pins s2 σ H2 _ I2 q2) fun iv s3 ⟨y, H3, I3, ry, a, H4, ex, g, q3⟩ => ?_) hs
 subst ex
 obtain rfl : u = Value.ref a := rx
 exact d_setItem hu I3 g ry rv fun s4 I4 => ⟨σ, H4, I4, q3⟩
end
theorem dt_empty {P : Program} {w : World} {H : Hp} (h : Heap) (hb : sysModules < h.objs.size) : ObjOk P w H (h.push { cls := .type "dict", data := .dict #[] }) h.objs.size (.dT []) :=
 ⟨Nat.zero_le _, beq_eq_false_iff_ne.mpr (Ne.symm (Nat.ne_of_lt hb)), [], .nil, _, #[], 0, Heap.get?_push_size _ rfl, ⟨rfl, rfl, rfl⟩, rfl, rfl, List.nodup_nil⟩
noncomputable def tDNewT : TE := fun _ H Q => ∀ p, H p = none -> Q (.ref p) (upd H p (.dT []))
section
variable {X : Cx} {pos : Pos}
theorem pe_dnewT : PE X (.Dict [] [] pos) tDNewT := fun pins s σ H Q I h =>
 wpAny_Dict_empty ⟨.ref s.heap.objs.size, _, I.laid (a := s.heap.objs.size) (o := .dT []) (t' := s.toks) (fun _ _ q => Heap.get?_push_of_some _ q) (Nat.le_refl _) (dt_empty s.heap I.big), rfl, h _ (I.hok.fresh (Nat.le_refl _))⟩
end
structure M1 (X : Cx) (o : Expr) (m : Str) (apos : Pos) (e : Expr) (cpos : Pos) : Prop where
 base : attributeBase o m X.env (eval o X.env) = eval o X.env
 few : ((backTo cpos (starEach [e] X.env)).all (fun x => !x.1) && (backToKw cpos (keywordEach [] X.env)).all (fun x => x.1.isSome)
  && decide (([e] : List Expr).length + ([] : List Keyword).length + (if ([] : List Keyword).isEmpty then 0 else 1) < 30)) = true
 line : (apos.endLine == cpos.line) = true
 trees : backTo cpos (starEach [e] X.env) = [(false, eval e X.env)]
structure M2 (X : Cx) (o : Expr) (m : Str) (apos : Pos) (e f : Expr) (cpos : Pos) : Prop where
 base : attributeBase o m X.env (eval o X.env) = eval o X.env
 few : ((backTo cpos (starEach [e, f] X.env)).all (fun x => !x.1) && (backToKw cpos (keywordEach [] X.env)).all (fun x => x.1.isSome)
  && decide (([e, f] : List Expr).length + ([] : List Keyword).length + (if ([] : List Keyword).isEmpty then 0 else 1) < 30)) = true
 line : (apos.endLine == cpos.line) = true
 trees : backTo cpos (starEach [e, f] X.env) = [(false, eval e X.env), (false, eval f X.env)]
section
variable {X : Cx} {pins : List (Addr × Obj)} {σ : St} {H : Hp} {s : Shared} {a : Addr} {y d : V} {u r : Value} {o : Option V} {A : Around} {E : Value -> Shared -> Prop}
end
section
variable {X : Cx} {o e f : Expr} {apos cpos : Pos} {td ty tx : TE}
end
section
variable {X : Cx} {pins : List (Addr × Obj)} {σ : St} {H : Hp} {s : Shared} {a : Addr} {kvs : List (Key × V)} {A : Around} {E : Value -> Shared -> Prop}
end
section
variable {X : Cx} {pins : List (Addr × Obj)} {σ : St} {H : Hp} {s : Shared} {a : Addr} {y : V} {u : Value} {A : Around} {E : Value -> Shared -> Prop}
end
end L2
namespace L2
open PySem PySem.Spec PyProof.Rows
noncomputable def kD : Key -> PyData
 | .inl i => .int i
 | .inr x => .str x
mutual
inductive IsY (S : Addr -> Prop) (H : Hp) : V -> PyData -> Prop
 | non : IsY S H .non .none
 | bl (b : Bool) : IsY S H (.bl b) (.bool b)
 | int (i : Int) : IsY S H (.int i) (.int i)
 | str (x : Str) : IsY S H (.str x) (.str x)
 | tup {a : Addr} {vs : List V} {ds : List PyData} : H a = some (.tup vs) -> IsAllY S H vs ds -> IsY S H (.ref a) (.tuple ds)
 | lst {a : Addr} {vs : List V} {ds : List PyData} : H a = some (.lst vs) -> S a -> IsAllY S H vs ds -> IsY S H (.ref a) (.list ds)
 | d0 {a : Addr} : H a = some (.dK []) -> IsY S H (.ref a) (.dict [])
 | d1 {a : Addr} {k : Key} {v : V} {d : PyData} : H a = some (.dK [(k, v)]) -> IsY S H v d -> IsY S H (.ref a) (.dict [(kD k, d)])
inductive IsAllY (S : Addr -> Prop) (H : Hp) : List V -> List PyData -> Prop
 | nil : IsAllY S H [] []
 | cons {v : V} {vs : List V} {d : PyData} {ds : List PyData} : IsY S H v d -> IsAllY S H vs ds -> IsAllY S H (v :: vs) (d :: ds)
end
noncomputable def kinds7 : List String := ["NoneType", "bool", "int", "str", "list", "tuple", "dict"]
theorem kit7 {K : PySem.W.Frag} {t : String} (h : t ∈ kinds7) :
  PySem.W.kitOne K (.type t) (.type "int") = some (t == "bool" || t == "int") /\ PySem.W.kitOne K (.type t) (.type "bool") = some (t == "bool") /\ PySem.W.kitOne K (.type t) (.type "tuple") = some (t == "tuple") := by
 have : t = "NoneType" ∨ t = "bool" ∨ t = "int" ∨ t = "str" ∨ t = "list" ∨ t = "tuple" ∨ t = "dict" := by simpa [kinds7] using h
 rcases this with rfl | rfl | rfl | rfl | rfl | rfl | rfl <;> exact ⟨kit_tt (by decide +kernel), kit_tt (by decide +kernel), kit_tt (by decide +kernel)⟩
section
variable {X : Cx} {pins : List (Addr × Obj)} {σ : St} {H : Hp} {s : Shared}
end
end L2
namespace L2
open PySem PySem.Spec PyProof.Rows
end L2
namespace L2
open PySem PySem.Spec PyProof.Rows
end L2
namespace L2
open PySem PySem.Spec PyProof.Rows
end L2
namespace L2
open PySem PySem.Spec PyProof.Rows
end L2
namespace L2
open PySem PySem.Spec PyProof.Rows
theorem at_list {ns : List Int} {d : Int} (h0 : 0 <= d) (h1 : d < ns.length) : ∃ n ∈ ns, atI (ns.map V.int) d = some (.int n) := by
 have hd : d.toNat < ns.length := by (first | lia | omega)
 refine ⟨ns[d.toNat], List.getElem_mem _, ?_⟩
 have := atI_nat (xs := ns.map V.int) (j := d.toNat) (v := .int ns[d.toNat]) (by rw [List.getElem?_map, List.getElem?_eq_getElem hd]; rfl)
 rwa [show ((d.toNat : Nat) : Int) = d by (first | lia | omega)] at this
end L2
namespace L2
open PySem PySem.Spec PyProof.Rows
end L2
namespace L2
open PySem PySem.Spec PyProof.Rows
open Classical in
theorem mapI_inj : ∀ {ns ms : List Int}, ns.map V.int = ms.map V.int -> ns = ms
 | [], [], _ => rfl
 | [], _ :: _, h => by simp at h
 | _ :: _, [], h => by simp at h
 | n :: ns, m :: ms, h => by
  simp only [List.map_cons, List.cons.injEq, V.int.injEq] at h
  rw [h.1, mapI_inj h.2]
noncomputable def Kn (K : PySem.W.Frag) (H : Hp) (y : V) : Prop := ∃ t : String, TyOf K H y (.type t) /\ t ∈ kinds7
theorem tyI {K : PySem.W.Frag} {H : Hp} {y : V} {t : String} (h : TyOf K H y (.type t)) : t = "int" ↔ ∃ n : Int, y = .int n := by
 cases h <;> simp
noncomputable def isIv : V -> Bool
 | .int _ => true
 | _ => false
noncomputable def spWhA (K : PySem.W.Frag) : Sp := fun vs H Q _ => ∃ x, vs = [x] /\ Kn K H x /\ Q (.bl (isIv x)) H
theorem isIv_iff {y : V} : isIv y = true ↔ ∃ n : Int, y = .int n := by
 cases y <;> simp [isIv]
end L2
namespace L2
open PySem PySem.Spec PyProof.Rows
noncomputable def lit : Nat -> Expr -> Option PyData
 | 0, _ => none
 | _ + 1, .Constant .none _ _ => some .none
 | _ + 1, .Constant (.bool b) _ _ => some (.bool b)
 | _ + 1, .Constant (.int i) _ _ => some (.int i)
 | _ + 1, .Constant (.str x) _ _ => some (.str x)
 | _ + 1, .UnaryOp .USub (.Constant (.int i) _ _) _ => some (.int (-i))
 | n + 1, .Tuple es _ _ => if es.length <= 100 then (es.mapM (lit n)).map PyData.tuple else none
 | n + 1, .List es _ => if es.length <= 100 then (es.mapM (lit n)).map PyData.list else none
 | _ + 1, .Dict [] [] _ => some (.dict [])
 | _ + 1, _ => none
end L2
namespace L2
open PySem PySem.Spec PyProof.Rows
noncomputable def risL : List Int -> Bool
 | a :: b :: r => decide (a < b) && risL (b :: r)
 | _ => true
theorem call_len_seqKY {X : Cx} (K : PySem.W.Frag) (hK : X.K = K) : CallR X (.builtin "len") (fun xs H Q => ∃ p ys, xs = [.ref p] /\ (SqL K H p ys ∨ SqT K H p ys) /\ Q (.int ys.length) H) := hK ▸ call_len_seq
end L2
namespace Srt
open PySem PyProof.Rows
section
variable {M : Model} {A : Around} {E : Value -> Shared -> Prop} {s : Shared}
end
end Srt
namespace Srt
open PySem PyProof.Rows
end Srt
namespace Srt
open PySem PyProof.Rows
section
variable {O : KeyOrd} (kf : Keyed -> O.α)
noncomputable def Up (l : List Keyed) : Prop := l.Pairwise fun p q => O.kle (kf p) (kf q)
structure Way (a b out : Array Keyed) (ia ib : Nat) : Prop where
 perm : out.toList.Perm (a.toList.take ia ++ b.toList.take ib)
 up : Up kf out.toList
 la : ∀ p ∈ out.toList, ∀ q, a[ia]? = some q -> O.kle (kf p) (kf q)
 lb : ∀ p ∈ out.toList, ∀ q, b[ib]? = some q -> O.kle (kf p) (kf q)
variable {kf}
end
end Srt
namespace Srt
open PySem PyProof.Rows
section
variable {M : Model} {A : Around} {E : Value -> Shared -> Prop} {s : Shared}
structure Cmp (M : Model) (A : Around) (E : Value -> Shared -> Prop) (s : Shared) (kd : SortKind) (O : KeyOrd) (kf : Keyed -> O.α) (okk : Keyed -> Prop) : Prop where
 lt : ∀ (x y : Keyed) (st : SortSt) (Q : Option Bool -> SortSt -> Prop), okk x -> okk y -> kindOf st = kd -> Q (some (O.blt (kf x) (kf y))) st -> wpS M A E s (lt' x y) Q st
variable {O : KeyOrd} {kf : Keyed -> O.α} {okk : Keyed -> Prop} {kd : SortKind}
noncomputable def RunUp (kf : Keyed -> O.α) (a : Array Keyed) (lo hi : Nat) : Prop := ∀ (i j : Nat) (p q : Keyed), lo <= i -> i <= j -> j < hi -> a[i]? = some p -> a[j]? = some q -> O.kle (kf p) (kf q)
end
end Srt
namespace Srt
open PySem PyProof.Rows
section
variable {M : Model} {A : Around} {E : Value -> Shared -> Prop} {s : Shared}
variable {O : KeyOrd} {kf : Keyed -> O.α} {okk : Keyed -> Prop} {kd : SortKind}
end
end Srt
namespace Srt
open PySem PyProof.Rows
section
variable {O : KeyOrd} (kf : Keyed -> O.α)
structure WayH (a b out : Array Keyed) (na nb : Nat) : Prop where
 perm : out.toList.reverse.Perm (a.toList.drop na ++ b.toList.drop nb)
 up : Up kf out.toList.reverse
 la : ∀ p ∈ out.toList, ∀ q ∈ a.toList.take na, O.kle (kf q) (kf p)
 lb : ∀ p ∈ out.toList, ∀ q ∈ b.toList.take nb, O.kle (kf q) (kf p)
variable {kf}
end
end Srt
namespace Srt
open PySem PyProof.Rows
section
variable {M : Model} {A : Around} {E : Value -> Shared -> Prop} {s : Shared}
variable {O : KeyOrd} {kf : Keyed -> O.α} {okk : Keyed -> Prop} {kd : SortKind}
end
end Srt
namespace Srt
open PySem PyProof.Rows
noncomputable def put (m : List Keyed) (at_ : Nat) (a : Array Keyed) : Array Keyed := m.zipIdx.foldl (fun a pj => a.setIfInBounds (at_ + pj.2) pj.1) a
end Srt
namespace Srt
open PySem PyProof.Rows
section
variable {O : KeyOrd} {kf : Keyed -> O.α}
end
end Srt
namespace Srt
open PySem PyProof.Rows
section
variable {O : KeyOrd} {kf : Keyed -> O.α}
end
end Srt
namespace Srt
open PySem PyProof.Rows
section
variable {M : Model} {A : Around} {E : Value -> Shared -> Prop} {s : Shared} {O : KeyOrd} {kf : Keyed -> O.α} {okk : Keyed -> Prop} {kd : SortKind}
structure Wk (kd : SortKind) (a0 : Array Keyed) (lo : Nat) (pd : Array (Nat × Nat × Nat)) (st : SortSt) : Prop where
 perm : (arrOf st).Perm a0
 kind : kindOf st = kd
 failed : failedOf st = none
 pend : pendingOf st = pd
 pre : ∀ i, i < lo -> (arrOf st)[i]? = a0[i]?
variable {a0 : Array Keyed} {lo : Nat} {pd : Array (Nat × Nat × Nat)} {st : SortSt}
end
end Srt
namespace Srt
open PySem PyProof.Rows
section
variable {M : Model} {A : Around} {E : Value -> Shared -> Prop} {s : Shared} {O : KeyOrd} {kf : Keyed -> O.α} {okk : Keyed -> Prop} {kd : SortKind} {a0 : Array Keyed} {lo : Nat} {pd : Array (Nat × Nat × Nat)} {st : SortSt}
end
end Srt
namespace Srt
open PySem PyProof.Rows
section
variable {M : Model} {A : Around} {E : Value -> Shared -> Prop} {s : Shared} {O : KeyOrd} {kf : Keyed -> O.α} {okk : Keyed -> Prop} {kd : SortKind} {a0 : Array Keyed} {lo : Nat} {pd : Array (Nat × Nat × Nat)} {st : SortSt}
end
end Srt
namespace Srt
open PySem PyProof.Rows
section
variable {M : Model} {A : Around} {E : Value -> Shared -> Prop} {s : Shared} {O : KeyOrd} {kf : Keyed -> O.α} {okk : Keyed -> Prop} {kd : SortKind} {st : SortSt}
end
end Srt
namespace Srt
open PySem PyProof.Rows
noncomputable def Ch : Nat -> List (Nat × Nat × Nat) -> Nat -> Prop
 | s, [], e => s = e
 | s, x :: r, e => x.1 = s /\ 1 <= x.2.1 /\ Ch (s + x.2.1) r e
section
variable {M : Model} {A : Around} {E : Value -> Shared -> Prop} {s : Shared} {O : KeyOrd} {kf : Keyed -> O.α} {okk : Keyed -> Prop} {kd : SortKind} {a0 : Array Keyed} {lo : Nat} {st : SortSt}
structure Stk (kf : Keyed -> O.α) (kd : SortKind) (a0 : Array Keyed) (lo : Nat) (st : SortSt) : Prop where
 perm : (arrOf st).Perm a0
 kind : kindOf st = kd
 failed : failedOf st = none
 ch : Ch 0 (pendingOf st).toList lo
 runs : ∀ x ∈ (pendingOf st).toList, RunUp kf (arrOf st) x.1 (x.1 + x.2.1)
end
end Srt
namespace Srt
open PySem PyProof.Rows
section
variable {M : Model} {A : Around} {E : Value -> Shared -> Prop} {s : Shared} {O : KeyOrd} {kf : Keyed -> O.α} {okk : Keyed -> Prop} {kd : SortKind} {a0 : Array Keyed} {lo : Nat} {st : SortSt}
end
end Srt
namespace Srt
open PySem PyProof.Rows
noncomputable def hS (h : Heap) (a : Addr) (vs : List Value) : Heap := ((h.update a (Obj.mapSeq fun _ => (#[] : Array Value))).push (seqObj "tuple" vs.toArray 0)).push (seqObj "list" #[] 0)
section
variable {prog : Program} {w : World} {A : Around} {E : Value -> Shared -> Prop} {s : Shared} {O : KeyOrd} {kf : Keyed -> O.α} {okk : Keyed -> Prop} {kd : SortKind}
noncomputable def hC (h : Heap) (vs : List Value) : Heap := ((h.push (seqObj "list" #[] 0)).update h.objs.size (Obj.mapSeq (· ++ vs.toArray))).push (seqObj "list" vs.toArray 0)
end
end Srt
namespace L2
open PySem PySem.Spec PyProof.Rows
section
variable {X : Cx}
end
end L2
namespace L2
open PySem PySem.Spec PyProof.Rows
structure PEw (X : Cx) (e : Expr) (t : TE) : Prop where
 h : PE X e t
structure PAw (X : Cx) (e : List Expr) (t : TA) : Prop where
 h : PA X e t
structure PTw (X : Cx) (e : Expr) (t : TT) : Prop where
 h : PT X e t
structure PWw (X : Cx) (e : Expr) (t : TT) : Prop where
 h : PW X e t
structure PSw (X : Cx) (e : Stmt) (t : TS) : Prop where
 h : PS X e t
structure PSsw (X : Cx) (e : List Stmt) (t : TS) : Prop where
 h : PSs X e t
end L2
namespace Wr
open PySem PySem.Spec PyProof.Rows L2
end Wr
namespace L2
open PySem PySem.Spec PyProof.Rows
end L2
namespace L2
open PySem PySem.Spec PyProof.Rows
noncomputable def ltL : List Int -> List Int -> Bool
 | a :: r, b :: t => decide (a < b) && ltL r t
 | _, _ => true
noncomputable def aboveL (a b : List Int) : Bool := decide (b.length <= a.length) && ltL a b
noncomputable def prsL : List (List Int) -> Bool
 | a :: b :: r => aboveL a b && prsL (b :: r)
 | _ => true
end L2
namespace L2
open PySem PySem.Spec PyProof.Rows
noncomputable def rEqE : R2 := fun x y H Q => ∃ (a b : Addr) (vs : List V), x = .ref a /\ y = .ref b /\ H a = some (.tup vs) /\ H b = some (.tup []) /\ Q (.bl vs.isEmpty) H
theorem op_eqE {X : Cx} (hu : X.A.units + 64 < cLine) : OpR X (compareOp .Eq) rEqE := by
 intro pins s σ H x y v u Q I rx ry h
 obtain ⟨a, b, vs, rfl, rfl, ha, hb, q⟩ := h
 cases rx
 cases ry
 obtain ⟨its, rv, ⟨o, ho, hc, n, hd⟩, _⟩ := I.tuple (SqT.of (K := X.K) ha)
 obtain ⟨its2, rv2, ⟨o2, ho2, hc2, n2, hd2⟩, _⟩ := I.tuple (SqT.of (K := X.K) hb)
 cases rv2
 have := SeqAt.RcAt.tuples (A := X.A) (e := fun _ => true) ⟨o, ho, hc, n, hd⟩ ⟨o2, ho2, hc2, n2, hd2⟩ (by (first | lia | omega)) (fun j _ j2 => absurd j2 (by simp)) X.prog X.w
 have e : ((List.range (min its.toArray.size ([] : List Value).toArray.size)).all (fun _ => true) && its.toArray.size == ([] : List Value).toArray.size) = vs.isEmpty := by
  have hl : its.length = vs.length := rv.length.symm
  cases vs with
  | nil =>
   have : its = [] := List.eq_nil_of_length_eq_zero (by simpa using hl)
   subst this
   rfl
  | cons v r =>
   have h0 : its.length ≠ 0 := by rw [hl]; simp
   simp [h0]
 rw [e] at this
 exact this _ _ ⟨.bl _, H, I, rfl, q⟩
theorem ris_all {b : List Int} : risL b = true ↔ ∀ j : Nat, 0 < j -> j < b.length -> b.getD (j - 1) 0 < b.getD j 0 := by
 induction b with
 | nil => exact ⟨fun _ j _ h => by simp at h, fun _ => rfl⟩
 | cons x t ih =>
  cases t with
  | nil =>
   refine ⟨fun _ j h1 h2 => ?_, fun _ => rfl⟩
   simp at h2
   (first | lia | omega)
  | cons y r =>
   have e : risL (x :: y :: r) = (decide (x < y) && risL (y :: r)) := rfl
   rw [e, Bool.and_eq_true, decide_eq_true_eq, ih]
   refine ⟨fun ⟨h1, h2⟩ j j1 j2 => ?_, fun h => ⟨?_, fun j j1 j2 => ?_⟩⟩
   ·by_cases c : j = 1
    ·subst c
     exact h1
    ·have := h2 (j - 1) (by (first | lia | omega)) (by simp at j2 ⊢; (first | lia | omega))
     obtain ⟨i, rfl⟩ : ∃ i, j = i + 2 := ⟨j - 2, by (first | lia | omega)⟩
     exact this
   ·exact h 1 (by (first | lia | omega)) (by simp)
   ·have := h (j + 1) (by (first | lia | omega)) (by simp at j2 ⊢; (first | lia | omega))
    obtain ⟨i, rfl⟩ : ∃ i, j = i + 1 := ⟨j - 1, by (first | lia | omega)⟩
    exact this
theorem lt_all : ∀ {a b : List Int}, b.length <= a.length -> (ltL a b = true ↔ ∀ j : Nat, j < b.length -> a.getD j 0 < b.getD j 0)
 | a, [], _ => by
  refine ⟨fun _ j h => by simp at h, fun _ => ?_⟩
  cases a <;> rfl
 | [], _ :: _, h => by simp at h
 | x :: a, y :: b, h => by
  have e : ltL (x :: a) (y :: b) = (decide (x < y) && ltL a b) := rfl
  rw [e, Bool.and_eq_true, decide_eq_true_eq, lt_all (by simp at h; (first | lia | omega))]
  refine ⟨fun ⟨h1, h2⟩ j hj => ?_, fun g => ⟨g 0 (by simp), fun j hj => g (j + 1) (by simp; (first | lia | omega))⟩⟩
  cases j with
  | zero => exact h1
  | succ j => exact h2 j (by simp at hj; (first | lia | omega))
theorem prs_all : ∀ {l : List (List Int)}, prsL l = true ↔ ∀ (i : Nat) (a b : List Int), l[i]? = some a -> l[i + 1]? = some b -> aboveL a b = true
 | [] => ⟨fun _ i a b h => by simp at h, fun _ => rfl⟩
 | [_] => ⟨fun _ i a b _ h => by simp at h, fun _ => rfl⟩
 | x :: y :: r => by
  have e : prsL (x :: y :: r) = (aboveL x y && prsL (y :: r)) := rfl
  rw [e, Bool.and_eq_true, prs_all (l := y :: r)]
  refine ⟨fun ⟨h1, h2⟩ i a b ha hb => ?_, fun h => ⟨h 0 x y rfl rfl, fun i a b ha hb => h (i + 1) a b ha hb⟩⟩
  cases i with
  | zero =>
   cases ha
   cases hb
   exact h1
  | succ i => exact h2 i a b ha hb
theorem above_iff {a b : List Int} : aboveL a b = true ↔ b.length <= a.length /\ ∀ j : Nat, j < b.length -> a.getD j 0 < b.getD j 0 := by
 unfold aboveL
 rw [Bool.and_eq_true, decide_eq_true_eq]
 exact ⟨fun ⟨h1, h2⟩ => ⟨h1, (lt_all h1).mp h2⟩, fun ⟨h1, h2⟩ => ⟨h1, (lt_all h1).mpr h2⟩⟩
structure TabZ (n : Nat) (R : List (List Int)) : Prop where
 ne : ∀ r ∈ R, r ≠ []
 ris : ∀ r ∈ R, risL r = true
 prs : prsL R = true
 perm : R.flatten.Perm (num0 n)
theorem TabZ.lt {n : Nat} {R : List (List Int)} (h : TabZ n R) {r : List Int} (hr : r ∈ R) {x : Int} (hx : x ∈ r) : 0 <= x /\ x < (n : Int) := by
 have : x ∈ num0 n := h.perm.mem_iff.mp (List.mem_flatten.mpr ⟨r, hr, hx⟩)
 obtain ⟨j, hj, rfl⟩ := List.mem_map.mp this
 have := List.mem_range.mp hj
 (first | lia | omega)
theorem TabZ.len {n : Nat} {R : List (List Int)} (h : TabZ n R) : R.flatten.length = n := by
 rw [h.perm.length_eq]
 unfold num0
 rw [List.length_map, List.length_range]
theorem getD_mem0 {r : List Int} {j : Nat} (h : j < r.length) : r.getD j 0 ∈ r := by
 rw [List.getD_eq_getElem?_getD, List.getElem?_eq_getElem h]
 exact List.getElem_mem h
theorem gd_left {r t : List Int} {j : Nat} (h : j < r.length) : (r ++ t).getD j 0 = r.getD j 0 := by
 rw [List.getD_eq_getElem?_getD, List.getElem?_append_left h, <- List.getD_eq_getElem?_getD]
theorem gd_right {r : List Int} {n : Int} : (r ++ [n]).getD r.length 0 = n := by
 rw [List.getD_eq_getElem?_getD, List.getElem?_append_right (Nat.le_refl _), Nat.sub_self]
 rfl
theorem ris_snoc {r : List Int} {n : Int} (h : risL r = true) (hl : ∀ x ∈ r, x < n) : risL (r ++ [n]) = true := by
 refine ris_all.mpr fun j j1 j2 => ?_
 rw [List.length_append, List.length_singleton] at j2
 by_cases c : j < r.length
 ·have := ris_all.mp h j j1 c
  rw [gd_left (by (first | lia | omega)), gd_left c]
  exact this
 ·have e : j = r.length := by (first | lia | omega)
  subst e
  rw [gd_left (by (first | lia | omega)), gd_right]
  exact hl _ (getD_mem0 (by (first | lia | omega)))
theorem flat_set {R : List (List Int)} {k : Nat} {r : List Int} (h : R[k]? = some r) (n : Int) : (R.set k (r ++ [n])).flatten.Perm (R.flatten ++ [n]) := by
 obtain ⟨hk, e⟩ := List.getElem?_eq_some_iff.mp h
 have s1 : R = R.take k ++ r :: R.drop (k + 1) := by
  rw [<- e, List.getElem_cons_drop, List.take_append_drop]
 have lk : (R.take k).length = k := by rw [List.length_take]; (first | lia | omega)
 have s2 : R.set k (r ++ [n]) = R.take k ++ (r ++ [n]) :: R.drop (k + 1) := by
  conv => lhs; rw [s1]
  rw [List.set_append_right _ _ (by (first | lia | omega)), lk, Nat.sub_self, List.set_cons_zero]
 rw [s2]
 conv => rhs; rw [s1]
 rw [List.flatten_append, List.flatten_cons, List.flatten_append, List.flatten_cons]
 rw [List.append_assoc, List.append_assoc, List.append_assoc]
 exact List.Perm.append_left _ (List.Perm.append_left _ List.perm_append_comm)
theorem num0_succT (m : Nat) : num0 (m + 1) = num0 m ++ [(m : Int)] := by
 unfold num0
 rw [List.range_succ, List.map_append]
 rfl
theorem TabZ.grow {n : Nat} {R : List (List Int)} (h : TabZ n R) {k : Nat} {r : List Int} (hr : R[k]? = some r) (hk : k = 0 ∨ ∃ a, R[k - 1]? = some a /\ r.length < a.length) : TabZ (n + 1) (R.set k (r ++ [(n : Int)])) := by
 have hrm : r ∈ R := List.mem_of_getElem? hr
 have hkl := (List.getElem?_eq_some_iff.mp hr).1
 refine ⟨fun x hx => ?_, fun x hx => ?_, prs_all.mpr fun i a b ha hb => ?_, ?_⟩
 ·rcases List.mem_or_eq_of_mem_set hx with hx | rfl
  ·exact h.ne x hx
  ·simp
 ·rcases List.mem_or_eq_of_mem_set hx with hx | rfl
  ·exact h.ris x hx
  ·exact ris_snoc (h.ris r hrm) fun y hy => (h.lt hrm hy).2
 ·by_cases c1 : k = i
  ·subst c1
   rw [List.getElem?_set_self hkl] at ha
   cases ha
   rw [List.getElem?_set_ne (by (first | lia | omega))] at hb
   have g := above_iff.mp (prs_all.mp h.prs k r b hr hb)
   refine above_iff.mpr ⟨by rw [List.length_append]; (first | lia | omega), fun j hj => ?_⟩
   rw [gd_left (by (first | lia | omega))]
   exact g.2 j hj
  ·rw [List.getElem?_set_ne c1] at ha
   by_cases c2 : k = i + 1
   ·subst c2
    rw [List.getElem?_set_self hkl] at hb
    cases hb
    have g := above_iff.mp (prs_all.mp h.prs i a r ha hr)
    rcases hk with hk | ⟨a', ha', hl⟩
    ·(first | lia | omega)
    ·rw [show i + 1 - 1 = i by (first | lia | omega), ha] at ha'
     cases ha'
     refine above_iff.mpr ⟨by rw [List.length_append, List.length_singleton]; (first | lia | omega), fun j hj => ?_⟩
     rw [List.length_append, List.length_singleton] at hj
     by_cases c : j < r.length
     ·rw [gd_left c]
      exact g.2 j c
     ·have e : j = r.length := by (first | lia | omega)
      subst e
      rw [gd_right]
      exact (h.lt (List.mem_of_getElem? ha) (getD_mem0 hl)).2
   ·rw [List.getElem?_set_ne c2] at hb
    exact prs_all.mp h.prs i a b ha hb
 ·rw [num0_succT]
  exact (flat_set hr _).trans (h.perm.append_right _)
theorem TabZ.new {n : Nat} {R : List (List Int)} (h : TabZ n R) : TabZ (n + 1) (R ++ [[(n : Int)]]) := by
 refine ⟨fun x hx => ?_, fun x hx => ?_, prs_all.mpr fun i a b ha hb => ?_, ?_⟩
 ·rcases List.mem_append.mp hx with hx | hx
  ·exact h.ne x hx
  ·rw [List.mem_singleton.mp hx]
   simp
 ·rcases List.mem_append.mp hx with hx | hx
  ·exact h.ris x hx
  ·rw [List.mem_singleton.mp hx]
   rfl
 ·by_cases c : i + 1 < R.length
  ·rw [List.getElem?_append_left (by (first | lia | omega))] at ha
   rw [List.getElem?_append_left c] at hb
   exact prs_all.mp h.prs i a b ha hb
  ·have hl := (List.getElem?_eq_some_iff.mp hb).1
   rw [List.length_append, List.length_singleton] at hl
   have e : i + 1 = R.length := by (first | lia | omega)
   rw [List.getElem?_append_left (by (first | lia | omega))] at ha
   rw [List.getElem?_append_right (by (first | lia | omega)), e, Nat.sub_self] at hb
   cases hb
   have hm := List.mem_of_getElem? ha
   have ha0 : 0 < a.length := List.length_pos_iff.mpr (h.ne a hm)
   refine above_iff.mpr ⟨ha0, fun j hj => ?_⟩
   have : j = 0 := by
    have : j < 1 := hj
    (first | lia | omega)
   subst this
   exact (h.lt hm (getD_mem0 ha0)).2
 ·rw [List.flatten_append, num0_succT]
  exact h.perm.append_right _
theorem TabZ.nil : TabZ 0 [] := ⟨(fun _ h => by cases h), (fun _ h => by cases h), rfl, List.Perm.refl _⟩
structure LsZ (H : Hp) (zs : List Addr) (R : List (List Int)) : Prop where
 nd : zs.Nodup
 len : zs.length = R.length
 at_ : ∀ (i : Nat) (z : Addr), zs[i]? = some z -> ∃ r, R[i]? = some r /\ H z = some (.lst (r.map V.int))
theorem LsZ.keep {H H' : Hp} {zs : List Addr} {R : List (List Int)} (h : LsZ H zs R) {p q : Addr} (k : Keep p q H H') (hp : p ∉ zs) (hq : q ∉ zs) : LsZ H' zs R := ⟨h.nd, h.len, fun i z e => let ⟨r, h1, h2⟩ := h.at_ i z e; ⟨r, h1, k _ _ h2 (fun z' => hp (z' ▸ List.mem_of_getElem? e)) (fun z' => hq (z' ▸ List.mem_of_getElem? e))⟩⟩
theorem LsZ.put {H : Hp} {zs : List Addr} {R : List (List Int)} (h : LsZ H zs R) {k : Nat} {z : Addr} {r : List Int} (hz : zs[k]? = some z) (r' : List Int) : LsZ (upd H z (.lst (r'.map V.int))) zs (R.set k r') := by
 have hk := (List.getElem?_eq_some_iff.mp hz).1
 refine ⟨h.nd, by rw [List.length_set]; exact h.len, fun i y hy => ?_⟩
 by_cases e : k = i
 ·subst e
  rw [hz] at hy
  cases hy
  exact ⟨r', List.getElem?_set_self (by rw [<- h.len]; exact hk), upd_same⟩
 ·have hne : y ≠ z := fun z' => by
   obtain ⟨h1, e1⟩ := List.getElem?_eq_some_iff.mp hz
   obtain ⟨h2, e2⟩ := List.getElem?_eq_some_iff.mp hy
   exact e ((List.getElem_inj h.nd).mp (e1.trans (z'.symm.trans e2.symm)))
  obtain ⟨s, h1, h2⟩ := h.at_ i y hy
  exact ⟨s, by rw [List.getElem?_set_ne e]; exact h1, by rw [upd_ne hne]; exact h2⟩
theorem LsZ.snoc {H : Hp} {zs : List Addr} {R : List (List Int)} (h : LsZ H zs R) {z : Addr} {r : List Int} (hn : z ∉ zs) (hz : H z = some (.lst (r.map V.int))) : LsZ H (zs ++ [z]) (R ++ [r]) := by
 refine ⟨List.nodup_append.mpr ⟨h.nd, by simp, fun u hu c hc e => ?_⟩, by simp [h.len], fun i y hy => ?_⟩
 ·rw [List.mem_singleton.mp hc] at e
  exact hn (e ▸ hu)
 ·by_cases c : i < zs.length
  ·rw [List.getElem?_append_left c] at hy
   obtain ⟨s, h1, h2⟩ := h.at_ i y hy
   exact ⟨s, by rw [List.getElem?_append_left (by rw [<- h.len]; exact c)]; exact h1, h2⟩
  ·have hl := (List.getElem?_eq_some_iff.mp hy).1
   rw [List.length_append, List.length_singleton] at hl
   have e : i = zs.length := by (first | lia | omega)
   subst e
   rw [List.getElem?_append_right (Nat.le_refl _), Nat.sub_self] at hy
   cases hy
   exact ⟨r, by rw [h.len, List.getElem?_append_right (Nat.le_refl _), Nat.sub_self]; rfl, hz⟩
end L2
namespace L2
open PySem PySem.Spec PyProof.Rows
section
variable {prog : Program} {w : World} {A : Around} {E : Value -> Shared -> Prop} {s : Shared} {d it v : Addr} {es : Array DictEntry} {ep : Nat}
end
end L2
namespace L2
open PySem PySem.Spec PyProof.Rows
section
variable {X : Cx} {pins : List (Addr × Obj)} {σ : St} {H : Hp} {s : Shared} {a : Addr} {kvs : List (List Key × V)} {ob : Obj}
end
section
variable {X : Cx}
end
end L2
namespace L2
open PySem PySem.Spec PyProof.Rows
section
variable {X : Cx}
end
noncomputable abbrev ShD := List (List Int × Int)
noncomputable def keyI (ks : List Int) : List Key := ks.map Sum.inl
noncomputable def dV (d : ShD) : List (List Key × V) := d.map fun kv => (keyI kv.1, V.int kv.2)
theorem keyI_map (ks : List Int) : (keyI ks).map kV = ks.map V.int := by
 unfold keyI
 rw [List.map_map]
 rfl
theorem keyI_inj {a b : List Int} (h : keyI a = keyI b) : a = b := by
 have := congrArg (List.map fun k : Key => match k with | .inl i => i | .inr _ => 0) h
 simpa [keyI, List.map_map, Function.comp_def] using this
end L2
namespace L2
open PySem PySem.Spec PyProof.Rows
end L2
namespace L2
open PySem PySem.Spec PyProof.Rows
noncomputable abbrev Sm (x : Int) (n : Nat) : Prop := Builtin.Int.intBits x <= n
theorem Sm.of {x : Int} {n : Nat} (h : x.natAbs < 2 ^ n) : Sm x n := intBits_le_iff.mpr h
theorem Sm.lt {x : Int} {n : Nat} (h : Sm x n) : x.natAbs < 2 ^ n := intBits_le_iff.mp h
theorem Sm.mono {x : Int} {m n : Nat} (h : Sm x m) (k : m <= n) : Sm x n := Nat.le_trans h k
theorem op_fdivC {X : Cx} : OpR X (binaryOp .FloorDiv) (rI (fun _ j => 0 < j /\ Sm j 8000) fun i j => .int (i / j)) := opI fun i j _ _ _ _ _ hc q => by
 have e : i / j = i.fdiv j := (Int.fdiv_eq_ediv_of_nonneg _ (Int.le_of_lt hc.1)).symm
 rw [e] at q
 have h1 := hc.1
 refine floordiv_int (by (first | lia | omega)) q (.inl (PyProof.noPylong_of_log2 ?_))
 have h0 : j.natAbs ≠ 0 := by (first | lia | omega)
 rw [Nat.log2_lt h0]
 exact (hc.2.mono (by decide)).lt
structure ShB (p : Int × Int) (n : Nat) : Prop where
 pos : 0 < p.2
 s1 : Sm p.1 n
 s2 : Sm p.2 n
noncomputable def fcZ : Nat -> Int
 | 0 => 1
 | n + 1 => fcZ n * ((n : Int) + 1)
theorem fcZ_pos : ∀ n, 0 < fcZ n
 | 0 => by decide
 | n + 1 => Int.mul_pos (fcZ_pos n) (by (first | lia | omega))
theorem fcZ_le {m n : Nat} (h : m <= n) : fcZ m <= fcZ n := by
  induction n with
  | zero => have : m = 0 := by (first | lia | omega)
            rw [this]; exact Int.le_refl _
  | succ n ih =>
    by_cases e : m = n + 1
    · rw [e]; exact Int.le_refl _
    · refine Int.le_trans (ih (by (first | lia | omega))) ?_
      show fcZ n <= fcZ n * ((n : Int) + 1)
      have := fcZ_pos n
      have h2 := Int.mul_le_mul_of_nonneg_left (show (1 : Int) <= (n : Int) + 1 by (first | lia | omega)) (Int.le_of_lt this)
      (first | lia | omega)
end L2
namespace L2
open PySem PySem.Spec PyProof.Rows
end L2
namespace L2
open PySem PySem.Spec PyProof.Rows
end L2
namespace L2
open PySem PySem.Spec PyProof.Rows
end L2
namespace L2
open PySem PySem.Spec PyProof.Rows
theorem call_len_seqK {X : Cx} (K : PySem.W.Frag) (hK : X.K = K) : CallR X (.builtin "len") (fun xs H Q => ∃ p ys, xs = [.ref p] /\ (SqL K H p ys ∨ SqT K H p ys) /\ Q (.int ys.length) H) := hK ▸ call_len_seq
end L2
namespace L2
open PySem PySem.Spec PyProof.Rows
noncomputable def shF : Nat -> Nat -> Nat -> List (List Int)
 | 0, _, _ => [[]]
 | k + 1, many, most => if many = 0 then [[]] else (List.range (min many most)).flatMap fun i => (shF k (many - (i + 1)) (i + 1)).map fun rest => ((i + 1 : Nat) : Int) :: rest
noncomputable def shP (k many i : Nat) : List (List Int) := (List.range i).flatMap fun i => (shF k (many - (i + 1)) (i + 1)).map fun rest => ((i + 1 : Nat) : Int) :: rest
theorem shP_succ (k many i : Nat) : shP k many (i + 1) = shP k many i ++ (shF k (many - (i + 1)) (i + 1)).map fun rest => ((i + 1 : Nat) : Int) :: rest := by
 unfold shP
 rw [List.range_succ, List.flatMap_append]
 simp
theorem shF_len : ∀ (k many most : Nat), (shF k many most).length <= 2 ^ many
 | 0, many, _ => by
  show 1 <= 2 ^ many
  exact Nat.one_le_two_pow
 | k + 1, many, most => by
  unfold shF
  by_cases h : many = 0
  ·rw [if_pos h]
   exact Nat.one_le_two_pow
  ·rw [if_neg h]
   have : ∀ i, i <= many -> (shP k many i).length + 2 ^ (many - i) <= 2 ^ many := by
    intro i
    induction i with
    | zero => intro _; simp [shP]
    | succ i ih =>
     intro hi
     have h1 := ih (by (first | lia | omega))
     have h2 := shF_len k (many - (i + 1)) (i + 1)
     have h3 : 2 ^ (many - i) = 2 ^ (many - (i + 1)) + 2 ^ (many - (i + 1)) := by
      rw [show many - i = (many - (i + 1)) + 1 by (first | lia | omega), Nat.pow_succ]
      (first | lia | omega)
     rw [shP_succ, List.length_append, List.length_map]
     (first | lia | omega)
   have hq := this (min many most) (Nat.min_le_left _ _)
   have hz : 0 < 2 ^ (many - min many most) := Nat.two_pow_pos _
   unfold shP at hq
   (first | lia | omega)
theorem shP_len (k many i : Nat) (h : i <= many) : (shP k many i).length <= 2 ^ many := by
 induction i with
 | zero => simp [shP]
 | succ i _ =>
  have : ∀ i, i <= many -> (shP k many i).length + 2 ^ (many - i) <= 2 ^ many := by
   intro i
   induction i with
   | zero => intro _; simp [shP]
   | succ i ih =>
    intro hi
    have h1 := ih (by (first | lia | omega))
    have h2 := shF_len k (many - (i + 1)) (i + 1)
    have h3 : 2 ^ (many - i) = 2 ^ (many - (i + 1)) + 2 ^ (many - (i + 1)) := by
     rw [show many - i = (many - (i + 1)) + 1 by (first | lia | omega), Nat.pow_succ]
     (first | lia | omega)
    rw [shP_succ, List.length_append, List.length_map]
    (first | lia | omega)
  have hq := this (i + 1) h
  have hz : 0 < 2 ^ (many - (i + 1)) := Nat.two_pow_pos _
  (first | lia | omega)
theorem shF_mem : ∀ (k many most : Nat), ∀ sh ∈ shF k many most, sh.length <= k
 | 0, _, _, sh, h => by
  rw [List.mem_singleton.mp h]
  exact Nat.le_refl 0
 | k + 1, many, most, sh, h => by
  unfold shF at h
  by_cases e : many = 0
  ·rw [if_pos e] at h
   rw [List.mem_singleton.mp h]
   exact Nat.zero_le _
  ·rw [if_neg e] at h
   obtain ⟨i, _, h2⟩ := List.mem_flatMap.mp h
   obtain ⟨rest, h3, rfl⟩ := List.mem_map.mp h2
   have := shF_mem k _ _ rest h3
   rw [List.length_cons]
   (first | lia | omega)
noncomputable def spShp (n : Nat) : Sp := fun vs H Q _ => ∃ many most : Nat, vs = [.int many, .int most] /\ many <= n /\ n <= 14 /\ most <= 14 /\ ∀ (l : Addr) (zs : List Addr) (H' : Hp), Same H H' -> H l = none -> H' l = some (.lst (zs.map V.ref)) -> RowsAt H' zs (shF n many most) -> Q (.ref l) H'
theorem RowsAt.memS {H : Hp} : ∀ {zs : List Addr} {rows : List (List Int)}, RowsAt H zs rows -> ∀ z ∈ zs, ∃ r ∈ rows, H z = some (.tup (r.map V.int))
 | _, _, .nil, _, h => by cases h
 | _, _, .cons (b := r) q t, z, h => by
  rcases List.mem_cons.mp h with rfl | h
  ·exact ⟨r, List.mem_cons_self, q⟩
  ·obtain ⟨r', h1, h2⟩ := RowsAt.memS t z h
   exact ⟨r', List.mem_cons_of_mem _ h1, h2⟩
theorem cons_rows (x : Int) {H0 H : Hp} : ∀ {zs : List Addr} {rows : List (List Int)} {ys : List V}, RowsAt H0 zs rows -> Paired (fun u v => ∀ z (r : List Int), u = V.ref z -> H0 z = some (.tup (r.map V.int)) -> ∃ b, v = V.ref b /\ H b = some (.tup ((x :: r).map V.int))) (zs.map V.ref) ys -> ∃ zs' : List Addr, ys = zs'.map V.ref /\ RowsAt H zs' (rows.map fun r => x :: r)
 | [], [], [], _, _ => ⟨[], rfl, .nil⟩
 | z :: zs, r :: rows, v :: ys, .cons p q, .cons p' q' => by
  obtain ⟨b, rfl, hb⟩ := p' z r rfl p
  obtain ⟨zs', rfl, h'⟩ := cons_rows x q q'
  exact ⟨b :: zs', rfl, .cons hb h'⟩
end L2
namespace L2
open PySem PySem.Spec PyProof.Rows
noncomputable def spS (F : List Int -> Int -> List Int -> Int) : List Int -> List Int -> Int
 | _, [] => 0
 | pre, x :: xs => F pre x xs + spS F (pre ++ [x]) xs
theorem spS_congr {F G : List Int -> Int -> List Int -> Int} : ∀ {xs pre : List Int}, (∀ as x bs, as ++ x :: bs = pre ++ xs -> F as x bs = G as x bs) -> spS F pre xs = spS G pre xs
 | [], _, _ => rfl
 | x :: xs, pre, h => by
  show F pre x xs + spS F (pre ++ [x]) xs = G pre x xs + spS G (pre ++ [x]) xs
  rw [h pre x xs rfl, spS_congr (xs := xs) (pre := pre ++ [x]) fun as y bs e => h as y bs (by rw [e, List.append_assoc]; rfl)]
theorem spS_lin {F G : List Int -> Int -> List Int -> Int} (a b : Int) : ∀ (xs pre : List Int), spS (fun as x bs => a * F as x bs + b * G as x bs) pre xs = a * spS F pre xs + b * spS G pre xs
 | [], _ => by simp [spS]
 | x :: xs, pre => by
  show (a * F pre x xs + b * G pre x xs) + spS (fun as x bs => a * F as x bs + b * G as x bs) (pre ++ [x]) xs = a * (F pre x xs + spS F (pre ++ [x]) xs) + b * (G pre x xs + spS G (pre ++ [x]) xs)
  rw [spS_lin a b xs]
  grind
theorem spS_cons {F : List Int -> Int -> List Int -> Int} (p : Int) : ∀ (xs pre : List Int), spS F (p :: pre) xs = spS (fun as x bs => F (p :: as) x bs) pre xs
 | [], _ => rfl
 | x :: xs, pre => by
  show F (p :: pre) x xs + spS F ((p :: pre) ++ [x]) xs = F (p :: pre) x xs + spS (fun as x bs => F (p :: as) x bs) (pre ++ [x]) xs
  rw [<- spS_cons p xs]
  rfl
noncomputable def prD (z : Int) : List Int -> Int
 | [] => 1
 | y :: ys => (z - y) * prD z ys
noncomputable def vdD : List Int -> Int
 | [] => 1
 | y :: ys => prD y ys * vdD ys
theorem prD_app (z : Int) : ∀ (a b : List Int), prD z (a ++ b) = prD z a * prD z b
 | [], b => by simp [prD]
 | x :: a, b => by
  show (z - x) * prD z (a ++ b) = (z - x) * prD z a * prD z b
  rw [prD_app z a b]
  grind
noncomputable def rD (z : Int) (xs : List Int) : Int := spS (fun as x bs => x * vdD (as ++ (x - 1) :: bs) * (prD z as * prD z bs)) [] xs
noncomputable def sD (xs : List Int) : Int := spS (fun as x bs => x * vdD (as ++ (x - 1) :: bs)) [] xs
theorem rD_eq : ∀ (xs : List Int) (z : Int), rD z xs = ((z - (xs.length : Int)) * prD z xs - z * prD (z - 1) xs) * vdD xs
 | [], z => by simp [rD, spS, prD, vdD]
 | y :: ys, z => by
  have e1 : rD z (y :: ys) = y * (prD (y - 1) ys * vdD ys) * prD z ys + spS (fun as x bs => x * vdD (y :: as ++ (x - 1) :: bs) * (prD z (y :: as) * prD z bs)) [] ys := by
   show y * vdD ([] ++ (y - 1) :: ys) * (prD z [] * prD z ys) + spS _ ([] ++ [y]) ys = _
   rw [show ([] : List Int) ++ [y] = y :: [] from rfl, spS_cons]
   show y * (prD (y - 1) ys * vdD ys) * (1 * prD z ys) + _ = _
   rw [Int.one_mul]
  have e2 : spS (fun as x bs => x * vdD (y :: as ++ (x - 1) :: bs) * (prD z (y :: as) * prD z bs)) [] ys = ((z - y) * prD y ys - prD y ys) * rD z ys + prD z ys * rD y ys := by
   unfold rD
   rw [<- spS_lin]
   refine spS_congr fun as x bs e => ?_
   have ez : ys = as ++ x :: bs := e.symm
   show x * (prD y (as ++ (x - 1) :: bs) * vdD (as ++ (x - 1) :: bs)) * ((z - y) * prD z as * prD z bs) = _
   rw [ez]
   generalize vdD (as ++ (x - 1) :: bs) = D
   rw [prD_app, prD_app, prD_app]
   show x * (prD y as * ((y - (x - 1)) * prD y bs) * D) * ((z - y) * prD z as * prD z bs) = ((z - y) * (prD y as * ((y - x) * prD y bs)) - prD y as * ((y - x) * prD y bs)) * (x * D * (prD z as * prD z bs)) + prD z as * ((z - x) * prD z bs) * (x * D * (prD y as * prD y bs))
   grind
  rw [e1, e2, rD_eq ys z, rD_eq ys y]
  show _ = ((z - ((ys.length + 1 : Nat) : Int)) * ((z - y) * prD z ys) - z * ((z - 1 - y) * prD (z - 1) ys)) * (prD y ys * vdD ys)
  rw [show ((ys.length + 1 : Nat) : Int) = (ys.length : Int) + 1 from rfl]
  generalize (ys.length : Int) = r
  generalize prD (y - 1) ys = A
  generalize prD z ys = B
  generalize prD y ys = C
  generalize prD (z - 1) ys = E
  generalize vdD ys = V
  grind
theorem sD_eq : ∀ xs : List Int, 2 * sD xs = (2 * xs.sum - (xs.length : Int) * ((xs.length : Int) - 1)) * vdD xs
 | [] => by simp [sD, spS]
 | y :: ys => by
  have e1 : sD (y :: ys) = y * (prD (y - 1) ys * vdD ys) + spS (fun as x bs => x * vdD (y :: as ++ (x - 1) :: bs)) [] ys := by
   show y * vdD ([] ++ (y - 1) :: ys) + spS _ ([] ++ [y]) ys = _
   rw [show ([] : List Int) ++ [y] = y :: [] from rfl, spS_cons]
   rfl
  have e2 : spS (fun as x bs => x * vdD (y :: as ++ (x - 1) :: bs)) [] ys = prD y ys * sD ys + 1 * rD y ys := by
   unfold rD sD
   rw [<- spS_lin]
   refine spS_congr fun as x bs e => ?_
   have ez : ys = as ++ x :: bs := e.symm
   show x * (prD y (as ++ (x - 1) :: bs) * vdD (as ++ (x - 1) :: bs)) = _
   rw [ez]
   generalize vdD (as ++ (x - 1) :: bs) = D
   rw [prD_app, prD_app]
   show x * (prD y as * ((y - (x - 1)) * prD y bs) * D) = prD y as * ((y - x) * prD y bs) * (x * D) + 1 * (x * D * (prD y as * prD y bs))
   grind
  have h := sD_eq ys
  rw [e1, e2, rD_eq]
  show _ = (2 * (y + ys.sum) - ((ys.length + 1 : Nat) : Int) * (((ys.length + 1 : Nat) : Int) - 1)) * (prD y ys * vdD ys)
  rw [show ((ys.length + 1 : Nat) : Int) = (ys.length : Int) + 1 from rfl]
  generalize (ys.length : Int) = r at h ⊢
  generalize prD (y - 1) ys = A
  generalize prD y ys = C
  generalize vdD ys = V at h ⊢
  generalize sD ys = S at h ⊢
  generalize ys.sum = T at h ⊢
  grind
end L2
namespace L2
open PySem PySem.Spec PyProof.Rows
noncomputable def ctD (c : Int) : List Int -> Int
 | [] => 0
 | x :: xs => (if c < x then 1 else 0) + ctD c xs
noncomputable def proR : Nat -> (Nat -> Int) -> Int
 | 0, _ => 1
 | n + 1, g => proR n g * g n
noncomputable def rwD (a : Int) (s : List Int) : Int := proR a.toNat fun c => a - (c : Int) + ctD (c : Int) s
noncomputable def hkD : List Int -> Int
 | [] => 1
 | a :: s => rwD a s * hkD s
noncomputable def LsD : List Int -> List Int
 | [] => []
 | a :: s => (a + (s.length : Int)) :: LsD s
noncomputable def flD : List Int -> Int
 | [] => 1
 | x :: xs => fcZ x.toNat * flD xs
theorem proR_congr {g g' : Nat -> Int} : ∀ n, (∀ i, i < n -> g i = g' i) -> proR n g = proR n g'
 | 0, _ => rfl
 | n + 1, h => by
  show proR n g * g n = proR n g' * g' n
  rw [proR_congr n fun i hi => h i (by (first | lia | omega)), h n (by (first | lia | omega))]
theorem ctD_app (c : Int) : ∀ (a b : List Int), ctD c (a ++ b) = ctD c a + ctD c b
 | [], b => by simp [ctD]
 | x :: a, b => by
  show (if c < x then (1 : Int) else 0) + ctD c (a ++ b) = (if c < x then (1 : Int) else 0) + ctD c a + ctD c b
  rw [ctD_app c a b]
  (first | lia | omega)
theorem ctD_all (c : Int) : ∀ (a : List Int), (∀ x ∈ a, c < x) -> ctD c a = (a.length : Int)
 | [], _ => rfl
 | x :: a, h => by
  show (if c < x then (1 : Int) else 0) + ctD c a = ((a.length + 1 : Nat) : Int)
  rw [if_pos (h x List.mem_cons_self), ctD_all c a fun y hy => h y (List.mem_cons_of_mem _ hy)]
  (first | lia | omega)
theorem ctD_nn (c : Int) : ∀ (a : List Int), 0 <= ctD c a
 | [] => Int.le_refl _
 | x :: a => by
  show 0 <= (if c < x then (1 : Int) else 0) + ctD c a
  have := ctD_nn c a
  split <;> (first | lia | omega)
theorem LsD_len : ∀ s : List Int, (LsD s).length = s.length
 | [] => rfl
 | _ :: s => by
  show (LsD s).length + 1 = s.length + 1
  rw [LsD_len s]
theorem LsD_app : ∀ (a b : List Int), LsD (a ++ b) = (LsD a).map (· + (b.length : Int)) ++ LsD b
 | [], b => rfl
 | x :: a, b => by
  show (x + ((a ++ b).length : Int)) :: LsD (a ++ b) = (x + (a.length : Int) + (b.length : Int)) :: ((LsD a).map (· + (b.length : Int)) ++ LsD b)
  rw [LsD_app a b, List.length_append]
  congr 1
  (first | lia | omega)
theorem prD_map (z k : Int) : ∀ L : List Int, prD (z + k) (L.map (· + k)) = prD z L
 | [] => rfl
 | y :: L => by
  show (z + k - (y + k)) * prD (z + k) (L.map (· + k)) = (z - y) * prD z L
  rw [prD_map z k L, show z + k - (y + k) = z - y by (first | lia | omega)]
theorem row_more {a r : Int} {m : Nat} {g g' : Nat -> Int} (hg : ∀ c, c < m -> g c = a - c + r) (hg' : ∀ c, c < m -> g' c = a - c + r + 1) (he : ∀ c, m <= c -> g' c = g c) :
  ∀ k, proR k g' * (a + r + 1 - (min k m : Nat)) = proR k g * (a + r + 1)
 | 0 => by
  show 1 * (a + r + 1 - ((min 0 m : Nat) : Int)) = 1 * (a + r + 1)
  rw [show min 0 m = 0 by (first | lia | omega)]
  simp
 | k + 1 => by
  have ih := row_more hg hg' he k
  show proR k g' * g' k * _ = proR k g * g k * _
  by_cases c : k < m
  ·rw [show min k m = k by (first | lia | omega)] at ih
   rw [show min (k + 1) m = k + 1 by (first | lia | omega), hg k c, hg' k c, show ((k + 1 : Nat) : Int) = (k : Int) + 1 from rfl]
   generalize proR k g = A at *
   generalize proR k g' = B at *
   generalize (k : Int) = t at *
   grind
  ·rw [show min k m = m by (first | lia | omega)] at ih
   rw [show min (k + 1) m = m by (first | lia | omega), he k (by (first | lia | omega))]
   generalize proR k g = A at *
   generalize proR k g' = B at *
   generalize g k = t at *
   grind
theorem rwD_eq {a : Int} (ha : 0 <= a) : ∀ (n : Nat) (s : List Int), s.length = n -> s.Pairwise (· ≥ ·) -> (∀ x ∈ s, 0 <= x /\ x <= a) -> rwD a s * prD (a + (s.length : Int)) (LsD s) = fcZ (a.toNat + s.length)
 | 0, s, hl, _, _ => by
  have : s = [] := List.eq_nil_of_length_eq_zero hl
  subst this
  show proR a.toNat (fun c => a - (c : Int) + 0) * 1 = fcZ (a.toNat + 0)
  obtain ⟨n, rfl⟩ : ∃ n : Nat, a = (n : Int) := ⟨a.toNat, by (first | lia | omega)⟩
  rw [Int.toNat_natCast, Int.mul_one, Nat.add_zero]
  have : ∀ k, k <= n -> proR k (fun c => (n : Int) - (c : Int) + 0) * fcZ (n - k) = fcZ n := by
   intro k
   induction k with
   | zero => intro _; rw [Nat.sub_zero]; show 1 * fcZ n = fcZ n; rw [Int.one_mul]
   | succ k ih =>
    intro hk
    have h := ih (by (first | lia | omega))
    show proR k _ * ((n : Int) - (k : Int) + 0) * fcZ (n - (k + 1)) = fcZ n
    rw [show n - k = (n - (k + 1)) + 1 by (first | lia | omega)] at h
    have e : fcZ ((n - (k + 1)) + 1) = fcZ (n - (k + 1)) * (((n - (k + 1) : Nat) : Int) + 1) := rfl
    rw [e, show ((n - (k + 1) : Nat) : Int) + 1 = (n : Int) - (k : Int) + 0 by (first | lia | omega)] at h
    rw [<- h]
    generalize proR k (fun c => (n : Int) - (c : Int) + 0) = A
    generalize fcZ (n - (k + 1)) = B
    generalize (n : Int) - (k : Int) + 0 = C
    grind
  have h := this n (Nat.le_refl n)
  rw [Nat.sub_self] at h
  have e0 : fcZ 0 = 1 := rfl
  rw [e0, Int.mul_one] at h
  exact h
 | n + 1, s, hl, hp, hb => by
  have hne : s ≠ [] := fun e => by rw [e] at hl; cases hl
  obtain ⟨t, b, rfl⟩ : ∃ t b, s = t ++ [b] := ⟨s.dropLast, s.getLast hne, (List.dropLast_concat_getLast hne).symm⟩
  have hlt : t.length = n := by simpa using hl
  have hpt := (List.pairwise_append.mp hp)
  have ih := rwD_eq ha n t hlt hpt.1 fun x hx => hb x (List.mem_append_left _ hx)
  have hbb := hb b (List.mem_append_right _ (List.mem_singleton.mpr rfl))
  have htb : ∀ x ∈ t, b <= x := fun x hx => hpt.2.2 x hx b (List.mem_singleton.mpr rfl)
  have e1 : rwD a (t ++ [b]) * (a + (t.length : Int) + 1 - b) = rwD a t * (a + (t.length : Int) + 1) := by
   have := row_more (a := a) (r := (t.length : Int)) (m := b.toNat) (g := fun c => a - (c : Int) + ctD (c : Int) t) (g' := fun c => a - (c : Int) + ctD (c : Int) (t ++ [b])) (fun c hc => by
    show a - (c : Int) + ctD (c : Int) t = a - (c : Int) + (t.length : Int)
    rw [ctD_all _ t fun x hx => by have := htb x hx; (first | lia | omega)]) (fun c hc => by
    show a - (c : Int) + ctD (c : Int) (t ++ [b]) = a - (c : Int) + (t.length : Int) + 1
    rw [ctD_app, ctD_all _ t fun x hx => by have := htb x hx; (first | lia | omega)]
    show a - (c : Int) + ((t.length : Int) + ((if (c : Int) < b then (1 : Int) else 0) + 0)) = _
    rw [if_pos (by (first | lia | omega))]
    (first | lia | omega)) (fun c hc => by
    show a - (c : Int) + ctD (c : Int) (t ++ [b]) = a - (c : Int) + ctD (c : Int) t
    rw [ctD_app]
    show a - (c : Int) + (ctD (c : Int) t + ((if (c : Int) < b then (1 : Int) else 0) + 0)) = _
    rw [if_neg (by (first | lia | omega))]
    (first | lia | omega)) a.toNat
   rw [show min a.toNat b.toNat = b.toNat by (first | lia | omega), show ((b.toNat : Nat) : Int) = b by (first | lia | omega)] at this
   exact this
  have e2 : prD (a + (((t ++ [b]).length : Nat) : Int)) (LsD (t ++ [b])) = prD (a + (t.length : Int)) (LsD t) * (a + (t.length : Int) + 1 - b) := by
   rw [LsD_app, prD_app]
   show prD (a + (((t ++ [b]).length : Nat) : Int)) ((LsD t).map (· + 1)) * ((a + (((t ++ [b]).length : Nat) : Int) - (b + 0)) * 1) = _
   rw [show a + (((t ++ [b]).length : Nat) : Int) = a + (t.length : Int) + 1 by rw [List.length_append]; show a + ((t.length + 1 : Nat) : Int) = _; (first | lia | omega), prD_map]
   rw [Int.mul_one, Int.add_zero]
  rw [e2, List.length_append]
  show _ = fcZ (a.toNat + t.length + 1)
  have e3 : fcZ (a.toNat + t.length + 1) = fcZ (a.toNat + t.length) * (((a.toNat + t.length : Nat) : Int) + 1) := rfl
  rw [e3, <- ih, show ((a.toNat + t.length : Nat) : Int) + 1 = a + (t.length : Int) + 1 by (first | lia | omega)]
  generalize prD (a + (t.length : Int)) (LsD t) = P
  generalize rwD a (t ++ [b]) = R at *
  generalize rwD a t = R' at *
  generalize a + (t.length : Int) + 1 = u at *
  grind
structure Fal (sh : List Int) : Prop where
 ge : sh.Pairwise (· ≥ ·)
 nn : ∀ x ∈ sh, 0 <= x
theorem Fal.tail {a : Int} {s : List Int} (h : Fal (a :: s)) : Fal s := ⟨(List.pairwise_cons.mp h.ge).2, fun x hx => h.nn x (List.mem_cons_of_mem _ hx)⟩
theorem hk_vd : ∀ {sh : List Int}, Fal sh -> hkD sh * vdD (LsD sh) = flD (LsD sh)
 | [], _ => rfl
 | a :: s, h => by
  have ha := h.nn a List.mem_cons_self
  have hs := (List.pairwise_cons.mp h.ge).1
  have e1 := rwD_eq ha s.length s rfl h.tail.ge fun x hx => ⟨h.tail.nn x hx, hs x hx⟩
  have e2 := hk_vd h.tail
  show rwD a s * hkD s * (prD (a + (s.length : Int)) (LsD s) * vdD (LsD s)) = fcZ (a + (s.length : Int)).toNat * flD (LsD s)
  rw [show (a + (s.length : Int)).toNat = a.toNat + s.length by (first | lia | omega), <- e1, <- e2]
  generalize prD (a + (s.length : Int)) (LsD s) = P
  generalize rwD a s = R
  generalize hkD s = U
  generalize vdD (LsD s) = V
  grind
theorem flD_pos : ∀ l, 0 < flD l
 | [] => Int.one_pos
 | x :: l => Int.mul_pos (fcZ_pos _) (flD_pos l)
theorem proR_pos {g : Nat -> Int} : ∀ n, (∀ i, i < n -> 0 < g i) -> 0 < proR n g
 | 0, _ => Int.one_pos
 | n + 1, h => Int.mul_pos (proR_pos n fun i hi => h i (by (first | lia | omega))) (h n (by (first | lia | omega)))
theorem hkD_pos : ∀ {sh : List Int}, (∀ x ∈ sh, 0 <= x) -> 0 < hkD sh
 | [], _ => Int.one_pos
 | a :: s, h => by
  refine Int.mul_pos (proR_pos _ fun i hi => ?_) (hkD_pos fun x hx => h x (List.mem_cons_of_mem _ hx))
  have := ctD_nn (i : Int) s
  (first | lia | omega)
theorem vd_ne {sh : List Int} (h : Fal sh) : vdD (LsD sh) ≠ 0 := fun e => by
 have := hk_vd h
 rw [e, Int.mul_zero] at this
 have := flD_pos (LsD sh)
 (first | lia | omega)
end L2
namespace L2
open PySem PySem.Spec PyProof.Rows
noncomputable def filZ (sh : List Int) : Int := fcZ sh.sum.toNat / hkD sh
noncomputable def crD (x : Int) (bs : List Int) : Bool := decide (0 < x) && (match bs with | [] => true | y :: _ => decide (y < x))
theorem sD_sh : ∀ (xs pre : List Int), spS (fun as x bs => x * vdD (as ++ (x - 1) :: bs)) ((LsD pre).map (· + (xs.length : Int))) (LsD xs) = spS (fun as x bs => (x + (bs.length : Int)) * vdD (LsD (as ++ (x - 1) :: bs))) pre xs
 | [], _ => rfl
 | x :: t, pre => by
  show (x + (t.length : Int)) * vdD ((LsD pre).map (· + (((x :: t).length : Nat) : Int)) ++ (x + (t.length : Int) - 1) :: LsD t) + spS _ ((LsD pre).map (· + (((x :: t).length : Nat) : Int)) ++ [x + (t.length : Int)]) (LsD t) = (x + (t.length : Int)) * vdD (LsD (pre ++ (x - 1) :: t)) + spS _ (pre ++ [x]) t
  have e1 : LsD (pre ++ (x - 1) :: t) = (LsD pre).map (· + (((x :: t).length : Nat) : Int)) ++ (x + (t.length : Int) - 1) :: LsD t := by
   rw [LsD_app]
   show _ ++ (x - 1 + (t.length : Int)) :: LsD t = _
   rw [show x - 1 + (t.length : Int) = x + (t.length : Int) - 1 by (first | lia | omega)]
   rfl
  have e2 : (LsD pre).map (· + (((x :: t).length : Nat) : Int)) ++ [x + (t.length : Int)] = (LsD (pre ++ [x])).map (· + (t.length : Int)) := by
   rw [LsD_app, List.map_append, List.map_map]
   congr 1
   ·refine List.map_congr_left fun y _ => ?_
    show y + ((t.length + 1 : Nat) : Int) = y + 1 + (t.length : Int)
    (first | lia | omega)
   ·show _ = [x + 0 + (t.length : Int)]
    rw [Int.add_zero]
  rw [e1, e2, sD_sh t (pre ++ [x])]
theorem vd_two (u : Int) : ∀ (p q : List Int), vdD (p ++ u :: u :: q) = 0
 | [], q => by
  show ((u - u) * prD u q) * _ = 0
  rw [Int.sub_self]
  simp
 | x :: p, q => by
  show prD x (p ++ u :: u :: q) * vdD (p ++ u :: u :: q) = 0
  rw [vd_two u p q, Int.mul_zero]
theorem flD_app : ∀ (a b : List Int), flD (a ++ b) = flD a * flD b
 | [], b => by simp [flD]
 | x :: a, b => by
  show fcZ x.toNat * flD (a ++ b) = fcZ x.toNat * flD a * flD b
  rw [flD_app a b, Int.mul_assoc]
theorem LsD_sum : ∀ sh : List Int, 2 * (LsD sh).sum = 2 * sh.sum + (sh.length : Int) * ((sh.length : Int) - 1)
 | [] => rfl
 | a :: s => by
  have h := LsD_sum s
  rw [show (LsD (a :: s)).sum = a + (s.length : Int) + (LsD s).sum from List.sum_cons, List.sum_cons, show (((a :: s).length : Nat) : Int) = (s.length : Int) + 1 from rfl]
  generalize (s.length : Int) = r at *
  generalize (LsD s).sum = X at *
  generalize s.sum = Y at *
  grind
theorem Fal.corner {as bs : List Int} {x : Int} (h : Fal (as ++ x :: bs)) (hc : crD x bs = true) : Fal (as ++ (x - 1) :: bs) := by
 unfold crD at hc
 rw [Bool.and_eq_true, decide_eq_true_eq] at hc
 obtain ⟨h1, h2, h3⟩ := List.pairwise_append.mp h.ge
 obtain ⟨g1, g2⟩ := List.pairwise_cons.mp h2
 have gb : ∀ y ∈ bs, y < x := by
  cases bs with
  | nil => intro y hy; cases hy
  | cons b t =>
   have hb := of_decide_eq_true hc.2
   intro y hy
   rcases List.mem_cons.mp hy with rfl | hy
   ·exact hb
   ·have := (List.pairwise_cons.mp g2).1 y hy
    (first | lia | omega)
 refine ⟨List.pairwise_append.mpr ⟨h1, List.pairwise_cons.mpr ⟨fun y hy => by have := gb y hy; (first | lia | omega), g2⟩, fun y hy z hz => ?_⟩, fun y hy => ?_⟩
 ·rcases List.mem_cons.mp hz with rfl | hz
  ·have := h3 y hy x List.mem_cons_self
   (first | lia | omega)
  ·exact h3 y hy z (List.mem_cons_of_mem _ hz)
 ·rcases List.mem_append.mp hy with hy | hy
  ·exact h.nn y (List.mem_append_left _ hy)
  ·rcases List.mem_cons.mp hy with rfl | hy
   ·(first | lia | omega)
   ·exact h.nn y (List.mem_append_right _ (List.mem_cons_of_mem _ hy))
theorem term_corner {as bs : List Int} {x : Int} (h : Fal (as ++ x :: bs)) (f C : Int) (hf : crD x bs = true -> f * hkD (as ++ (x - 1) :: bs) = C) :
  C * ((x + (bs.length : Int)) * vdD (LsD (as ++ (x - 1) :: bs))) = (if crD x bs = true then f else 0) * (hkD (as ++ x :: bs) * vdD (LsD (as ++ x :: bs))) := by
 have hx := h.nn x (List.mem_append_right _ List.mem_cons_self)
 by_cases hc : crD x bs = true
 ·rw [if_pos hc, <- hf hc, hk_vd h]
  have e := hk_vd (h.corner hc)
  have e2 : flD (LsD (as ++ x :: bs)) = (x + (bs.length : Int)) * flD (LsD (as ++ (x - 1) :: bs)) := by
   rw [LsD_app, LsD_app, flD_app, flD_app]
   show flD ((LsD as).map (· + (((x :: bs).length : Nat) : Int))) * (fcZ (x + (bs.length : Int)).toNat * flD (LsD bs)) = (x + (bs.length : Int)) * (flD ((LsD as).map (· + (((x :: bs).length : Nat) : Int))) * (fcZ (x - 1 + (bs.length : Int)).toNat * flD (LsD bs)))
   have hx1 : 0 < x := by
    unfold crD at hc
    rw [Bool.and_eq_true, decide_eq_true_eq] at hc
    exact hc.1
   rw [show (x + (bs.length : Int)).toNat = (x - 1 + (bs.length : Int)).toNat + 1 by (first | lia | omega)]
   have e3 : fcZ ((x - 1 + (bs.length : Int)).toNat + 1) = fcZ (x - 1 + (bs.length : Int)).toNat * (((x - 1 + (bs.length : Int)).toNat : Int) + 1) := rfl
   rw [e3, show (((x - 1 + (bs.length : Int)).toNat : Nat) : Int) + 1 = x + (bs.length : Int) by (first | lia | omega)]
   generalize flD ((LsD as).map (· + (((x :: bs).length : Nat) : Int))) = A
   generalize fcZ (x - 1 + (bs.length : Int)).toNat = B
   generalize flD (LsD bs) = D
   generalize x + (bs.length : Int) = u
   grind
  rw [e2, <- e]
  generalize hkD (as ++ (x - 1) :: bs) = A
  generalize vdD (LsD (as ++ (x - 1) :: bs)) = B
  generalize x + (bs.length : Int) = u
  grind
 ·rw [if_neg hc]
  have hz : (x + (bs.length : Int)) * vdD (LsD (as ++ (x - 1) :: bs)) = 0 := by
   cases bs with
   | nil =>
    have : ¬ 0 < x := fun h0 => hc (by unfold crD; rw [decide_eq_true h0]; rfl)
    rw [show x + ((([] : List Int).length : Nat) : Int) = 0 by show x + 0 = 0; (first | lia | omega), Int.zero_mul]
   | cons b t =>
    obtain ⟨_, h2, _⟩ := List.pairwise_append.mp h.ge
    have hbx : b <= x := (List.pairwise_cons.mp h2).1 b List.mem_cons_self
    by_cases e : b = x
    ·subst e
     rw [LsD_app]
     show _ * vdD (_ ++ (b - 1 + ((t.length + 1 : Nat) : Int)) :: (b + (t.length : Int)) :: LsD t) = 0
     rw [show b - 1 + ((t.length + 1 : Nat) : Int) = b + (t.length : Int) by (first | lia | omega), vd_two, Int.mul_zero]
    ·exfalso
     have hb := h.nn b (List.mem_append_right _ (List.mem_cons_of_mem _ List.mem_cons_self))
     refine hc ?_
     unfold crD
     rw [decide_eq_true (by (first | lia | omega) : 0 < x)]
     show decide (b < x) = true
     exact decide_eq_true (by (first | lia | omega))
  rw [hz, Int.mul_zero, Int.zero_mul]
theorem spS_mul {F : List Int -> Int -> List Int -> Int} (a : Int) (xs pre : List Int) : spS (fun as x bs => a * F as x bs) pre xs = a * spS F pre xs := by
 have := spS_lin (F := F) (G := fun _ _ _ => 0) a 0 xs pre
 simpa using this
theorem spS_mulR {F : List Int -> Int -> List Int -> Int} (a : Int) (xs pre : List Int) : spS (fun as x bs => F as x bs * a) pre xs = spS F pre xs * a := by
 rw [Int.mul_comm, <- spS_mul]
 exact spS_congr fun as x bs _ => Int.mul_comm _ _
theorem fil_main : ∀ (n : Nat) (sh : List Int), Fal sh -> sh.sum = (n : Int) -> filZ sh * hkD sh = fcZ n /\ (0 < n -> filZ sh = spS (fun as x bs => if crD x bs = true then filZ (as ++ (x - 1) :: bs) else 0) [] sh)
 | 0, sh, hF, hs => by
  have hz : ∀ x ∈ sh, x = 0 := by
   intro x hx
   have h0 := hF.nn
   have : ∀ {l : List Int}, (∀ y ∈ l, 0 <= y) -> 0 <= l.sum /\ ∀ y ∈ l, y <= l.sum := by
    intro l
    induction l with
    | nil => intro _; exact ⟨Int.le_refl _, fun y hy => by cases hy⟩
    | cons a t ih =>
     intro h
     obtain ⟨i1, i2⟩ := ih fun y hy => h y (List.mem_cons_of_mem _ hy)
     have h1 := h a List.mem_cons_self
     rw [List.sum_cons]
     refine ⟨by (first | lia | omega), fun y hy => ?_⟩
     rcases List.mem_cons.mp hy with rfl | hy
     ·(first | lia | omega)
     ·have := i2 y hy
      (first | lia | omega)
   have h1 := (this h0).2 x hx
   have h2 := h0 x hx
   (first | lia | omega)
  have hk : hkD sh = 1 := by
   clear hs hF
   induction sh with
   | nil => rfl
   | cons a t ih =>
    have ha := hz a List.mem_cons_self
    subst ha
    show proR 0 _ * hkD t = 1
    rw [ih fun y hy => hz y (List.mem_cons_of_mem _ hy)]
    rfl
  refine ⟨?_, fun h => absurd h (Nat.lt_irrefl 0)⟩
  unfold filZ
  rw [hs, hk]
  decide
 | n + 1, sh, hF, hs => by
  have key : fcZ (n + 1) = spS (fun as x bs => if crD x bs = true then filZ (as ++ (x - 1) :: bs) else 0) [] sh * hkD sh := by
   have h1 : fcZ n * sD (LsD sh) = spS (fun as x bs => if crD x bs = true then filZ (as ++ (x - 1) :: bs) else 0) [] sh * (hkD sh * vdD (LsD sh)) := by
    have e0 : sD (LsD sh) = spS (fun as x bs => (x + (bs.length : Int)) * vdD (LsD (as ++ (x - 1) :: bs))) [] sh := sD_sh sh []
    rw [e0, <- spS_mul, <- spS_mulR]
    refine spS_congr fun as x bs e => ?_
    have e' : as ++ x :: bs = sh := e
    have hF' : Fal (as ++ x :: bs) := e' ▸ hF
    have t := term_corner hF' (filZ (as ++ (x - 1) :: bs)) (fcZ n) fun hc => by
     refine (fil_main n _ (hF'.corner hc) ?_).1
     have e2 : (as ++ x :: bs).sum = ((n + 1 : Nat) : Int) := by rw [e', hs]
     rw [List.sum_append, List.sum_cons] at e2 ⊢
     (first | lia | omega)
    rw [t, e']
   have h2 := sD_eq (LsD sh)
   have h3 := LsD_sum sh
   rw [LsD_len, h3, hs, show 2 * ((n + 1 : Nat) : Int) + (sh.length : Int) * ((sh.length : Int) - 1) - (sh.length : Int) * ((sh.length : Int) - 1) = 2 * ((n + 1 : Nat) : Int) by (first | lia | omega)] at h2
   have h4 : sD (LsD sh) = ((n : Int) + 1) * vdD (LsD sh) := by
    rw [show ((n + 1 : Nat) : Int) = (n : Int) + 1 from rfl, Int.mul_assoc] at h2
    (first | lia | omega)
   rw [h4] at h1
   have hv := vd_ne hF
   refine Int.eq_of_mul_eq_mul_right hv ?_
   show fcZ n * ((n : Int) + 1) * _ = _
   rw [Int.mul_assoc, h1, Int.mul_assoc]
  have hp := hkD_pos hF.nn
  have e : filZ sh = spS (fun as x bs => if crD x bs = true then filZ (as ++ (x - 1) :: bs) else 0) [] sh := by
   have e1 : sh.sum.toNat = n + 1 := by (first | lia | omega)
   have : filZ sh = fcZ (n + 1) / hkD sh := by
    unfold filZ
    rw [e1]
   rw [this, key]
   exact Int.mul_ediv_cancel _ (by (first | lia | omega))
  exact ⟨by rw [e, <- key], fun _ => e⟩
end L2
namespace L2
open PySem PySem.Spec PyProof.Rows
structure Shp (sh : List Int) : Prop where
 ge : sh.Pairwise (· ≥ ·)
 pos : ∀ x ∈ sh, 0 < x
theorem Shp.fal {sh : List Int} (h : Shp sh) : Fal sh := ⟨h.ge, fun x hx => Int.le_of_lt (h.pos x hx)⟩
theorem Shp.sum_len : ∀ {sh : List Int}, Shp sh -> (sh.length : Int) <= sh.sum /\ ∀ x ∈ sh, x <= sh.sum
 | [], _ => ⟨Int.le_refl _, fun x hx => by cases hx⟩
 | a :: s, h => by
  have hp := h.pos a List.mem_cons_self
  obtain ⟨i1, i2⟩ := Shp.sum_len (sh := s) ⟨(List.pairwise_cons.mp h.ge).2, fun x hx => h.pos x (List.mem_cons_of_mem _ hx)⟩
  rw [List.sum_cons, show (((a :: s).length : Nat) : Int) = (s.length : Int) + 1 from rfl]
  refine ⟨by (first | lia | omega), fun x hx => ?_⟩
  rcases List.mem_cons.mp hx with rfl | hx
  ·(first | lia | omega)
  ·have := i2 x hx
   (first | lia | omega)
noncomputable def nzD (l : List Int) : List Int := l.filter fun x => decide (0 < x)
theorem ctD_nz {c : Int} (hc : 0 <= c) : ∀ l : List Int, ctD c (nzD l) = ctD c l
 | [] => rfl
 | x :: l => by
  unfold nzD
  rw [List.filter_cons]
  by_cases h : 0 < x
  ·rw [decide_eq_true h, if_pos rfl]
   show (if c < x then (1 : Int) else 0) + ctD c (nzD l) = (if c < x then (1 : Int) else 0) + ctD c l
   rw [ctD_nz hc l]
  ·rw [decide_eq_false h, if_neg Bool.false_ne_true]
   show ctD c (nzD l) = (if c < x then (1 : Int) else 0) + ctD c l
   rw [ctD_nz hc l, if_neg (by (first | lia | omega))]
   (first | lia | omega)
theorem hkD_nz : ∀ {l : List Int}, (∀ x ∈ l, 0 <= x) -> hkD (nzD l) = hkD l /\ (nzD l).sum = l.sum
 | [], _ => ⟨rfl, rfl⟩
 | x :: l, hl => by
  obtain ⟨i1, i2⟩ := hkD_nz fun y hy => hl y (List.mem_cons_of_mem _ hy)
  have h0 := hl x List.mem_cons_self
  unfold nzD at *
  rw [List.filter_cons]
  by_cases h : 0 < x
  ·rw [decide_eq_true h, if_pos rfl]
   refine ⟨?_, by rw [List.sum_cons, List.sum_cons, i2]⟩
   show rwD x (l.filter fun x => decide (0 < x)) * hkD (l.filter fun x => decide (0 < x)) = rwD x l * hkD l
   rw [i1]
   congr 1
   exact proR_congr _ fun i _ => by
    show x - (i : Int) + ctD (i : Int) (nzD l) = x - (i : Int) + ctD (i : Int) l
    rw [ctD_nz (by (first | lia | omega)) l]
  ·rw [decide_eq_false h, if_neg Bool.false_ne_true]
   have : x = 0 := by (first | lia | omega)
   subst this
   refine ⟨?_, by rw [List.sum_cons, i2, Int.zero_add]⟩
   show _ = proR 0 _ * hkD l
   rw [i1, show proR 0 _ = (1 : Int) from rfl, Int.one_mul]
theorem filZ_nz {l : List Int} (h : ∀ x ∈ l, 0 <= x) : filZ (nzD l) = filZ l := by
 unfold filZ
 rw [(hkD_nz h).1, (hkD_nz h).2]
theorem Fal.nz {l : List Int} (h : Fal l) : Shp (nzD l) := ⟨h.ge.filter _, fun x hx => of_decide_eq_true (List.mem_filter.mp hx).2⟩
noncomputable def crP (x : Int) (bs : List Int) : Bool := match bs with | [] => true | y :: _ => decide (y < x)
noncomputable def lesR : List Int -> List Int -> List (List Int)
 | _, [] => []
 | pre, x :: xs => (if crP x xs = true then [nzD (pre ++ (x - 1) :: xs)] else []) ++ lesR (pre ++ [x]) xs
noncomputable def lesZ (sh : List Int) : List (List Int) := lesR [] sh
theorem les_sum : ∀ (xs pre : List Int), Fal (pre ++ xs) -> (∀ x ∈ xs, 0 < x) -> ((lesR pre xs).map filZ).sum = spS (fun as x bs => if crD x bs = true then filZ (as ++ (x - 1) :: bs) else 0) pre xs
 | [], _, _, _ => rfl
 | x :: xs, pre, hF, hp => by
  have h0 := hp x List.mem_cons_self
  have ih := les_sum xs (pre ++ [x]) (by rw [List.append_assoc]; exact hF) fun y hy => hp y (List.mem_cons_of_mem _ hy)
  have ec : crD x xs = crP x xs := by
   unfold crD
   rw [decide_eq_true h0, Bool.true_and]
   rfl
  show (((if crP x xs = true then [nzD (pre ++ (x - 1) :: xs)] else []) ++ lesR (pre ++ [x]) xs).map filZ).sum = (if crD x xs = true then filZ (pre ++ (x - 1) :: xs) else 0) + spS _ (pre ++ [x]) xs
  rw [List.map_append, List.sum_append, ih, ec]
  congr 1
  by_cases c : crP x xs = true
  ·rw [if_pos c, if_pos c]
   show filZ (nzD (pre ++ (x - 1) :: xs)) + 0 = _
   rw [Int.add_zero, filZ_nz (hF.corner (ec.trans c)).nn]
  ·rw [if_neg c, if_neg c]
   rfl
theorem les_mem : ∀ (xs pre : List Int), Fal (pre ++ xs) -> (∀ x ∈ xs, 0 < x) -> ∀ l ∈ lesR pre xs, Shp l /\ l.sum = (pre ++ xs).sum - 1
 | [], _, _, _, l, h => by cases h
 | x :: xs, pre, hF, hp, l, h => by
  have h0 := hp x List.mem_cons_self
  have ec : crD x xs = crP x xs := by
   unfold crD
   rw [decide_eq_true h0, Bool.true_and]
   rfl
  rcases List.mem_append.mp h with h | h
  ·by_cases c : crP x xs = true
   ·rw [if_pos c] at h
    rw [List.mem_singleton.mp h]
    have hc := hF.corner (ec.trans c)
    refine ⟨hc.nz, ?_⟩
    rw [(hkD_nz hc.nn).2, List.sum_append, List.sum_append, List.sum_cons, List.sum_cons]
    (first | lia | omega)
   ·rw [if_neg c] at h
    cases h
  ·have := les_mem xs (pre ++ [x]) (by rw [List.append_assoc]; exact hF) (fun y hy => hp y (List.mem_cons_of_mem _ hy)) l h
   rw [List.append_assoc] at this
   exact this
theorem les_fil {sh : List Int} (h : Shp sh) (hne : sh ≠ []) : filZ sh = ((lesZ sh).map filZ).sum := by
 have h1 := h.sum_len
 have hl : 0 < sh.length := List.length_pos_iff.mpr hne
 obtain ⟨n, hn⟩ : ∃ n : Nat, sh.sum = (n : Int) := ⟨sh.sum.toNat, by (first | lia | omega)⟩
 have := (fil_main n sh h.fal hn).2 (by (first | lia | omega))
 rw [this, lesZ, les_sum sh [] h.fal h.pos]
theorem les_len : ∀ (xs pre : List Int), (lesR pre xs).length <= xs.length
 | [], _ => Nat.le_refl _
 | x :: xs, pre => by
  show ((if crP x xs = true then [nzD (pre ++ (x - 1) :: xs)] else []) ++ lesR (pre ++ [x]) xs).length <= xs.length + 1
  have := les_len xs (pre ++ [x])
  rw [List.length_append]
  split <;> simp <;> (first | lia | omega)
theorem proR_one : ∀ n, proR n (fun _ => 1) = 1
 | 0 => rfl
 | n + 1 => by
  show proR n (fun _ => 1) * 1 = 1
  rw [proR_one n]
  rfl
theorem proR_mul (f g : Nat -> Int) : ∀ n, proR n (fun i => f i * g i) = proR n f * proR n g
 | 0 => rfl
 | n + 1 => by
  show proR n (fun i => f i * g i) * (f n * g n) = proR n f * f n * (proR n g * g n)
  rw [proR_mul f g n]
  generalize proR n f = A
  generalize proR n g = B
  grind
theorem proR_swap (g : Nat -> Nat -> Int) (C : Nat) : ∀ R, proR R (fun i => proR C fun j => g i j) = proR C fun j => proR R fun i => g i j
 | 0 => (proR_one C).symm
 | R + 1 => by
  show proR R (fun i => proR C fun j => g i j) * proR C (fun j => g R j) = proR C fun j => proR R (fun i => g i j) * g R j
  rw [proR_mul, proR_swap g C R]
theorem proR_front (g : Nat -> Int) : ∀ n, proR (n + 1) g = g 0 * proR n fun i => g (i + 1)
 | 0 => by
  show 1 * g 0 = g 0 * 1
  rw [Int.one_mul, Int.mul_one]
 | n + 1 => by
  show proR (n + 1) g * g (n + 1) = g 0 * (proR n (fun i => g (i + 1)) * g (n + 1))
  rw [proR_front g n, Int.mul_assoc]
theorem proR_to (g : Nat -> Int) {a : Nat} : ∀ {C : Nat}, a <= C -> proR a g = proR C fun j => if j < a then g j else 1
 | 0, h => by
  have : a = 0 := by (first | lia | omega)
  subst this
  rfl
 | C + 1, h => by
  by_cases c : a = C + 1
  ·subst c
   exact proR_congr _ fun i hi => (if_pos hi).symm
  ·show _ = proR C (fun j => if j < a then g j else 1) * (if C < a then g C else 1)
   rw [if_neg (by (first | lia | omega)), Int.mul_one]
   exact proR_to g (by (first | lia | omega))
theorem hkD_rows : ∀ sh : List Int, hkD sh = proR sh.length fun i => rwD (sh.getD i 0) (sh.drop (i + 1))
 | [] => rfl
 | a :: s => by
  show rwD a s * hkD s = proR (s.length + 1) _
  rw [proR_front, hkD_rows s]
  rfl
theorem ctD_iff (c : Int) : ∀ {sh : List Int}, Fal sh -> ∀ i, i < sh.length -> (c < sh.getD i 0 ↔ (i : Int) < ctD c sh)
 | [], _, i, h => by cases h
 | a :: s, hF, i, hi => by
  have hs := (List.pairwise_cons.mp hF.ge).1
  show c < (a :: s).getD i 0 ↔ (i : Int) < (if c < a then (1 : Int) else 0) + ctD c s
  by_cases h : c < a
  ·rw [if_pos h]
   cases i with
   | zero =>
    have := ctD_nn c s
    show c < a ↔ ((0 : Nat) : Int) < _
    (first | lia | omega)
   | succ i =>
    have := ctD_iff c hF.tail i (by simpa using hi)
    show c < s.getD i 0 ↔ ((i + 1 : Nat) : Int) < _
    (first | lia | omega)
  ·rw [if_neg h]
   have hz : ∀ {l : List Int}, (∀ x ∈ l, ¬ c < x) -> ctD c l = 0 := by
    intro l
    induction l with
    | nil => intro _; rfl
    | cons y t ih =>
     intro hl
     show (if c < y then (1 : Int) else 0) + ctD c t = 0
     rw [if_neg (hl y List.mem_cons_self), ih fun z hz => hl z (List.mem_cons_of_mem _ hz)]
     rfl
   rw [hz fun x hx => by have := hs x hx; (first | lia | omega)]
   cases i with
   | zero =>
    show c < a ↔ ((0 : Nat) : Int) < _
    (first | lia | omega)
   | succ i =>
    have hi' : i < s.length := by simpa using hi
    have h1 := hs (s.getD i 0) (by rw [List.getD_eq_getElem?_getD, List.getElem?_eq_getElem hi']; exact List.getElem_mem hi')
    show c < s.getD i 0 ↔ ((i + 1 : Nat) : Int) < _
    (first | lia | omega)
theorem ctD_drop (c : Int) : ∀ {sh : List Int}, Fal sh -> ∀ i, i < sh.length -> c < sh.getD i 0 -> ctD c (sh.drop (i + 1)) = ctD c sh - ((i : Int) + 1)
 | [], _, i, h, _ => by cases h
 | a :: s, hF, i, hi, hc => by
  have hs := (List.pairwise_cons.mp hF.ge).1
  cases i with
  | zero =>
   have hc' : c < a := hc
   show ctD c s = (if c < a then (1 : Int) else 0) + ctD c s - (((0 : Nat) : Int) + 1)
   rw [if_pos hc']
   (first | lia | omega)
  | succ i =>
   have hi' : i < s.length := by simpa using hi
   have hc' : c < s.getD i 0 := hc
   have h1 := hs (s.getD i 0) (by rw [List.getD_eq_getElem?_getD, List.getElem?_eq_getElem hi']; exact List.getElem_mem hi')
   have := ctD_drop c hF.tail i hi' hc'
   show ctD c (s.drop (i + 1)) = (if c < a then (1 : Int) else 0) + ctD c s - (((i + 1 : Nat) : Int) + 1)
   have hca : c < a := by (first | lia | omega)
   rw [this, if_pos hca]
   (first | lia | omega)
noncomputable def cellD (l m : Nat -> Int) (i j : Nat) : Int := if (j : Int) < l i then l i - (j : Int) + m j - (i : Int) - 1 else 1
theorem hkD_cells {sh : List Int} (h : Fal sh) {C : Nat} (hC : ∀ x ∈ sh, x <= (C : Int)) : hkD sh = proR sh.length fun i => proR C fun j => cellD (fun i => sh.getD i 0) (fun j => ctD (j : Int) sh) i j := by
 rw [hkD_rows]
 refine proR_congr _ fun i hi => ?_
 have hm : sh.getD i 0 ∈ sh := by rw [List.getD_eq_getElem?_getD, List.getElem?_eq_getElem hi]; exact List.getElem_mem hi
 have h0 := h.nn _ hm
 have h1 := hC _ hm
 unfold rwD
 rw [proR_to _ (show (sh.getD i 0).toNat <= C by (first | lia | omega))]
 refine proR_congr _ fun j _ => ?_
 unfold cellD
 by_cases c : (j : Int) < sh.getD i 0
 ·rw [if_pos c, if_pos (by (first | lia | omega)), ctD_drop _ h i hi c]
  dsimp only
  (first | lia | omega)
 ·rw [if_neg c, if_neg (by (first | lia | omega))]
noncomputable def overD (sh : List Int) (C : Nat) : List Int := (List.range C).map fun (k : Nat) => ctD (k : Int) sh
theorem ctD_le : ∀ (c : Int) (sh : List Int), ctD c sh <= (sh.length : Int)
 | _, [] => Int.le_refl _
 | c, x :: s => by
  have := ctD_le c s
  show (if c < x then (1 : Int) else 0) + ctD c s <= ((s.length + 1 : Nat) : Int)
  split <;> (first | lia | omega)
theorem ctD_anti {c d : Int} (h : c <= d) : ∀ sh : List Int, ctD d sh <= ctD c sh
 | [] => Int.le_refl _
 | x :: s => by
  have := ctD_anti h s
  show (if d < x then (1 : Int) else 0) + ctD d s <= (if c < x then (1 : Int) else 0) + ctD c s
  split <;> split <;> (first | lia | omega)
theorem over_fal (sh : List Int) (C : Nat) : Fal (overD sh C) := by
 refine ⟨?_, fun x hx => ?_⟩
 ·unfold overD
  rw [List.pairwise_map]
  exact List.pairwise_lt_range.imp fun {a b} hab => ctD_anti (by (first | lia | omega)) sh
 ·obtain ⟨k, _, rfl⟩ := List.mem_map.mp hx
  exact ctD_nn _ _
theorem ct_over (m : Nat -> Int) (i l : Int) : ∀ C : Nat, (∀ j : Nat, j < C -> (i < m j ↔ (j : Int) < l)) -> 0 <= l -> ctD i ((List.range C).map m) = if (C : Int) < l then (C : Int) else l
 | 0, _, hl => by
  show (0 : Int) = _
  split <;> (first | lia | omega)
 | C + 1, h, hl => by
  rw [List.range_succ, List.map_append, ctD_app, ct_over m i l C (fun j hj => h j (by (first | lia | omega))) hl]
  show _ + ((if i < m C then (1 : Int) else 0) + 0) = _
  have := h C (by (first | lia | omega))
  by_cases c : (C : Int) < l
  ·rw [if_pos c, if_pos (this.mpr c)]
   split <;> (first | lia | omega)
  ·rw [if_neg c, if_neg (fun e => c (this.mp e))]
   split <;> (first | lia | omega)
theorem sum_over : ∀ (sh : List Int) (C : Nat), (∀ x ∈ sh, 0 <= x /\ x <= (C : Int)) -> (overD sh C).sum = sh.sum
 | [], C, _ => by
  unfold overD
  have : ∀ n : Nat, ((List.range n).map fun (k : Nat) => ctD (k : Int) []).sum = 0 := fun n => by
   induction n with
   | zero => rfl
   | succ n ih =>
    rw [List.range_succ, List.map_append, List.sum_append, ih]
    rfl
  exact this C
 | x :: s, C, h => by
  have ih := sum_over s C fun y hy => h y (List.mem_cons_of_mem _ hy)
  have hx := h x List.mem_cons_self
  unfold overD at *
  rw [List.sum_cons, <- ih]
  have : ∀ n : Nat, ((List.range n).map fun (k : Nat) => ctD (k : Int) (x :: s)).sum = (if (n : Int) < x then (n : Int) else x) + ((List.range n).map fun (k : Nat) => ctD (k : Int) s).sum := fun n => by
   induction n with
   | zero =>
    show (0 : Int) = (if ((0 : Nat) : Int) < x then ((0 : Nat) : Int) else x) + 0
    split <;> (first | lia | omega)
   | succ n ih =>
    rw [List.range_succ, List.map_append, List.sum_append, ih, List.map_append, List.sum_append]
    show _ + (((if (n : Int) < x then (1 : Int) else 0) + ctD (n : Int) s) + 0) = _ + (_ + (ctD (n : Int) s + 0))
    split <;> split <;> (first | lia | omega)
  rw [this C]
  split <;> (first | lia | omega)
theorem fil_over {sh : List Int} (h : Fal sh) {C : Nat} (hC : ∀ x ∈ sh, x <= (C : Int)) : filZ (overD sh C) = filZ sh := by
 have hl : ∀ x ∈ overD sh C, x <= (sh.length : Int) := fun x hx => by
  obtain ⟨k, _, rfl⟩ := List.mem_map.mp hx
  exact ctD_le _ _
 unfold filZ
 rw [sum_over sh C fun x hx => ⟨h.nn x hx, hC x hx⟩, hkD_cells h hC, hkD_cells (over_fal sh C) hl, proR_swap]
 have len : (overD sh C).length = C := by unfold overD; rw [List.length_map, List.length_range]
 rw [len]
 congr 1
 refine proR_congr _ fun i hi => proR_congr _ fun j hj => ?_
 have hm : sh.getD i 0 ∈ sh := by rw [List.getD_eq_getElem?_getD, List.getElem?_eq_getElem hi]; exact List.getElem_mem hi
 have h0 := h.nn _ hm
 have h1 := hC _ hm
 have e1 : (overD sh C).getD j 0 = ctD (j : Int) sh := by
  unfold overD
  rw [List.getD_eq_getElem?_getD, List.getElem?_map, List.getElem?_range hj]
  rfl
 have e2 : ctD (i : Int) (overD sh C) = sh.getD i 0 := by
  unfold overD
  rw [ct_over (fun k => ctD (k : Int) sh) (i : Int) (sh.getD i 0) C (fun k _ => (ctD_iff (k : Int) h i hi).symm) h0]
  split <;> (first | lia | omega)
 have e3 := ctD_iff (j : Int) h i hi
 unfold cellD
 show (if (i : Int) < (overD sh C).getD j 0 then _ else _) = (if (j : Int) < sh.getD i 0 then _ else _)
 show (if (i : Int) < (overD sh C).getD j 0 then (overD sh C).getD j 0 - (i : Int) + ctD (i : Int) (overD sh C) - (j : Int) - 1 else 1) = (if (j : Int) < sh.getD i 0 then sh.getD i 0 - (j : Int) + ctD (j : Int) sh - (i : Int) - 1 else 1)
 rw [e1, e2]
 by_cases c : (j : Int) < sh.getD i 0
 ·rw [if_pos c, if_pos (e3.mp c)]
  (first | lia | omega)
 ·rw [if_neg c, if_neg fun e => c (e3.mpr e)]
theorem shF_has : ∀ (k many most : Nat) (sh : List Int), Shp sh -> sh.sum = (many : Int) -> (∀ x ∈ sh, x <= (most : Int)) -> many <= k -> sh ∈ shF k many most
 | 0, many, most, sh, h, hs, _, hk => by
  have := h.sum_len
  have hl : sh.length = 0 := by (first | lia | omega)
  rw [List.eq_nil_of_length_eq_zero hl]
  exact List.mem_singleton.mpr rfl
 | k + 1, many, most, sh, h, hs, hm, hk => by
  unfold shF
  have hsl := h.sum_len
  cases sh with
  | nil =>
   have : many = 0 := by
    have : (0 : Int) = (many : Int) := hs
    (first | lia | omega)
   rw [if_pos this]
   exact List.mem_singleton.mpr rfl
  | cons a s =>
   have ha := h.pos a List.mem_cons_self
   have ha2 := hm a List.mem_cons_self
   have hs1 := (List.pairwise_cons.mp h.ge).1
   have ht : Shp s := ⟨(List.pairwise_cons.mp h.ge).2, fun x hx => h.pos x (List.mem_cons_of_mem _ hx)⟩
   have hts := ht.sum_len
   rw [List.sum_cons] at hs
   rw [if_neg (by (first | lia | omega))]
   refine List.mem_flatMap.mpr ⟨a.toNat - 1, List.mem_range.mpr (by (first | lia | omega)), List.mem_map.mpr ⟨s, ?_, ?_⟩⟩
   ·refine shF_has k (many - (a.toNat - 1 + 1)) (a.toNat - 1 + 1) s ht (by (first | lia | omega)) (fun x hx => ?_) (by (first | lia | omega))
    have := hs1 x hx
    (first | lia | omega)
   ·rw [show a.toNat - 1 + 1 = a.toNat by (first | lia | omega), show ((a.toNat : Nat) : Int) = a by (first | lia | omega)]
noncomputable def allSh : List (List Int) := (List.range 15).flatMap fun n => shF 14 n n
theorem allSh_len : allSh.length <= 600 := by decide +kernel
theorem allSh_has {sh : List Int} (h : Shp sh) (hs : sh.sum <= 14) : sh ∈ allSh := by
 have h1 := h.sum_len
 obtain ⟨n, hn⟩ : ∃ n : Nat, sh.sum = (n : Int) := ⟨sh.sum.toNat, by (first | lia | omega)⟩
 exact List.mem_flatMap.mpr ⟨n, List.mem_range.mpr (by (first | lia | omega)), shF_has 14 n n sh h hn (fun x hx => by have := h1.2 x hx; (first | lia | omega)) (by (first | lia | omega))⟩
end L2
namespace K59
open PySem PySem.Spec PyProof.Rows L2
noncomputable def top (i : Nat) : Stmt := PySem.Challenge.pw_shuffletold_k59_fillings_counted.main.body.getD i (.Pass ⟨0, 0, 0, 0⟩)
end K59
namespace L2
open PySem PySem.Spec PyProof.Rows
noncomputable def spPrN : Sp := fun vs H Q _ => ∃ n : Nat, vs = [.int 1, .int (n : Int)] /\ n <= 60 /\ Q (.int (fcZ n)) H
noncomputable def spFilS : Sp := fun vs H Q _ => ∃ (a : Addr) (sh : List Int), vs = [.ref a] /\ H a = some (.tup (sh.map V.int)) /\ Fal sh /\ sh.length <= 60 /\ sh.sum <= 60 /\ ∀ H', Same H H' -> Q (.int (filZ sh)) H'
noncomputable def gtPN (p : Nat) : V -> Bool
 | .int o => decide ((p : Int) < o)
 | _ => false
theorem gtPN_sum (p : Nat) : ∀ l : List Int, ∃ ns : List Int, ((l.map V.int).filter (gtPN p)).map (fun _ => V.int 1) = ns.map V.int /\ ns.sum = ctD (p : Int) l
 | [] => ⟨[], rfl, rfl⟩
 | x :: l => by
  obtain ⟨ns, h1, h2⟩ := gtPN_sum p l
  rw [List.map_cons, List.filter_cons]
  show ∃ ns : List Int, (if decide ((p : Int) < x) = true then _ else _ : List V).map _ = _ /\ ns.sum = (if (p : Int) < x then (1 : Int) else 0) + ctD (p : Int) l
  by_cases c : (p : Int) < x
  ·rw [decide_eq_true c, if_pos rfl, if_pos c]
   exact ⟨1 :: ns, by rw [List.map_cons, h1]; rfl, by rw [List.sum_cons, h2]⟩
  ·rw [decide_eq_false c, if_neg Bool.false_ne_true, if_neg c]
   exact ⟨ns, h1, by rw [h2]; (first | lia | omega)⟩
theorem Fal.sums {sh : List Int} (h : ∀ x ∈ sh, 0 <= x) : 0 <= sh.sum /\ ∀ x ∈ sh, x <= sh.sum := by
 induction sh with
 | nil => exact ⟨Int.le_refl _, fun y hy => by cases hy⟩
 | cons a t ih =>
  obtain ⟨i1, i2⟩ := ih fun y hy => h y (List.mem_cons_of_mem _ hy)
  have h1 := h a List.mem_cons_self
  rw [List.sum_cons]
  refine ⟨by (first | lia | omega), fun y hy => ?_⟩
  rcases List.mem_cons.mp hy with rfl | hy
  ·(first | lia | omega)
  ·have := i2 y hy
   (first | lia | omega)
theorem fcZ_60 : fcZ 60 < 2 ^ 300 := by decide +kernel
theorem hkD_sm {sh : List Int} (h : Fal sh) (hs : sh.sum <= 60) : 0 < hkD sh /\ Sm (hkD sh) 8000 := by
 have h0 := (Fal.sums h.nn).1
 obtain ⟨n, hn⟩ : ∃ n : Nat, sh.sum = (n : Int) := ⟨sh.sum.toNat, by (first | lia | omega)⟩
 have h1 := (fil_main n sh h hn).1
 have h2 := hkD_pos h.nn
 have h3 := fcZ_pos n
 have h4 : 0 < filZ sh := by rw [<- h1] at h3; exact Int.pos_of_mul_pos_left h3 h2
 have h5 : hkD sh <= fcZ n := by
  rw [<- h1]
  have : 1 * hkD sh <= filZ sh * hkD sh := Int.mul_le_mul_of_nonneg_right (by (first | lia | omega)) (by (first | lia | omega))
  (first | lia | omega)
 have h6 := fcZ_le (show n <= 60 by (first | lia | omega))
 have h7 := fcZ_60
 refine ⟨h2, Sm.of (Nat.lt_of_lt_of_le (show (hkD sh).natAbs < 2 ^ 300 from ?_) (Nat.pow_le_pow_right (by decide) (by decide)))⟩
 have h8 : hkD sh < 2 ^ 300 := by (first | lia | omega)
 have h9 : ((hkD sh).natAbs : Int) < ((2 ^ 300 : Nat) : Int) := by
  rw [Int.natAbs_of_nonneg (by (first | lia | omega))]
  exact h8
 exact Int.ofNat_lt.mp h9
end L2
namespace K59
open PySem PySem.Spec PyProof.Rows L2
noncomputable abbrev s_fillings : Stmt := top 3
noncomputable abbrev s_product : Stmt := top 1
section
variable {P : Program} {w : World} {K : PySem.W.Frag} {mg : Str -> Option Value} {base : Heap}
theorem sc_product : FnScope ["first", "last", "found", "number"] ["first", "last"] (defScope s_product) := ⟨rfl, rfl, rfl, by decide +kernel, rfl, by decide +kernel, by decide +kernel⟩
theorem ok_product {f : Addr} {fd : FuncData} (F : Fun K "product" "product" s_product f fd) (T : Top mg) : FnOk P w K mg base CX0 1 f fd ["first", "last"] spPrN := by
 refine F.ok sc_product (fun vs H Q E h => ?_) (fun cdv A outer s H vs Q E hr h => ?_)
 ·obtain ⟨n, rfl, _⟩ := h
  rfl
 ·obtain ⟨n, rfl, hn, k⟩ := h
  refine ⟨_, (pss_cons (ps_set (i := 2) sc_product.nd rfl (Or.inl rfl) pe_int)
   (pss_cons (ps_for PassesOwn.never rfl (pi_range2 rfl T.n_range (pa_cons (pv 0) (pa_cons (pe_op op_add (pv 1) pe_int) pa_nil))) (pg_name (i := 3) sc_product.nd rfl (Or.inl rfl))
    (pss_one (ps_set (i := 2) sc_product.nd rfl (Or.inl rfl) (pe_op op_mul (pv 2) (pv 3)))))
   (pss_one (ps_ret (pv 2))))), ?_⟩
  refine ⟨_, rfl, _, rfl, _, _, rfl, rfl, _, _, rfl, ⟨by (first | lia | omega), by (first | lia | omega), by (first | lia | omega), by (first | lia | omega)⟩, ?_⟩
  rw [show ((n : Int) + 1 - 1).toNat = n by (first | lia | omega)]
  refine for_range (fun i σ G => G = H /\ ∃ c : Option V, σ = [some (.int 1), some (.int (n : Int)), some (.int (fcZ i)), c]) ⟨rfl, none, rfl⟩ ?_ ?_
  ·rintro i σ G hi ⟨rfl, c, rfl⟩
   refine ⟨_, rfl, _, rfl, _, _, rfl, rfl, .inr ⟨by (first | lia | omega), by (first | lia | omega)⟩, rfl, some (.int (1 + (i : Int))), ?_⟩
   show [some (V.int 1), some (V.int (n : Int)), some (V.int (fcZ i * (1 + (i : Int)))), some (V.int (1 + (i : Int)))] = _
   rw [show fcZ i * (1 + (i : Int)) = fcZ (i + 1) by rw [Int.add_comm 1]; rfl]
  ·rintro σ G ⟨rfl, c, rfl⟩
   exact ⟨_, rfl, k⟩
theorem sc_fillings : FnScope ["shape", "hooks", "row", "length", "column", "below"] ["shape"] (defScope s_fillings) := ⟨rfl, rfl, rfl, by decide +kernel, rfl, by decide +kernel, by decide +kernel⟩
set_option maxHeartbeats 4000000 in
theorem ok_fillings {f : Addr} {fd : FuncData} (F : Fun K "fillings" "fillings" s_fillings f fd) (T : Top mg) (Cproduct : Cal P w K mg base 1 "product" ["first", "last"] spPrN) : FnOk P w K mg base CX0 2 f fd ["shape"] spFilS := by
 refine F.ok sc_fillings (fun vs H Q E h => ?_) (fun cdv A outer s H vs Q E hr h => ?_)
 ·obtain ⟨a, sh, rfl, _⟩ := h
  rfl
 ·obtain ⟨a, sh, rfl, ha, hF, hl, hsum, k⟩ := h
  refine ⟨_, (pss_cons (ps_set (i := 1) sc_fillings.nd rfl (Or.inl rfl) pe_int)
   (pss_cons (ps_for PassesOwn.never rfl (pi_enumT rfl T.n_enumerate (pa_cons (pv 0) pa_nil)) (pg_pair (i := 2) (j := 3) rfl sc_fillings.nd rfl rfl (Or.inl rfl) (Or.inl rfl) (Or.inl rfl) (Or.inl rfl))
    (pss_one (ps_for PassesOwn.never rfl (pi_range1 rfl T.n_range (pa_cons (pv 3) pa_nil)) (pg_name (i := 4) sc_fillings.nd rfl (Or.inr rfl))
     (pss_cons (ps_set (i := 5) sc_fillings.nd rfl (Or.inl rfl) (pe_callB (call_sumL rfl) (by rfl) T.n_sum boot_sum (pa_cons (pe_lc (N' := ["lower", "column"]) (n := 1) (ix := [4]) rfl (CompScope.of (sc := defScope s_fillings) (N := ["shape", "hooks", "row", "length", "column", "below"]) (by decide +kernel) rfl rfl) (pi_tup (pe_slice sl_tupA (pv 0) (po_some (pe_op op_add (pv 2) pe_int)) po_none)) (fun _ _ _ _ _ => ⟨(pg_name (i := 0) (show (["lower", "column"] : List Str).Nodup by decide +kernel) rfl (Or.inl rfl)), (pts_one (pt_cmpR op_gt (pv 0) (pv 1) (nomark _))), pe_int⟩)) pa_nil)))
     (pss_one (ps_set (i := 1) sc_fillings.nd rfl (Or.inl rfl) (pe_op op_mul (pv 1) (pe_op op_add (pe_op op_sub (pv 3) (pv 4)) (pv 5)))))))))
   (pss_one (ps_ret (pe_op op_fdivC (pe_cal Cproduct (hr.mono (by decide)) rfl (pa_cons pe_int (pa_cons (pe_callB (call_sumT rfl) (by rfl) T.n_sum boot_sum (pa_cons (pv 0) pa_nil)) pa_nil))) (pv 1)))))), ?_⟩
  have hs0 := Fal.sums hF.nn
  refine ⟨_, rfl, a, rfl, ⟨_, SqT.of ha⟩, ?_⟩
  refine for_enum (K := K) (xs := sh.map V.int) (fun r σ G => ∃ (c2 c3 c4 c5 : Option V), σ = [some (.ref a), some (.int (proR r fun i => rwD (sh.getD i 0) (sh.drop (i + 1)))), c2, c3, c4, c5] /\ Same H G) ⟨_, _, _, _, rfl, .refl _⟩ ?_ ?_ ?_
  ·rintro r σ G _ ⟨c2, c3, c4, c5, rfl, sG⟩
   exact SqT.of (sG _ _ ha)
  ·rintro r x t σ G hxx ⟨c2, c3, c4, c5, rfl, sG⟩ ht
   have hr' : r < sh.length := by
    have := (List.getElem?_eq_some_iff.mp hxx).1
    rwa [mapI_len] at this
   rw [List.getElem?_map, List.getElem?_eq_getElem hr'] at hxx
   cases hxx
   have eg : sh.getD r 0 = sh[r] := by rw [List.getD_eq_getElem?_getD, List.getElem?_eq_getElem hr']; rfl
   have hx0 := hF.nn _ (List.getElem_mem hr')
   have hx1 := hs0.2 _ (List.getElem_mem hr')
   have st := same_upd (o := .tup [.int (r : Int), .int sh[r]]) ht
   have sT := sG.trans st
   refine ⟨t, _, rfl, SqT.of upd_same, rfl, _, _, rfl, _, _, rfl, rfl, ?_⟩
   refine ⟨_, rfl, _, rfl, by (first | lia | omega), by (first | lia | omega), ?_⟩
   generalize hP : (proR r fun i => rwD (sh.getD i 0) (sh.drop (i + 1))) = Pr
   refine for_range (n := (sh[r]).toNat) (fun p σ G' => ∃ (c4 c5 : Option V), σ = [some (.ref a), some (.int (Pr * proR p fun c => sh[r] - (c : Int) + ctD (c : Int) (sh.drop (r + 1)))), some (.int (r : Int)), some (.int sh[r]), c4, c5] /\ Same H G') ⟨c4, c5, by rw [show proR 0 (fun c => sh[r] - (c : Int) + ctD (c : Int) (sh.drop (r + 1))) = 1 from rfl, Int.mul_one]; rfl, sT⟩ ?_ ?_
   ·rintro p σ G' hp ⟨c4, c5, rfl, sG'⟩
    refine ⟨_, rfl, _, rfl, _, _, rfl, rfl, _, rfl, a, _, rfl, sG' _ _ ha, fun q1 G1 g1 hq1 => ⟨q1, rfl, ⟨_, SqT.of hq1⟩, ?_⟩⟩
    rw [show ((r : Int) + 1) = ((r + 1 : Nat) : Int) by (first | lia | omega), cutV_from] at hq1
    have hdl : (sh.drop (r + 1)).length <= 60 := by rw [List.length_drop]; (first | lia | omega)
    refine lc_pure (yields_tup (xs := (sh.drop (r + 1)).map V.int)) (small1 (by rw [mapI_len]; (first | lia | omega))) (gtPN p) (fun _ => V.int 1) (fun _ s' => SqT.of (s' _ _ hq1)) (fun x hx' G2 s2 Q' q => ?_) (fun x hx' _ G2 s2 Q' q => q) fun acc hacc => ?_
    ·obtain ⟨o, _, rfl⟩ := List.mem_map.mp hx'
     refine ⟨_, rfl, _, rfl, _, _, rfl, rfl, _, rfl, ?_⟩
     rw [Int.zero_add]
     exact q
    obtain ⟨ns, hns, hsm⟩ := gtPN_sum p (sh.drop (r + 1))
    rw [hns]
    refine ⟨acc, ns, rfl, upd_same, ?_⟩
    rw [hsm]
    have sA := same_upd (o := .lst (ns.map V.int)) hacc
    have hb1 := ctD_nn (p : Int) (sh.drop (r + 1))
    have hb2 := ctD_le (p : Int) (sh.drop (r + 1))
    refine ⟨_, rfl, _, rfl, _, rfl, _, _, rfl, rfl, _, rfl, _, _, rfl, rfl, _, _, rfl, rfl, .inr ⟨by (first | lia | omega), by (first | lia | omega)⟩, ?_⟩
    refine ⟨some (.int (0 + (p : Int))), some (.int (ctD (p : Int) (sh.drop (r + 1)))), ?_, (sG'.trans g1).trans sA⟩
    show [some (V.ref a), some (V.int ((Pr * proR p fun c => sh[r] - (c : Int) + ctD (c : Int) (sh.drop (r + 1))) * (sh[r] - (0 + (p : Int)) + ctD (p : Int) (sh.drop (r + 1))))), some (V.int (r : Int)), some (V.int sh[r]), some (V.int (0 + (p : Int))), some (V.int (ctD (p : Int) (sh.drop (r + 1))))] = _
    rw [Int.zero_add, Int.mul_assoc]
    rfl
   ·rintro σ G' ⟨c4, c5, rfl, sG'⟩
    have e : (proR (r + 1) fun i => rwD (sh.getD i 0) (sh.drop (i + 1))) = Pr * proR (sh[r]).toNat fun c => sh[r] - (c : Int) + ctD (c : Int) (sh.drop (r + 1)) := by
     show proR r (fun i => rwD (sh.getD i 0) (sh.drop (i + 1))) * rwD (sh.getD r 0) (sh.drop (r + 1)) = _
     rw [hP, eg]
     rfl
    rw [e]
    exact ⟨_, _, _, _, rfl, sG'⟩
  ·rintro σ G ⟨c2, c3, c4, c5, rfl, sG⟩
   rw [mapI_len, <- hkD_rows]
   have hm := hkD_sm hF hsum
   refine ⟨_, rfl, a, sh, rfl, SqT.of (sG _ _ ha), sh.sum.toNat, ?_, by (first | lia | omega), ?_⟩
   ·rw [Int.toNat_of_nonneg hs0.1]
   ·exact ⟨_, rfl, _, _, rfl, rfl, hm, k G sG⟩
end
end K59
namespace K59
open PySem PySem.Spec PyProof.Rows L2
noncomputable abbrev s__law_hand : Stmt := top 5
noncomputable abbrev s__law_pick : Stmt := top 6
noncomputable abbrev s__law_size : Stmt := top 8
section
variable {P : Program} {w : World} {K : PySem.W.Frag} {mg : Str -> Option Value} {base : Heap}
theorem sc__law_hand : FnScope ["_law_script", "_law_seed", "_law_cell"] ["_law_script"] (defScope s__law_hand) := ⟨rfl, rfl, rfl, by decide +kernel, rfl, by decide +kernel, by decide +kernel⟩
theorem ok__law_hand {f : Addr} {fd : FuncData} (F : Fun K "_law_hand" "_law_hand" s__law_hand f fd) : FnOk P w K mg base CX0 1 f fd ["_law_script"] (spHand K) := by
 refine F.ok sc__law_hand (fun vs H Q E h => ?_) (fun cdv A outer s H vs Q E hr h => ?_)
 ·obtain ⟨a, ns, rfl, _⟩ := h
  rfl
 ·obtain ⟨a, ns, rfl, hS, hl, k⟩ := h
  refine ⟨_, (pss_cons (ps_set (i := 1) sc__law_hand.nd rfl (Or.inl rfl) pe_int)
   (pss_cons (ps_for PassesOwn.never rfl (pi_list (pe_slice sl_list (pv 0) po_none (po_some pe_int))) (pg_name (i := 2) sc__law_hand.nd rfl (Or.inl rfl))
    (pss_one (ps_set (i := 1) sc__law_hand.nd rfl (Or.inl rfl) (pe_op op_mod (pe_op op_add (pe_op op_add (pe_op op_mul (pv 1) pe_int) (pe_op op_mod (pv 2) pe_int)) pe_int) pe_int))))
   (pss_one (ps_ret (pe_lst (pa_cons (pe_lc (N' := ["_law_cell"]) (n := 1) (ix := []) rfl (CompScope.of (sc := defScope s__law_hand) (N := ["_law_script", "_law_seed", "_law_cell"]) (by decide +kernel) rfl rfl) (pi_list (pe_slice sl_list (pv 0) po_none (po_some pe_int))) (fun _ _ _ _ _ => ⟨(pg_name (i := 0) (show (["_law_cell"] : List Str).Nodup by decide +kernel) rfl (Or.inl rfl)), (pts_one (pt_cmpR op_ge (pv 0) (pe_op op_pow pe_int pe_int) (nomark _))), (pv 0)⟩)) (pa_cons (pv 1) pa_nil))))))), ?_⟩
  have hcut : ∃ ms : List Int, cutV (ns.map V.int) none (some 63) = ms.map V.int /\ ms.length <= 63 := by
   refine ⟨(ns.drop (HT.sIx (ns.map V.int).length 0 none)).take (HT.sIx (ns.map V.int).length (ns.map V.int).length (some 63) - HT.sIx (ns.map V.int).length 0 none), ?_, ?_⟩
   ·unfold cutV
    rw [List.map_take, List.map_drop]
   ·rw [List.length_take, List.length_drop]; (first | lia | omega)
  obtain ⟨ms, ecut, hms⟩ := hcut
  refine ⟨_, rfl, 63, rfl, a, _, rfl, hS, fun p hp => ⟨p, rfl, ⟨_, SqL.of upd_same⟩, ?_⟩⟩
  have sS : ∀ {H' : Hp}, Same H H' -> SqL K H' a (ns.map V.int) := fun s' => s'.seq hS
  refine for_list (K := K) (a := p) (xs := ms.map V.int) (fun i σ H2 => ∃ (seed : Int) (c : Option V), σ = [some (.ref a), some (.int seed), c] /\ H2 = upd H p (.lst (ms.map V.int))) ⟨19, none, rfl, by rw [ecut]⟩ (fun i σ H2 _ h => by obtain ⟨_, _, _, rfl⟩ := h; exact SqL.of upd_same) ?_ ?_
  ·rintro i y σ H2 hi ⟨seed, c, rfl, rfl⟩
   obtain ⟨z, _, rfl⟩ := List.mem_map.mp (List.mem_of_getElem? hi)
   refine ⟨_, rfl, _, _, rfl, rfl, .inr ⟨by decide, by decide⟩, _, rfl, _, _, rfl, rfl, (by show (0 : Int) < 2305843009213693951; decide), _, _, rfl, rfl, _, _, rfl, rfl, _, _, rfl, rfl, (by show (0 : Int) < 2305843009213693951; decide), ?_⟩
   exact ⟨_, _, rfl, rfl⟩
  ·rintro σ H2 ⟨seed, c, rfl, rfl⟩
   refine ⟨_, rfl, 63, rfl, a, _, rfl, sS (same_upd hp), fun p' hp' => ⟨p', rfl, ⟨_, SqL.of upd_same⟩, ?_⟩⟩
   rw [ecut]
   refine lc_pure (yields_list (xs := ms.map V.int)) (small1 (by rw [mapI_len]; (first | lia | omega))) (fun v => match v with | .int n => decide (10 ^ (18 : Int).toNat <= n) | _ => false) id (fun H' s' => SqL.of (s' _ _ upd_same)) (fun x hx H' s' Q' q => ?_) (fun x hx _ H' s' Q' q => ?_) fun acc hacc => ?_
   ·obtain ⟨n, _, rfl⟩ := List.mem_map.mp hx
    exact ⟨_, rfl, _, _, rfl, rfl, ⟨by decide, by decide, by decide⟩, _, _, rfl, rfl, _, rfl, q⟩
   ·exact ⟨_, rfl, q⟩
   ·refine ⟨_, rfl, (by show 2 <= sizeLine; decide), fun r hr' => ?_⟩
    have nacc : r ≠ acc := fun z => by rw [z, upd_same] at hr'; cases hr'
    have hacc1 : H acc = none := by
     rw [upd_ne (fun z => by rw [z, upd_same] at hacc; cases hacc)] at hacc
     rw [upd_ne (fun z => by rw [z, upd_same] at hacc; cases hacc)] at hacc
     exact hacc
    have hr1 : H r = none := by
     rw [upd_ne nacc] at hr'
     rw [upd_ne (fun z => by rw [z, upd_same] at hr'; cases hr')] at hr'
     rw [upd_ne (fun z => by rw [z, upd_same] at hr'; cases hr')] at hr'
     exact hr'
    refine k r acc _ ?_ ?_ hr1 hacc1
    ·exact (((same_upd hp).trans (same_upd hp')).trans (same_upd hacc)).trans (same_upd hr')
    ·refine ⟨(ms.filter fun n => decide (10 ^ (18 : Int).toNat <= n)), seed, upd_same, ?_, fun n hn => ?_, ?_⟩
     ·rw [upd_ne (Ne.symm nacc), upd_same, List.map_id, List.filter_map]
      rfl
     ·have := (List.mem_filter.mp hn).2
      have := of_decide_eq_true this
      have e : (10 : Int) ^ (18 : Int).toNat = 1000000000000000000 := by decide
      (first | lia | omega)
     ·exact Nat.le_trans (List.length_filter_le _ _) hms
end
end K59
namespace K59
open PySem PySem.Spec PyProof.Rows L2
section
variable {P : Program} {w : World} {K : PySem.W.Frag} {mg : Str -> Option Value} {base : Heap}
theorem sc__law_pick : FnScope ["_law_hand_here", "_law_many", "_law_digit", "_law_mixed"] ["_law_hand_here", "_law_many"] (defScope s__law_pick) := ⟨rfl, rfl, rfl, by decide +kernel, rfl, by decide +kernel, by decide +kernel⟩
theorem ixN_nat {n j : Nat} (h : j < n) : ixN n (j : Int) = some j := by
 unfold ixN
 rw [if_pos (by (first | lia | omega)), if_pos (by (first | lia | omega))]
 rfl
theorem neNil {H : Hp} {q e : Addr} {ns : List Int} {Q : VK} (hq : H q = some (.lst (ns.map V.int))) (he : H e = none) (h : Q (.bl (!ns.isEmpty)) (upd H e (.lst []))) : rNeD (.ref q) (.ref e) (upd H e (.lst [])) Q := by
 refine ⟨_, _, .lst (by rw [upd_ne (ne_of_none hq he)]; exact hq) (IsAll.ints ns), .lst upd_same .nil, shaped_lints ns, shaped_lints [], ?_⟩
 have e1 : PyData.eqv (.list (ns.map PyData.int)) (.list []) = ns.isEmpty := by
  show PyData.eqvAll (ns.map PyData.int) [] = _
  cases ns with
  | nil => simp [PyData.eqvAll]
  | cons a r => simp [PyData.eqvAll]
 rw [e1]
 exact h
theorem ok__law_pick {f : Addr} {fd : FuncData} (F : Fun K "_law_pick" "_law_pick" s__law_pick f fd) : FnOk P w K mg base CX0 1 f fd ["_law_hand_here", "_law_many"] spPick := by
 refine F.ok sc__law_pick (fun vs H Q E h => ?_) (fun cdv A outer s H vs Q E hr h => ?_)
 ·obtain ⟨p, q, m, rfl, _⟩ := h
  rfl
 ·obtain ⟨p, q, m, rfl, hm0, hm1, hh, k⟩ := h
  have hu : _ := hr.units
  refine ⟨_, (pss_cons (ps_while PassesOwn.never (PW.pt (pw_and (pt_cmpR (op_neD hu) (pe_ix ix_list (pv 0) pe_int (fun _ _ => rfl)) (pe_lst pa_nil) (nomark _)) (pw_and1 (pt_cmpR op_eq (pe_ix ix_list (pe_ix ix_list (pv 0) pe_int (fun _ _ => rfl)) pe_int (fun _ _ => rfl)) pe_int (nomark _)))))
    (pss_one (ps_expr (pe_bm PySem.F.plainAttrs_list PySem.F.slot_list_pop PySem.F.type_list_pop mt_popAt (pe_ix ix_list (pv 0) pe_int (fun _ _ => rfl)) (pa_cons pe_int pa_nil)))))
   (pss_cons (ps_if (pt_cmpR (op_neD hu) (pe_ix ix_list (pv 0) pe_int (fun _ _ => rfl)) (pe_lst pa_nil) (nomark _))
    (pss_cons (ps_set (i := 2) sc__law_pick.nd rfl (Or.inl rfl) (pe_op op_mod (pe_ix ix_list (pe_ix ix_list (pv 0) pe_int (fun _ _ => rfl)) pe_int (fun _ _ => rfl)) (pv 1)))
    (pss_cons (ps_asg (pe_op op_fdiv (pe_ix ix_list (pe_ix ix_list (pv 0) pe_int (fun _ _ => rfl)) pe_int (fun _ _ => rfl)) (pv 1)) (pg_sub (pe_ix ix_list (pv 0) pe_int (fun _ _ => rfl)) pe_int set_list))
    (pss_one (ps_ret (pv 2)))))
    pss_nil)
   (pss_cons (ps_asg (pe_op op_mod (pe_op op_add (pe_op op_mul (pe_ix ix_list (pv 0) pe_int (fun _ _ => rfl)) pe_int) pe_int) pe_int) (pg_sub (pv 0) pe_int set_list))
   (pss_cons (ps_set (i := 3) sc__law_pick.nd rfl (Or.inl rfl) (pe_op op_fdiv (pe_ix ix_list (pv 0) pe_int (fun _ _ => rfl)) pe_int))
   (pss_one (ps_ret (pe_op op_mod (pe_op op_fdiv (pe_op op_mod (pe_op op_mul (pv 3) (pe_op op_add (pe_op op_mod (pv 3) pe_int) pe_int)) pe_int) pe_int) (pv 1)))))))), ?_⟩
  refine ⟨fun n σ H1 => ∃ (ns : List Int) (seed : Int), n = ns.length /\ σ = [some (.ref p), some (.int m), none, none] /\ H1 p = some (.lst [.ref q, .int seed]) /\ H1 q = some (.lst (ns.map V.int)) /\ (∀ n ∈ ns, 0 <= n) /\ ns.length <= 63 /\ Keep p q H H1, ?_, ?_⟩
  ·obtain ⟨ns, seed, h1, h2, h3, h4⟩ := hh
   exact ⟨_, ns, seed, rfl, rfl, h1, h2, h3, h4, Keep.refl _ _ _⟩
  rintro n σ H1 ⟨ns, seed, rfl, rfl, hp, hq, hn, hlen, kp⟩
  refine ⟨_, rfl, p, _, 0, _, rfl, rfl, SqL.of hp, atI_nat (j := 0) rfl, Nat.zero_le _, fun e he => neNil hq he ⟨_, rfl, ?_⟩⟩
  have hnpq : p ≠ q := Hand.ne ⟨ns, seed, hp, hq, hn, hlen⟩
  have hp1 : (upd H1 e (.lst [])) p = some (.lst [.ref q, .int seed]) := by rw [upd_ne (ne_of_none hp he)]; exact hp
  have hq1 : (upd H1 e (.lst [])) q = some (.lst (ns.map V.int)) := by rw [upd_ne (ne_of_none hq he)]; exact hq
  have kp1 : Keep p q H (upd H1 e (.lst [])) := kp.trans (same_upd he).keep
  cases ns with
  | nil =>
   refine iteF ?_
   refine iteF ?_
   refine ⟨_, rfl, p, _, 0, _, rfl, rfl, SqL.of hp1, atI_nat (j := 0) rfl, Nat.zero_le _, fun e' he' => neNil hq1 he' ⟨_, rfl, ?_⟩⟩
   have hp3 : (upd (upd H1 e (.lst [])) e' (.lst [])) p = some (.lst [.ref q, .int seed]) := by rw [upd_ne (ne_of_none hp1 he')]; exact hp1
   have hq3 : (upd (upd H1 e (.lst [])) e' (.lst [])) q = some (.lst (([] : List Int).map V.int)) := by rw [upd_ne (ne_of_none hq1 he')]; exact hq1
   have kp3 : Keep p q H (upd (upd H1 e (.lst [])) e' (.lst [])) := kp1.trans (same_upd he').keep
   refine iteF ?_
   refine ⟨_, rfl, p, _, 1, _, rfl, rfl, SqL.of hp3, atI_nat (j := 1) rfl, _, _, rfl, rfl, .inr ⟨by decide, by decide⟩, _, _, rfl, rfl, _, _, rfl, rfl, (by show (0 : Int) < 2305843009213693951; decide), _, rfl, p, _, 1, 1, rfl, rfl, hp3, rfl, ?_⟩
   refine ⟨_, rfl, p, _, 1, _, rfl, rfl, SqL.of upd_same, atI_nat (j := 1) rfl, _, _, rfl, rfl, ⟨by decide, by decide⟩, ?_⟩
   refine ⟨_, rfl, _, rfl, _, _, rfl, rfl, (by show (0 : Int) < 8191; decide), _, _, rfl, rfl, _, _, rfl, rfl, .inr ?_, _, _, rfl, rfl, (by show (0 : Int) < 2305843009213693921; decide), _, _, rfl, rfl, ⟨by decide, by decide⟩, _, rfl, _, _, rfl, rfl, hm0, ?_⟩
   ·have h1 := Int.emod_nonneg ((seed * 3935559000370003 + 2691343689449507) % 2305843009213693951 / 65537) (by decide : (8191 : Int) ≠ 0)
    have h2 := Int.emod_lt_of_pos ((seed * 3935559000370003 + 2691343689449507) % 2305843009213693951 / 65537) (by decide : (0 : Int) < 8191)
    exact ⟨by (first | lia | omega), by (first | lia | omega)⟩
   ·refine k _ _ (Int.emod_nonneg _ (by (first | lia | omega))) (Int.emod_lt_of_pos _ hm0) ⟨[], _, upd_same, by rw [upd_ne (Ne.symm hnpq)]; exact hq3, hn, by simp⟩ ?_
    exact kp3.trans fun b o hb h1 _ => by rw [upd_ne h1]; exact hb
  | cons x r =>
   refine iteT ?_
   refine ⟨_, rfl, p, _, 0, _, rfl, rfl, SqL.of hp1, atI_nat (j := 0) rfl, q, _, 0, _, rfl, rfl, SqL.of hq1, atI_nat (j := 0) rfl, rfl, _, rfl, ?_⟩
   refine ite2 (fun hz => ?_) (fun hz => ?_)
   ·refine ⟨fun σ' H' => ∃ (ns : List Int) (seed : Int), ns.length < (x :: r).length /\ σ' = [some (.ref p), some (.int m), none, none] /\ H' p = some (.lst [.ref q, .int seed]) /\ H' q = some (.lst (ns.map V.int)) /\ (∀ n ∈ ns, 0 <= n) /\ ns.length <= 63 /\ Keep p q H H', ?_, ?_⟩
    ·rintro σ' H' ⟨ns', seed', hlt, h1, h2, h3, h4, h5, h6⟩
     exact ⟨_, hlt, ns', seed', rfl, h1, h2, h3, h4, h5, h6⟩
    ·refine ⟨_, rfl, p, _, 0, _, rfl, rfl, SqL.of hp1, atI_nat (j := 0) rfl, .inl ⟨rfl, _, SqL.of hq1⟩, q, _, 0, 0, _, rfl, rfl, hq1, by decide, by decide, (by simp [seqIndex?]), rfl, ?_⟩
     refine ⟨r, seed, by simp, rfl, by rw [upd_ne hnpq]; exact hp1, by rw [upd_same]; rfl, fun y hy => hn y (List.mem_cons_of_mem _ hy), by have : (x :: r).length = r.length + 1 := rfl; (first | lia | omega), ?_⟩
     exact kp1.trans fun b o hb _ h2 => by rw [upd_ne h2]; exact hb
   ·refine ⟨_, rfl, p, _, 0, _, rfl, rfl, SqL.of hp1, atI_nat (j := 0) rfl, Nat.zero_le _, fun e' he' => neNil hq1 he' ⟨_, rfl, ?_⟩⟩
    have hp3 : (upd (upd H1 e (.lst [])) e' (.lst [])) p = some (.lst [.ref q, .int seed]) := by rw [upd_ne (ne_of_none hp1 he')]; exact hp1
    have hq3 : (upd (upd H1 e (.lst [])) e' (.lst [])) q = some (.lst ((x :: r).map V.int)) := by rw [upd_ne (ne_of_none hq1 he')]; exact hq1
    have kp3 : Keep p q H (upd (upd H1 e (.lst [])) e' (.lst [])) := kp1.trans (same_upd he').keep
    refine iteT ?_
    have hx0 : 0 <= x := hn x List.mem_cons_self
    refine ⟨_, rfl, p, _, 0, _, rfl, rfl, SqL.of hp3, atI_nat (j := 0) rfl, q, _, 0, _, rfl, rfl, SqL.of hq3, atI_nat (j := 0) rfl, _, rfl, _, _, rfl, rfl, hm0, ?_⟩
    refine ⟨_, rfl, p, _, 0, _, rfl, rfl, SqL.of hp3, atI_nat (j := 0) rfl, q, _, 0, _, rfl, rfl, SqL.of hq3, atI_nat (j := 0) rfl, _, rfl, _, _, rfl, rfl, ⟨hm0, hm1⟩, _, rfl, p, _, 0, _, rfl, rfl, SqL.of hp3, atI_nat (j := 0) rfl, q, _, 0, 0, rfl, rfl, hq3, ixN_nat (j := 0) (by simp), ?_⟩
    refine ⟨_, rfl, ?_⟩
    refine k _ _ (Int.emod_nonneg _ (by (first | lia | omega))) (Int.emod_lt_of_pos _ hm0) ⟨(x / m) :: r, seed, by rw [upd_ne hnpq]; exact hp3, by rw [upd_same]; rfl, fun y hy => ?_, by simpa using hlen⟩ ?_
    ·rcases List.mem_cons.mp hy with rfl | hy
     ·exact Int.ediv_nonneg hx0 (by (first | lia | omega))
     ·exact hn y (List.mem_cons_of_mem _ hy)
    ·exact kp3.trans fun b o hb _ h2 => by rw [upd_ne h2]; exact hb
end
end K59
namespace K59
open PySem PySem.Spec PyProof.Rows L2
section
variable {P : Program} {w : World} {K : PySem.W.Frag} {mg : Str -> Option Value} {base : Heap}
theorem sc__law_size : FnScope ["_law_hand_here", "_law_most"] ["_law_hand_here", "_law_most"] (defScope s__law_size) := ⟨rfl, rfl, rfl, by decide +kernel, rfl, by decide +kernel, by decide +kernel⟩
theorem ok__law_size {f : Addr} {fd : FuncData} (F : Fun K "_law_size" "_law_size" s__law_size f fd) (C_law_pick : Cal P w K mg base 1 "_law_pick" ["_law_hand_here", "_law_many"] spPick) : FnOk P w K mg base CX0 2 f fd ["_law_hand_here", "_law_most"] spSize := by
 refine F.ok sc__law_size (fun vs H Q E h => ?_) (fun cdv A outer s H vs Q E hr h => ?_)
 ·obtain ⟨p, q, m, rfl, _⟩ := h
  rfl
 ·obtain ⟨p, q, m, rfl, hm0, hm1, hh, k⟩ := h
  refine ⟨_, (pss_cons (ps_if (pt_cmpR op_eq (pe_cal C_law_pick (hr.mono (by decide)) rfl (pa_cons (pv 0) (pa_cons pe_int pa_nil))) pe_int (nomark _))
    (pss_one (ps_ret (pe_op op_sub (pv 1) (pe_cal C_law_pick (hr.mono (by decide)) rfl (pa_cons (pv 0) (pa_cons pe_int pa_nil))))))
    pss_nil)
   (pss_one (ps_ret (pe_cal C_law_pick (hr.mono (by decide)) rfl (pa_cons (pv 0) (pa_cons pe_int pa_nil)))))), ?_⟩
  refine ⟨_, rfl, p, q, 8, rfl, by decide, by decide, hh, fun d H1 h0 h1 hh1 k1 => ⟨rfl, _, rfl, ?_⟩⟩
  refine ite2 (fun _ => ?_) (fun _ => ?_)
  ·refine ⟨_, rfl, _, rfl, p, q, 6, rfl, by decide, by decide, hh1, fun d' H2 h0' h1' hh2 k2 => ⟨_, _, rfl, rfl, ?_⟩⟩
   exact k _ _ (by (first | lia | omega)) (by (first | lia | omega)) hh2 (k1.trans k2)
  ·refine ⟨_, rfl, p, q, 10, rfl, by decide, by decide, hh1, fun d' H2 h0' h1' hh2 k2 => ?_⟩
   exact k _ _ h0' (by (first | lia | omega)) hh2 (k1.trans k2)
end
end K59
namespace L2
open PySem PySem.Spec PyProof.Rows
end L2
namespace K59
open PySem PySem.Spec PyProof.Rows L2
noncomputable abbrev s__law_whole : Stmt := top 9
section
variable {P : Program} {w : World} {K : PySem.W.Frag} {mg : Str -> Option Value} {base : Heap}
theorem sc__law_whole : FnScope ["_law_thing"] ["_law_thing"] (defScope s__law_whole) := ⟨rfl, rfl, rfl, by decide +kernel, rfl, by decide +kernel, by decide +kernel⟩
set_option maxHeartbeats 8000000 in
theorem ok__law_whole {f : Addr} {fd : FuncData} (F : Fun K "_law_whole" "_law_whole" s__law_whole f fd) (T : Top mg) : FnOk P w K mg base CX0 1 f fd ["_law_thing"] (spWhA K) := by
 refine F.ok sc__law_whole (fun vs H Q E h => ?_) (fun cdv A outer s H vs Q E hr h => ?_)
 ·obtain ⟨x, rfl, _⟩ := h
  rfl
 ·obtain ⟨x, rfl, ⟨t, ht, hm⟩, k⟩ := h
  refine ⟨_, (pss_one (ps_ret (pe_and (pe_callB call_isi (by rfl) T.n_isinstance boot_isinstance (pa_cons (pv 0) (pa_cons (pe_bltn (v := .ty "int") rfl T.n_int boot_int rfl) pa_nil))) (pe_one (pe_not (pe_callB call_isi (by rfl) T.n_isinstance boot_isinstance (pa_cons (pv 0) (pa_cons (pe_bltn (v := .ty "bool") rfl T.n_bool boot_bool rfl) pa_nil)))))))), ?_⟩
  obtain ⟨k1, k2, _⟩ := kit7 (K := K) hm
  have hi := (tyI ht).trans isIv_iff.symm
  refine ⟨_, rfl, _, _, _, _, rfl, ht, k1, _, rfl, ?_⟩
  by_cases hb : t = "bool"
  ·subst hb
   refine iteT ⟨_, rfl, _, _, _, _, rfl, ht, k2, _, rfl, ?_⟩
   have : isIv x = false := by
    cases e : isIv x with
    | false => rfl
    | true => exact absurd (hi.mpr e) (by decide)
   rw [this] at k
   exact k
  ·by_cases hI : t = "int"
   ·subst hI
    refine iteT ⟨_, rfl, _, _, _, _, rfl, ht, k2, _, rfl, ?_⟩
    rw [hi.mp rfl] at k
    exact k
   ·have e0 : (t == "bool" || t == "int") = false := by
     rw [beq_eq_false_iff_ne.mpr hb, beq_eq_false_iff_ne.mpr hI]
     rfl
    have : isIv x = false := by
     cases e : isIv x with
     | false => rfl
     | true => exact absurd (hi.mpr e) hI
    rw [this] at k
    rw [e0]
    exact iteF k
end
end K59
namespace L2
open PySem PySem.Spec PyProof.Rows
noncomputable def spOfI : Sp := fun vs H Q _ => ∃ (p q l : Addr) (ns : List Int), vs = [.ref p, .ref l] /\ Hand H p q /\ H l = some (.lst (ns.map V.int)) /\ l ≠ p /\ l ≠ q /\ 0 < ns.length /\ ns.length < 1000 /\ ∀ n H', n ∈ ns -> Hand H' p q -> Keep p q H H' -> Q (.int n) H'
theorem call_tupKT {X : Cx} (K : PySem.W.Frag) (hK : X.K = K) : CallR X (.type "tuple") (fun xs H Q => ∃ p ys, xs = [.ref p] /\ ((SqL K H p ys /\ ∀ l, H l = none -> Q (.ref l) (upd H l (.tup ys))) ∨ (SqT K H p ys /\ Q (.ref p) H))) := hK ▸ call_tuple_of
theorem hand_newT {p q a : Addr} {H : Hp} (h : Hand H p q) (e : H a = none) : a ≠ p /\ a ≠ q := by
 obtain ⟨ns, seed, h1, h2, _⟩ := h
 exact ⟨(fun z => by rw [z, h1] at e; cases e), (fun z => by rw [z, h2] at e; cases e)⟩
noncomputable def TabAt (H : Hp) (z : Addr) (R : List (List Int)) : Prop := ∃ ts : List Addr, H z = some (.tup (ts.map V.ref)) /\ RowsAt H ts R
noncomputable def spDrawT : Sp := fun vs H Q _ => ∃ (p q : Addr) (m : Nat), vs = [.ref p, .int m] /\ m <= 130 /\ Hand H p q /\ ∀ z R H', TabZ m R -> TabAt H' z R -> Hand H' p q -> Keep p q H H' -> Q (.ref z) H'
noncomputable def endP (R : List (List Int)) (k : Nat) : Bool := decide (k = 0) || decide ((R.getD k []).length < (R.getD (k - 1) []).length)
theorem Hand.lset {H : Hp} {p q l : Addr} {o : HO} (h : Hand H p q) (h1 : l ≠ p) (h2 : l ≠ q) : Hand (upd H l o) p q := by
 obtain ⟨ns, seed, e1, e2, r⟩ := h
 exact ⟨ns, seed, by rw [upd_ne (Ne.symm h1)]; exact e1, by rw [upd_ne (Ne.symm h2)]; exact e2, r⟩
theorem rows_tup {G G' : Hp} : ∀ {zs : List Addr} {R : List (List Int)} {ys : List V}, zs.length = R.length -> (∀ (i : Nat) (z : Addr), zs[i]? = some z -> ∃ r : List Int, R[i]? = some r /\ G z = some (.lst (r.map V.int))) -> Paired (fun x v => ∃ (z t : Addr) (r : List Int), x = V.ref z /\ G z = some (.lst (r.map V.int)) /\ v = V.ref t /\ G' t = some (.tup (r.map V.int))) (zs.map V.ref) ys -> ∃ ts : List Addr, ys = ts.map V.ref /\ RowsAt G' ts R
 | [], [], _, _, _, .nil => ⟨[], rfl, .nil⟩
 | [], _ :: _, _, e, _, _ => by cases e
 | _ :: _, [], _, e, _, _ => by cases e
 | z :: zs, r :: R, _, e, h, .cons ⟨z', t, r', e1, e2, e3, e4⟩ pr => by
  cases e1
  subst e3
  obtain ⟨r2, h1, h2⟩ := h 0 z rfl
  cases h1
  have : r' = r := by
   rw [h2] at e2
   injection e2 with e2
   injection e2 with e2
   exact (mapI_inj e2).symm
  subst this
  obtain ⟨ts, g1, g2⟩ := rows_tup (by simpa using e) (fun i z hz => h (i + 1) z hz) pr
  exact ⟨t :: ts, by rw [g1]; rfl, .cons e4 g2⟩
theorem ne_len {l : List (List Int)} : (∀ r ∈ l, r ≠ []) -> l.length <= l.flatten.length := by
 induction l with
 | nil => exact fun _ => Nat.zero_le _
 | cons r t ih =>
  intro hr
  have a1 := ih fun r hr' => hr r (List.mem_cons_of_mem _ hr')
  have a2 := List.length_pos_iff.mpr (hr r List.mem_cons_self)
  rw [List.flatten_cons, List.length_append, List.length_cons]
  (first | lia | omega)
end L2
namespace K59
open PySem PySem.Spec PyProof.Rows L2
noncomputable abbrev s__law_of : Stmt := top 7
noncomputable abbrev s__law_drawn_table : Stmt := top 10
section
variable {P : Program} {w : World} {K : PySem.W.Frag} {mg : Str -> Option Value} {base : Heap}
theorem sc__law_of : FnScope ["_law_hand_here", "_law_some"] ["_law_hand_here", "_law_some"] (defScope s__law_of) := ⟨rfl, rfl, rfl, by decide +kernel, rfl, by decide +kernel, by decide +kernel⟩
theorem ok__law_of {f : Addr} {fd : FuncData} (F : Fun K "_law_of" "_law_of" s__law_of f fd) (T : Top mg) (C_law_pick : Cal P w K mg base 1 "_law_pick" ["_law_hand_here", "_law_many"] spPick) : FnOk P w K mg base CX0 2 f fd ["_law_hand_here", "_law_some"] spOfI := by
 refine F.ok sc__law_of (fun vs H Q E h => ?_) (fun cdv A outer s H vs Q E hr h => ?_)
 ·obtain ⟨p, q, l, ns, rfl, _⟩ := h
  rfl
 ·obtain ⟨p, q, l, ns, rfl, hh, hl, hlp, hlq, n0, n1, k⟩ := h
  refine ⟨_, (pss_one (ps_ret (pe_ix ix_list (pv 1) (pe_cal C_law_pick (hr.mono (by decide)) rfl (pa_cons (pv 0) (pa_cons (pe_callB call_len_seq (by rfl) T.n_len PySem.boot_len (pa_cons (pv 1) pa_nil)) pa_nil))) (fun _ _ => rfl)))), ?_⟩
  refine ⟨_, rfl, _, rfl, _, rfl, l, _, rfl, .inl (SqL.of hl), ?_⟩
  rw [mapI_len]
  refine ⟨p, q, _, rfl, by (first | lia | omega), by (first | lia | omega), hh, fun d H1 a1 b1 hh1 kp1 => ?_⟩
  obtain ⟨n, hn, en⟩ := at_list (ns := ns) (d := d) a1 b1
  exact ⟨l, _, d, .int n, rfl, rfl, SqL.of (kp1 _ _ hl hlp hlq), en, k n H1 hn hh1 kp1⟩
theorem sc__law_drawn_table : FnScope ["_law_hand_here", "_law_many", "_law_rows", "_law_number", "_law_ends", "_law_at"] ["_law_hand_here", "_law_many"] (defScope s__law_drawn_table) := ⟨rfl, rfl, rfl, by decide +kernel, rfl, by decide +kernel, by decide +kernel⟩
set_option maxHeartbeats 8000000 in
theorem ok__law_drawn_table {f : Addr} {fd : FuncData} (F : Fun K "_law_drawn_table" "_law_drawn_table" s__law_drawn_table f fd) (T : Top mg) (C_law_of : Cal P w K mg base 2 "_law_of" ["_law_hand_here", "_law_some"] spOfI) : FnOk P w K mg base CX0 3 f fd ["_law_hand_here", "_law_many"] spDrawT := by
 refine F.ok sc__law_drawn_table (fun vs H Q E h => ?_) (fun cdv A outer s H vs Q E hr h => ?_)
 ·obtain ⟨p, q, m, rfl, _⟩ := h
  rfl
 ·obtain ⟨p, q, m, rfl, hm, hh, k⟩ := h
  refine ⟨_, (pss_cons (ps_set (i := 2) sc__law_drawn_table.nd rfl (Or.inr rfl) (pe_lst pa_nil))
   (pss_cons (ps_for PassesOwn.never rfl (pi_range1 rfl T.n_range (pa_cons (pv 1) pa_nil)) (pg_name (i := 3) sc__law_drawn_table.nd rfl (Or.inl rfl))
    (pss_cons (ps_set (i := 4) sc__law_drawn_table.nd rfl (Or.inl rfl) (pe_op op_cat (pe_lc (N' := ["_law_k", "_law_rows"]) (n := 1) (ix := [2]) rfl (CompScope.of (sc := defScope s__law_drawn_table) (N := ["_law_hand_here", "_law_many", "_law_rows", "_law_number", "_law_ends", "_law_at"]) (by decide +kernel) rfl rfl) (pi_range1 rfl T.n_range (pa_cons (pe_callB call_len_seq (by rfl) T.n_len PySem.boot_len (pa_cons (pv 2) pa_nil)) pa_nil)) (fun _ _ _ _ _ => ⟨(pg_name (i := 0) (show (["_law_k", "_law_rows"] : List Str).Nodup by decide +kernel) rfl (Or.inl rfl)), (pts_one (PW.pt (pw_or (pt_cmpR op_eq (pv 0) pe_int (nomark _)) (pw_or1 (pt_cmpR op_lt (pe_callB (call_len_seqKY K rfl) (by rfl) T.n_len PySem.boot_len (pa_cons (pe_ix (ix_listK K rfl) (pv 1) (pv 0) (fun _ _ => rfl)) pa_nil)) (pe_callB (call_len_seqKY K rfl) (by rfl) T.n_len PySem.boot_len (pa_cons (pe_ix (ix_listK K rfl) (pv 1) (pe_op op_sub (pv 0) pe_int) (fun _ _ => rfl)) pa_nil)) (nomark _)))))), (pv 0)⟩)) (pe_lst (pa_cons (pe_callB call_len_seq (by rfl) T.n_len PySem.boot_len (pa_cons (pv 2) pa_nil)) pa_nil))))
    (pss_cons (ps_set (i := 5) sc__law_drawn_table.nd rfl (Or.inl rfl) (pe_cal C_law_of (hr.mono (by decide)) rfl (pa_cons (pv 0) (pa_cons (pv 4) pa_nil))))
    (pss_cons (ps_if (pt_cmpR op_eq (pv 5) (pe_callB call_len_seq (by rfl) T.n_len PySem.boot_len (pa_cons (pv 2) pa_nil)) (nomark _))
     (pss_one (ps_expr (pe_bm PySem.F.plainAttrs_list PySem.F.slot_list_append PySem.F.type_list_append mt_append (pv 2) (pa_cons (pe_lst pa_nil) pa_nil))))
     pss_nil)
    (pss_one (ps_expr (pe_bm PySem.F.plainAttrs_list PySem.F.slot_list_append PySem.F.type_list_append mt_append (pe_ix ix_list (pv 2) (pv 5) (fun _ _ => rfl)) (pa_cons (pv 3) pa_nil))))))))
   (pss_one (ps_ret (pe_callTy call_tuple_of (by rfl) T.n_tuple boot_tuple (pa_cons (pe_lc (N' := ["_law_row"]) (n := 1) (ix := []) rfl (CompScope.of (sc := defScope s__law_drawn_table) (N := ["_law_hand_here", "_law_many", "_law_rows", "_law_number", "_law_ends", "_law_at"]) (by decide +kernel) rfl rfl) (pi_list (pv 2)) (fun _ _ _ _ _ => ⟨(pg_name (i := 0) (show (["_law_row"] : List Str).Nodup by decide +kernel) rfl (Or.inl rfl)), pts_nil, (pe_callTy (call_tupKT K rfl) (by rfl) T.n_tuple boot_tuple (pa_cons (pv 0) pa_nil))⟩)) pa_nil)))))), ?_⟩
  refine ⟨Nat.zero_le _, fun Rl hRl => ?_⟩
  have s1 := same_upd (o := .lst []) hRl
  have nR := hand_newT hh hRl
  refine ⟨_, rfl, (m : Int), rfl, by (first | lia | omega), by (first | lia | omega), ?_⟩
  rw [Int.toNat_natCast]
  refine for_range (n := m) (fun i σ G => ∃ (zs : List Addr) (R : List (List Int)) (c3 c4 c5 : Option V), σ = [some (.ref p), some (.int m), some (.ref Rl), c3, c4, c5] /\ G Rl = some (.lst (zs.map V.ref)) /\ LsZ G zs R /\ TabZ i R /\ Hand G p q /\ Keep p q H G /\ (∀ z ∈ zs, H z = none /\ z ≠ Rl)) ⟨[], [], _, _, _, rfl, upd_same, ⟨List.nodup_nil, rfl, fun i z e => by simp at e⟩, TabZ.nil, hh.same s1, s1.keep, fun _ h => by cases h⟩ ?_ ?_
  ·rintro i σ G hi ⟨zs, R, c3, c4, c5, rfl, hGR, hL, hT, hG, kG, hzs⟩
   have lz : zs.length = R.length := hL.len
   have lR : R.length <= i := by
    have h1 := hT.len
    have h2 : ∀ {l : List (List Int)}, (∀ r ∈ l, r ≠ []) -> l.length <= l.flatten.length := fun {l} => by
     induction l with
     | nil => exact fun _ => Nat.zero_le _
     | cons r t ih =>
      intro hr
      have a1 := ih fun r hr' => hr r (List.mem_cons_of_mem _ hr')
      have a2 := List.length_pos_iff.mpr (hr r List.mem_cons_self)
      rw [List.flatten_cons, List.length_append, List.length_cons]
      (first | lia | omega)
    have := h2 hT.ne
    (first | lia | omega)
   refine ⟨_, rfl, Rl, _, rfl, .inl (SqL.of hGR), _, rfl, by (first | lia | omega), by rw [List.length_map]; (first | lia | omega), ?_⟩
   rw [List.length_map, Int.toNat_natCast, lz]
   have len_at : ∀ {k : Nat}, k < R.length -> ∃ z, zs[k]? = some z /\ G z = some (.lst ((R.getD k []).map V.int)) := fun {k} hk => by
    obtain ⟨z, hz⟩ : ∃ z, zs[k]? = some z := ⟨_, List.getElem?_eq_getElem (by (first | lia | omega))⟩
    obtain ⟨r, hr1, hr2⟩ := hL.at_ k z hz
    refine ⟨z, hz, ?_⟩
    rw [List.getD_eq_getElem?_getD, hr1]
    exact hr2
   have atz : ∀ {k : Nat} {z : Addr}, zs[k]? = some z -> atI (zs.map V.ref) (k : Int) = some (.ref z) := fun {k z} h => atI_nat (by rw [List.getElem?_map, h]; rfl)
   refine lc_pure (yields_range (lo := 0) (n := R.length)) (small1 (by rw [rangeV_len]; (first | lia | omega))) (fun v => match v with | .int n => endP R n.toNat | _ => false) id (fun _ _ => trivial) (fun x hx G' s' Q' q' => ?_) (fun x hx _ G' s' Q' q' => ⟨_, rfl, q'⟩) fun acc hacc => ?_
   ·obtain ⟨n, rfl, n0, n1⟩ := mem_rangeV hx
    obtain ⟨j, rfl⟩ : ∃ j : Nat, n = (j : Int) := ⟨n.toNat, by (first | lia | omega)⟩
    have hq : Q' (endP R j) G' := q'
    have ee : endP R j = (decide (j = 0) || decide ((R.getD j []).length < (R.getD (j - 1) []).length)) := rfl
    refine ⟨_, rfl, rfl, _, rfl, ?_⟩
    by_cases hj : j = 0
    ·rw [ee, decide_eq_true hj, Bool.true_or] at hq
     subst hj
     exact iteT hq
    ·rw [ee, decide_eq_false hj, Bool.false_or] at hq
     rw [dec_int, show ((j : Int) == 0) = false from beq_eq_false_iff_ne.mpr (by (first | lia | omega))]
     obtain ⟨z1, hz1, hz2⟩ := len_at (k := j) (by (first | lia | omega))
     obtain ⟨y1, hy1, hy2⟩ := len_at (k := j - 1) (by (first | lia | omega))
     refine iteF ⟨_, rfl, _, rfl, Rl, _, _, _, rfl, rfl, SqL.of (s' _ _ hGR), atz hz1, z1, _, rfl, .inl (SqL.of (s' _ _ hz2)), _, rfl, _, rfl, _, _, rfl, rfl, Rl, _, _, _, rfl, rfl, SqL.of (s' _ _ hGR), ?_, y1, _, rfl, .inl (SqL.of (s' _ _ hy2)), _, _, rfl, rfl, _, rfl, ?_⟩
     ·rw [show (j : Int) - 1 = ((j - 1 : Nat) : Int) by (first | lia | omega)]
      exact atz hy1
     rw [mapI_len, mapI_len]
     have e2 : decide (((R.getD j []).length : Int) < ((R.getD (j - 1) []).length : Int)) = decide ((R.getD j []).length < (R.getD (j - 1) []).length) := decide_eq_decide.mpr (by (first | lia | omega))
     rw [e2]
     exact hq
   have e1 : ((rangeV 0 R.length).filter fun v => match v with | .int n => endP R n.toNat | _ => false).map id = ((num0 R.length).filter fun n => endP R n.toNat).map V.int := by
    rw [List.map_id, rangeV_num0, List.filter_map]
    rfl
   rw [e1]
   have t1 := same_upd (o := .lst (((num0 R.length).filter fun n => endP R n.toNat).map V.int)) hacc
   have lf : ((num0 R.length).filter fun n => endP R n.toNat).length <= R.length := by
    refine Nat.le_trans (List.length_filter_le _ _) ?_
    unfold num0
    rw [List.length_map, List.length_range]
    exact Nat.le_refl _
   refine ⟨_, rfl, Rl, _, rfl, .inl (SqL.of (t1 _ _ hGR)), by show 1 <= sizeLine; decide, fun l2 hl2 => ?_⟩
   rw [List.length_map, lz]
   have t2 := same_upd (o := .lst [.int (R.length : Int)]) hl2
   refine ⟨acc, l2, _, _, rfl, rfl, t2 _ _ upd_same, upd_same, by rw [mapI_len, sizeLine_eq]; show _ + 1 <= _; (first | lia | omega), fun l3 hl3 => ?_⟩
   have t3 := same_upd (o := .lst (((num0 R.length).filter fun n => endP R n.toNat).map V.int ++ [.int (R.length : Int)])) hl3
   have T3 := t1.trans (t2.trans t3)
   have e3 : ((num0 R.length).filter fun n => endP R n.toNat).map V.int ++ [.int (R.length : Int)] = (((num0 R.length).filter fun n => endP R n.toNat) ++ [(R.length : Int)]).map V.int := by
    rw [List.map_append]
    rfl
   have n3 := hand_newT (hG.same (t1.trans t2)) hl3
   have hl33 := @upd_same (upd (upd G acc (.lst (((num0 R.length).filter fun n => endP R n.toNat).map V.int))) l2 (.lst [.int (R.length : Int)])) l3 (.lst (((num0 R.length).filter fun n => endP R n.toNat).map V.int ++ [.int (R.length : Int)]))
   rw [e3] at hl33
   rw [e3] at T3 ⊢
   refine ⟨_, rfl, _, rfl, p, q, l3, _, rfl, hG.same T3, hl33, n3.1, n3.2, by rw [List.length_append]; show 0 < _ + 1; (first | lia | omega), by rw [List.length_append]; show _ + 1 < 1000; (first | lia | omega), fun at_ G4 hat hG4 k4 => ?_⟩
   have K4 : Keep p q G G4 := T3.keep.trans k4
   have pz : p ∉ zs /\ q ∉ zs := by
    obtain ⟨ns0, seed0, g1, g2, _⟩ := id hh
    refine ⟨fun z => ?_, fun z => ?_⟩
    ·have := (hzs p z).1
     rw [g1] at this
     cases this
    ·have := (hzs q z).1
     rw [g2] at this
     cases this
   have hGR4 := K4 _ _ hGR nR.1 nR.2
   have hL4 := hL.keep K4 pz.1 pz.2
   have kH4 := kG.trans K4
   have hge : 0 <= at_ /\ ((∃ kk : Nat, at_ = (kk : Int) /\ kk < R.length /\ endP R kk = true) ∨ at_ = (R.length : Int)) := by
    rcases List.mem_append.mp hat with h | h
    ·obtain ⟨h1, h2⟩ := List.mem_filter.mp h
     obtain ⟨kk, hkk, rfl⟩ := List.mem_map.mp h1
     have := List.mem_range.mp hkk
     exact ⟨by (first | lia | omega), .inl ⟨kk, rfl, this, by simpa using h2⟩⟩
    ·rw [List.mem_singleton.mp h]
     exact ⟨by (first | lia | omega), .inr rfl⟩
   generalize upd (upd (upd G acc (.lst (((num0 R.length).filter fun n => endP R n.toNat).map V.int))) l2 (.lst [.int (R.length : Int)])) l3 (.lst ((((num0 R.length).filter fun n => endP R n.toNat) ++ [(R.length : Int)]).map V.int)) = Gx at *
   refine ⟨_, rfl, _, rfl, Rl, _, rfl, .inl (SqL.of hGR4), rfl, _, rfl, ?_⟩
   rw [List.length_map, lz]
   rcases hge.2 with ⟨kk, rfl, hkk, hend⟩ | rfl
   ·-- a row that is there
    rw [dec_int, show (((kk : Int)) == (R.length : Int)) = false from beq_eq_false_iff_ne.mpr (by (first | lia | omega))]
    refine iteF ?_
    obtain ⟨z, hz⟩ : ∃ z, zs[kk]? = some z := ⟨_, List.getElem?_eq_getElem (by (first | lia | omega))⟩
    obtain ⟨r, hr1, hr2⟩ := hL4.at_ kk z hz
    have lr : r.length <= i := by
     have h1 := hT.len
     have h2 : r.length <= R.flatten.length := by
      obtain ⟨l1, l2', e⟩ := List.append_of_mem (List.mem_of_getElem? hr1)
      rw [e, List.flatten_append, List.flatten_cons, List.length_append, List.length_append]
      (first | lia | omega)
     (first | lia | omega)
    refine ⟨_, rfl, _, rfl, Rl, _, _, _, rfl, rfl, SqL.of hGR4, atz hz, .inl ⟨rfl, _, SqL.of hr2⟩, _, rfl, z, _, _, rfl, rfl, hr2, small1 (by rw [mapI_len]; (first | lia | omega)), ?_⟩
    have hzR := hzs z (List.mem_of_getElem? hz)
    have nz := hand_newT hh hzR.1
    have ez : r.map V.int ++ [.int (0 + (i : Int))] = (r ++ [(i : Int)]).map V.int := by
     rw [List.map_append, Int.zero_add]
     rfl
    rw [ez]
    refine ⟨zs, R.set kk (r ++ [(i : Int)]), _, _, _, rfl, by rw [upd_ne (Ne.symm hzR.2)]; exact hGR4, hL4.put (r := r) hz _, hT.grow hr1 ?_, hG4.lset nz.1 nz.2, fun b o hb h1 h2 => by rw [upd_ne (fun z' => by rw [z', hzR.1] at hb; cases hb)]; exact kH4 b o hb h1 h2, hzs⟩
    have he : endP R kk = (decide (kk = 0) || decide ((R.getD kk []).length < (R.getD (kk - 1) []).length)) := rfl
    rw [he, Bool.or_eq_true, decide_eq_true_eq, decide_eq_true_eq] at hend
    rcases hend with h | h
    ·exact .inl h
    ·by_cases k0 : kk = 0
     ·exact .inl k0
     ·obtain ⟨a', ha'⟩ : ∃ a', R[kk - 1]? = some a' := ⟨_, List.getElem?_eq_getElem (by (first | lia | omega))⟩
      rw [List.getD_eq_getElem?_getD, hr1, List.getD_eq_getElem?_getD, ha'] at h
      exact .inr ⟨a', ha', h⟩
   ·-- a new row
    rw [dec_int, show (((R.length : Int)) == (R.length : Int)) = true from beq_iff_eq.mpr rfl]
    refine iteT ⟨_, rfl, .inl ⟨rfl, _, SqL.of hGR4⟩, Nat.zero_le _, fun z hz => ?_⟩
    have u1 := same_upd (o := .lst []) hz
    have hz0 : H z = none := by
     cases e : H z with
     | none => rfl
     | some o =>
      obtain ⟨ns0, seed0, g1, g2, _⟩ := id hG4
      by_cases zp : z = p
      ·rw [zp, g1] at hz; cases hz
      ·by_cases zq : z = q
       ·rw [zq, g2] at hz; cases hz
       ·rw [kH4 z o e zp zq] at hz
        cases hz
    have hzR : z ≠ Rl := fun e => by rw [e, hGR4] at hz; cases hz
    have hzn : z ∉ zs := fun hm => by
     obtain ⟨j, hj⟩ := List.getElem?_of_mem hm
     obtain ⟨r, _, hr⟩ := hL4.at_ j z hj
     rw [hr] at hz
     cases hz
    have nz := hand_newT hh hz0
    refine ⟨Rl, _, _, rfl, rfl, u1 _ _ hGR4, small1 (by rw [List.length_map]; (first | lia | omega)), ?_⟩
    have eR : zs.map V.ref ++ [.ref z] = (zs ++ [z]).map V.ref := by
     rw [List.map_append]
     rfl
    rw [eR]
    have hzz : (upd (upd G4 z (.lst [])) Rl (.lst ((zs ++ [z]).map V.ref))) z = some (.lst []) := by rw [upd_ne hzR, upd_same]
    refine ⟨_, rfl, _, rfl, Rl, _, _, .ref z, rfl, rfl, SqL.of upd_same, ?_, .inl ⟨rfl, _, SqL.of hzz⟩, _, rfl, z, _, _, rfl, rfl, hzz, by show 0 < sizeLine; decide, ?_⟩
    ·refine atI_nat ?_
     rw [List.map_append, List.getElem?_append_right (by rw [List.length_map]; (first | lia | omega)), List.length_map, lz, Nat.sub_self]
     rfl
    have hL5 : LsZ (upd (upd (upd G4 z (.lst [])) Rl (.lst ((zs ++ [z]).map V.ref))) z (.lst ([] ++ [.int (0 + (i : Int))]))) (zs ++ [z]) (R ++ [[(i : Int)]]) := by
     refine LsZ.snoc ⟨hL4.nd, hL4.len, fun j y hy => ?_⟩ hzn ?_
     ·obtain ⟨r, h1, h2⟩ := hL4.at_ j y hy
      have hyz : y ≠ z := fun e => hzn (e ▸ List.mem_of_getElem? hy)
      have hyR : y ≠ Rl := (hzs y (List.mem_of_getElem? hy)).2
      exact ⟨r, h1, by rw [upd_ne hyz, upd_ne hyR, upd_ne hyz]; exact h2⟩
     ·rw [upd_same, Int.zero_add]
      rfl
    refine ⟨zs ++ [z], R ++ [[(i : Int)]], _, _, _, rfl, by rw [upd_ne (Ne.symm hzR), upd_same], hL5, hT.new, ((hG4.same u1).lset nR.1 nR.2).lset nz.1 nz.2, fun b o hb h1 h2 => ?_, fun y hy => ?_⟩
    ·have hbz : b ≠ z := fun e => by rw [e, hz0] at hb; cases hb
     have hbR : b ≠ Rl := fun e => by rw [e, hRl] at hb; cases hb
     rw [upd_ne hbz, upd_ne hbR, upd_ne hbz]
     exact kH4 b o hb h1 h2
    ·rcases List.mem_append.mp hy with hy | hy
     ·exact hzs y hy
     ·rw [List.mem_singleton.mp hy]
      exact ⟨hz0, hzR⟩
  ·rintro σ G ⟨zs, R, c3, c4, c5, rfl, hGR, hL, hT, hG, kG, hzs⟩
   have lz : zs.length = R.length := hL.len
   have lR : R.length <= m := by
    have h1 := hT.len
    have := ne_len hT.ne
    (first | lia | omega)
   refine ⟨_, rfl, Rl, rfl, ⟨_, SqL.of hGR⟩, ?_⟩
   refine lc_grow (yields_list (xs := zs.map V.ref)) (small1 (by rw [mapR_len]; (first | lia | omega))) (fun x v H' => ∃ (z t : Addr) (r : List Int), x = V.ref z /\ G z = some (.lst (r.map V.int)) /\ v = V.ref t /\ H' t = some (.tup (r.map V.int))) (fun x v G1 G' st hR => ?_) (fun G' s' => SqL.of (s' _ _ hGR)) (fun x hx G' s' Q' q' => ?_) fun acc ys G' hacc s' hys pr => ?_
   ·obtain ⟨z, t, r, e1, h1, e2, h2⟩ := hR
    exact ⟨z, t, r, e1, h1, e2, st _ _ h2⟩
   ·obtain ⟨z, hz, rfl⟩ := List.mem_map.mp hx
    obtain ⟨j, hj⟩ := List.getElem?_of_mem hz
    obtain ⟨r, _, hr2⟩ := hL.at_ j z hj
    refine ⟨_, rfl, z, _, rfl, .inl ⟨SqL.of (s' _ _ hr2), fun t ht => q' _ _ (same_upd ht) ⟨z, t, r, rfl, hr2, rfl, upd_same⟩⟩⟩
   ·refine ⟨acc, _, rfl, .inl ⟨SqL.of hys, fun z hz => ?_⟩⟩
    have u := same_upd (o := .tup ys) hz
    obtain ⟨ts, rfl, RT⟩ := rows_tup lz hL.at_ pr
    exact k z R _ hT ⟨ts, upd_same, RT.same u⟩ (hG.same (s'.trans u)) (kG.trans (s'.trans u).keep)
end
end K59
namespace K59
open PySem PySem.Spec PyProof.Rows L2
section
variable {P : Program} {w : World} {K : PySem.W.Frag} {mg : Str -> Option Value} {base : Heap}
noncomputable abbrev s__law_shapes : Stmt := top 13
theorem sc__law_shapes : FnScope ["_law_many", "_law_most", "_law_found", "_law_first"] ["_law_many", "_law_most"] (defScope s__law_shapes) := ⟨rfl, rfl, rfl, by decide +kernel, rfl, by decide +kernel, by decide +kernel⟩
set_option maxHeartbeats 4000000 in
theorem ok__law_shapes {f : Addr} {fd : FuncData} (F : Fun K "_law_shapes" "_law_shapes" s__law_shapes f fd) (T : Top mg) (hm : mg "_law_shapes" = some (.ref f)) (hb : Binds K fd ["_law_many", "_law_most"] []) :
  ∀ n, FnOk P w K mg base CX0 (n + 1) f fd ["_law_many", "_law_most"] (spShp n)
 | 0 => by
  refine F.ok sc__law_shapes (fun vs H Q E h => ?_) (fun cdv A outer s H vs Q E hr h => ?_)
  ·obtain ⟨many, most, rfl, _⟩ := h
   rfl
  ·obtain ⟨many, most, rfl, h1, h2, h3, k⟩ := h
   refine ⟨_, (pss_cons (ps_if (pt_cmpR op_eq (pv 0) pe_int (nomark _))
    (pss_one (ps_ret (pe_lst (pa_cons (pe_tup pa_nil) pa_nil))))
    pss_nil)
    pss_never), ?_⟩
   have e0 : many = 0 := by (first | lia | omega)
   subst e0
   refine ⟨_, rfl, rfl, _, rfl, ?_⟩
   rw [show decide (V.int ((0 : Nat) : Int) = V.int 0) = true from decide_eq_true rfl]
   refine iteT ?_
   refine ⟨Nat.zero_le _, fun t0 ht0 => ⟨by show 1 <= sizeLine; decide, fun p0 hp0 => ?_⟩⟩
   exact k p0 [t0] _ ((same_upd ht0).trans (same_upd hp0)) ((same_upd ht0).free hp0) upd_same (.cons (same_upd hp0 _ _ upd_same) .nil)
 | n + 1 => by
  have ih : Cal P w K mg base (n + 1) "_law_shapes" ["_law_many", "_law_most"] (spShp n) := ⟨f, fd, ok__law_shapes F T hm hb n, hm, F.kp, hb⟩
  refine F.ok sc__law_shapes (fun vs H Q E h => ?_) (fun cdv A outer s H vs Q E hr h => ?_)
  ·obtain ⟨many, most, rfl, _⟩ := h
   rfl
  ·obtain ⟨many, most, rfl, h1, h2, h3, k⟩ := h
   refine ⟨_, (pss_cons (ps_if (pt_cmpR op_eq (pv 0) pe_int (nomark _))
    (pss_one (ps_ret (pe_lst (pa_cons (pe_tup pa_nil) pa_nil))))
    pss_nil)
   (pss_cons (ps_set (i := 2) sc__law_shapes.nd rfl (Or.inl rfl) (pe_lst pa_nil))
   (pss_cons (ps_for PassesOwn.never rfl (pi_range2 rfl T.n_range (pa_cons pe_int (pa_cons (pe_op op_add (pe_callB (call_min2 rfl) (by rfl) T.n_min boot_min (pa_cons (pv 0) (pa_cons (pv 1) pa_nil))) pe_int) pa_nil))) (pg_name (i := 3) sc__law_shapes.nd rfl (Or.inr rfl))
    (pss_one (ps_expr (pe_bm PySem.F.plainAttrs_list PySem.F.slot_list_extend PySem.F.type_list_extend mt_extend (pv 2) (pa_cons (pe_lc (N' := ["_law_rest", "_law_first"]) (n := 1) (ix := [3]) rfl (CompScope.of (sc := defScope s__law_shapes) (N := ["_law_many", "_law_most", "_law_found", "_law_first"]) (by decide +kernel) rfl rfl) (pi_list (pe_cal ih hr rfl (pa_cons (pe_op op_sub (pv 0) (pv 3)) (pa_cons (pv 3) pa_nil)))) (fun _ _ _ _ _ => ⟨(pg_name (i := 0) (show (["_law_rest", "_law_first"] : List Str).Nodup by decide +kernel) rfl (Or.inl rfl)), pts_nil, (pe_op op_cat2 (pe_tup (pa_cons (pv 1) pa_nil)) (pv 0))⟩)) pa_nil)))))
   (pss_one (ps_ret (pv 2)))))), ?_⟩
   refine ⟨_, rfl, rfl, _, rfl, ?_⟩
   by_cases e0 : many = 0
   ·subst e0
    rw [show decide (V.int ((0 : Nat) : Int) = V.int 0) = true from decide_eq_true rfl]
    refine iteT ?_
    refine ⟨Nat.zero_le _, fun t0 ht0 => ⟨by show 1 <= sizeLine; decide, fun p0 hp0 => ?_⟩⟩
    exact k p0 [t0] _ ((same_upd ht0).trans (same_upd hp0)) ((same_upd ht0).free hp0) upd_same (.cons (same_upd hp0 _ _ upd_same) .nil)
   ·rw [decide_eq_false (fun e => e0 (by have := V.int.inj e; (first | lia | omega)))]
    refine iteF ?_
    refine ⟨Nat.zero_le _, fun L hL => ?_⟩
    have sL := same_upd (o := .lst []) hL
    refine ⟨_, rfl, _, rfl, _, _, rfl, _, _, rfl, rfl, ?_⟩
    have emin : (if (most : Int) < (many : Int) then (most : Int) else (many : Int)) = ((min many most : Nat) : Int) := by
     split <;> (first | lia | omega)
    rw [emin]
    have hmn : min many most <= many := Nat.min_le_left _ _
    have hmm : min many most <= most := Nat.min_le_right _ _
    refine ⟨_, _, rfl, ⟨by decide, by decide, by (first | lia | omega), by (first | lia | omega)⟩, ?_⟩
    rw [show (((min many most : Nat) : Int) + 1 - 1).toNat = min many most by (first | lia | omega)]
    have p14 : 2 ^ many <= 16384 := Nat.le_trans (Nat.pow_le_pow_right (by decide) (by (first | lia | omega) : many <= 14)) (by decide)
    refine for_range (n := min many most) (fun i σ G => ∃ (c3 : Option V) (zs : List Addr), σ = [some (.int many), some (.int most), some (.ref L), c3] /\ Same H G /\ G L = some (.lst (zs.map V.ref)) /\ RowsAt G zs (shP n many i)) ?_ ?_ ?_
    ·exact ⟨none, [], rfl, sL, upd_same, .nil⟩
    ·rintro i σ G hi ⟨c3, zs, rfl, sG, hG, R⟩
     refine ⟨_, rfl, .inl ⟨rfl, _, SqL.of hG⟩, ?_⟩
     refine ⟨_, rfl, _, rfl, _, _, rfl, rfl, _, rfl, many - (i + 1), i + 1, ?_, by (first | lia | omega), by (first | lia | omega), by (first | lia | omega), fun l zs2 G2 s2 hl0 hl R2 => ⟨l, rfl, ⟨_, SqL.of hl⟩, ?_⟩⟩
     ·show [V.int ((many : Int) - (1 + (i : Int))), V.int (1 + (i : Int))] = _
      rw [show (many : Int) - (1 + (i : Int)) = ((many - (i + 1) : Nat) : Int) by (first | lia | omega), show (1 : Int) + (i : Int) = ((i + 1 : Nat) : Int) by (first | lia | omega)]
     have l2 : zs2.length = (shF n (many - (i + 1)) (i + 1)).length := Paired.length R2
     have b2 := shF_len n (many - (i + 1)) (i + 1)
     have b2' : 2 ^ (many - (i + 1)) <= 2 ^ many := Nat.pow_le_pow_right (by decide) (by (first | lia | omega))
     refine lc_grow (yields_list (xs := zs2.map V.ref)) (by rw [mapR_len]; exact Nat.lt_of_le_of_lt (by (first | lia | omega) : zs2.length <= 16384) (by decide)) (fun x v G' => ∀ z (r : List Int), x = V.ref z -> G2 z = some (.tup (r.map V.int)) -> ∃ b, v = V.ref b /\ G' b = some (.tup ((((i + 1 : Nat) : Int) :: r).map V.int))) (fun x v G' G'' st h z r e e' => ?_) (fun G' s' => SqL.of (s' _ _ hl)) (fun x hx G' s' Q' q => ?_) fun acc ys G3 hacc s3 hys pr => ?_
     ·obtain ⟨b, q1, q2⟩ := h z r e e'
      exact ⟨b, q1, st _ _ q2⟩
     ·obtain ⟨z, hz, rfl⟩ := List.mem_map.mp hx
      obtain ⟨r, hr1, hr2⟩ := RowsAt.memS R2 z hz
      have hrl := shF_mem n _ _ r hr1
      refine ⟨_, rfl, by show 1 <= sizeLine; decide, fun t ht => ?_⟩
      have st := same_upd (o := .tup [.int (1 + (i : Int))]) ht
      refine ⟨_, rfl, t, z, _, _, rfl, rfl, upd_same, st _ _ (s' _ _ hr2), ?_, fun b G4 s4 hb => ?_⟩
      ·rw [mapI_len]
       exact Nat.le_trans (by show 1 + r.length <= 100; (first | lia | omega)) (by decide)
      ·refine q _ _ (st.trans s4) fun z' r' e e' => ?_
       injection e with e
       subst e
       rw [hr2] at e'
       injection e' with e'
       injection e' with e'
       refine ⟨b, rfl, ?_⟩
       rw [hb, List.map_cons, <- e', show (1 : Int) + (i : Int) = ((i + 1 : Nat) : Int) by (first | lia | omega)]
       rfl
     ·obtain ⟨zs3, rfl, R3⟩ := cons_rows ((i + 1 : Nat) : Int) R2 pr
      have hL3 := s3 _ _ (s2 _ _ hG)
      have l1 : zs.length = (shP n many i).length := Paired.length R
      have b1 := shP_len n many i (by (first | lia | omega))
      have l3 : zs3.length = (shF n (many - (i + 1)) (i + 1)).length := by rw [Paired.length R3, List.length_map]
      refine ⟨L, acc, _, _, rfl, rfl, hL3, hys, ?_, ?_⟩
      ·rw [mapR_len, mapR_len]
       exact Nat.le_trans (by (first | lia | omega) : zs.length + zs3.length <= 40000) (by decide)
      ·have stp : SameT G3 (upd G3 L (.lst (zs.map V.ref ++ zs3.map V.ref))) := sameT_lst hL3
       refine ⟨_, zs ++ zs3, rfl, same_updR ((sG.trans s2).trans s3) hL, by rw [upd_same, List.map_append], ?_⟩
       rw [shP_succ]
       exact Paired.append ((R.same (s2.trans s3)).sameT stp) (R3.sameT stp)
    ·rintro σ G ⟨c3, zs, rfl, sG, hG, R⟩
     refine ⟨_, rfl, k L zs G sG hL hG ?_⟩
     unfold shF
     rw [if_neg e0]
     exact R
end
end K59
namespace L2
open PySem PySem.Spec PyProof.Rows
noncomputable def spLess : Sp := fun vs H Q _ => ∃ (a : Addr) (sh : List Int), vs = [.ref a] /\ H a = some (.tup (sh.map V.int)) /\ Shp sh /\ sh.length <= 60 /\ sh.sum <= 60 /\ ∀ (l : Addr) (zs : List Addr) (H' : Hp), Same H H' -> H l = none -> H' l = some (.lst (zs.map V.ref)) -> RowsAt H' zs (lesZ sh) -> Q (.ref l) H'
noncomputable def posV : V -> Bool
 | .int o => decide (0 < o)
 | _ => false
theorem posV_list (l : List Int) : (l.map V.int).filter posV = (nzD l).map V.int := by
 rw [List.filter_map]
 rfl
theorem cutT (ns : List Int) (k : Nat) (h : k <= ns.length) : cutV (ns.map V.int) none (some (k : Int)) = (ns.take k).map V.int := by
 unfold cutV
 rw [HT.sIx_nat, HT.sIx_none, List.drop_zero, Nat.sub_zero, mapI_len, Nat.min_eq_left h, List.map_take]
theorem PT.weak {X : Cx} {e : Expr} {t t' : TT} (h : PT X e t) (m : ∀ σ H Q, t' σ H Q -> t σ H Q) : PT X e t' := fun pins s σ H Q I q => h pins s σ H Q I (m σ H Q q)
noncomputable def tCr : TT := fun σ H Q => ∃ (a : Addr) (sh : List Int) (i : Nat) (x : Int), σ[0]? = some (some (.ref a)) /\ σ[2]? = some (some (.int (i : Int))) /\ H a = some (.tup (sh.map V.int)) /\ sh[i]? = some x /\ Q (crP x (sh.drop (i + 1))) H
end L2
namespace K59
open PySem PySem.Spec PyProof.Rows L2
noncomputable abbrev s__law_less : Stmt := top 11
section
variable {P : Program} {w : World} {K : PySem.W.Frag} {mg : Str -> Option Value} {base : Heap}
theorem sc__law_less : FnScope ["_law_shape", "_law_found", "_law_k", "_law_left"] ["_law_shape"] (defScope s__law_less) := ⟨rfl, rfl, rfl, by decide +kernel, rfl, by decide +kernel, by decide +kernel⟩
set_option maxHeartbeats 4000000 in
theorem ok__law_less {f : Addr} {fd : FuncData} (F : Fun K "_law_less" "_law_less" s__law_less f fd) (T : Top mg) : FnOk P w K mg base CX0 1 f fd ["_law_shape"] spLess := by
 refine F.ok sc__law_less (fun vs H Q E h => ?_) (fun cdv A outer s H vs Q E hr h => ?_)
 ·obtain ⟨a, sh, rfl, _⟩ := h
  rfl
 ·obtain ⟨a, sh, rfl, ha, hS, hl, hsum, k⟩ := h
  refine ⟨_, (pss_cons (ps_set (i := 1) sc__law_less.nd rfl (Or.inl rfl) (pe_lst pa_nil))
   (pss_cons (ps_for PassesOwn.never rfl (pi_range1 rfl T.n_range (pa_cons (pe_callB call_len_seq (by rfl) T.n_len PySem.boot_len (pa_cons (pv 0) pa_nil)) pa_nil)) (pg_name (i := 2) sc__law_less.nd rfl (Or.inl rfl))
    (pss_one (ps_if (PT.weak (PW.pt (pw_or (pt_cmpR op_eq (pv 2) (pe_op op_sub (pe_callB call_len_seq (by rfl) T.n_len PySem.boot_len (pa_cons (pv 0) pa_nil)) pe_int) (nomark _)) (pw_or1 (pt_cmpR op_gt (pe_ix ix_tup (pv 0) (pv 2) (fun _ _ => rfl)) (pe_ix ix_tup (pv 0) (pe_op op_add (pv 2) pe_int) (fun _ _ => rfl)) (nomark _))))) (t' := tCr) (fun σ H Q ⟨a, sh, i, x, e0, e2, ha, hx, q⟩ => ⟨_, e2, _, e0, a, _, rfl, .inr (SqT.of ha), _, _, rfl, rfl, rfl, _, rfl, by
     have hi : i < sh.length := (List.getElem?_eq_some_iff.mp hx).1
     have e : decide (V.int (i : Int) = V.int (((sh.map V.int).length : Int) - 1)) = decide (i + 1 = sh.length) := by
      rw [mapI_len]
      exact decide_eq_decide.mpr ⟨fun z => by have := V.int.inj z; (first | lia | omega), fun z => by rw [show (i : Int) = (sh.length : Int) - 1 by (first | lia | omega)]⟩
     rw [e]
     by_cases c : i + 1 = sh.length
     ·rw [decide_eq_true c]
      rw [List.drop_of_length_le (by (first | lia | omega))] at q
      exact iteT q
     ·rw [decide_eq_false c]
      have hi2 : i + 1 < sh.length := by (first | lia | omega)
      have ed : sh.drop (i + 1) = sh[i + 1] :: sh.drop (i + 2) := List.drop_eq_getElem_cons hi2
      rw [ed] at q
      refine iteF ⟨_, e0, _, e2, a, _, _, _, rfl, rfl, SqT.of ha, atI_nat (by rw [List.getElem?_map, hx]; rfl), _, e0, _, e2, _, _, rfl, rfl, a, _, _, _, rfl, rfl, SqT.of ha, ?_, _, _, rfl, rfl, _, rfl, q⟩
      exact atI_nat (j := i + 1) (by rw [List.getElem?_map, List.getElem?_eq_getElem hi2]; rfl)⟩))
     (pss_cons (ps_set (i := 3) sc__law_less.nd rfl (Or.inl rfl) (pe_op op_cat2 (pe_op op_cat2 (pe_slice sl_tupA (pv 0) po_none (po_some (pv 2))) (pe_tup (pa_cons (pe_op op_sub (pe_ix ix_tup (pv 0) (pv 2) (fun _ _ => rfl)) pe_int) pa_nil))) (pe_slice sl_tupA (pv 0) (po_some (pe_op op_add (pv 2) pe_int)) po_none)))
     (pss_one (ps_expr (pe_bm PySem.F.plainAttrs_list PySem.F.slot_list_append PySem.F.type_list_append mt_append (pv 1) (pa_cons (pe_callTy call_tuple_of (by rfl) T.n_tuple boot_tuple (pa_cons (pe_lc (N' := ["_law_one"]) (n := 1) (ix := []) rfl (CompScope.of (sc := defScope s__law_less) (N := ["_law_shape", "_law_found", "_law_k", "_law_left"]) (by decide +kernel) rfl rfl) (pi_tup (pv 3)) (fun _ _ _ _ _ => ⟨(pg_name (i := 0) (show (["_law_one"] : List Str).Nodup by decide +kernel) rfl (Or.inl rfl)), (pts_one (pt_cmpR op_gt (pv 0) pe_int (nomark _))), (pv 0)⟩)) pa_nil)) pa_nil)))))
     pss_nil)))
   (pss_one (ps_ret (pv 1))))), ?_⟩
  refine ⟨Nat.zero_le _, fun l hl0 => ?_⟩
  have s1 := same_upd (o := .lst []) hl0
  have hs := hS.sum_len
  refine ⟨_, rfl, a, _, rfl, .inr (SqT.of (s1 _ _ ha)), ?_⟩
  rw [mapI_len]
  refine ⟨_, rfl, by (first | lia | omega), by (first | lia | omega), ?_⟩
  rw [Int.toNat_natCast]
  refine for_range (n := sh.length) (fun i σ G => ∃ (c2 c3 : Option V) (zs : List Addr) (L : List (List Int)), σ = [some (.ref a), some (.ref l), c2, c3] /\ Same H G /\ G l = some (.lst (zs.map V.ref)) /\ RowsAt G zs L /\ L ++ lesR (sh.take i) (sh.drop i) = lesZ sh /\ L.length <= i) ⟨none, none, [], [], rfl, s1, upd_same, .nil, rfl, Nat.le_refl _⟩ ?_ ?_
  ·rintro i σ G hi ⟨c2, c3, zs, L, rfl, sG, hG, R, hL, hLi⟩
   have ed : sh.drop i = sh[i] :: sh.drop (i + 1) := List.drop_eq_getElem_cons hi
   have et : sh.take (i + 1) = sh.take i ++ [sh[i]] := by rw [List.take_succ, List.getElem?_eq_getElem hi]; rfl
   have hx0 := hS.pos _ (List.getElem_mem hi)
   have hx1 := hs.2 _ (List.getElem_mem hi)
   have haG := sG _ _ ha
   have ati : atI (sh.map V.int) (0 + (i : Int)) = some (.int sh[i]) := by
    rw [Int.zero_add]
    exact atI_nat (by rw [List.getElem?_map, List.getElem?_eq_getElem hi]; rfl)
   have hnext : ∀ {QT : Prop}, crP sh[i] (sh.drop (i + 1)) = false -> L ++ lesR (sh.take (i + 1)) (sh.drop (i + 1)) = lesZ sh := fun {_} hc => by
    rw [<- hL, ed, et]
    show L ++ lesR (sh.take i ++ [sh[i]]) (sh.drop (i + 1)) = L ++ ((if crP sh[i] (sh.drop (i + 1)) = true then _ else []) ++ lesR (sh.take i ++ [sh[i]]) (sh.drop (i + 1)))
    rw [hc, if_neg Bool.false_ne_true]
    rfl
   refine ⟨a, sh, i, sh[i], rfl, by rw [Int.zero_add]; rfl, haG, List.getElem?_eq_getElem hi, ?_⟩
   refine ite2 (fun hc => ?_) (fun hc => ?_)
   ·have hlen : sh.length <= 60 := hl
    refine ⟨_, rfl, _, rfl, _, rfl, a, _, rfl, haG, fun q1 G1 g1 hq1 => ?_⟩
    rw [Int.zero_add, cutT _ _ (Nat.le_of_lt hi)] at hq1
    refine ⟨_, rfl, _, rfl, a, _, _, _, rfl, rfl, SqT.of (g1 _ _ haG), ati, _, _, rfl, rfl, by show 1 <= sizeLine; decide, fun t ht => ?_⟩
    have u1 := same_upd (o := .tup [.int (sh[i] - 1)]) ht
    refine ⟨q1, t, _, _, rfl, rfl, u1 _ _ hq1, upd_same, ?_, fun q2 G2 g2 hq2 => ?_⟩
    ·rw [mapI_len, List.length_take]
     exact Nat.le_trans (by show min i sh.length + 1 <= 100; (first | lia | omega)) (by decide)
    refine ⟨_, rfl, _, rfl, _, _, rfl, rfl, _, rfl, a, _, rfl, g2 _ _ (u1 _ _ (g1 _ _ haG)), fun q3 G3 g3 hq3 => ?_⟩
    rw [show (0 : Int) + (i : Int) + 1 = ((i + 1 : Nat) : Int) by (first | lia | omega), cutV_from] at hq3
    refine ⟨q2, q3, _, _, rfl, rfl, g3 _ _ hq2, hq3, ?_, fun q4 G4 g4 hq4 => ?_⟩
    ·rw [List.length_append, mapI_len, mapI_len, List.length_take, List.length_drop]
     exact Nat.le_trans (by show min i sh.length + 1 + (sh.length - (i + 1)) <= 200; (first | lia | omega)) (by decide)
    have e4 : (sh.take i).map V.int ++ [V.int (sh[i] - 1)] ++ (sh.drop (i + 1)).map V.int = (sh.take i ++ (sh[i] - 1) :: sh.drop (i + 1)).map V.int := by
     rw [List.map_append, List.append_assoc]
     rfl
    rw [e4] at hq4
    have gT := (((g1.trans u1).trans g2).trans g3).trans g4
    have hl4 := gT _ _ hG
    refine ⟨_, rfl, .inl ⟨rfl, _, SqL.of hl4⟩, ?_⟩
    refine ⟨_, rfl, q4, rfl, ⟨_, SqT.of hq4⟩, ?_⟩
    have hlen4 : (sh.take i ++ (sh[i] - 1) :: sh.drop (i + 1)).length <= 200 := by
     rw [List.length_append, List.length_take, List.length_cons, List.length_drop]
     (first | lia | omega)
    refine lc_pure (yields_tup (xs := (sh.take i ++ (sh[i] - 1) :: sh.drop (i + 1)).map V.int)) (small1 (by rw [mapI_len]; (first | lia | omega))) posV (fun v => v) (fun _ s' => SqT.of (s' _ _ hq4)) (fun x hx' G5 s5 Q' q => ?_) (fun x hx' _ G5 s5 Q' q => ⟨_, rfl, q⟩) fun acc hacc => ?_
    ·obtain ⟨o, _, rfl⟩ := List.mem_map.mp hx'
     exact ⟨_, rfl, _, _, rfl, rfl, _, rfl, q⟩
    rw [List.map_id'' (fun _ => rfl), posV_list]
    have u5 := same_upd (o := .lst ((nzD (sh.take i ++ (sh[i] - 1) :: sh.drop (i + 1))).map V.int)) hacc
    refine ⟨acc, _, rfl, .inl ⟨SqL.of upd_same, fun z hz => ?_⟩⟩
    have u6 := same_upd (o := .tup ((nzD (sh.take i ++ (sh[i] - 1) :: sh.drop (i + 1))).map V.int)) hz
    have gA := (gT.trans u5).trans u6
    have hlA := gA _ _ hG
    have hzA := @upd_same (upd G4 acc (.lst ((nzD (sh.take i ++ (sh[i] - 1) :: sh.drop (i + 1))).map V.int))) z (.tup ((nzD (sh.take i ++ (sh[i] - 1) :: sh.drop (i + 1))).map V.int))
    generalize upd (upd G4 acc (.lst ((nzD (sh.take i ++ (sh[i] - 1) :: sh.drop (i + 1))).map V.int))) z (.tup ((nzD (sh.take i ++ (sh[i] - 1) :: sh.drop (i + 1))).map V.int)) = GA at gA hlA hzA ⊢
    have lz : zs.length = L.length := Paired.length R
    refine ⟨l, _, _, rfl, rfl, hlA, small1 (by rw [mapR_len]; (first | lia | omega)), ?_⟩
    have stp : SameT GA (upd GA l (.lst (zs.map V.ref ++ [.ref z]))) := sameT_lst hlA
    refine ⟨_, _, zs ++ [z], L ++ [nzD (sh.take i ++ (sh[i] - 1) :: sh.drop (i + 1))], rfl, same_updR (sG.trans gA) hl0, by rw [upd_same, List.map_append]; rfl, ?_, ?_, by rw [List.length_append]; show L.length + 1 <= i + 1; (first | lia | omega)⟩
    ·exact Paired.append ((R.same gA).sameT stp) (RowsAt.sameT (.cons hzA .nil) stp)
    ·rw [<- hL, ed, et, List.append_assoc]
     show L ++ ([nzD (sh.take i ++ (sh[i] - 1) :: sh.drop (i + 1))] ++ lesR (sh.take i ++ [sh[i]]) (sh.drop (i + 1))) = L ++ ((if crP sh[i] (sh.drop (i + 1)) = true then [nzD (sh.take i ++ (sh[i] - 1) :: sh.drop (i + 1))] else []) ++ lesR (sh.take i ++ [sh[i]]) (sh.drop (i + 1)))
     rw [if_pos hc]
   ·exact ⟨_, _, zs, L, rfl, sG, hG, R, hnext (QT := True) (by simpa using hc), by (first | lia | omega)⟩
  ·rintro σ G ⟨c2, c3, zs, L, rfl, sG, hG, R, hL, hLi⟩
   rw [List.drop_length] at hL
   have : L = lesZ sh := by rw [<- hL]; exact (List.append_nil L).symm
   subst this
   exact ⟨_, rfl, k l zs G sG hl0 hG R⟩
end
end K59
namespace L2
open PySem PySem.Spec PyProof.Rows
structure KnD (kvs : List (List Key × V)) : Prop where
 nd : (kvs.map (·.1)).Nodup
 ok : ∀ e ∈ kvs, ∃ sh : List Int, e.1 = keyI sh /\ Shp sh /\ sh.sum <= 14 /\ e.2 = .int (filZ sh)
theorem KnD.nil : KnD [] := ⟨List.nodup_nil, fun e h => by cases h⟩
theorem KnD.len {kvs : List (List Key × V)} (h : KnD kvs) : kvs.length <= 600 := by
 have h1 := len_le (L := allSh.map keyI) h.nd fun y hy => by
  obtain ⟨e, he, rfl⟩ := List.mem_map.mp hy
  obtain ⟨sh, h1, h2, h3, _⟩ := h.ok e he
  rw [h1]
  exact List.mem_map.mpr ⟨sh, allSh_has h2 h3, rfl⟩
 rw [List.length_map, List.length_map] at h1
 exact Nat.le_trans h1 allSh_len
theorem KnD.val {kvs : List (List Key × V)} (h : KnD kvs) {sh : List Int} {v : V} (e : valV kvs (keyI sh) = some v) : v = .int (filZ sh) := by
 unfold valV at e
 obtain ⟨p, hp, rfl⟩ := Option.map_eq_some_iff.mp e
 have h1 := List.mem_of_find?_eq_some hp
 have h2 : p.1 = keyI sh := of_decide_eq_true (List.find?_some (p := fun kv : List Key × V => decide (kv.1 = keyI sh)) hp)
 obtain ⟨sh', g1, _, _, g2⟩ := h.ok p h1
 rw [g2, keyI_inj (g1.symm.trans h2)]
theorem KnD.put {kvs : List (List Key × V)} (h : KnD kvs) {sh : List Int} (hs : Shp sh) (hl : sh.sum <= 14) : KnD (putK kvs (keyI sh) (.int (filZ sh))) := by
 cases e : valV kvs (keyI sh) with
 | none =>
  rw [putK_new _ e]
  have hn : keyI sh ∉ kvs.map (·.1) := fun hm => by
   obtain ⟨p, hp, hq⟩ := List.mem_map.mp hm
   have := valV_any (keyI sh) kvs
   rw [e] at this
   have h2 : (kvs.any fun kv => decide (kv.1 = keyI sh)) = true := List.any_eq_true.mpr ⟨p, hp, decide_eq_true hq⟩
   rw [h2] at this
   cases this
  refine ⟨?_, fun p hp => ?_⟩
  ·rw [List.map_append]
   refine List.nodup_append.mpr ⟨h.nd, List.Pairwise.cons (fun x hx => by cases hx) .nil, fun x hx y hy z => ?_⟩
   have hy' : y = keyI sh := List.mem_singleton.mp hy
   exact hn (by rw [<- hy', <- z]; exact hx)
  ·rcases List.mem_append.mp hp with hp | hp
   ·exact h.ok p hp
   ·rw [List.mem_singleton.mp hp]
    exact ⟨sh, rfl, hs, hl, rfl⟩
 | some v =>
  have ha : (kvs.any fun kv => decide (kv.1 = keyI sh)) = true := by rw [valV_any, e]; rfl
  unfold putK
  rw [if_pos ha]
  refine ⟨?_, fun p hp => ?_⟩
  ·rw [List.map_map]
   have : (kvs.map ((·.1) ∘ fun kv : List Key × V => if kv.1 = keyI sh then (kv.1, V.int (filZ sh)) else kv)) = kvs.map (·.1) := List.map_congr_left fun kv _ => by
    show (if kv.1 = keyI sh then (kv.1, V.int (filZ sh)) else kv).1 = kv.1
    split <;> rfl
   rw [this]
   exact h.nd
  ·obtain ⟨q, hq, rfl⟩ := List.mem_map.mp hp
   by_cases c : q.1 = keyI sh
   ·rw [if_pos c]
    exact ⟨sh, c, hs, hl, rfl⟩
   ·rw [if_neg c]
    exact h.ok q hq
noncomputable def SameX (d : Addr) (H H' : Hp) : Prop := ∀ b o, H b = some o -> b ≠ d -> H' b = some o
theorem SameX.of {d : Addr} {H H' : Hp} (h : Same H H') : SameX d H H' := fun b o e _ => h b o e
theorem SameX.trans {d : Addr} {H H' H'' : Hp} (h : SameX d H H') (g : SameX d H' H'') : SameX d H H'' := fun b o e n => g b o (h b o e n) n
theorem SameX.rows {d : Addr} {H H' : Hp} (h : SameX d H H') {kvs : List (List Key × V)} (hd : H d = some (.dT kvs)) {zs : List Addr} {R : List (List Int)} (r : RowsAt H zs R) : RowsAt H' zs R := r.sameT fun b xs e => h b _ e fun z => by rw [z, hd] at e; cases e
noncomputable def spCtd (n : Nat) : Sp := fun vs H Q _ => ∃ (a d : Addr) (sh : List Int) (kvs : List (List Key × V)), vs = [.ref a, .ref d] /\ H a = some (.tup (sh.map V.int)) /\ Shp sh /\ sh.sum <= (n : Int) /\ n <= 14 /\ H d = some (.dT kvs) /\ KnD kvs /\ ∀ (kvs' : List (List Key × V)) (H' : Hp), SameX d H H' -> H' d = some (.dT kvs') -> KnD kvs' -> Q (.int (filZ sh)) H'
theorem fil_nil : filZ [] = 1 := by decide
end L2
namespace K59
open PySem PySem.Spec PyProof.Rows L2
noncomputable abbrev s__law_counted : Stmt := top 12
section
variable {P : Program} {w : World} {K : PySem.W.Frag} {mg : Str -> Option Value} {base : Heap}
theorem sc__law_counted : FnScope ["_law_shape", "_law_known", "_law_many", "_law_lower"] ["_law_shape", "_law_known"] (defScope s__law_counted) := ⟨rfl, rfl, rfl, by decide +kernel, rfl, by decide +kernel, by decide +kernel⟩
set_option maxHeartbeats 4000000 in
theorem ok__law_counted {f : Addr} {fd : FuncData} (F : Fun K "_law_counted" "_law_counted" s__law_counted f fd) (T : Top mg) (hm : mg "_law_counted" = some (.ref f)) (hb : Binds K fd ["_law_shape", "_law_known"] []) (C_law_less : Cal P w K mg base 1 "_law_less" ["_law_shape"] spLess) :
  ∀ n, FnOk P w K mg base CX0 (n + 2) f fd ["_law_shape", "_law_known"] (spCtd n)
 | 0 => by
  refine F.ok sc__law_counted (fun vs H Q E h => ?_) (fun cdv A outer s H vs Q E hr h => ?_)
  ·obtain ⟨a, d, sh, kvs, rfl, _⟩ := h
   rfl
  ·obtain ⟨a, d, sh, kvs, rfl, ha, hS, hsum, hn, hd, hK, k⟩ := h
   have hu : _ := hr.units
   have hs := hS.sum_len
   have : sh = [] := List.eq_nil_of_length_eq_zero (by (first | lia | omega))
   subst this
   refine ⟨_, (pss_cons (ps_if (pt_cmpR (op_eqE hu) (pv 0) (pe_tup pa_nil) (nomark _))
    (pss_one (ps_ret pe_int))
    pss_nil)
    pss_never), ?_⟩
   refine ⟨_, rfl, Nat.zero_le _, fun e0 he0 => ?_⟩
   have s1 := same_upd (o := .tup []) he0
   refine ⟨a, e0, _, rfl, rfl, s1 _ _ ha, upd_same, _, rfl, ?_⟩
   refine iteT ?_
   rw [<- fil_nil]
   exact k kvs _ (SameX.of s1) (s1 _ _ hd) hK
 | n + 1 => by
  have ih : Cal P w K mg base (n + 2) "_law_counted" ["_law_shape", "_law_known"] (spCtd n) := ⟨f, fd, ok__law_counted F T hm hb C_law_less n, hm, F.kp, hb⟩
  refine F.ok sc__law_counted (fun vs H Q E h => ?_) (fun cdv A outer s H vs Q E hr h => ?_)
  ·obtain ⟨a, d, sh, kvs, rfl, _⟩ := h
   rfl
  ·obtain ⟨a, d, sh, kvs, rfl, ha, hS, hsum, hn, hd, hK, k⟩ := h
   have hu : _ := hr.units
   have hu1 := hu_of hr
   have hs := hS.sum_len
   refine ⟨_, (pss_cons (ps_if (pt_cmpR (op_eqE hu) (pv 0) (pe_tup pa_nil) (nomark _))
    (pss_one (ps_ret pe_int))
    pss_nil)
   (pss_cons (ps_if (pt_cmp (pc_dnotin hu1 (pv 0) (pv 1)))
    (pss_cons (ps_set (i := 2) sc__law_counted.nd rfl (Or.inl rfl) pe_int)
    (pss_cons (ps_for PassesOwn.never rfl (pi_list (pe_cal C_law_less (hr.mono (by (first | lia | omega))) rfl (pa_cons (pv 0) pa_nil))) (pg_name (i := 3) sc__law_counted.nd rfl (Or.inl rfl))
     (pss_one (ps_set (i := 2) sc__law_counted.nd rfl (Or.inl rfl) (pe_op op_add (pv 2) (pe_cal ih (hr.mono (by (first | lia | omega))) rfl (pa_cons (pv 3) (pa_cons (pv 1) pa_nil)))))))
    (pss_one (ps_dput hu1 (pv 1) (pv 0) (pv 2) rfl))))
    pss_nil)
   (pss_one (ps_ret (pe_dget hu1 (pv 1) (pv 0) (fun _ _ => rfl)))))), ?_⟩
   refine ⟨_, rfl, Nat.zero_le _, fun e0 he0 => ?_⟩
   have s1 := same_upd (o := .tup []) he0
   refine ⟨a, e0, _, rfl, rfl, s1 _ _ ha, upd_same, _, rfl, ?_⟩
   have ha1 := s1 _ _ ha
   have hd1 := s1 _ _ hd
   generalize upd H e0 (.tup []) = H1 at s1 ha1 hd1 ⊢
   by_cases hne : sh = []
   ·subst hne
    refine iteT ?_
    rw [<- fil_nil]
    exact k kvs _ (SameX.of s1) hd1 hK
   ·rw [show (sh.map V.int).isEmpty = false by cases sh with | nil => exact absurd rfl hne | cons x t => rfl]
    refine iteF ?_
    have hk1 : H1 a = some (.tup ((keyI sh).map kV)) := by rw [keyI_map]; exact ha1
    refine ⟨_, rfl, _, rfl, d, _, rfl, DGet.t hd1 hk1, ?_⟩
    cases ev : valV kvs (keyI sh) with
    | some v =>
     have hv := hK.val ev
     subst hv
     have hg := DGet.t hd1 hk1
     rw [ev] at hg
     refine ⟨_, rfl, iteF ⟨_, rfl, _, rfl, d, _, rfl, hg, ?_⟩⟩
     exact k kvs _ (SameX.of s1) hd1 hK
    | none =>
     refine ⟨_, rfl, iteT ?_⟩
     refine ⟨_, rfl, a, sh, rfl, ha1, hS, by (first | lia | omega), by (first | lia | omega), fun l zs H2 s2 hl0 hl R => ⟨l, rfl, ⟨_, SqL.of hl⟩, ?_⟩⟩
     have hd2 := s2 _ _ hd1
     have hld : l ≠ d := fun z => by rw [z, hd1] at hl0; cases hl0
     have hmem := les_mem sh [] hS.fal hS.pos
     have hzl : zs.length = (lesZ sh).length := Paired.length R
     refine for_list (K := K) (a := l) (xs := zs.map V.ref) (fun j σ G => ∃ (kvs' : List (List Key × V)) (c3 : Option V), σ = [some (.ref a), some (.ref d), some (.int (((lesZ sh).take j).map filZ).sum), c3] /\ SameX d H2 G /\ G d = some (.dT kvs') /\ KnD kvs') ⟨kvs, none, rfl, fun b o e _ => e, hd2, hK⟩ ?_ ?_ ?_
     ·rintro j σ G _ ⟨kvs', c3, rfl, sG, hG, hKG⟩
      exact SqL.of (sG _ _ hl hld)
     ·rintro j x σ G hx ⟨kvs', c3, rfl, sG, hG, hKG⟩
      rw [List.getElem?_map] at hx
      obtain ⟨z, hz, rfl⟩ := Option.map_eq_some_iff.mp hx
      obtain ⟨r, hr1, hr2⟩ := (sG.rows hd2 R).get hz
      have hr3 := hmem r (List.mem_of_getElem? hr1)
      refine ⟨_, rfl, _, rfl, _, rfl, z, d, r, kvs', rfl, hr2, hr3.1, ?_, by (first | lia | omega), hG, hKG, fun kvs2 G2 sX h2 hK2 => ?_⟩
      ·have := hr3.2
       rw [List.nil_append] at this
       (first | lia | omega)
      ·refine ⟨_, _, rfl, rfl, kvs2, some (.ref z), ?_, sG.trans sX, h2, hK2⟩
       rw [List.take_succ, hr1]
       show [some (V.ref a), some (V.ref d), some (V.int ((((lesZ sh).take j).map filZ).sum + filZ r)), some (V.ref z)] = _
       rw [List.map_append, List.sum_append]
       show _ = [some (V.ref a), some (V.ref d), some (V.int ((((lesZ sh).take j).map filZ).sum + (filZ r + 0))), some (V.ref z)]
       rw [Int.add_zero]
     ·rintro σ G ⟨kvs', c3, rfl, sG, hG, hKG⟩
      have e : (((lesZ sh).take (zs.map V.ref).length).map filZ).sum = filZ sh := by
       rw [mapR_len, hzl, List.take_length, les_fil hS hne]
      rw [e]
      have hG1 : SameX d H1 G := (SameX.of s2).trans sG
      have haG : G a = some (.tup ((keyI sh).map kV)) := by rw [keyI_map]; exact hG1 _ _ ha1 fun z => by rw [z, hd1] at ha1; cases ha1
      refine ⟨_, rfl, _, rfl, _, rfl, d, _, rfl, DPut.t hG haG (Nat.lt_of_le_of_lt hKG.len (by decide)), ?_⟩
      have hnd : a ≠ d := fun z => by rw [z, hd1] at ha1; cases ha1
      have hG2 := @upd_same G d (.dT (putK kvs' (keyI sh) (.int (filZ sh))))
      have hg := DGet.t hG2 (k := keyI sh) (b := a) (by rw [upd_ne hnd]; exact haG)
      rw [valV_put, if_pos rfl] at hg
      refine ⟨_, rfl, _, rfl, d, _, rfl, hg, ?_⟩
      refine k _ _ (((SameX.of s1).trans hG1).trans fun b o e n => by rw [upd_ne n]; exact e) hG2 (hKG.put hS (by (first | lia | omega)))
end
end K59
namespace L2
open PySem PySem.Spec PyProof.Rows
noncomputable def zscopeC (sc : Scope) (N : List Str) (scope : Scope) (N' : List Str) (n : Nat) (ix : List Nat) (z : Str) : Bool :=
 scope.kind == .function && scope.names.all (fun y => y.2 != .cell || y.1 == z) && scope.names.all (fun y => y.2 != .free || y.1 != z) && scope.names.all (fun y => y.2 != .local || scope.names.lookup y.1 == some .local) &&
 scope.names.all (fun y => y.2 != .free || (sc.names.lookup y.1 == some .cell || sc.names.lookup y.1 == some .free)) && scope.names.all (fun y => y.2 != .free || scope.names.lookup y.1 != some .local) &&
 N'.length == n + ix.length && (List.range ix.length).all fun j => match ix[j]?, N'[n + j]? with
  | some i, some x => N[i]? == some x && scope.names.contains (x, .free)
  | _, _ => false
theorem CompScopeZ.ofC {X : Cx} {sc : Scope} {N : List Str} {scope : Scope} {N' : List Str} {n : Nat} {ix : List Nat} {z : Str} (h : zscopeC sc N scope N' n ix z = true) (hs : X.env.scope = sc) (hN : X.N = N) (hcf : ∀ (a : Addr) (cl : List (Str × Addr)), cellsFrom a scope.names cl = (z, a) :: cl)
  (hpc : ∀ h : Heap, pushCells h scope.names = h.push { cls := .type "cell", data := .cell none }) : CompScopeZ X scope N' n ix z := by
 unfold zscopeC at h
 simp only [Bool.and_eq_true, List.all_eq_true] at h
 obtain ⟨⟨⟨⟨⟨⟨⟨h1, h2⟩, h2'⟩, h3⟩, h4⟩, h5⟩, h6⟩, h7⟩ := h
 subst hs hN
 refine ⟨eq_of_beq h1, fun y hy hc => ?_, fun y hy => ?_, hcf, hpc, fun y hy hl => ?_, fun y hy hf => ?_, fun y hy hl => ?_, eq_of_beq h6, fun j i e => ?_⟩
 ·have := h2 y hy
  rw [hc] at this
  simpa using this
 ·have := h2' _ hy
  simpa using this
 ·have := h3 y hy
  rw [hl] at this
  simpa using this
 ·have := h4 y hy
  rw [hf] at this
  simpa using this
 ·have := h5 _ hy
  rw [hl] at this
  simp at this
 ·have hj : j < ix.length := (List.getElem?_eq_some_iff.mp e).1
  have := h7 j (List.mem_range.mpr hj)
  rw [e] at this
  cases hx : N'[n + j]? with
  | none => rw [hx] at this; simp at this
  | some x =>
   rw [hx] at this
   simp only [Bool.and_eq_true] at this
   exact ⟨x, rfl, eq_of_beq this.1, by simpa using this.2⟩
end L2
namespace L2
open PySem PySem.Spec PyProof.Rows
theorem pi_tupN {X : Cx} {tg l : Expr} {tl : TE} (K : PySem.W.Frag) (hK : X.K = K) (hl : PE X l tl) : PI X tg l (iTup K tl) := hK ▸ pi_tup hl
noncomputable def lnI (R : List (List Int)) : List Int := R.map fun r => (r.length : Int)
theorem prs_ge : ∀ {R : List (List Int)}, prsL R = true -> (lnI R).Pairwise (· ≥ ·)
 | [], _ => .nil
 | [_], _ => .cons (fun _ h => by cases h) .nil
 | x :: y :: r, h => by
  have e : prsL (x :: y :: r) = (aboveL x y && prsL (y :: r)) := rfl
  rw [e, Bool.and_eq_true] at h
  have ih := prs_ge h.2
  have h1 := (above_iff.mp h.1).1
  refine List.Pairwise.cons (fun z hz => ?_) ih
  rcases List.mem_cons.mp hz with rfl | hz
  ·show (x.length : Int) ≥ (y.length : Int)
   (first | lia | omega)
  ·have h2 : (y.length : Int) ≥ z := (List.pairwise_cons.mp ih).1 z hz
   show (x.length : Int) ≥ z
   (first | lia | omega)
theorem TabZ.shp {m : Nat} {R : List (List Int)} (h : TabZ m R) : Shp (lnI R) /\ (lnI R).sum = (m : Int) := by
 refine ⟨⟨prs_ge h.prs, fun x hx => ?_⟩, ?_⟩
 ·obtain ⟨r, hr, rfl⟩ := List.mem_map.mp hx
  have := List.length_pos_iff.mpr (h.ne r hr)
  (first | lia | omega)
 ·rw [<- h.len]
  have : ∀ L : List (List Int), (lnI L).sum = (L.flatten.length : Int) := fun L => by
   induction L with
   | nil => rfl
   | cons a t ih =>
    show (a.length : Int) + (lnI t).sum = _
    rw [ih, List.flatten_cons, List.length_append]
    (first | lia | omega)
  exact this R
theorem rows_tabN {H : Hp} {g : List Int -> Int} : ∀ {zs : List Addr} {rows : List (List Int)} {ys : List V}, RowsAt H zs rows -> Paired (fun x v => ∀ (z : Addr) (r : List Int), x = V.ref z -> H z = some (.tup (r.map V.int)) -> v = V.int (g r)) (zs.map V.ref) ys -> ys = (rows.map g).map V.int
 | _, _, _, .nil, .nil => rfl
 | _, _, _, .cons q t, .cons h pr => by rw [List.map_cons, List.map_cons, h _ _ rfl q, <- rows_tabN t pr]
noncomputable def gtPI (k : Int) : V -> Bool
 | .int o => decide (k < o)
 | _ => false
theorem gtPI_len (k : Int) : ∀ l : List Int, (((l.map V.int).filter (gtPI k)).length : Int) = ctD k l
 | [] => rfl
 | x :: l => by
  have ih := gtPI_len k l
  rw [List.map_cons, List.filter_cons]
  show (((if decide (k < x) = true then _ else _ : List V).length : Nat) : Int) = (if k < x then (1 : Int) else 0) + ctD k l
  by_cases c : k < x
  ·rw [decide_eq_true c, if_pos rfl, if_pos c, <- ih, List.length_cons]
   (first | lia | omega)
  ·rw [decide_eq_false c, if_neg Bool.false_ne_true, if_neg c, <- ih]
   (first | lia | omega)
theorem small_shapes : ∀ n, n < 8 -> ∀ sh ∈ shF 7 n n, sh.Pairwise (· ≥ ·) /\ (∀ x ∈ sh, 0 <= x) /\ sh.length <= 60 /\ sh.sum <= 60 /\ (filZ sh).natAbs < 2 ^ 64 := by decide +kernel
theorem small_squares : ∀ n, n < 8 -> ((shF 7 n n).map fun sh => filZ sh ^ (2 : Int).toNat).sum = fcZ n := by decide +kernel
theorem small_len : ∀ n, n < 8 -> (shF 7 n n).length <= 100 := by decide +kernel
theorem ifS {b : Bool} {A B : Prop} (hb : b = false) (h : B) : if b = true then A else B := by
 subst hb
 exact iteF h
noncomputable def tW2 : TT := fun σ H Q => ∃ (t : Addr) (S : List Int), σ[3]? = some (some (.ref t)) /\ σ[5]? = some (some (.int (filZ S))) /\ H t = some (.tup (S.map V.int)) /\ Shp S /\ S.sum <= 60 /\ S.length <= 60 /\ ∀ H', Same H H' -> Q false H'
theorem neNilT {H : Hp} {q e : Addr} {ns : List Int} {Q : VK} (hq : H q = some (.tup (ns.map V.int))) (he : H e = none) (h : Q (.bl (!ns.isEmpty)) (upd H e (.tup []))) : rNeD (.ref q) (.ref e) (upd H e (.tup [])) Q := by
 have h2 : (upd H e (.tup [])) e = some (.tup (([] : List Int).map V.int)) := upd_same
 refine ⟨_, _, Is.ints (by rw [upd_ne (ne_of_none hq he)]; exact hq), Is.ints h2, shaped_tints ns, shaped_tints [], ?_⟩
 have e1 : PyData.eqv (.tuple (ns.map PyData.int)) (.tuple (([] : List Int).map PyData.int)) = ns.isEmpty := by
  show PyData.eqvAll (ns.map PyData.int) [] = _
  cases ns with
  | nil => simp [PyData.eqvAll]
  | cons a r => simp [PyData.eqvAll]
 rw [e1]
 exact h
noncomputable def spLaw (K : PySem.W.Frag) : Sp := fun vs H Q _ => ∃ (a : Addr) (ns : List Int), vs = [.ref a] /\ SqL K H a (ns.map V.int) /\ ns.length <= 63 /\ ∀ H', Q (.bl true) H'
end L2
namespace K59
open PySem PySem.Spec PyProof.Rows L2
noncomputable abbrev s_law : Stmt := top 14
section
variable {P : Program} {w : World} {K : PySem.W.Frag} {mg : Str -> Option Value} {base : Heap}
theorem sc_law : FnScope ["_law_script", "_law_hand_here", "_law_turn", "_law_shape", "_law_over", "_law_heard", "_law_many", "_law_all_of_them", "_law_k"] ["_law_script"] (defScope s_law) := ⟨rfl, rfl, rfl, by decide +kernel, rfl, by decide +kernel, by decide +kernel⟩
set_option maxHeartbeats 8000000 in
theorem ok_law {f : Addr} {fd : FuncData} (F : Fun K "law" "law" s_law f fd) (T : Top mg) (C_law_hand : Cal P w K mg base 1 "_law_hand" ["_law_script"] (spHand K)) (C_law_pick : Cal P w K mg base 1 "_law_pick" ["_law_hand_here", "_law_many"] spPick) (C_law_size : Cal P w K mg base 2 "_law_size" ["_law_hand_here", "_law_most"] spSize) (C_law_drawn_table : Cal P w K mg base 3 "_law_drawn_table" ["_law_hand_here", "_law_many"] spDrawT) (Cfillings : Cal P w K mg base 2 "fillings" ["shape"] spFilS) (C_law_whole : Cal P w K mg base 1 "_law_whole" ["_law_thing"] (spWhA K)) (C_law_counted : Cal P w K mg base 16 "_law_counted" ["_law_shape", "_law_known"] (spCtd 14)) (C_law_less : Cal P w K mg base 1 "_law_less" ["_law_shape"] spLess) (C_law_shapes : Cal P w K mg base 8 "_law_shapes" ["_law_many", "_law_most"] (spShp 7)) : FnOk P w K mg base CX0 17 f fd ["_law_script"] (spLaw K) := by
 refine F.ok sc_law (fun vs H Q E h => ?_) (fun cdv A outer s H vs Q E hr h => ?_)
 ·obtain ⟨a, ns, rfl, _⟩ := h
  rfl
 ·obtain ⟨a, ns, rfl, hS, hl, k⟩ := h
  have hu : _ := hr.units
  have hu1 := hu_of hr
  refine ⟨_, (pss_cons (ps_set (i := 1) sc_law.nd rfl (Or.inl rfl) (pe_cal C_law_hand (hr.mono (by decide)) rfl (pa_cons (pv 0) pa_nil)))
   (pss_cons (ps_for PassesOwn.never rfl (pi_range1 rfl T.n_range (pa_cons pe_int pa_nil)) (pg_name (i := 2) sc_law.nd rfl (Or.inl rfl))
    (pss_cons (ps_set (i := 3) sc_law.nd rfl (Or.inr rfl) (pe_callTy call_tuple_of (by rfl) T.n_tuple boot_tuple (pa_cons (pe_lc (N' := ["_law_row"]) (n := 1) (ix := []) rfl (CompScope.of (sc := defScope s_law) (N := ["_law_script", "_law_hand_here", "_law_turn", "_law_shape", "_law_over", "_law_heard", "_law_many", "_law_all_of_them", "_law_k"]) (by decide +kernel) rfl rfl) (pi_tup (pe_cal C_law_drawn_table (hr.mono (by decide)) rfl (pa_cons (pv 1) (pa_cons (pe_cal C_law_size (hr.mono (by decide)) rfl (pa_cons (pv 1) (pa_cons pe_int pa_nil))) pa_nil)))) (fun _ _ _ _ _ => ⟨(pg_name (i := 0) (show (["_law_row"] : List Str).Nodup by decide +kernel) rfl (Or.inl rfl)), pts_nil, (pe_callB (call_len_seqK K rfl) (by rfl) T.n_len PySem.boot_len (pa_cons (pv 0) pa_nil))⟩)) pa_nil)))
    (pss_cons (ps_set (i := 4) sc_law.nd rfl (Or.inl rfl) (pe_callTy call_tuple_of (by rfl) T.n_tuple boot_tuple (pa_cons (pe_lcZ (z := "_law_k") (N' := ["_law_k", "_law_shape"]) (n := 1) (ix := [3]) rfl (CompScopeZ.ofC (sc := defScope s_law) (N := ["_law_script", "_law_hand_here", "_law_turn", "_law_shape", "_law_over", "_law_heard", "_law_many", "_law_all_of_them", "_law_k"]) (by decide +kernel) rfl rfl (fun _ _ => rfl) (fun _ => rfl)) (pi_range1 rfl T.n_range (pa_cons (pe_callB (call_maxT rfl) (by rfl) T.n_max boot_max (pa_cons (pe_op op_cat2 (pe_tup (pa_cons pe_int pa_nil)) (pv 3)) pa_nil)) pa_nil)) (fun _ _ _ _ _ _ => ⟨(pg_name (i := 0) (show (["_law_k", "_law_shape"] : List Str).Nodup by decide +kernel) rfl (Or.inr rfl) (Or.inl rfl)), pts_nil, (pe_callB (call_len_seqK K rfl) (by rfl) T.n_len PySem.boot_len (pa_cons (pe_lc (N' := ["_law_one", "_law_k"]) (n := 1) (ix := [0]) rfl (CompScope.of (N := ["_law_k", "_law_shape"]) rfl rfl rfl) (pi_tupN K rfl (pv 1)) (fun _ _ _ _ _ => ⟨(pg_name (i := 0) (show (["_law_one", "_law_k"] : List Str).Nodup by decide +kernel) rfl (Or.inl rfl)), (pts_one (pt_cmpR op_gt (pv 0) (pv 1) (nomark _))), (pv 0)⟩)) pa_nil))⟩)) pa_nil)))
    (pss_cons (ps_set (i := 5) sc_law.nd rfl (Or.inl rfl) (pe_cal Cfillings (hr.mono (by decide)) rfl (pa_cons (pv 3) pa_nil)))
    (pss_cons (ps_if (PW.pt (pw_or (pt_not (pt_val (pe_cal C_law_whole (hr.mono (by decide)) rfl (pa_cons (pv 5) pa_nil)))) (pw_or (pt_cmpR op_ne (pv 5) (pe_cal Cfillings (hr.mono (by decide)) rfl (pa_cons (pv 4) pa_nil)) (nomark _)) (pw_or1 (pt_cmpR op_ne (pe_cal Cfillings (hr.mono (by decide)) rfl (pa_cons (pv 3) pa_nil)) (pv 5) (nomark _))))))
     (pss_one (ps_ret pe_bl))
     pss_nil)
    (pss_cons (ps_if (PT.weak (PW.pt (pw_and (pt_cmpR op_lt (pe_callB (call_sumT rfl) (by rfl) T.n_sum boot_sum (pa_cons (pv 3) pa_nil)) pe_int (nomark _)) (pw_and1 (pt_cmpR op_ne (pv 5) (pe_cal C_law_counted (hr.mono (by decide)) rfl (pa_cons (pv 3) (pa_cons pe_dnewT pa_nil))) (nomark _))))) (t' := tW2) (fun σ H Q ⟨t, S, e3, e5, ht, hS, hs, hl, q⟩ => ⟨_, e3, t, S, rfl, SqT.of ht, _, _, rfl, rfl, _, rfl, by
     by_cases c : S.sum < 15
     ·rw [decide_eq_true c]
      refine iteT ⟨_, e5, _, e3, fun d hd => ⟨t, d, S, [], rfl, same_upd hd _ _ ht, hS, by (first | lia | omega), by (first | lia | omega), upd_same, KnD.nil, fun kvs' H' sX _ _ => ⟨rfl, _, rfl, ?_⟩⟩⟩
      rw [decide_eq_true rfl]
      exact q H' fun b o e => sX b o (same_upd hd _ _ e) fun z => by rw [z, hd] at e; cases e
     ·rw [decide_eq_false c]
      exact iteF (q H (Same.refl _))⟩))
     (pss_one (ps_ret pe_bl))
     pss_nil)
    (pss_one (ps_if (PT.weak (PW.pt (pw_and (pt_cmpR (op_neD hu) (pv 3) (pe_tup pa_nil) (nomark _)) (pw_and1 (pt_cmpR op_ne (pv 5) (pe_callB (call_sumL rfl) (by rfl) T.n_sum boot_sum (pa_cons (pe_lc (N' := ["_law_lower"]) (n := 1) (ix := []) rfl (CompScope.of (sc := defScope s_law) (N := ["_law_script", "_law_hand_here", "_law_turn", "_law_shape", "_law_over", "_law_heard", "_law_many", "_law_all_of_them", "_law_k"]) (by decide +kernel) rfl rfl) (pi_list (pe_cal C_law_less (hr.mono (by decide)) rfl (pa_cons (pv 3) pa_nil))) (fun _ _ _ _ _ => ⟨(pg_name (i := 0) (show (["_law_lower"] : List Str).Nodup by decide +kernel) rfl (Or.inl rfl)), pts_nil, (pe_cal Cfillings (hr.mono (by decide)) rfl (pa_cons (pv 0) pa_nil))⟩)) pa_nil)) (nomark _))))) (t' := tW2) (fun σ H Q ⟨t, S, e3, e5, ht, hS, hs, hl, q⟩ => ⟨_, e3, Nat.zero_le _, fun e0 he0 => neNilT ht he0 ⟨_, rfl, by
     have u0 := same_upd (o := .tup []) he0
     by_cases c : S = []
     ·subst c
      exact iteF (q _ u0)
     ·rw [show (!S.isEmpty) = true by cases S with | nil => exact absurd rfl c | cons x r => rfl]
      refine iteT ⟨_, e5, _, e3, t, S, rfl, u0 _ _ ht, hS, hl, hs, fun l zs H2 s2 hl0 hlL R => ⟨l, rfl, ⟨_, SqL.of hlL⟩, ?_⟩⟩
      have hmem := les_mem S [] hS.fal hS.pos
      have hlen := les_len S []
      have hzl : zs.length = (lesZ S).length := Paired.length R
      have hz60 : zs.length <= 60 := by rw [hzl]; exact Nat.le_trans hlen hl
      refine lc_grow (yields_list (xs := zs.map V.ref)) (small1 (by rw [mapR_len]; (first | lia | omega))) (fun x v _ => ∀ (z : Addr) (r : List Int), x = V.ref z -> H2 z = some (.tup (r.map V.int)) -> v = V.int (filZ r)) (fun _ _ _ _ _ h => h) (fun G' s4 => SqL.of (s4 _ _ hlL)) (fun y hy G' s4 Q2 q2 => ?_) fun acc ys G3 hacc s3 hys pr => ?_
      ·obtain ⟨zo, hzo, rfl⟩ := List.mem_map.mp hy
       obtain ⟨r, hr1, hr2⟩ := RowsAt.memS R zo hzo
       have hr3 := hmem r hr1
       rw [List.nil_append] at hr3
       have hr4 := hr3.1.sum_len
       refine ⟨_, rfl, zo, r, rfl, s4 _ _ hr2, hr3.1.fal, by (first | lia | omega), by (first | lia | omega), fun H5 s5 => q2 _ H5 s5 fun z' r' e1 e2 => ?_⟩
       cases e1
       rw [hr2] at e2
       rw [mapI_inj (HO.tup.inj (Option.some.inj e2))]
      ·have eT := rows_tabN (g := filZ) R pr
       subst eT
       refine ⟨acc, _, rfl, hys, ?_⟩
       rw [<- les_fil hS c]
       refine ⟨rfl, _, rfl, ?_⟩
       rw [decide_eq_true rfl]
       exact q _ ((u0.trans s2).trans s3)⟩⟩))
     (pss_one (ps_ret pe_bl))
     pss_nil))))))))
   (pss_cons (ps_par (i := 6) (j := 7) rfl sc_law.nd rfl rfl (by decide) rfl rfl (pa_cons (pe_cal C_law_pick (hr.mono (by decide)) rfl (pa_cons (pv 1) (pa_cons pe_int pa_nil))) (pa_cons pe_int pa_nil)) rfl)
   (pss_cons (ps_for PassesOwn.never rfl (pi_range1 rfl T.n_range (pa_cons (pv 6) pa_nil)) (pg_name (i := 8) sc_law.nd rfl (Or.inl rfl))
    (pss_one (ps_set (i := 7) sc_law.nd rfl (Or.inl rfl) (pe_op op_mul (pv 7) (pe_op op_add (pv 8) pe_int)))))
   (pss_one (ps_ret (pe_and (pe_cmpR op_eq (pe_callB (call_sumL rfl) (by rfl) T.n_sum boot_sum (pa_cons (pe_lc (N' := ["_law_shape"]) (n := 1) (ix := []) rfl (CompScope.of (sc := defScope s_law) (N := ["_law_script", "_law_hand_here", "_law_turn", "_law_shape", "_law_over", "_law_heard", "_law_many", "_law_all_of_them", "_law_k"]) (by decide +kernel) rfl rfl) (pi_list (pe_cal C_law_shapes (hr.mono (by decide)) rfl (pa_cons (pv 6) (pa_cons (pv 6) pa_nil)))) (fun _ _ _ _ _ => ⟨(pg_name (i := 0) (show (["_law_shape"] : List Str).Nodup by decide +kernel) rfl (Or.inl rfl)), pts_nil, (pe_op op_pow (pe_cal Cfillings (hr.mono (by decide)) rfl (pa_cons (pv 0) pa_nil)) pe_int)⟩)) pa_nil)) (pv 7) (nomark _)) (pe_one (pe_cmpR op_eq (pe_cal Cfillings (hr.mono (by decide)) rfl (pa_cons (pe_tup pa_nil) pa_nil)) pe_int (nomark _)))))))))), ?fin⟩
  case fin =>
   refine ⟨_, rfl, a, ns, rfl, hS, hl, fun p q H1 s1 hh _ _ => ?_⟩
   refine ⟨_, rfl, by decide, by decide, ?_⟩
   refine for_range (lo := 0) (n := 4) (fun i σ G => ∃ (c2 c3 c4 c5 c6 c7 c8 : Option V), σ = [some (.ref a), some (.ref p), c2, c3, c4, c5, c6, c7, c8] /\ Hand G p q) ⟨_, _, _, _, _, _, _, rfl, hh⟩ ?_ ?_
   ·rintro i σ G hi ⟨c2, c3, c4, c5, c6, c7, c8, rfl, hG⟩
    refine ⟨_, rfl, _, rfl, p, q, 60, rfl, by decide, by decide, hG, fun d G1 d0 d1 hG1 k1 => ?_⟩
    obtain ⟨m, rfl⟩ : ∃ m : Nat, d = (m : Int) := ⟨d.toNat, by (first | lia | omega)⟩
    refine ⟨p, q, m, rfl, by (first | lia | omega), hG1, fun z R G2 hT hz hG2 k2 => ?_⟩
    obtain ⟨ts, hz, RA⟩ := hz
    obtain ⟨hS1, hS2⟩ := hT.shp
    have hSl := hS1.sum_len
    have hRl : (lnI R).length = R.length := List.length_map _
    have htl : ts.length = R.length := Paired.length RA
    refine ⟨z, rfl, ⟨_, SqT.of hz⟩, ?_⟩
    refine lc_grow (yields_tup (xs := ts.map V.ref)) (small1 (by rw [mapR_len]; (first | lia | omega))) (fun x v _ => ∀ (y : Addr) (r : List Int), x = V.ref y -> G2 y = some (.tup (r.map V.int)) -> v = V.int (r.length : Int)) (fun _ _ _ _ _ h => h) (fun G' s4 => SqT.of (s4 _ _ hz)) (fun y hy G' s4 Q2 q2 => ?_) fun acc ys G3 hacc s3 hys pr => ?_
    ·obtain ⟨zo, hzo, rfl⟩ := List.mem_map.mp hy
     obtain ⟨r, _, hr2⟩ := RowsAt.memS RA zo hzo
     refine ⟨_, rfl, zo, _, rfl, .inr (SqT.of (s4 _ _ hr2)), q2 _ _ (Same.refl _) fun z' r' e1 e2 => ?_⟩
     cases e1
     rw [hr2] at e2
     have := congrArg List.length (HO.tup.inj (Option.some.inj e2))
     rw [mapI_len, mapI_len] at this
     rw [mapI_len, this]
    have eT := rows_tabN (g := fun r => (r.length : Int)) RA pr
    subst eT
    have hys' : G3 acc = some (.lst ((lnI R).map V.int)) := hys
    refine ⟨acc, _, rfl, .inl ⟨SqL.of hys, fun t ht => ?_⟩⟩
    have u1 := same_upd (o := .tup ((lnI R).map V.int)) ht
    have htS := @upd_same G3 t (.tup ((lnI R).map V.int))
    have hG4 := (hG2.same s3).same u1
    generalize hSS : lnI R = S at *
    have hgen : upd G3 t (.tup ((R.map fun r => (r.length : Int)).map V.int)) = upd G3 t (.tup (S.map V.int)) := by rw [<- hSS]; rfl
    rw [hgen]
    generalize upd G3 t (.tup (S.map V.int)) = G4 at htS hG4 ⊢
    clear hgen hys hys' pr hacc s3 u1 k1 k2 RA hz hG2 hG1 ht
    refine ⟨by show 1 <= sizeLine; decide, fun t1 ht1 => ?_⟩
    have u2 := same_upd (o := .tup [.int 0]) ht1
    refine ⟨_, rfl, t1, t, _, _, rfl, rfl, upd_same, u2 _ _ htS, ?_, fun t2 G5 s5 ht2 => ?_⟩
    ·rw [mapI_len]
     exact Nat.le_trans (by show 1 + S.length <= 100; (first | lia | omega)) (by decide)
    refine ⟨t2, 0 :: S, rfl, ht2, List.cons_ne_nil _ _, fun M hM hMa => ?_⟩
    have hM0 := hMa 0 List.mem_cons_self
    have hM60 : M <= 60 := by
     rcases List.mem_cons.mp hM with h | h
     ·(first | lia | omega)
     ·have := hSl.2 M h
      (first | lia | omega)
    obtain ⟨C, rfl⟩ : ∃ C : Nat, M = (C : Int) := ⟨M.toNat, by (first | lia | omega)⟩
    have hC : ∀ x ∈ S, x <= (C : Int) := fun x hx => hMa x (List.mem_cons_of_mem _ hx)
    have ht5 := s5 _ _ (u2 _ _ htS)
    have hG5 := (hG4.same u2).same s5
    clear hM hMa hM0 ht2 s5 u2 ht1
    refine ⟨(C : Int), rfl, by (first | lia | omega), by (first | lia | omega), ?_⟩
    rw [Int.toNat_natCast]
    refine lc_tabG (n := C) (fun k => ctD k S) (by (first | lia | omega)) (fun n n0 n1 G6 s6 Q' q' => ?_) fun acc2 G6 hacc2 s6 hys2 => ?_
    ·refine ⟨_, rfl, t, rfl, ⟨_, SqT.of (s6 _ _ ht5)⟩, ?_⟩
     refine lc_pure (yields_tup (xs := S.map V.int)) (small1 (by rw [mapI_len]; (first | lia | omega))) (gtPI n) (fun v => v) (fun _ s' => SqT.of (s' _ _ (s6 _ _ ht5))) (fun x hx' G7 s7 Q2 q2 => ?_) (fun x hx' _ G7 s7 Q2 q2 => ⟨_, rfl, q2⟩) fun acc3 hacc3 => ?_
     ·obtain ⟨o, _, rfl⟩ := List.mem_map.mp hx'
      exact ⟨_, rfl, _, rfl, _, _, rfl, rfl, _, rfl, q2⟩
     ·rw [List.map_id'' (fun _ => rfl)]
      refine ⟨acc3, _, rfl, .inl (SqL.of upd_same), ?_⟩
      rw [gtPI_len]
      exact q' _ (same_upd hacc3)
    have e6 : ((num0 C).map fun k => ctD k S) = overD S C := by
     unfold num0 overD
     rw [List.map_map]
     rfl
    rw [e6] at hys2
    refine ⟨acc2, _, rfl, .inl ⟨SqL.of hys2, fun o ho => ?_⟩⟩
    have u7 := same_upd (o := .tup ((overD S C).map V.int)) ho
    have hoS := @upd_same G6 o (.tup ((overD S C).map V.int))
    have ht7 := u7 _ _ (s6 _ _ ht5)
    have hG7 := (hG5.same s6).same u7
    generalize upd G6 o (.tup ((overD S C).map V.int)) = G7 at hoS ht7 hG7 ⊢
    clear u7 ho hys2 hacc2 s6 ht5 hG5 e6 htS hG4
    have hOl : (overD S C).length <= 60 := by unfold overD; rw [List.length_map, List.length_range]; (first | lia | omega)
    have hOs : (overD S C).sum = S.sum := sum_over S C fun x hx => ⟨hS1.fal.nn x hx, hC x hx⟩
    have hfo : filZ (overD S C) = filZ S := fil_over hS1.fal hC
    have hSlen : S.length <= 60 := by (first | lia | omega)
    have hS60 : S.sum <= 60 := by (first | lia | omega)
    refine ⟨_, rfl, t, S, rfl, ht7, hS1.fal, hSlen, hS60, fun G8 s8 => ?_⟩
    have ht8 := s8 _ _ ht7
    have ho8 := s8 _ _ hoS
    have hG8 := hG7.same s8
    clear ht7 hoS hG7 s8
    refine ⟨_, rfl, .int (filZ S), rfl, ⟨"int", .int _, by decide⟩, ?_⟩
    refine ⟨_, rfl, ifS rfl ?_⟩
    refine ⟨_, rfl, _, rfl, o, overD S C, rfl, ho8, over_fal S C, hOl, by rw [hOs]; exact hS60, fun G9 s9 => ?_⟩
    rw [hfo]
    refine ⟨rfl, _, rfl, ifS (by rw [decide_eq_true rfl]; rfl) ?_⟩
    have ht9 := s9 _ _ ht8
    have hG9 := hG8.same s9
    refine ⟨_, rfl, t, S, rfl, ht9, hS1.fal, hSlen, hS60, fun GA sA => ?_⟩
    have htA := sA _ _ ht9
    have hGA := hG9.same sA
    clear ht8 hG8 ht9 hG9 s9 sA ho8
    refine ⟨_, rfl, rfl, _, rfl, ifS (by rw [decide_eq_true rfl]; rfl) ?_⟩
    refine ⟨t, S, rfl, rfl, htA, hS1, hS60, hSlen, fun GB sB => ?_⟩
    refine iteF ?_
    refine ⟨t, S, rfl, rfl, sB _ _ htA, hS1, hS60, hSlen, fun GC sC => ?_⟩
    exact iteF ⟨_, _, _, _, _, _, _, rfl, (hGA.same sB).same sC⟩
   ·rintro σ G ⟨c2, c3, c4, c5, c6, c7, c8, rfl, hG⟩
    refine ⟨_, rfl, p, q, 8, rfl, by decide, by decide, hG, fun d G1 d0 d1 hG1 k1 => ?_⟩
    obtain ⟨m, rfl⟩ : ∃ m : Nat, d = (m : Int) := ⟨d.toNat, by (first | lia | omega)⟩
    refine ⟨_, _, rfl, ?_⟩
    refine ⟨_, rfl, (m : Int), rfl, by (first | lia | omega), by (first | lia | omega), ?_⟩
    rw [Int.toNat_natCast]
    refine for_range (lo := 0) (n := m) (fun i σ G => ∃ (c2 c3 c4 c5 c8 : Option V), σ = [some (.ref a), some (.ref p), c2, c3, c4, c5, some (.int (m : Int)), some (.int (fcZ i)), c8] /\ G = G1) ⟨c2, c3, c4, c5, c8, rfl, rfl⟩ ?_ ?_
    ·rintro i σ G2 hi ⟨c2, c3, c4, c5, c8, rfl, rfl⟩
     refine ⟨_, rfl, _, rfl, _, _, rfl, rfl, _, _, rfl, rfl, .inr ⟨by (first | lia | omega), by (first | lia | omega)⟩, ?_⟩
     refine ⟨c2, c3, c4, c5, some (.int (0 + (i : Int))), ?_, rfl⟩
     show [some (V.ref a), some (V.ref p), c2, c3, c4, c5, some (V.int (m : Int)), some (V.int (fcZ i * (0 + (i : Int) + 1))), some (V.int (0 + (i : Int)))] = _
     rw [show fcZ i * (0 + (i : Int) + 1) = fcZ (i + 1) by rw [Int.zero_add]; rfl]
    ·rintro σ G2 ⟨c2, c3, c4, c5, c8, rfl, rfl⟩
     have hm8 : m < 8 := by (first | lia | omega)
     have hsm := small_shapes m hm8
     refine ⟨_, rfl, _, rfl, m, m, rfl, by (first | lia | omega), by (first | lia | omega), by (first | lia | omega), fun l zs G3 s3 hl0 hlL R => ⟨l, rfl, ⟨_, SqL.of hlL⟩, ?_⟩⟩
     have hzl : zs.length = (shF 7 m m).length := Paired.length R
     have hz100 := small_len m hm8
     refine lc_grow (yields_list (xs := zs.map V.ref)) (small1 (by rw [mapR_len]; (first | lia | omega))) (fun x v _ => ∀ (z : Addr) (r : List Int), x = V.ref z -> G3 z = some (.tup (r.map V.int)) -> v = V.int (filZ r ^ (2 : Int).toNat)) (fun _ _ _ _ _ h => h) (fun G' s4 => SqL.of (s4 _ _ hlL)) (fun y hy G' s4 Q2 q2 => ?_) fun acc ys G5 hacc s5 hys pr => ?_
     ·obtain ⟨zo, hzo, rfl⟩ := List.mem_map.mp hy
      obtain ⟨r, hr1, hr2⟩ := RowsAt.memS R zo hzo
      obtain ⟨h1, h2, h3, h4, h5⟩ := hsm r hr1
      refine ⟨_, rfl, zo, r, rfl, s4 _ _ hr2, ⟨h1, h2⟩, h3, h4, fun H5 s6 => ?_⟩
      refine ⟨_, _, rfl, rfl, ⟨by decide, by decide, h5⟩, q2 _ H5 s6 fun z' r' e1 e2 => ?_⟩
      cases e1
      rw [hr2] at e2
      rw [mapI_inj (HO.tup.inj (Option.some.inj e2))]
     ·have eT := rows_tabN (g := fun r => filZ r ^ (2 : Int).toNat) R pr
      subst eT
      refine ⟨acc, _, rfl, hys, ?_⟩
      rw [small_squares m hm8]
      refine ⟨_, rfl, rfl, _, rfl, ?_⟩
      rw [decide_eq_true rfl]
      refine iteT ⟨Nat.zero_le _, fun t ht => ?_⟩
      refine ⟨t, [], rfl, upd_same, ⟨.nil, fun x hx => by cases hx⟩, by decide, by decide, fun G6 s6 => ⟨rfl, ?_⟩⟩
      rw [fil_nil, decide_eq_true rfl]
      exact k _
end
end K59
namespace K59
open PySem PySem.Spec PyProof.Rows L2
set_option maxHeartbeats 8000000 in
theorem all_mk {l : PySem.W.OpenLaw} {w : World} {K : PySem.W.Frag} {h : Heap} {mg : Str -> Option Value} {fa : Addr} (X : K.In h) (G : h.Ns mainGlobals mg) (hfa : mg "law" = some (.ref fa)) (TK : TopK K)
  (d_product : Def K "product" s_product) (d_fillings : Def K "fillings" s_fillings) (d__law_hand : Def K "_law_hand" s__law_hand) (d__law_pick : Def K "_law_pick" s__law_pick) (d__law_of : Def K "_law_of" s__law_of) (d__law_size : Def K "_law_size" s__law_size) (d__law_whole : Def K "_law_whole" s__law_whole) (d__law_drawn_table : Def K "_law_drawn_table" s__law_drawn_table) (d__law_less : Def K "_law_less" s__law_less) (d__law_counted : Def K "_law_counted" s__law_counted) (d__law_shapes : Def K "_law_shapes" s__law_shapes) (d_law : Def K "law" s_law) :
  ∃ fd : FuncData, (∀ (s : Shared) (v : Value), BindsTo s fd ⟨[v], []⟩ [("_law_script", v)]) /\ ∀ base : Heap, K.In base -> base.Ns mainGlobals mg -> FnOk l.prog w K mg base CX0 17 fa fd ["_law_script"] (spLaw K) := by
 have T : Top mg := TK.top X G
 obtain ⟨f_product, e_product, F_product, m_product⟩ := d_product.fn X G
 obtain ⟨f_fillings, e_fillings, F_fillings, m_fillings⟩ := d_fillings.fn X G
 obtain ⟨f__law_hand, e__law_hand, F__law_hand, m__law_hand⟩ := d__law_hand.fn X G
 obtain ⟨f__law_pick, e__law_pick, F__law_pick, m__law_pick⟩ := d__law_pick.fn X G
 obtain ⟨f__law_of, e__law_of, F__law_of, m__law_of⟩ := d__law_of.fn X G
 obtain ⟨f__law_size, e__law_size, F__law_size, m__law_size⟩ := d__law_size.fn X G
 obtain ⟨f__law_whole, e__law_whole, F__law_whole, m__law_whole⟩ := d__law_whole.fn X G
 obtain ⟨f__law_drawn_table, e__law_drawn_table, F__law_drawn_table, m__law_drawn_table⟩ := d__law_drawn_table.fn X G
 obtain ⟨f__law_less, e__law_less, F__law_less, m__law_less⟩ := d__law_less.fn X G
 obtain ⟨f__law_counted, e__law_counted, F__law_counted, m__law_counted⟩ := d__law_counted.fn X G
 obtain ⟨f__law_shapes, e__law_shapes, F__law_shapes, m__law_shapes⟩ := d__law_shapes.fn X G
 obtain ⟨f_law, e_law, F_law, m_law⟩ := d_law.fn X G
 have b_product := F_product.binds (ps := ["first", "last"]) fun _ _ _ _ _ _ us hl => match us, hl with | [_, _], _ => rfl
 have b_fillings := F_fillings.binds (ps := ["shape"]) fun _ _ _ _ _ _ us hl => match us, hl with | [_], _ => rfl
 have b__law_hand := F__law_hand.binds (ps := ["_law_script"]) fun _ _ _ _ _ _ us hl => match us, hl with | [_], _ => rfl
 have b__law_pick := F__law_pick.binds (ps := ["_law_hand_here", "_law_many"]) fun _ _ _ _ _ _ us hl => match us, hl with | [_, _], _ => rfl
 have b__law_of := F__law_of.binds (ps := ["_law_hand_here", "_law_some"]) fun _ _ _ _ _ _ us hl => match us, hl with | [_, _], _ => rfl
 have b__law_size := F__law_size.binds (ps := ["_law_hand_here", "_law_most"]) fun _ _ _ _ _ _ us hl => match us, hl with | [_, _], _ => rfl
 have b__law_whole := F__law_whole.binds (ps := ["_law_thing"]) fun _ _ _ _ _ _ us hl => match us, hl with | [_], _ => rfl
 have b__law_drawn_table := F__law_drawn_table.binds (ps := ["_law_hand_here", "_law_many"]) fun _ _ _ _ _ _ us hl => match us, hl with | [_, _], _ => rfl
 have b__law_less := F__law_less.binds (ps := ["_law_shape"]) fun _ _ _ _ _ _ us hl => match us, hl with | [_], _ => rfl
 have b__law_counted := F__law_counted.binds (ps := ["_law_shape", "_law_known"]) fun _ _ _ _ _ _ us hl => match us, hl with | [_, _], _ => rfl
 have b__law_shapes := F__law_shapes.binds (ps := ["_law_many", "_law_most"]) fun _ _ _ _ _ _ us hl => match us, hl with | [_, _], _ => rfl
 have e : fa = f_law := by
  have q := hfa.symm.trans m_law
  cases q
  rfl
 subst e
 obtain ⟨oc, od, kV, doc, pm, an, cdv, ct, osl, rfl, lk, hcd⟩ := F_law.ex
 refine ⟨PySem.W.fnOf "law" "law" (defArgs s_law) (defBody s_law) (defScope s_law) .none kV doc pm an cdv ct, fun s v => .of_eq rfl, fun base _ _ => ?_⟩
 have Cproduct : Cal l.prog w K mg base 1 "product" ["first", "last"] (spPrN) := ⟨f_product, e_product, ok_product F_product T, m_product, F_product.kp, b_product⟩
 have Cfillings : Cal l.prog w K mg base 2 "fillings" ["shape"] (spFilS) := ⟨f_fillings, e_fillings, ok_fillings F_fillings T Cproduct, m_fillings, F_fillings.kp, b_fillings⟩
 have C_law_hand : Cal l.prog w K mg base 1 "_law_hand" ["_law_script"] (spHand K) := ⟨f__law_hand, e__law_hand, ok__law_hand F__law_hand , m__law_hand, F__law_hand.kp, b__law_hand⟩
 have C_law_pick : Cal l.prog w K mg base 1 "_law_pick" ["_law_hand_here", "_law_many"] (spPick) := ⟨f__law_pick, e__law_pick, ok__law_pick F__law_pick , m__law_pick, F__law_pick.kp, b__law_pick⟩
 have C_law_of : Cal l.prog w K mg base 2 "_law_of" ["_law_hand_here", "_law_some"] (spOfI) := ⟨f__law_of, e__law_of, ok__law_of F__law_of T C_law_pick, m__law_of, F__law_of.kp, b__law_of⟩
 have C_law_size : Cal l.prog w K mg base 2 "_law_size" ["_law_hand_here", "_law_most"] (spSize) := ⟨f__law_size, e__law_size, ok__law_size F__law_size C_law_pick, m__law_size, F__law_size.kp, b__law_size⟩
 have C_law_whole : Cal l.prog w K mg base 1 "_law_whole" ["_law_thing"] (spWhA K) := ⟨f__law_whole, e__law_whole, ok__law_whole F__law_whole T, m__law_whole, F__law_whole.kp, b__law_whole⟩
 have C_law_drawn_table : Cal l.prog w K mg base 3 "_law_drawn_table" ["_law_hand_here", "_law_many"] (spDrawT) := ⟨f__law_drawn_table, e__law_drawn_table, ok__law_drawn_table F__law_drawn_table T C_law_of, m__law_drawn_table, F__law_drawn_table.kp, b__law_drawn_table⟩
 have C_law_less : Cal l.prog w K mg base 1 "_law_less" ["_law_shape"] (spLess) := ⟨f__law_less, e__law_less, ok__law_less F__law_less T, m__law_less, F__law_less.kp, b__law_less⟩
 have C_law_counted : Cal l.prog w K mg base 16 "_law_counted" ["_law_shape", "_law_known"] (spCtd 14) := ⟨f__law_counted, e__law_counted, ok__law_counted F__law_counted T m__law_counted b__law_counted C_law_less 14, m__law_counted, F__law_counted.kp, b__law_counted⟩
 have C_law_shapes : Cal l.prog w K mg base 8 "_law_shapes" ["_law_many", "_law_most"] (spShp 7) := ⟨f__law_shapes, e__law_shapes, ok__law_shapes F__law_shapes T m__law_shapes b__law_shapes 7, m__law_shapes, F__law_shapes.kp, b__law_shapes⟩
 exact ok_law F_law T C_law_hand C_law_pick C_law_size C_law_drawn_table Cfillings C_law_whole C_law_counted C_law_less C_law_shapes
theorem walk {l : PySem.W.OpenLaw} {q : Program} {loose : List Str} {XP : (Str -> Option Value) -> Heap -> Prop} {YP : World -> Heap -> Prop} {d : DefRec} {K : Params -> PySem.W.Frag} (hn : l.most = some 63) (hdf : d.params.defaults = [])
  (hY : ∀ (w : World) (h : Heap), YP w h -> (K w.params).In h)
  (F : ∀ (w : World) (mg : Str -> Option Value) (fa : Addr) (h : Heap), (K w.params).In h -> h.Ns mainGlobals mg -> mg d.name = some (.ref fa) ->
   ∃ fd : FuncData, (∀ (s : Shared) (u : Value), BindsTo s fd ⟨[u], []⟩ [("_law_script", u)]) /\ ∀ base : Heap, (K w.params).In base -> base.Ns mainGlobals mg -> FnOk l.prog w (K w.params) mg base CX0 17 fa fd ["_law_script"] (spLaw (K w.params))) :
  PySem.W.WalkO q loose XP YP l.row.toRowW d [] (fun f vs => PySem.call f vs) :=
 L2.walk_of (n := 63) (k := 17) (x := "_law_script") (CX := fun _ => CX0) (sp := fun w => spLaw (K w.params)) hn (by decide) hdf ⟨rfl, by decide, by decide, rfl⟩ hY F (fun _ _ a ns hl _ hS => ⟨a, ns, rfl, hS, hl, fun _ => rfl⟩) fun _ _ _ _ _ z => z
end K59
open PySem PySem.W PyProof.Rows
set_option maxRecDepth 100000 in
set_option maxHeartbeats 0 in
theorem PySem.Challenge.cw_shuffletold_k59_fillings_counted_holds : PySem.Challenge.rw_shuffletold_k59_fillings_counted.Holds := by
 w_on; o_law; k_head; (case hw => w_witness2)
 k_fill
 refine K59.walk (l := PySem.Challenge.rw_shuffletold_k59_fillings_counted) rfl rfl (fun w h Y => PySem.W.kIn_of Y) ?F
 case F =>
  intro w mg fa h KX G hmg
  refine' K59.all_mk KX G hmg ⟨?_, ?_, ?_, ?_, ?_, ?_, ?_, ?_, ?_, ?_, ?_, ?_, ?_, ?_, ?_⟩ (L2.Def.of ?a0 ?l0 ?c0 ?k0) (L2.Def.of ?a1 ?l1 ?c1 ?k1) (L2.Def.of ?a2 ?l2 ?c2 ?k2) (L2.Def.of ?a3 ?l3 ?c3 ?k3) (L2.Def.of ?a4 ?l4 ?c4 ?k4) (L2.Def.of ?a5 ?l5 ?c5 ?k5) (L2.Def.of ?a6 ?l6 ?c6 ?k6) (L2.Def.of ?a7 ?l7 ?c7 ?k7) (L2.Def.of ?a8 ?l8 ?c8 ?k8) (L2.Def.of ?a9 ?l9 ?c9 ?k9) (L2.Def.of ?a10 ?l10 ?c10 ?k10) (L2.Def.of ?a11 ?l11 ?c11 ?k11)
  (case a0 => k_is); (case l0 => k_is); (case c0 => k_is); (case k0 => k_is)
  (case a1 => k_is); (case l1 => k_is); (case c1 => k_is); (case k1 => k_is)
  (case a2 => k_is); (case l2 => k_is); (case c2 => k_is); (case k2 => k_is)
  (case a3 => k_is); (case l3 => k_is); (case c3 => k_is); (case k3 => k_is)
  (case a4 => k_is); (case l4 => k_is); (case c4 => k_is); (case k4 => k_is)
  (case a5 => k_is); (case l5 => k_is); (case c5 => k_is); (case k5 => k_is)
  (case a6 => k_is); (case l6 => k_is); (case c6 => k_is); (case k6 => k_is)
  (case a7 => k_is); (case l7 => k_is); (case c7 => k_is); (case k7 => k_is)
  (case a8 => k_is); (case l8 => k_is); (case c8 => k_is); (case k8 => k_is)
  (case a9 => k_is); (case l9 => k_is); (case c9 => k_is); (case k9 => k_is)
  (case a10 => k_is); (case l10 => k_is); (case c10 => k_is); (case k10 => k_is)
  (case a11 => k_is); (case l11 => k_is); (case c11 => k_is); (case k11 => k_is)
  all_goals k_is
