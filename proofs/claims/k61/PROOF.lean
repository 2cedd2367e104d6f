import PyProof.Rows.All
import Wide.All
import OpenK.AllK
import Wide.FinOn
import Lean
import PyProof.EqAt
import PyProof.EqKinds
import PyProof.TupleCall
import PySem.Challenge.RW_shuffletold_k61_whole_tables_undone
set_option Elab.async false
set_option linter.all false
set_option maxRecDepth 100000
set_option genSizeOfSpec false
namespace L2
open PySem PySem.Spec PyProof.Rows
noncomputable abbrev Key := Sum Int Str
noncomputable def keyIs : Key -> Value -> Bool
 | .inl k, v => Value.isInt k v
 | .inr x, v => Value.isStrOf x v
noncomputable def keyH (w : World) : Key -> Int
 | .inl k => hashInt k
 | .inr x => hashStr w x
theorem keyIs_shape : ∀ {k : Key} {v : Value}, keyIs k v = true -> (∃ i t, k = Sum.inl i /\ v = Value.int i t) ∨ (∃ x t, k = Sum.inr x /\ v = Value.str x t)
 | .inl i, v, h => by
  obtain ⟨t, e⟩ := Value.isInt_shape (k := i) (v := v) h
  exact .inl ⟨i, t, rfl, e⟩
 | .inr x, v, h => by
  obtain ⟨t, e⟩ := Value.isStrOf_shape (x := x) (v := v) h
  exact .inr ⟨x, t, rfl, e⟩
theorem keyIs_int (i : Int) (t : Tok) : keyIs (.inl i) (.int i t) = true := by simp [keyIs, Value.isInt]
theorem keyIs_str (x : Str) (t : Tok) : keyIs (.inr x) (.str x t) = true := by simp [keyIs, Value.isStrOf]
theorem key_ll (a b : Int) : decide ((Sum.inl a : Key) = Sum.inl b) = (a == b) := by
 by_cases e : a = b
 ·subst e; simp
 ·have h : ¬ (Sum.inl a : Key) = Sum.inl b := fun q => e (Sum.inl.inj q)
  rw [decide_eq_false h]
  exact (beq_eq_false_iff_ne.mpr e).symm
theorem key_rr (a b : Str) : decide ((Sum.inr a : Key) = Sum.inr b) = decide (a = b) := by
 by_cases e : a = b
 ·subst e; simp
 ·have h : ¬ (Sum.inr a : Key) = Sum.inr b := fun q => e (Sum.inr.inj q)
  rw [decide_eq_false h, decide_eq_false e]
theorem key_lr (a : Int) (b : Str) : decide ((Sum.inl a : Key) = Sum.inr b) = false := decide_eq_false (fun q => nomatch q)
theorem key_rl (a : Str) (b : Int) : decide ((Sum.inr a : Key) = Sum.inl b) = false := decide_eq_false (fun q => nomatch q)
noncomputable def mixKind (prog : Program) (w : World) : PySem.KeyKind prog w Key where
 is := keyIs
 hash := keyH w
 inj := fun v a b ha hb => by
  rcases keyIs_shape ha with ⟨i, t, rfl, rfl⟩ | ⟨x, t, rfl, rfl⟩
  ·rcases keyIs_shape hb with ⟨j, u, rfl, e⟩ | ⟨y, u, rfl, e⟩
   ·injection e with e1 _; rw [e1]
   ·exact nomatch e
  ·rcases keyIs_shape hb with ⟨j, u, rfl, e⟩ | ⟨y, u, rfl, e⟩
   ·exact nomatch e
   ·injection e with e1 _; rw [e1]
 byValue := fun k v h => by
  rcases keyIs_shape h with ⟨i, t, rfl, rfl⟩ | ⟨x, t, rfl, rfl⟩ <;> rfl
 pyHash := fun hv h => by
  rcases keyIs_shape hv with ⟨i, t, rfl, rfl⟩ | ⟨x, t, rfl, rfl⟩
  ·exact wpAny_pyHash_int h
  ·exact wpAny_pyHash_str h
 eqBool := fun hu hv h => by
  rcases keyIs_shape hu with ⟨i, t, rfl, rfl⟩ | ⟨x, t, rfl, rfl⟩
  ·rcases keyIs_shape hv with ⟨j, u, rfl, rfl⟩ | ⟨y, u, rfl, rfl⟩
   ·rw [key_ll] at h; exact wpAny_eqBool_int h
   ·rw [key_lr] at h; exact SeqAt.EqAt.int_str i t y u _ _ _ _ h
  ·rcases keyIs_shape hv with ⟨j, u, rfl, rfl⟩ | ⟨y, u, rfl, rfl⟩
   ·rw [key_rl] at h; exact SeqAt.EqAt.str_int x t j u _ _ _ _ h
   ·rw [key_rr] at h; exact wpAny_eqBool_str h
 «strs» := fun k x t v h => by
  rcases keyIs_shape h with ⟨i, u, rfl, e⟩ | ⟨y, u, rfl, e⟩
  ·exact nomatch e
  ·injection e with e1 _
   subst e1
   cases v <;> rfl
theorem mixKind_int (prog : Program) (w : World) (i : Int) (t : Tok) : (mixKind prog w).is (.inl i) (.int i t) = true := keyIs_int i t
theorem mixKind_str (prog : Program) (w : World) (x : Str) (t : Tok) : (mixKind prog w).is (.inr x) (.str x t) = true := keyIs_str x t
end L2
namespace L2
open PySem PySem.Spec PyProof.Rows
inductive V where
 | non | bl (b : Bool) | int (i : Int) | str (x : Str) | byt (b : Array UInt8) | flt (b : UInt64) | ref (a : Addr) | ty (n : String)
 deriving DecidableEq
noncomputable def RelV : V -> Value -> Prop
 | .non, u => u = Value.none
 | .bl b, u => u = Value.bool b
 | .int i, u => ∃ t, u = Value.int i t
 | .str x, u => ∃ t, u = Value.str x t
 | .byt b, u => ∃ t, u = Value.bytes b t
 | .flt b, u => ∃ t, u = Value.float b t
 | .ref a, u => u = Value.ref a
 | .ty n, u => u = Value.type n
noncomputable abbrev Vals : List V -> List Value -> Prop := Paired RelV
theorem Vals.length {xs : List V} {us : List Value} (r : Vals xs us) : xs.length = us.length := Paired.length r
theorem Vals.get : ∀ {xs : List V} {us : List Value} {i : Nat} {x : V}, Vals xs us -> xs[i]? = some x -> ∃ u, us[i]? = some u /\ RelV x u
 | _, _, _, _, .nil, e => by simp at e
 | _, _, 0, _, .cons r _, e => by simp at e; subst e; exact ⟨_, rfl, r⟩
 | _, _, i + 1, x, .cons _ t, e => by
  obtain ⟨u, h1, h2⟩ := Vals.get (i := i) (x := x) t (by simpa using e)
  exact ⟨u, by simpa using h1, h2⟩
theorem Vals.set {x : V} {u : Value} (r : RelV x u) : ∀ {xs : List V} {us : List Value} (i : Nat), Vals xs us -> Vals (xs.set i x) (us.set i u)
 | _, _, _, .nil => .nil
 | _, _, 0, .cons _ t => .cons r t
 | _, _, i + 1, .cons q t => .cons q (Vals.set r i t)
theorem Vals.append : ∀ {xs ys : List V} {us ws : List Value}, Vals xs us -> Vals ys ws -> Vals (xs ++ ys) (us ++ ws)
 | _, _, _, _, .nil, s => s
 | _, _, _, _, .cons r t, s => .cons r (Vals.append t s)
theorem Vals.take : ∀ {xs : List V} {us : List Value} (n : Nat), Vals xs us -> Vals (xs.take n) (us.take n)
 | _, _, 0, _ => .nil
 | _, _, _ + 1, .nil => .nil
 | _, _, n + 1, .cons r t => .cons r (Vals.take n t)
theorem Vals.drop : ∀ {xs : List V} {us : List Value} (n : Nat), Vals xs us -> Vals (xs.drop n) (us.drop n)
 | _, _, 0, r => r
 | _, _, _ + 1, .nil => .nil
 | _, _, n + 1, .cons _ t => Vals.drop n t
theorem Vals.none_of : ∀ {xs : List V} {us : List Value} {i : Nat}, Vals xs us -> xs[i]? = none -> us[i]? = none := fun {xs us i} r e => by
 have h1 := r.length
 have h2 : xs.length <= i := List.getElem?_eq_none_iff.mp e
 exact List.getElem?_eq_none_iff.mpr (by (first | lia | omega))
noncomputable def RelO : Option V -> Option Value -> Prop
 | some v, some u => RelV v u
 | none, none => True
 | _, _ => False
noncomputable def KV {κ : Type} : List (κ × V) -> List (κ × Value) -> Prop := Paired fun (p : κ × V) (q : κ × Value) => p.1 = q.1 /\ RelV p.2 q.2
noncomputable def kV : Key -> V
 | .inl i => .int i
 | .inr x => .str x
inductive HO where
  | lst (xs : List V)
  | tup (xs : List V)
  | dK (kvs : List (Key × V)) | dT (kvs : List (List Key × V))
  | set (S : Int -> Bool) (n : Nat)
  | ins (C dx : Addr) (fs : List (Str × V))
  | own (x : Addr)
  | xd (fs : List (Str × V))
  | met (f x : Addr)
  | rng (lo hi : Int)
  | frz (o : Obj) (u : HO)
  | tbl (ps : Array Value)
  | ext (φ : Heap -> Prop)
noncomputable abbrev Hp := Addr -> Option HO
noncomputable def upd (H : Hp) (a : Addr) (o : HO) : Hp := fun b => if b = a then some o else H b
theorem upd_same {H : Hp} {a : Addr} {o : HO} : upd H a o a = some o := by unfold upd; rw [if_pos rfl]
theorem upd_ne {H : Hp} {a b : Addr} {o : HO} (h : b ≠ a) : upd H a o b = H b := by unfold upd; rw [if_neg h]
theorem upd_upd {H : Hp} {a : Addr} {o u : HO} : upd (upd H a o) a u = upd H a u := by
 funext b; unfold upd; split <;> rfl
theorem ne_of {H : Hp} {a b : Addr} {o u : HO} (h : H a = some o) (h' : H b = some u) (d : o ≠ u) : a ≠ b := by
 intro e; subst e; rw [h] at h'; exact d (Option.some.inj h')
theorem ne_of_none {H : Hp} {a b : Addr} {o : HO} (h : H a = some o) (h' : H b = none) : a ≠ b := by
 intro e; subst e; rw [h] at h'; cases h'
noncomputable def PTup (h : Heap) (a : Addr) (items : Array Value) : Prop := ∃ o, h.get? a = some o /\ o.cls = .type "tuple" /\ (∃ n, o.data = .seq items n) /\ o.dict = none /\ o.slots = #[]
theorem PTup.tup {h : Heap} {a : Addr} {items : Array Value} (p : PTup h a items) : IsTup h a items := by
 obtain ⟨o, e, c, d, _⟩ := p
 exact ⟨o, e, c, d⟩
theorem PTup.new {h : Heap} {items : Array Value} {n : Nat} : PTup (h.push { cls := .type "tuple", data := .seq items n }) h.objs.size items := ⟨_, Heap.get?_push_size _ rfl, rfl, ⟨_, rfl⟩, rfl, rfl⟩
section
variable (P : Program) (w : World)
noncomputable def ObjOk (H : Hp) (h : Heap) (a : Addr) : HO -> Prop
 | .lst xs => xs.length <= sizeLine /\ ∃ (its : List Value) (n : Nat), Vals xs its /\ h.get? a = some { cls := .type "list", data := .seq its.toArray n }
 | .tup xs => xs.length <= sizeLine /\ ∃ its : List Value, Vals xs its /\ PTup h a its.toArray
 | .dK kvs => kvs.length <= sizeLine /\ (a == sysModules) = false /\ ∃ vs, KV kvs vs /\ h.DictOf (mixKind P w) a vs
 | .dT kvs => kvs.length <= sizeLine /\ (a == sysModules) = false /\ ∃ xs : List (List Key × Addr × Value),
   Paired (fun (p : List Key × V) (q : List Key × Addr × Value) => p.1 = q.1 /\ H q.2.1 = some (.tup (p.1.map kV)) /\ RelV p.2 q.2.2) kvs xs /\
   ∃ o es ep, h.get? a = some o /\ o.ExactDict /\ o.data = .dict es ep /\ es.toList = xs.map (entryOfKey (tupleKind (mixKind P w))) /\ (xs.map (·.1)).Nodup
 | .set S n => h.SetOf (intKind P w) a S n
 | .ins C dx fs => H dx = some (.own a) /\ fs.length <= 1000 /\ dx ≠ a /\ h.get? a = some (PySem.W.instObj C dx) /\
   ∃ mA, h.Ns1 dx mA /\ (∀ f, RelO (fs.lookup f) (mA f)) /\ PySem.Within mA (fs.map (·.1))
 | .own _ => ∃ o, h.get? a = some o
 | .xd fs => ∃ mA, h.Ns1 a mA /\ ∀ f, RelO (fs.lookup f) (mA f)
 | .rng lo hi => ∃ t u v, h.get? a = some { cls := .type "range", data := .fields #[.int lo t, .int hi u, .int 1 v] }
 | .frz o u => h.get? a = some o /\ ObjOk H h a u
 | .tbl ps => h.get? a = some { cls := .none, data := .fields ps }
 | .met f x => h.get? a = some (PySem.W.methodObj (.ref f) (.ref x))
 | .ext φ => φ h /\ (∃ o, h.get? a = some o) /\ ∀ h1 h2 : Heap, φ h1 -> (∀ o, h1.get? a = some o -> h2.get? a = some o) -> φ h2
noncomputable def HOk (H : Hp) (h : Heap) : Prop := ∀ a o, H a = some o -> ObjOk P w H h a o
end
section
variable {P : Program} {w : World} {H H' : Hp} {h h' : Heap} {a : Addr} {o : HO}
theorem ObjOk.lt (x : ObjOk P w H h a o) : a < h.objs.size := by
 cases o with
 | lst xs => obtain ⟨_, _, _, _, e⟩ := x; exact Heap.lt_size e
 | tup xs => obtain ⟨_, _, _, p⟩ := x; exact p.tup.lt
 | dK kvs => obtain ⟨_, _, _, _, o, _, _, e, _⟩ := x; exact Heap.lt_size e
 | dT kvs => obtain ⟨_, _, _, _, o, _, _, e, _⟩ := x; exact Heap.lt_size e
 | set S n => obtain ⟨o, _, _, _, e, _⟩ := x; exact Heap.lt_size e
 | ins C dx fs => obtain ⟨_, _, _, e, _⟩ := x; exact Heap.lt_size e
 | own y => obtain ⟨_, e⟩ := x; exact Heap.lt_size e
 | xd fs => obtain ⟨_, ⟨_, _, _, e, _⟩, _⟩ := x; exact Heap.lt_size e
 | rng lo hi => obtain ⟨_, _, _, e⟩ := x; exact Heap.lt_size e
 | frz ob u => obtain ⟨e, _⟩ := x; exact Heap.lt_size e
 | tbl ps => exact Heap.lt_size (show h.get? a = some _ from x)
 | met f y => exact Heap.lt_size (show h.get? a = some _ from x)
 | ext φ => obtain ⟨_, ⟨_, e⟩, _⟩ := x; exact Heap.lt_size e
theorem Paired.mapP {α β : Type} {F G : α -> β -> Prop} : ∀ {l₁ : List α} {l₂ : List β}, Paired F l₁ l₂ -> (∀ a b, F a b -> G a b) -> Paired G l₁ l₂
 | _, _, .nil, _ => .nil
 | _, _, .cons r t, f => .cons (f _ _ r) (Paired.mapP t f)
theorem ObjOk.stay (x : ObjOk P w H h a o) (k : ∀ b u, (b = a ∨ H b = some (.own a)) -> h.get? b = some u -> h'.get? b = some u)
  (ho : ∀ b, H b = some (.own a) -> H' b = some (.own a)) (ht : ∀ b xs, H b = some (.tup xs) -> H' b = some (.tup xs)) : ObjOk P w H' h' a o := by
 induction o with
 | lst xs => obtain ⟨z, its, n, r, e⟩ := x; exact ⟨z, its, n, r, k _ _ (.inl rfl) e⟩
 | tup xs => obtain ⟨z, its, r, ob, e, c⟩ := x; exact ⟨z, its, r, ob, k _ _ (.inl rfl) e, c⟩
 | dK kvs => obtain ⟨z, y, vs, r, ob, es, ep, e, c⟩ := x; exact ⟨z, y, vs, r, ob, es, ep, k _ _ (.inl rfl) e, c⟩
 | dT kvs =>
  obtain ⟨z, y, xs, r, ob, es, ep, e, c⟩ := x
  exact ⟨z, y, xs, Paired.mapP r fun p q z => ⟨z.1, ht _ _ z.2.1, z.2.2⟩, ob, es, ep, k _ _ (.inl rfl) e, c⟩
 | set S n => obtain ⟨ob, es, ep, t, e, c⟩ := x; exact ⟨ob, es, ep, t, k _ _ (.inl rfl) e, c⟩
 | ins C dx fs =>
  obtain ⟨d, z, ne, e, mA, ⟨od, es, ep, e2, c⟩, r⟩ := x
  exact ⟨ho _ d, z, ne, k _ _ (.inl rfl) e, mA, ⟨od, es, ep, k _ _ (.inr d) e2, c⟩, r⟩
 | own y => obtain ⟨ob, e⟩ := x; exact ⟨ob, k _ _ (.inl rfl) e⟩
 | xd fs => obtain ⟨mA, ⟨od, es, ep, e, c⟩, r⟩ := x; exact ⟨mA, ⟨od, es, ep, k _ _ (.inl rfl) e, c⟩, r⟩
 | rng lo hi => obtain ⟨t, u, v, e⟩ := x; exact ⟨t, u, v, k _ _ (.inl rfl) e⟩
 | frz ob u ih => obtain ⟨e, q⟩ := x; exact ⟨k _ _ (.inl rfl) e, ih q⟩
 | tbl ps =>
  have e : h.get? a = some { cls := .none, data := .fields ps } := x
  show h'.get? a = some { cls := .none, data := .fields ps }
  exact k a _ (.inl rfl) e
 | met f y =>
  have e : h.get? a = some (PySem.W.methodObj (.ref f) (.ref y)) := x
  show h'.get? a = some (PySem.W.methodObj (.ref f) (.ref y))
  exact k a _ (.inl rfl) e
 | ext φ => obtain ⟨p, ⟨o, e⟩, st⟩ := x; exact ⟨st _ _ p fun o q => k _ _ (.inl rfl) q, ⟨o, k _ _ (.inl rfl) e⟩, st⟩
theorem HOk.lt (x : HOk P w H h) (e : H a = some o) : a < h.objs.size := (x a o e).lt
theorem HOk.fresh (x : HOk P w H h) (e : h.objs.size <= a) : H a = none := by
 cases q : H a with
 | none => rfl
 | some u => exact absurd (Nat.lt_of_lt_of_le (x.lt q) e) (Nat.lt_irrefl _)
theorem HOk.kept (x : HOk P w H h) (k : ∀ b u, h.get? b = some u -> h'.get? b = some u) : HOk P w H h' := fun a o e =>
 (x a o e).stay (fun b u _ q => k b u q) (fun _ q => q) fun _ _ q => q
theorem HOk.laid (x : HOk P w H h) (k : ∀ b u, h.get? b = some u -> h'.get? b = some u) (hp : h.objs.size <= a) (new : ObjOk P w (upd H a o) h' a o) : HOk P w (upd H a o) h' := fun b u e => by
 have hn := x.fresh hp
 by_cases hb : b = a
 ·subst hb; rw [upd_same] at e; cases e; exact new
 ·rw [upd_ne hb] at e
  exact (x b u e).stay (fun c v _ q => k c v q) (fun c q => by rw [upd_ne (ne_of_none q hn)]; exact q) fun c xs q => by rw [upd_ne (ne_of_none q hn)]; exact q
end
noncomputable def Rd (H : Hp) (a : Addr) (u : HO) : Prop := H a = some u ∨ ∃ o, H a = some (.frz o u)
theorem Rd.ok {P : Program} {w : World} {H : Hp} {h : Heap} {a : Addr} {u : HO} (r : Rd H a u) (x : HOk P w H h) : ObjOk P w H h a u := by
 rcases r with r | ⟨o, r⟩
 ·exact x a u r
 ·obtain ⟨_, q⟩ := x a _ r
  exact q
noncomputable def Mut : Option HO -> Prop
 | some (.lst _) => True
 | some (.dK _) => True
 | some (.dT _) => True
 | some (.set _ _) => True
 | some (.ins _ _ _) => True
 | some (.ext _) => True
 | _ => False
section
variable {P : Program} {w : World} {H : Hp} {h h' : Heap} {x e : Addr} {o' : HO}
theorem HOk.write (ok : HOk P w H h) (mu : Mut (H x)) (he : e = x ∨ H e = some (.own x)) (k : ∀ b u, b ≠ e -> h.get? b = some u -> h'.get? b = some u) (heo : ∃ u, h'.get? e = some u)
  (new : ObjOk P w (upd H x o') h' x o') : HOk P w (upd H x o') h' := fun b u q => by
 have nown : ∀ c y, H c = some (.own y) -> c ≠ x := fun c y r z => by subst z; rw [r] at mu; exact mu
 have ntup : ∀ c xs, H c = some (.tup xs) -> c ≠ x := fun c xs r z => by subst z; rw [r] at mu; exact mu
 by_cases hb : b = x
 ·subst hb; rw [upd_same] at q; cases q; exact new
 ·rw [upd_ne hb] at q
  by_cases hbe : b = e
  ·have q' : H b = some (.own x) := by
    rcases he with z | z
    ·exact absurd (hbe.trans z) hb
    ·rw [hbe]; exact z
   rw [q] at q'; cases q'
   obtain ⟨v, hv⟩ := heo
   exact ⟨v, by rw [hbe]; exact hv⟩
  ·refine (ok b u q).stay (fun c v hc r => k c v ?_ r) (fun c r => by rw [upd_ne (nown c b r)]; exact r) fun c xs r => by rw [upd_ne (ntup c xs r)]; exact r
   rcases hc with rfl | hc
   ·exact hbe
   ·rintro rfl
    rcases he with z | z
    ·exact nown c b hc z
    ·rw [hc] at z; cases z; exact hb rfl
end
structure Un (fs ex : List Addr) (H H' : Hp) (h h' : Heap) : Prop where
 keep : ∀ b o, h.get? b = some o -> H b = none -> b ∉ fs -> b ∉ ex -> h'.get? b = some o
 slot : ∀ b o, h.get? b = some o -> H b = none -> b ∈ fs -> b ∉ ex -> ∃ sl, h'.get? b = some { o with slots := sl }
 free : ∀ b o, h.get? b = some o -> H b = none -> b ∉ ex -> H' b = none
 there : ∀ b o, h.get? b = some o -> b ∉ ex -> ∃ o', h'.get? b = some o'
 tups : ∀ b xs, H b = some (.tup xs) -> H' b = some (.tup xs)
 frzs : ∀ b o u, H b = some (.frz o u) -> H' b = some (.frz o u)
 tbls : ∀ b ps, H b = some (.tbl ps) -> ∃ more, H' b = some (.tbl (ps ++ more))
section
variable {fs fs' ex ex' : List Addr} {H H1 H2 : Hp} {h h1 h2 h' : Heap} {a x e : Addr} {o : HO}
theorem Un.any (u : Un fs ex H H1 h h1) {b : Addr} {ob : Obj} (q : h.get? b = some ob) (n : H b = none) (hx : b ∉ ex) : ∃ sl, h1.get? b = some { ob with slots := sl } := by
 by_cases hb : b ∈ fs
 ·exact u.slot b ob q n hb hx
 ·exact ⟨ob.slots, u.keep b ob q n hb hx⟩
theorem Un.kept (k : ∀ b u, h.get? b = some u -> h'.get? b = some u) : Un fs ex H H h h' :=
 ⟨fun b ob q _ _ _ => k b ob q, fun b ob q _ _ _ => ⟨ob.slots, k b ob q⟩, fun _ _ _ n _ => n, fun b ob q _ => ⟨ob, k b ob q⟩, fun _ _ q => q, fun _ _ _ q => q, fun _ ps q => ⟨#[], by rw [q]; simp⟩⟩
theorem Un.refl : Un fs ex H H h h := Un.kept fun _ _ q => q
theorem Un.laid (k : ∀ b u, h.get? b = some u -> h'.get? b = some u) (hp : h.objs.size <= a) (hn : H a = none) : Un fs ex H (upd H a o) h h' where
 keep := fun b u q _ _ _ => k b u q
 slot := fun b u q _ _ _ => ⟨u.slots, k b u q⟩
 free := fun b u q n _ => by rw [upd_ne (Nat.ne_of_lt (Nat.lt_of_lt_of_le (Heap.lt_size q) hp))]; exact n
 there := fun b u q _ => ⟨u, k b u q⟩
 tups := fun b xs q => by rw [upd_ne (ne_of_none q hn)]; exact q
 frzs := fun b u xs q => by rw [upd_ne (ne_of_none q hn)]; exact q
 tbls := fun b ps q => ⟨#[], by rw [upd_ne (ne_of_none q hn), q]; simp⟩
theorem Un.write (mu : Mut (H x)) (he : e = x ∨ H e = some (.own x)) (k : ∀ b u, b ≠ e -> h.get? b = some u -> h'.get? b = some u) (heo : ∃ u, h'.get? e = some u) : Un fs ex H (upd H x o) h h' := by
 have hx : ∀ b, H b = none -> b ≠ x := fun b n z => by subst z; rw [n] at mu; exact mu
 have hb : ∀ b, H b = none -> b ≠ e := fun b n z => by
  subst z
  rcases he with r | r
  ·exact hx b n r
  ·rw [n] at r; cases r
 have hm : ∀ b u, H b = some u -> ¬ Mut (some u) -> b ≠ x := fun b u q nm z => by subst z; rw [q] at mu; exact nm mu
 refine ⟨fun b u q n _ _ => k b u (hb b n) q, fun b u q n _ _ => ⟨u.slots, k b u (hb b n) q⟩, fun b u q n _ => by rw [upd_ne (hx b n)]; exact n, fun b u q _ => ?_,
  fun b xs q => by rw [upd_ne (hm b _ q fun z => z)]; exact q, fun b u xs q => by rw [upd_ne (hm b _ q fun z => z)]; exact q, fun b ps q => ⟨#[], by rw [upd_ne (hm b _ q fun z => z), q]; simp⟩⟩
 by_cases hbe : b = e
 ·subst hbe; exact heo
 ·exact ⟨u, k b u hbe q⟩
end
noncomputable def trk (h : Heap) (H : Hp) : List Addr := (List.range h.objs.size).filter fun a => (H a).isSome
noncomputable def hidT (h : Heap) (H : Hp) : Heap := PySem.W.hideAll h (trk h H)
theorem hidT_size (h : Heap) (H : Hp) : (hidT h H).objs.size = h.objs.size := PySem.W.hideAll_size _ _
theorem hidT_get {h : Heap} {H : Hp} {b : Addr} {o : Obj} (e : h.get? b = some o) (n : H b = none) : (hidT h H).get? b = some o :=
 PySem.W.hideAll_get _ e fun hm => by
  have q : (H b).isSome = true := (List.mem_filter.mp hm).2
  rw [n] at q; simp at q
theorem of_hidT {h : Heap} {H : Hp} {b : Addr} {o : Obj} (e : (hidT h H).get? b = some o) : h.get? b = some o /\ H b = none := by
 have e' : h.get? b = some o := PySem.W.of_hideAll (trk h H) e
 refine ⟨e', ?_⟩
 cases q : H b with
 | none => rfl
 | some x =>
  have hm : b ∈ trk h H := List.mem_filter.mpr ⟨List.mem_range.mpr (Heap.lt_size e'), by simp [q]⟩
  have z : (hidT h H).get? b = none := PySem.W.hideAll_none (trk h H) hm
  rw [z] at e; cases e
noncomputable def allNews (g h : Heap) (L : Addr) : List (Addr × Obj) := (List.range h.objs.size).filterMap fun a => if a = L ∨ (g.get? a).isSome = true then none else (h.get? a).map fun o => (a, o)
noncomputable def rest (g h : Heap) (L d : Addr) : List (Addr × Obj) := (allNews g h L).filter fun p => decide (p.1 ≠ d)
end L2
namespace L2
open PySem PySem.Spec PyProof.Rows
structure Mod (K : PySem.W.Frag) (mg : Str -> Option Value) (base : Heap) : Prop where
 kin : K.In base
 glob : base.Ns mainGlobals mg
 blt : ∃ mb, base.Ns builtinsNs mb /\ ∀ x : Str, x ≠ "__name__" -> mb x = bootBuiltins x
 nolimit : base.NoLimit
structure Cx where
 prog : Program
 w : World
 K : PySem.W.Frag
 mg : Str -> Option Value
 base : Heap
 A : Around
 N : List Str
 s₀ : Shared
 H₀ : Hp
 env : Env
 outer : List Env
 stack : List Env
 ex : List Addr
 fn : Str -> Bool
 calm : Bool
 pn : List (Addr × Obj)
 xe : Value -> Shared -> Prop
noncomputable def frs (l : List Env) : List Addr := l.filterMap (·.frame)
noncomputable abbrev Cx.fs (X : Cx) : List Addr := frs X.outer
noncomputable def Vis (sc : Scope) (x : Str) : Prop := sc.names.lookup x = some .local ∨ sc.names.lookup x = some .cell ∨ sc.names.lookup x = some .free
noncomputable def Loc (sc : Scope) (x : Str) : Prop := sc.names.lookup x = some .local ∨ sc.names.lookup x = some .cell
noncomputable def Look (env : Env) (h : Heap) (m : Str -> Option Value) (x : Str) (u : Value) : Prop :=
 (env.kindOf x = some .local /\ m x = some u) ∨ ((env.kindOf x = some .cell ∨ env.kindOf x = some .free) /\ ∃ c, env.cells.lookup x = some c /\ h.IsCell c (some u))
structure Cx.Ok (X : Cx) : Prop where
 mod : Mod X.K X.mg X.base
 kind : X.env.scope.kind = .function
 glob : X.env.globals = mainGlobals
 blt : X.env.builtins = builtinsNs
 above : X.s₀.heap.objs.size <= X.env.locals
 inj : ∀ x y c, X.env.cells.lookup x = some c -> X.env.cells.lookup y = some c -> x = y
 has : ∀ x, (X.env.kindOf x = some .cell ∨ X.env.kindOf x = some .free) -> ∃ c, X.env.cells.lookup x = some c
 cab : ∀ x c, X.fn x = true -> X.env.cells.lookup x = some c -> X.s₀.heap.objs.size <= c
 hd : X.calm = true -> X.A.handled = none
 frames : X.A.frames = some X.stack
 stk : X.stack = X.outer ∨ (X.stack = X.env :: X.outer /\ X.env.frame = some X.env.locals)
 exf : ∀ b ∈ X.ex, b ≠ X.env.locals /\ ∀ x c, X.env.cells.lookup x = some c -> c ≠ b
 bs : ∀ b o, X.base.get? b = some o -> X.s₀.heap.get? b = some o /\ X.H₀ b = none
 bsz : X.base.objs.size <= X.s₀.heap.objs.size
 noex : ∀ b o, X.base.get? b = some o -> b ∉ X.ex
 exfs : ∀ b ∈ X.ex, b ∉ X.fs
 funs : X.s₀.heap.FunFrames X.base X.outer
 frf : ∀ b ∈ X.fs, X.H₀ b = none
structure Inv (X : Cx) (pins : List (Addr × Obj)) (σ : List (Option V)) (H : Hp) (s : Shared) : Prop where
 ok : X.Ok
 os : s.os = X.s₀.os
 bare : AllBare s.gens
 base : Un X.fs X.ex X.H₀ H X.s₀.heap s.heap
 loc : ∃ m, s.heap.Ns X.env.locals m /\ ∀ (i : Nat) (x : Str) (v : V), X.N[i]? = some x -> σ[i]? = some (some v) -> Vis X.env.scope x -> ∃ u, RelV v u /\ Look X.env s.heap m x u
 cell : ∀ x c, X.env.cells.lookup x = some c -> ∃ v, s.heap.IsCell c v
 free : H X.env.locals = none
 freeC : ∀ x c, X.env.cells.lookup x = some c -> H c = none
 pin : ∀ p ∈ X.pn ++ pins, s.heap.get? p.1 = some p.2 /\ H p.1 = none /\ p.1 ≠ X.env.locals /\ p.1 ∉ X.fs /\ ∀ v, p.2.data ≠ .cell v
 hok : HOk X.prog X.w H s.heap
 len : σ.length = X.N.length
section
variable {X : Cx} {pins : List (Addr × Obj)} {σ : List (Option V)} {H H' : Hp} {s : Shared} {h' : Heap}
theorem Cx.Ok.nofr (ok : X.Ok) {b : Addr} {o : Obj} (e : X.base.get? b = some o) : b ∉ X.fs := fun hb => by
 have := (ok.funs.mem hb).1
 rw [e] at this; cases this
theorem Inv.bs (I : Inv X pins σ H s) : ∀ b o, X.base.get? b = some o -> s.heap.get? b = some o /\ H b = none := fun b o e =>
 ⟨I.base.keep b o (I.ok.bs b o e).1 (I.ok.bs b o e).2 (I.ok.nofr e) (I.ok.noex b o e), I.base.free b o (I.ok.bs b o e).1 (I.ok.bs b o e).2 (I.ok.noex b o e)⟩
theorem Inv.bk (I : Inv X pins σ H s) : ∀ b o, X.base.get? b = some o -> s.heap.get? b = some o := fun b o e => (I.bs b o e).1
theorem Inv.mod (I : Inv X pins σ H s) : Mod X.K X.mg X.base := I.ok.mod
theorem Inv.kIn (I : Inv X pins σ H s) : X.K.In s.heap := I.ok.mod.kin.keeps I.bk
theorem Inv.lt (I : Inv X pins σ H s) : X.env.locals < s.heap.objs.size := let ⟨_, hn, _⟩ := I.loc; hn.lt
theorem Inv.sz (I : Inv X pins σ H s) : X.s₀.heap.objs.size <= s.heap.objs.size := Nat.le_trans I.ok.above (Nat.le_of_lt I.lt)
theorem Inv.nofs (I : Inv X pins σ H s) {a : Addr} (h : s.heap.objs.size <= a) : a ∉ X.fs := fun hb => by
 obtain ⟨_, o, ho, _⟩ := I.ok.funs.mem hb
 exact absurd (Nat.lt_of_lt_of_le (Heap.lt_size ho) (Nat.le_trans I.sz h)) (Nat.lt_irrefl _)
theorem Inv.cne (I : Inv X pins σ H s) : ∀ x c, X.env.cells.lookup x = some c -> c ≠ X.env.locals := fun x c e z => by
 obtain ⟨v, o, ho, hd⟩ := I.cell x c e
 obtain ⟨m, ⟨o', es, ep, ho', hd', _⟩, _⟩ := I.loc
 rw [z, ho'] at ho; cases ho; rw [hd'] at hd; cases hd
theorem Inv.funs (I : Inv X pins σ H s) : s.heap.FunFrames X.base X.outer := by
 have all : ∀ (l : List Env), (∀ b ∈ frs l, b ∈ X.fs) -> X.s₀.heap.FunFrames X.base l -> s.heap.FunFrames X.base l := by
  intro l
  induction l with
  | nil => intro _ _; trivial
  | cons env r ih =>
   intro hs hl
   obtain ⟨hk, ⟨L, o, hf, hn, ho, hd⟩, hr⟩ := hl
   have hL : L ∈ X.fs := hs L (by unfold frs; rw [List.filterMap_cons, hf]; exact List.mem_cons_self)
   obtain ⟨sl, e⟩ := I.base.slot L o ho (I.ok.frf L hL) hL fun z => I.ok.exfs L z hL
   exact ⟨hk, ⟨L, _, hf, hn, e, hd⟩, ih (fun b hb => hs b (by unfold frs; rw [List.filterMap_cons, hf]; exact List.mem_cons_of_mem _ hb)) hr⟩
 exact all X.outer (fun _ hb => hb) I.ok.funs
theorem Inv.stack (I : Inv X pins σ H s) : s.heap.FunFrames X.base X.stack := by
 rcases I.ok.stk with e | ⟨e, hf⟩
 ·rw [e]; exact I.funs
 ·rw [e]
  obtain ⟨m, hn, _⟩ := I.loc
  refine .cons (by rw [I.ok.kind]; decide) hf hn ?_ I.funs
  exact Heap.get?_none_of_le (Nat.le_trans I.ok.bsz I.ok.above)
theorem Inv.stkSub (I : Inv X pins σ H s) : ∀ b ∈ frs X.stack, b ∈ X.env.locals :: X.fs := fun b hb => by
 rcases I.ok.stk with e | ⟨e, hf⟩
 ·rw [e] at hb; exact List.mem_cons_of_mem _ hb
 ·rw [e] at hb
  unfold frs at hb
  rw [List.filterMap_cons, hf] at hb
  exact hb
theorem Inv.stkFree (I : Inv X pins σ H s) : ∀ b ∈ frs X.stack, H b = none := fun b hb => by
 rcases List.mem_cons.mp (I.stkSub b hb) with e | hb
 ·rw [e]; exact I.free
 ·obtain ⟨_, o, ho, _⟩ := I.ok.funs.mem hb
  exact I.base.free b o ho (I.ok.frf b hb) fun z => I.ok.exfs b z hb
theorem Inv.step {g' : Array GenState} {t' : Nat} {d' : Drawn} {ch : List Addr} (I : Inv X pins σ H s)
  (hch : ∀ b ∈ ch, (b ∈ X.ex ∨ X.s₀.heap.objs.size <= b) /\ b ≠ X.env.locals /\ (∀ x c, X.env.cells.lookup x = some c -> c ≠ b) /\ ∀ p ∈ X.pn ++ pins, p.1 ≠ b)
  (keep : ∀ b o, b ≠ X.env.locals -> b ∉ X.fs -> b ∉ ch -> s.heap.get? b = some o -> H b = none -> h'.get? b = some o)
  (slot : ∀ b o, b ≠ X.env.locals -> b ∈ X.fs -> b ∉ ch -> s.heap.get? b = some o -> H b = none -> ∃ sl, h'.get? b = some { o with slots := sl }) (free : ∀ b o, b ∉ ch -> s.heap.get? b = some o -> H b = none -> H' b = none)
  (there : ∀ b o, b ∉ ch -> s.heap.get? b = some o -> ∃ o', h'.get? b = some o')
  (tups : ∀ b xs, H b = some (.tup xs) -> H' b = some (.tup xs)) (frzs : ∀ b o u, H b = some (.frz o u) -> H' b = some (.frz o u)) (tbls : ∀ b ps, H b = some (.tbl ps) -> ∃ more, H' b = some (.tbl (ps ++ more)))
  (ns : ∀ m, s.heap.Ns X.env.locals m -> h'.Ns X.env.locals m) (hok : HOk X.prog X.w H' h') (hg : AllBare g') :
  Inv X pins σ H' { s with heap := h', gens := g', drawn := d', toks := t' } := by
 have neL : ∀ b o, X.s₀.heap.get? b = some o -> b ≠ X.env.locals := fun b o e => Nat.ne_of_lt (Nat.lt_of_lt_of_le (Heap.lt_size e) I.ok.above)
 have neC : ∀ b o, X.s₀.heap.get? b = some o -> b ∉ X.ex -> b ∉ ch := fun b o e hx hb => by
  rcases (hch b hb).1 with z | z
  ·exact hx z
  ·exact absurd (Nat.lt_of_lt_of_le (Heap.lt_size e) z) (Nat.lt_irrefl _)
 have cellK : ∀ x c, X.env.cells.lookup x = some c -> ∀ v, s.heap.IsCell c v -> h'.IsCell c v := fun x c e v ⟨o, ho, hd⟩ => by
  have nch : c ∉ ch := fun z => (hch c z).2.2.1 x c e rfl
  by_cases hc : c ∈ X.fs
  ·obtain ⟨sl, q⟩ := slot c o (I.cne x c e) hc nch ho (I.freeC x c e)
   exact ⟨_, q, hd⟩
  ·exact ⟨o, keep c o (I.cne x c e) hc nch ho (I.freeC x c e), hd⟩
 refine ⟨I.ok, I.os, hg, ⟨fun b o e n hb hx => ?_, fun b o e n hb hx => ?_, fun b o e n hx => ?_, fun b o e hx => ?_, fun b xs e => tups b xs (I.base.tups b xs e), fun b o xs e => frzs b o xs (I.base.frzs b o xs e), fun b ps e => ?_⟩, ?_, fun x c e => ?_, ?_, fun x c e => ?_, fun p hp => ?_, hok, I.len⟩
 ·exact keep b o (neL b o e) hb (neC b o e hx) (I.base.keep b o e n hb hx) (I.base.free b o e n hx)
 ·obtain ⟨sl, e1⟩ := I.base.slot b o e n hb hx
  obtain ⟨sl', e2⟩ := slot b _ (neL b o e) hb (neC b o e hx) e1 (I.base.free b o e n hx)
  exact ⟨sl', e2⟩
 ·obtain ⟨o', e1⟩ := I.base.there b o e hx
  exact free b o' (neC b o e hx) e1 (I.base.free b o e n hx)
 ·obtain ⟨o', e1⟩ := I.base.there b o e hx
  exact there b o' (neC b o e hx) e1
 ·obtain ⟨m1, e1⟩ := I.base.tbls b ps e
  obtain ⟨m2, e2⟩ := tbls b _ e1
  exact ⟨m1 ++ m2, by rw [e2, Array.append_assoc]⟩
 ·obtain ⟨m, hn, hl⟩ := I.loc
  refine ⟨m, ns m hn, fun i x v e1 e2 e3 => ?_⟩
  obtain ⟨u, r, l⟩ := hl i x v e1 e2 e3
  refine ⟨u, r, ?_⟩
  rcases l with l | ⟨k, c, e, z⟩
  ·exact .inl l
  ·exact .inr ⟨k, c, e, cellK x c e _ z⟩
 ·obtain ⟨v, z⟩ := I.cell x c e
  exact ⟨v, cellK x c e v z⟩
 ·obtain ⟨m, ⟨o, _, _, ho, _⟩, _⟩ := I.loc
  exact free _ o (fun z => (hch _ z).2.1 rfl) ho I.free
 ·obtain ⟨v, o, ho, hd⟩ := I.cell x c e
  exact free c o (fun z => (hch c z).2.2.1 x c e rfl) ho (I.freeC x c e)
 ·obtain ⟨e, n, ne, nf, d⟩ := I.pin p hp
  have nch : p.1 ∉ ch := fun z => (hch p.1 z).2.2.2 p hp rfl
  exact ⟨keep p.1 p.2 ne nf nch e n, free p.1 p.2 nch e n, ne, nf, d⟩
theorem Inv.un {t' : Nat} (I : Inv X pins σ H s) (u : Un X.fs [] H H' s.heap h') (hok : HOk X.prog X.w H' h') : Inv X pins σ H' { s with heap := h', toks := t' } := by
 obtain ⟨m, ⟨o, es, ep, ho, r⟩, _⟩ := id I.loc
 obtain ⟨sl, hL⟩ := u.any ho I.free (by simp)
 exact I.step (g' := s.gens) (d' := s.drawn) (ch := []) (fun _ z => nomatch z) (fun b o _ hb _ e n => u.keep b o e n hb (by simp)) (fun b o _ hb _ e n => u.slot b o e n hb (by simp)) (fun b o _ e n => u.free b o e n (by simp)) (fun b o _ e => u.there b o e (by simp)) u.tups u.frzs u.tbls (fun m' hm => by
  obtain ⟨o', es', ep', ho', r'⟩ := hm
  rw [ho] at ho'; cases ho'
  exact ⟨_, es', ep', hL, r'⟩) hok I.bare
theorem Inv.call {g' : Array GenState} {t' : Nat} {d' : Drawn} {ch : List Addr} (I : Inv X pins σ H s) (u : Un (frs X.stack) ch H H' s.heap h') (hok : HOk X.prog X.w H' h') (hg : AllBare g')
  (hch : ∀ b ∈ ch, (b ∈ X.ex ∨ X.s₀.heap.objs.size <= b) /\ b ≠ X.env.locals /\ (∀ x c, X.env.cells.lookup x = some c -> c ≠ b) /\ ∀ p ∈ X.pn ++ pins, p.1 ≠ b) :
  Inv X pins σ H' { s with heap := h', gens := g', drawn := d', toks := t' } := by
 obtain ⟨m, ⟨o, es, ep, ho, r⟩, _⟩ := id I.loc
 obtain ⟨sl, hL⟩ := u.any ho I.free fun z => (hch _ z).2.1 rfl
 exact I.step (ch := ch) hch (fun b o hL hb hc e n => u.keep b o e n (fun z => (List.mem_cons.mp (I.stkSub b z)).elim hL hb) hc) (fun b o _ _ hc e n => u.any e n hc) (fun b o hc e n => u.free b o e n hc) (fun b o hc e => u.there b o e hc) u.tups u.frzs u.tbls (fun m' hm => by
  obtain ⟨o', es', ep', ho', r'⟩ := hm
  rw [ho] at ho'; cases ho'
  exact ⟨_, es', ep', hL, r'⟩) hok hg
theorem Inv.turned {t' : Nat} {it : Addr} (I : Inv X pins σ H s) (k : ∀ b o, b ≠ it -> s.heap.get? b = some o -> h'.get? b = some o) (hn : H it = none) (hL : it ≠ X.env.locals)
  (h1 : it ∈ X.ex ∨ X.s₀.heap.objs.size <= it) (h2 : ∀ x c, X.env.cells.lookup x = some c -> c ≠ it) (h3 : ∀ p ∈ X.pn ++ pins, p.1 ≠ it) : Inv X pins σ H { s with heap := h', toks := t' } := by
 have nit : ∀ b u, H b = some u -> b ≠ it := fun b u e z => by rw [z, hn] at e; cases e
 refine I.step (g' := s.gens) (d' := s.drawn) (ch := [it]) (fun b hb => ?_) (fun b o _ _ hc e _ => k b o (fun z => hc (by simp [z])) e) (fun b o _ _ hc e _ => ⟨o.slots, k b o (fun z => hc (by simp [z])) e⟩) (fun _ _ _ _ n => n)
  (fun b o hc e => ⟨o, k b o (fun z => hc (by simp [z])) e⟩) (fun _ _ e => e) (fun _ _ _ e => e) (fun b ps e => ⟨#[], by rw [e]; simp⟩) (fun m hm => ?_) (fun b u e => ?_) I.bare
 ·have e : b = it := by simpa using hb
  subst e
  exact ⟨h1, hL, h2, h3⟩
 ·obtain ⟨o, es, ep, ho, r⟩ := hm
  exact ⟨o, es, ep, k _ o (Ne.symm hL) ho, r⟩
 ·refine (I.hok b u e).stay (fun c v hc q => k c v ?_ q) (fun _ q => q) fun _ _ q => q
  rcases hc with z | z
  ·rw [z]; exact nit b u e
  ·exact nit c _ z
theorem Inv.tok (I : Inv X pins σ H s) (t : Nat) : Inv X pins σ H { s with toks := t } := I.un (h' := s.heap) (t' := t) Un.refl I.hok
theorem Inv.kept {t' : Nat} (I : Inv X pins σ H s) (k : ∀ b u, s.heap.get? b = some u -> h'.get? b = some u) : Inv X pins σ H { s with heap := h', toks := t' } := I.un (Un.kept k) (I.hok.kept k)
theorem Inv.laid {a : Addr} {o : HO} {t' : Nat} (I : Inv X pins σ H s) (k : ∀ b u, s.heap.get? b = some u -> h'.get? b = some u) (hp : s.heap.objs.size <= a) (new : ObjOk X.prog X.w (upd H a o) h' a o) :
  Inv X pins σ (upd H a o) { s with heap := h', toks := t' } := I.un (Un.laid k hp (I.hok.fresh hp)) (I.hok.laid k hp new)
theorem Inv.write {x e : Addr} {o : HO} {t' : Nat} (I : Inv X pins σ H s) (mu : Mut (H x)) (he : e = x ∨ H e = some (.own x)) (k : ∀ b u, b ≠ e -> s.heap.get? b = some u -> h'.get? b = some u) (heo : ∃ u, h'.get? e = some u)
  (new : ObjOk X.prog X.w (upd H x o) h' x o) : Inv X pins σ (upd H x o) { s with heap := h', toks := t' } := I.un (Un.write mu he k heo) (I.hok.write mu he k heo new)
theorem Inv.weak {σ' : List (Option V)} (I : Inv X pins σ H s) (hl : σ'.length = σ.length) (w : ∀ (i : Nat) v, σ'[i]? = some (some v) -> σ[i]? = some (some v)) : Inv X pins σ' H s :=
 ⟨I.ok, I.os, I.bare, I.base, let ⟨m, hn, hl'⟩ := I.loc; ⟨m, hn, fun i x v e1 e2 e3 => hl' i x v e1 (w i v e2) e3⟩, I.cell, I.free, I.freeC, I.pin, I.hok, hl.trans I.len⟩
theorem Inv.pins_of {pins' : List (Addr × Obj)} (I : Inv X pins σ H s) (h : ∀ p ∈ pins', s.heap.get? p.1 = some p.2 /\ H p.1 = none /\ p.1 ≠ X.env.locals /\ p.1 ∉ X.fs /\ ∀ v, p.2.data ≠ .cell v) : Inv X pins' σ H s :=
 ⟨I.ok, I.os, I.bare, I.base, I.loc, I.cell, I.free, I.freeC, fun p hp => (List.mem_append.mp hp).elim (fun z => I.pin p (List.mem_append_left _ z)) (h p), I.hok, I.len⟩
theorem nodup_ix {N : List Str} (hN : N.Nodup) {i j : Nat} {x : Str} (a : N[i]? = some x) (b : N[j]? = some x) : i = j := by
 obtain ⟨h1, e1⟩ := List.getElem?_eq_some_iff.mp a
 obtain ⟨h2, e2⟩ := List.getElem?_eq_some_iff.mp b
 exact (List.getElem_inj hN).mp (e1.trans e2.symm)
theorem store_ok2 {M : Model} {A : Around} {E : Value -> Shared -> Prop} {i : Nat} {x : Str} {v : V} {u : Value} {Q : Unit -> Shared -> Prop} (I : Inv X pins σ H s) (hN : X.N.Nodup) (hi : X.N[i]? = some x) (hx : Loc X.env.scope x) (r : RelV v u)
  (h : ∀ s', Inv X pins (σ.set i (some v)) H s' -> (∃ a, Heap.SameBut a s.heap s'.heap /\ (a = X.env.locals ∨ X.env.cells.lookup x = some a)) -> Q () s') (hf : X.fn x = true ∨ X.env.scope.names.lookup x = some .local := by first | exact .inl rfl | exact .inr rfl | assumption) : wpAny M A (storeName X.env x u) Q E s := by
 obtain ⟨m, hn, hl⟩ := id I.loc
 have hcls : (X.env.scope.kind == .class || (X.env.scope.kind == .module && X.env.locals != X.env.globals)) = false := by rw [I.ok.kind]; rfl
 have hiσ : i < σ.length := by rw [I.len]; exact (List.getElem?_eq_some_iff.mp hi).1
 have cne := I.cne
 have tracked : ∀ {a : Addr} {h' : Heap}, (∃ o, s.heap.get? a = some o /\ H a = none) -> Heap.SameBut a s.heap h' -> HOk X.prog X.w H h' := fun {a h'} ha hs b ob e => by
  obtain ⟨_, _, hfree⟩ := ha
  refine (I.hok b ob e).stay (fun c w' hc q => (hs.2 c ?_).trans q) (fun _ q => q) fun _ _ q => q
  rintro rfl
  rcases hc with rfl | hc
  ·rw [hfree] at e; cases e
  ·rw [hfree] at hc; cases hc
 rcases hx with hk | hk
 ·refine wpAny_storeName_local hk hn (fun h' hn' hs => ?_) hcls
  obtain ⟨oL, _, _, hoL, _⟩ := id hn
  refine h _ ⟨I.ok, I.os, I.bare, ⟨fun b o e n hb hx => ?_, fun b o e n hb hx => ?_, I.base.free, fun b o e hx => ?_, I.base.tups, I.base.frzs, I.base.tbls⟩, ⟨_, hn', fun j y v' e1 e2 e3 => ?_⟩, fun y c e => ?_, I.free, I.freeC, fun p hp => ?_, tracked ⟨oL, hoL, I.free⟩ hs, by simpa using I.len⟩ ⟨_, hs, .inl rfl⟩
  ·exact (hs.2 b (Nat.ne_of_lt (Nat.lt_of_lt_of_le (Heap.lt_size e) I.ok.above))).trans (I.base.keep b o e n hb hx)
  ·obtain ⟨sl, e1⟩ := I.base.slot b o e n hb hx
   exact ⟨sl, (hs.2 b (Nat.ne_of_lt (Nat.lt_of_lt_of_le (Heap.lt_size e) I.ok.above))).trans e1⟩
  ·obtain ⟨o', e1⟩ := I.base.there b o e hx
   exact ⟨o', (hs.2 b (Nat.ne_of_lt (Nat.lt_of_lt_of_le (Heap.lt_size e) I.ok.above))).trans e1⟩
  ·by_cases hj : j = i
   ·subst hj
    rw [hi] at e1; cases e1
    rw [List.getElem?_set_self hiσ] at e2
    cases e2
    exact ⟨u, r, .inl ⟨hk, by simp⟩⟩
   ·rw [List.getElem?_set_ne (Ne.symm hj)] at e2
    obtain ⟨u', r', q⟩ := hl j y v' e1 e2 e3
    refine ⟨u', r', ?_⟩
    rcases q with ⟨k, e⟩ | ⟨k, c, e, z⟩
    ·refine .inl ⟨k, ?_⟩
     have : y ≠ x := fun e => hj (nodup_ix hN e1 (e ▸ hi))
     simp [this, e]
    ·exact .inr ⟨k, c, e, z.sameBut hs (cne y c e)⟩
  ·obtain ⟨w', z⟩ := I.cell y c e
   exact ⟨w', z.sameBut hs (cne y c e)⟩
  ·obtain ⟨e, n, ne, nf, d⟩ := I.pin p hp
   exact ⟨(hs.2 p.1 ne).trans e, n, ne, nf, d⟩
 ·have hfn : X.fn x = true := by
   rcases hf with z | z
   ·exact z
   ·rw [z] at hk; cases hk
  obtain ⟨c, hc⟩ := I.ok.has x (.inl hk)
  obtain ⟨w', z⟩ := I.cell x c hc
  refine wpAny_storeName_cell I.ok.kind hk hc z (fun h' hc' hs => ?_)
  obtain ⟨oc, hoc, hocd⟩ := id z
  refine h { s with heap := h' } ⟨I.ok, I.os, I.bare, ⟨fun b o e n hb hx => ?_, fun b o e n hb hx => ?_, I.base.free, fun b o e hx => ?_, I.base.tups, I.base.frzs, I.base.tbls⟩, ⟨m, hn.sameBut hs (Ne.symm (cne x c hc)), fun j y v' e1 e2 e3 => ?_⟩, fun y c' e => ?_, I.free, I.freeC, fun p hp => ?_, tracked ⟨oc, hoc, I.freeC x c hc⟩ hs, by simpa using I.len⟩ ⟨c, hs, .inr hc⟩
  ·exact (hs.2 b (Nat.ne_of_lt (Nat.lt_of_lt_of_le (Heap.lt_size e) (I.ok.cab x c hfn hc)))).trans (I.base.keep b o e n hb hx)
  ·obtain ⟨sl, e1⟩ := I.base.slot b o e n hb hx
   exact ⟨sl, (hs.2 b (Nat.ne_of_lt (Nat.lt_of_lt_of_le (Heap.lt_size e) (I.ok.cab x c hfn hc)))).trans e1⟩
  ·obtain ⟨o', e1⟩ := I.base.there b o e hx
   exact ⟨o', (hs.2 b (Nat.ne_of_lt (Nat.lt_of_lt_of_le (Heap.lt_size e) (I.ok.cab x c hfn hc)))).trans e1⟩
  ·by_cases hj : j = i
   ·subst hj
    rw [hi] at e1; cases e1
    rw [List.getElem?_set_self hiσ] at e2
    cases e2
    exact ⟨u, r, .inr ⟨.inl hk, c, hc, hc'⟩⟩
   ·rw [List.getElem?_set_ne (Ne.symm hj)] at e2
    obtain ⟨u', r', q⟩ := hl j y v' e1 e2 e3
    refine ⟨u', r', ?_⟩
    rcases q with q | ⟨k, c', e, z'⟩
    ·exact .inl q
    ·refine .inr ⟨k, c', e, z'.sameBut hs ?_⟩
     rintro rfl
     exact hj (nodup_ix hN e1 (I.ok.inj _ _ _ e hc ▸ hi))
  ·by_cases hcc : c' = c
   ·subst hcc; exact ⟨_, hc'⟩
   ·obtain ⟨w2, z2⟩ := I.cell y c' e
    exact ⟨w2, z2.sameBut hs hcc⟩
  ·obtain ⟨e, n, ne, nf, d⟩ := I.pin p hp
   refine ⟨(hs.2 p.1 ?_).trans e, n, ne, nf, d⟩
   intro q
   rw [q, hoc] at e
   have q' : oc = p.2 := Option.some.inj e
   exact d w' (by rw [<- q']; exact hocd)
theorem store_ok {M : Model} {A : Around} {E : Value -> Shared -> Prop} {i : Nat} {x : Str} {v : V} {u : Value} {Q : Unit -> Shared -> Prop} (I : Inv X pins σ H s) (hN : X.N.Nodup) (hi : X.N[i]? = some x) (hx : Loc X.env.scope x) (r : RelV v u)
  (h : ∀ s', Inv X pins (σ.set i (some v)) H s' -> Q () s') (hf : X.fn x = true ∨ X.env.scope.names.lookup x = some .local := by first | exact .inl rfl | exact .inr rfl | assumption) : wpAny M A (storeName X.env x u) Q E s :=
 store_ok2 I hN hi hx r (fun s' I' _ => h s' I') hf
theorem Inv.call' {s' : Shared} {ch : List Addr} (I : Inv X pins σ H s) (ho : s'.os = s.os) (u : Un (frs X.stack) ch H H' s.heap s'.heap) (hok : HOk X.prog X.w H' s'.heap) (hg : AllBare s'.gens)
  (hch : ∀ b ∈ ch, (b ∈ X.ex ∨ X.s₀.heap.objs.size <= b) /\ b ≠ X.env.locals /\ (∀ x c, X.env.cells.lookup x = some c -> c ≠ b) /\ ∀ p ∈ X.pn ++ pins, p.1 ≠ b) : Inv X pins σ H' s' := by
 obtain ⟨h', g', d', t', o'⟩ := s'
 have e : o' = s.os := ho
 subst e
 exact I.call (g' := g') (t' := t') (d' := d') u hok hg hch
end
noncomputable abbrev XK := Value -> Option Addr -> Hp -> Prop
noncomputable abbrev St := List (Option V)
noncomputable abbrev VK := V -> Hp -> Prop
noncomputable abbrev TE := St -> Hp -> VK -> Prop
noncomputable abbrev TT := St -> Hp -> (Bool -> Hp -> Prop) -> Prop
noncomputable abbrev TA := St -> Hp -> (List V -> Hp -> Prop) -> Prop
structure Ends where
 nx : St -> Hp -> Prop
 rt : VK
 bk : St -> Hp -> Prop := fun _ _ => False
 ct : St -> Hp -> Prop := fun _ _ => False
noncomputable abbrev TS := Ends -> St -> Hp -> Prop
noncomputable def EP (X : Cx) (pins : List (Addr × Obj)) (σ : St) (Q : VK) (u : Value) (s' : Shared) : Prop := ∃ v H', Inv X pins σ H' s' /\ RelV v u /\ Q v H'
noncomputable def TP (X : Cx) (pins : List (Addr × Obj)) (σ : St) (Q : Bool -> Hp -> Prop) (b : Bool) (s' : Shared) : Prop := ∃ H', Inv X pins σ H' s' /\ Q b H'
noncomputable def AP (X : Cx) (pins : List (Addr × Obj)) (σ : St) (Q : List V -> Hp -> Prop) (us : List Value) (s' : Shared) : Prop := ∃ vs H', Inv X pins σ H' s' /\ Vals vs us /\ Q vs H'
noncomputable def SP (X : Cx) (pins : List (Addr × Obj)) (D : Ends) (f : Flow) (s' : Shared) : Prop :=
 match f with
 | .next => ∃ σ' H', Inv X pins σ' H' s' /\ D.nx σ' H'
 | .brk => ∃ σ' H', Inv X pins σ' H' s' /\ D.bk σ' H'
 | .cont => ∃ σ' H', Inv X pins σ' H' s' /\ D.ct σ' H'
 | .ret u => ∃ v σ' H', Inv X pins σ' H' s' /\ RelV v u /\ D.rt v H'
noncomputable def PE (X : Cx) (e : Expr) (t : TE) : Prop :=
 ∀ (pins : List (Addr × Obj)) (s : Shared) (σ : St) (H : Hp) (Q : VK), Inv X pins σ H s -> t σ H Q -> wpAny (model X.prog X.w) X.A (eval e X.env) (EP X pins σ Q) X.xe s
noncomputable def PT (X : Cx) (e : Expr) (t : TT) : Prop :=
 ∀ (pins : List (Addr × Obj)) (s : Shared) (σ : St) (H : Hp) (Q : Bool -> Hp -> Prop), Inv X pins σ H s -> t σ H Q -> wpAny (model X.prog X.w) X.A (isTrue e X.env (eval e X.env)) (TP X pins σ Q) X.xe s
noncomputable def PW (X : Cx) (e : Expr) (t : TT) : Prop :=
 ∀ (whole : Sem Value) (pins : List (Addr × Obj)) (s : Shared) (σ : St) (H : Hp) (Q : Bool -> Hp -> Prop), Inv X pins σ H s -> t σ H Q -> wpAny (model X.prog X.w) X.A (isTrue e X.env whole) (TP X pins σ Q) X.xe s
theorem PW.pt {X : Cx} {e : Expr} {t : TT} (h : PW X e t) : PT X e t := h _
noncomputable def PA (X : Cx) (es : List Expr) (t : TA) : Prop :=
 ∀ (pos : Pos) (pins : List (Addr × Obj)) (s : Shared) (σ : St) (H : Hp) (Q : List V -> Hp -> Prop), Inv X pins σ H s -> t σ H Q -> wpAny (model X.prog X.w) X.A (spliced (backTo pos (starEach es X.env))) (AP X pins σ Q) X.xe s
noncomputable def PS (X : Cx) (st : Stmt) (t : TS) : Prop :=
 ∀ (pins : List (Addr × Obj)) (s : Shared) (σ : St) (H : Hp) (D : Ends), Inv X pins σ H s -> t D σ H -> wpAny (model X.prog X.w) X.A (exec st X.env) (SP X pins D) X.xe s
noncomputable def PSs (X : Cx) (st : List Stmt) (t : TS) : Prop :=
 ∀ (pins : List (Addr × Obj)) (s : Shared) (σ : St) (H : Hp) (D : Ends), Inv X pins σ H s -> t D σ H -> wpAny (model X.prog X.w) X.A (execs st X.env) (SP X pins D) X.xe s
theorem thn {α : Type} {t : Sem α} {Q Q' : α -> Shared -> Prop} {M : Model} {A : Around} {E : Value -> Shared -> Prop} {s : Shared} (h : wpAny M A t Q E s) (hQ : ∀ a s, Q a s -> Q' a s) : wpAny M A t Q' E s := wpAny_mono h hQ fun _ _ x => x
end L2
namespace L2
open PySem PySem.Spec PyProof.Rows
section
variable {X : Cx}
noncomputable def tVar (i : Nat) : TE := fun σ H Q => ∃ v, σ[i]? = some (some v) /\ Q v H
noncomputable def tC (v : V) : TE := fun _ H Q => Q v H
theorem pe_var {i : Nat} {x : Str} {pos : Pos} (hN : X.N[i]? = some x) (hv : Vis X.env.scope x) (hd : (x == ("__debug__" : Str)) = false := by decide) (hcd : (x == ("__classdict__" : Str)) = false := by decide) : PE X (.Name x pos) (tVar i) := by
 intro pins s σ H Q I h
 obtain ⟨v, e, h⟩ := h
 obtain ⟨m, hn, hl⟩ := I.loc
 obtain ⟨u, r, l⟩ := hl i x v hN e hv
 have fin : EP X pins σ Q u s := ⟨v, H, I, r, h⟩
 rcases l with ⟨hk, hm⟩ | ⟨hk, c, hc, hcell⟩
 ·exact wpAny_Name (wpAny_loadName_local I.ok.kind hk hn hm fin) hd
 ·rcases hk with hk | hk
  ·exact wpAny_Name (wpAny_loadName_cell I.ok.kind hk hc hcell fin) hd
  ·exact wpAny_Name (wpAny_loadName_free I.ok.kind hk hc hcell fin hcd) hd
theorem pe_int {i j pos} : PE X (.Constant (.int i) j pos) (tC (.int i)) := fun _ _ _ H _ I h => wpAny_Constant_int ⟨.int i, H, I.tok _, ⟨_, rfl⟩, h⟩
theorem pe_bl {b j pos} : PE X (.Constant (.bool b) j pos) (tC (.bl b)) := fun _ _ _ H _ I h => Constant_bool ⟨.bl b, H, I, rfl, h⟩
noncomputable def Gl (X : Cx) (x : Str) : Prop := X.env.kindOf x = some .globalImplicit
theorem ld_glob {E : Value -> Shared -> Prop} {pins : List (Addr × Obj)} {s : Shared} {σ : St} {H : Hp} {x : Str} {u : Value} {pos : Pos} {Q : Value -> Shared -> Prop} (I : Inv X pins σ H s) (hg : Gl X x) (hm : X.mg x = some u) (h : Q u s)
  (hd : (x == ("__debug__" : Str)) = false := by decide) : wpAny (model X.prog X.w) X.A (eval (.Name x pos) X.env) Q E s :=
 Calls.Name_function_global I.ok.kind hg (Calls.loadGlobal_global (by rw [I.ok.glob]; exact I.mod.glob.keeps I.bk) hm h) hd
theorem ld_blt {E : Value -> Shared -> Prop} {pins : List (Addr × Obj)} {s : Shared} {σ : St} {H : Hp} {x : Str} {u : Value} {pos : Pos} {Q : Value -> Shared -> Prop} (I : Inv X pins σ H s) (hg : Gl X x) (hm : X.mg x = none) (hv : bootBuiltins x = some u) (h : Q u s)
  (hn : x ≠ "__name__" := by decide) (hd : (x == ("__debug__" : Str)) = false := by decide) : wpAny (model X.prog X.w) X.A (eval (.Name x pos) X.env) Q E s := by
 obtain ⟨mb, h1, h2⟩ := I.mod.blt
 exact Calls.Name_function_global I.ok.kind hg (Calls.loadGlobal_builtin (by rw [I.ok.glob]; exact I.mod.glob.keeps I.bk) hm (by rw [I.ok.blt]; exact h1.keeps I.bk) ((h2 x hn).trans hv) h) hd
theorem pe_bltn {x : Str} {v : V} {u : Value} {pos : Pos} (hg : Gl X x) (hm : X.mg x = none) (hv : bootBuiltins x = some u) (r : RelV v u) (hn : x ≠ "__name__" := by decide) (hd : (x == ("__debug__" : Str)) = false := by decide) : PE X (.Name x pos) (tC v) :=
 fun _ _ _ H _ I h => ld_blt I hg hm hv ⟨v, H, I, r, h⟩ hn hd
variable {a b : Expr} {ta tb : TE} {pos : Pos}
noncomputable def tB (t : TE) : TT := fun σ H Q => t σ H fun x H1 => ∃ c, x = .bl c /\ Q c H1
theorem pt_val {e : Expr} {t : TE} (h : PE X e t) (he : ∀ whole, isTrue e X.env whole = (do let v <- whole; standAt e.pos; holding [v] (truthy v)) := by intro _; rfl) : PT X e (tB t) := by
 intro pins s σ H Q I hw
 refine isTrue_plain (thn (h pins s σ H _ I hw) fun v s1 ⟨x, H1, I1, r1, q1⟩ => ?_) (he _)
 obtain ⟨d, rfl, q⟩ := q1
 cases r1
 exact wpAny_truthy_bool ⟨H1, I1, q⟩
variable {tA tB' : TT} {rest : List Expr}
noncomputable def tAnd (t u : TT) : TT := fun σ H Q => t σ H fun c H1 => if c = true then u σ H1 Q else Q false H1
noncomputable def tOr (t u : TT) : TT := fun σ H Q => t σ H fun c H1 => if c = true then Q true H1 else u σ H1 Q
noncomputable def tNot (t : TT) : TT := fun σ H Q => t σ H fun c H1 => Q (!c) H1
theorem pw_and1 (ha : PT X a tA) : PW X (.BoolOp .And [a] pos) tA := by
 intro wh pins s σ H Q I h
 refine isTrue_and (thn (ha pins s σ H Q I h) fun c s1 e => ?_)
 cases c with
 | true => exact isTrue_and_nil e
 | false => exact e
theorem pw_or1 (ha : PT X a tA) : PW X (.BoolOp .Or [a] pos) tA := by
 intro wh pins s σ H Q I h
 refine isTrue_or (thn (ha pins s σ H Q I h) fun c s1 e => ?_)
 cases c with
 | false => exact isTrue_or_nil e
 | true => exact e
theorem pw_and (ha : PT X a tA) (hb : PW X (.BoolOp .And (b :: rest) pos) tB') : PW X (.BoolOp .And (a :: b :: rest) pos) (tAnd tA tB') := by
 intro wh pins s σ H Q I h
 refine isTrue_and (thn (ha pins s σ H _ I h) fun c s1 ⟨H1, I1, q1⟩ => ?_)
 cases c with
 | true => exact hb wh pins s1 σ H1 Q I1 q1
 | false => exact ⟨H1, I1, q1⟩
theorem pw_or (ha : PT X a tA) (hb : PW X (.BoolOp .Or (b :: rest) pos) tB') : PW X (.BoolOp .Or (a :: b :: rest) pos) (tOr tA tB') := by
 intro wh pins s σ H Q I h
 refine isTrue_or (thn (ha pins s σ H _ I h) fun c s1 ⟨H1, I1, q1⟩ => ?_)
 cases c with
 | true => exact ⟨H1, I1, q1⟩
 | false => exact hb wh pins s1 σ H1 Q I1 q1
theorem pt_not (ha : PT X a tA) : PT X (.UnaryOp .Not a pos) (tNot tA) := by
 intro pins s σ H Q I h
 exact isTrue_not (ha pins s σ H (fun c H1 => Q (!c) H1) I h)
noncomputable def tAndV (ta tb : TE) : TE := fun σ H Q => ta σ H fun x H1 => ∃ c, x = .bl c /\ if c = true then tb σ H1 Q else Q (.bl false) H1
noncomputable def tNotV (ta : TE) : TE := fun σ H Q => ta σ H fun x H1 => ∃ c, x = .bl c /\ Q (.bl (!c)) H1
theorem pe_one {op} {t : TE} (h : PE X a t) : PE X (.BoolOp op [a] pos) t := fun pins s σ H Q I hw => BoolOp_one (h pins s σ H Q I hw)
theorem pe_and (ha : PE X a ta) (hb : PE X (.BoolOp .And (b :: rest) pos) tb) : PE X (.BoolOp .And (a :: b :: rest) pos) (tAndV ta tb) := by
 intro pins s σ H Q I h
 refine BoolOp_and (thn (ha pins s σ H _ I h) fun v s1 ⟨x, H1, I1, r1, q1⟩ => ?_)
 obtain ⟨c, rfl, q1⟩ := q1
 cases r1
 refine wpAny_truthy_bool ?_
 cases c with
 | true => exact hb pins s1 σ H1 Q I1 q1
 | false => exact ⟨.bl false, H1, I1, rfl, q1⟩
theorem pe_not (ha : PE X a ta) : PE X (.UnaryOp .Not a pos) (tNotV ta) := by
 intro pins s σ H Q I h
 refine UnaryOp_ (thn (ha pins s σ H _ I h) fun v s1 ⟨x, H1, I1, r1, q1⟩ => ?_)
 obtain ⟨c, rfl, q1⟩ := q1
 cases r1
 exact not_of (wpAny_truthy_bool ⟨.bl (!c), H1, I1, rfl, q1⟩)
end
end L2
namespace L2
open PySem PySem.Spec PyProof.Rows
noncomputable def SqL (K : PySem.W.Frag) (H : Hp) (a : Addr) (xs : List V) : Prop :=
 Rd H a (.lst xs) ∨
  ∃ (o : Obj) (its : Array Value) (n : Nat), K.lookup a = some o /\ o.cls = .type "list" /\ o.dict = none /\ o.data = .seq its n /\ its.size <= sizeLine /\ Vals xs its.toList
noncomputable def SqT (K : PySem.W.Frag) (H : Hp) (a : Addr) (xs : List V) : Prop :=
 Rd H a (.tup xs) ∨
  ∃ (o : Obj) (its : Array Value) (n : Nat), K.lookup a = some o /\ o.cls = .type "tuple" /\ o.data = .seq its n /\ its.size <= sizeLine /\ Vals xs its.toList
noncomputable def absV : Value -> Option V
 | .none => some .non
 | .bool b => some (.bl b)
 | .int i _ => some (.int i)
 | .str x _ => some (.str x)
 | .bytes b _ => some (.byt b)
 | .float b _ => some (.flt b)
 | .ref a => some (.ref a)
 | .type n => some (.ty n)
 | _ => none
theorem RelV.abs {x : V} {u : Value} (r : RelV x u) : absV u = some x := by
 cases x with
 | non => cases r; rfl
 | bl _ => cases r; rfl
 | int _ => obtain ⟨t, rfl⟩ := r; rfl
 | str _ => obtain ⟨t, rfl⟩ := r; rfl
 | byt _ => obtain ⟨t, rfl⟩ := r; rfl
 | flt _ => obtain ⟨t, rfl⟩ := r; rfl
 | ref _ => cases r; rfl
 | ty _ => cases r; rfl
theorem RelV.inj {x y : V} {u : Value} (r : RelV x u) (q : RelV y u) : x = y := Option.some.inj (r.abs.symm.trans q.abs)
theorem Vals.inj : ∀ {xs ys : List V} {us : List Value}, Vals xs us -> Vals ys us -> xs = ys
 | _, _, _, .nil, .nil => rfl
 | _, _, _, .cons r t, .cons r' t' => by rw [r.inj r', Vals.inj t t']
section
variable {X : Cx} {pins : List (Addr × Obj)} {σ : St} {H : Hp} {s : Shared} {a : Addr} {xs ys : List V}
theorem SqL.of {K : PySem.W.Frag} (h : H a = some (.lst xs)) : SqL K H a xs := .inl (.inl h)
theorem SqT.of {K : PySem.W.Frag} (h : H a = some (.tup xs)) : SqT K H a xs := .inl (.inl h)
theorem Inv.list (I : Inv X pins σ H s) (h : SqL X.K H a xs) : ∃ its : List Value, Vals xs its /\ PlainL s.heap a its.toArray /\ xs.length <= sizeLine := by
 rcases h with h | ⟨o, its, n, hk, hc, hd, hs, hz, r⟩
 ·obtain ⟨z, its, n, r, e⟩ := h.ok I.hok
  exact ⟨its, r, ⟨_, n, e, rfl, rfl, rfl⟩, z⟩
 ·refine ⟨its.toList, r, ⟨o, n, I.kIn a o hk, hc, hd, by simpa using hs⟩, ?_⟩
  have e := r.length
  simp only [Array.length_toList] at e
  (first | lia | omega)
theorem Inv.tuple (I : Inv X pins σ H s) (h : SqT X.K H a xs) : ∃ its : List Value, Vals xs its /\ IsTup s.heap a its.toArray /\ xs.length <= sizeLine := by
 rcases h with h | ⟨o, its, n, hk, hc, hs, hz, r⟩
 ·obtain ⟨z, its, r, p⟩ := h.ok I.hok
  exact ⟨its, r, p.tup, z⟩
 ·refine ⟨its.toList, r, ⟨o, I.kIn a o hk, hc, n, by simpa using hs⟩, ?_⟩
  have e := r.length
  simp only [Array.length_toList] at e
  (first | lia | omega)
theorem Inv.list_inj (I : Inv X pins σ H s) (h : SqL X.K H a xs) (h' : SqL X.K H a ys) : xs = ys := by
 obtain ⟨its, r, ⟨o, n, e, _, _, d⟩, _⟩ := I.list h
 obtain ⟨its', r', ⟨o', n', e', _, _, d'⟩, _⟩ := I.list h'
 rw [e] at e'; cases e'
 rw [d] at d'
 injection d' with d1 _
 have : its = its' := by simpa using congrArg Array.toList d1
 subst this
 exact r.inj r'
theorem Inv.tuple_inj (I : Inv X pins σ H s) (h : SqT X.K H a xs) (h' : SqT X.K H a ys) : xs = ys := by
 obtain ⟨its, r, ⟨o, e, _, n, d⟩, _⟩ := I.tuple h
 obtain ⟨its', r', ⟨o', e', _, n', d'⟩, _⟩ := I.tuple h'
 rw [e] at e'; cases e'
 rw [d] at d'
 injection d' with d1 _
 have : its = its' := by simpa using congrArg Array.toList d1
 subst this
 exact r.inj r'
end
noncomputable abbrev Cx.wish (X : Cx) (E : Value -> Shared -> Prop) : Cx := { X with xe := E }
noncomputable abbrev Cx.nox (X : Cx) : Cx := X.wish fun _ _ => False
theorem Cx.Ok.wish {X : Cx} (ok : X.Ok) (E : Value -> Shared -> Prop) : (X.wish E).Ok :=
 ⟨ok.mod, ok.kind, ok.glob, ok.blt, ok.above, ok.inj, ok.has, ok.cab, ok.hd, ok.frames, ok.stk, ok.exf, ok.bs, ok.bsz, ok.noex, ok.exfs, ok.funs, ok.frf⟩
theorem Cx.Ok.unwish {X : Cx} {E : Value -> Shared -> Prop} (ok : (X.wish E).Ok) : X.Ok :=
 ⟨ok.mod, ok.kind, ok.glob, ok.blt, ok.above, ok.inj, ok.has, ok.cab, ok.hd, ok.frames, ok.stk, ok.exf, ok.bs, ok.bsz, ok.noex, ok.exfs, ok.funs, ok.frf⟩
section
variable {X : Cx} {pins : List (Addr × Obj)} {σ : St} {H : Hp} {s : Shared} {E : Value -> Shared -> Prop}
theorem Inv.wish (I : Inv X pins σ H s) (E : Value -> Shared -> Prop) : Inv (X.wish E) pins σ H s := ⟨I.ok.wish E, I.os, I.bare, I.base, I.loc, I.cell, I.free, I.freeC, I.pin, I.hok, I.len⟩
theorem Inv.unwish (I : Inv (X.wish E) pins σ H s) : Inv X pins σ H s := ⟨I.ok.unwish, I.os, I.bare, I.base, I.loc, I.cell, I.free, I.freeC, I.pin, I.hok, I.len⟩
theorem SP.unwish {D : Ends} {f : Flow} {s' : Shared} (h : SP (X.wish E) pins D f s') : SP X pins D f s' := by
 cases f with
 | next => obtain ⟨σ', H', I, q⟩ := h; exact ⟨σ', H', I.unwish, q⟩
 | brk => obtain ⟨σ', H', I, q⟩ := h; exact ⟨σ', H', I.unwish, q⟩
 | cont => obtain ⟨σ', H', I, q⟩ := h; exact ⟨σ', H', I.unwish, q⟩
 | ret u => obtain ⟨v, σ', H', I, r, q⟩ := h; exact ⟨v, σ', H', I.unwish, r, q⟩
theorem PSs.nox {st : List Stmt} {t : TS} (h : PSs X.nox st t) : PSs X st t := fun pins s σ H D I hw =>
 wpAny_mono (h pins s σ H D (I.wish _) hw) (fun _ _ q => q.unwish) fun _ _ z => False.elim z
end
section
variable {X : Cx} {st : Stmt} {rest : List Stmt} {t u : TS} {e : Expr} {te : TE} {pos : Pos}
noncomputable def tNext : TS := fun D σ H => D.nx σ H
noncomputable def tSeq (t u : TS) : TS := fun D σ H => t { D with nx := u D } σ H
theorem pss_nil : PSs X [] tNext := fun _ _ σ H _ I h => wpAny_execs_nil ⟨σ, H, I, h⟩
theorem pss_cons (h1 : PS X st t) (h2 : PSs X rest u) : PSs X (st :: rest) (tSeq t u) := by
 intro pins s σ H D I h
 refine wpAny_execs_cons (thn (h1 pins s σ H { D with nx := u D } I h) fun f s1 q => ?_)
 cases f with
 | next =>
  obtain ⟨σ', H', I', q⟩ := q
  exact h2 pins s1 σ' H' D I' q
 | ret v => exact q
 | brk => exact q
 | cont => exact q
theorem pss_one (h1 : PS X st t) : PSs X [st] t := by
 intro pins s σ H D I h
 refine wpAny_execs_cons (thn (h1 pins s σ H D I h) fun f s1 q => ?_)
 cases f with
 | next => exact wpAny_execs_nil q
 | ret v => exact q
 | brk => exact q
 | cont => exact q
theorem Inv.quiet {pins : List (Addr × Obj)} {σ : St} {H : Hp} {s : Shared} (I : Inv X pins σ H s) : interactive X.env = false := by simp [interactive, I.ok.kind]
noncomputable def tDrop (te : TE) : TS := fun D σ H => te σ H fun _ H1 => D.nx σ H1
theorem ps_expr (he : PE X e te) (hs : swapsWith e none pos.line X.env = pure false := by rfl) : PS X (.Expr e pos) (tDrop te) := by
 intro pins s σ H D I h
 exact wpAny_Expr_any (thn (he pins s σ H _ I h) fun v s1 ⟨x, H1, I1, r1, q1⟩ => ⟨σ, H1, I1, q1⟩) I.quiet hs
noncomputable def tRet (te : TE) : TS := fun D σ H => te σ H D.rt
theorem ps_ret (he : PE X e te) : PS X (.Return (some e) pos) (tRet te) := by
 intro pins s σ H D I h
 exact wpAny_Return_some (thn (he pins s σ H _ I h) fun v s1 ⟨x, H1, I1, r1, q1⟩ => ⟨x, σ, H1, I1, r1, q1⟩)
noncomputable def tIfS (c : TT) (t u : TS) : TS := fun D σ H => c σ H fun b H1 => if b = true then t D σ H1 else u D σ H1
theorem ps_if {c : Expr} {a b : List Stmt} {tc : TT} (hc : PT X c tc) (ha : PSs X a t) (hb : PSs X b u) : PS X (.If c a b pos) (tIfS tc t u) := by
 intro pins s σ H D I h
 refine wpAny_If (thn (hc pins s σ H _ I h) fun d s1 ⟨H1, I1, q1⟩ => ?_)
 cases d with
 | true => exact ha pins s1 σ H1 D I1 q1
 | false => exact hb pins s1 σ H1 D I1 q1
noncomputable def tNever : TS := fun _ _ _ => False
theorem pss_never {sts : List Stmt} : PSs X sts tNever := fun _ _ _ _ _ _ h => h.elim
end
noncomputable abbrev TG := V -> St -> Hp -> (St -> Hp -> Prop) -> Prop
noncomputable abbrev TGs := List V -> St -> Hp -> (St -> Hp -> Prop) -> Prop
noncomputable def PG (X : Cx) (target : Expr) (t : TG) : Prop :=
 ∀ (pins : List (Addr × Obj)) (s : Shared) (σ : St) (H : Hp) (v : V) (u : Value) (Q : St -> Hp -> Prop), Inv X pins σ H s -> RelV v u -> t v σ H Q ->
  wpAny (model X.prog X.w) X.A (assign target X.env u) (fun _ s' => ∃ σ' H', Inv X pins σ' H' s' /\ Q σ' H') X.xe s
noncomputable def PGs (X : Cx) (ts : List Expr) (t : TGs) : Prop :=
 ∀ (pins : List (Addr × Obj)) (s : Shared) (σ : St) (H : Hp) (vs : List V) (us : List Value) (Q : St -> Hp -> Prop), Inv X pins σ H s -> Vals vs us -> t vs σ H Q ->
  wpAny (model X.prog X.w) X.A (assignInOrder ((assignEach ts X.env).map (·.2)) us) (fun _ s' => ∃ σ' H', Inv X pins σ' H' s' /\ Q σ' H') X.xe s
noncomputable abbrev TSet := V -> V -> V -> Hp -> (Hp -> Prop) -> Prop
noncomputable def PSet (X : Cx) (t : TSet) : Prop :=
 ∀ (pins : List (Addr × Obj)) (s : Shared) (σ : St) (H : Hp) (o i v : V) (ov iv u : Value) (Q : Hp -> Prop), Inv X pins σ H s -> RelV o ov -> RelV i iv -> RelV v u -> t o i v H Q ->
  wpAny (model X.prog X.w) X.A (setItem ov iv u) (fun _ s' => ∃ H', Inv X pins σ H' s' /\ Q H') X.xe s
section
variable {X : Cx} {pos : Pos}
noncomputable def gName (i : Nat) : TG := fun v σ H Q => Q (σ.set i (some v)) H
theorem pg_name {i : Nat} {x : Str} (hN : X.N.Nodup) (hi : X.N[i]? = some x) (hx : Loc X.env.scope x) (hf : X.fn x = true ∨ X.env.scope.names.lookup x = some .local := by first | exact .inl rfl | exact .inr rfl | assumption) : PG X (.Name x pos) (gName i) := by
 intro pins s σ H v u Q I r h
 exact wpAny_assign_Name (store_ok I hN hi hx r (fun s' I' => ⟨_, H, I', h⟩) hf)
noncomputable def gNil : TGs := fun vs σ H Q => vs = [] /\ Q σ H
noncomputable def gCons (t : TG) (u : TGs) : TGs := fun vs σ H Q => ∃ v r, vs = v :: r /\ t v σ H fun σ' H' => u r σ' H' Q
theorem pgs_nil : PGs X [] gNil := by
 intro pins s σ H vs us Q I r h
 obtain ⟨e, h⟩ := h
 subst e
 cases r
 exact assignInOrder_nil ⟨σ, H, I, h⟩
theorem pgs_cons {e : Expr} {es : List Expr} {t : TG} {u : TGs} (h1 : PG X e t) (h2 : PGs X es u)
  (hs : (assignEach (e :: es) X.env).map (·.2) = assign e X.env :: (assignEach es X.env).map (·.2) := by rfl) : PGs X (e :: es) (gCons t u) := by
 intro pins s σ H vs us Q I r h
 obtain ⟨v, vr, e1, h⟩ := h
 subst e1
 cases r with
 | cons r rr =>
  rw [hs]
  refine assignInOrder_cons (thn (h1 pins s σ H _ _ _ I r h) fun _ s1 ⟨σ1, H1, I1, q1⟩ => ?_)
  exact h2 pins s1 σ1 H1 _ _ Q I1 rr q1
noncomputable def gTup (K : PySem.W.Frag) (n : Nat) (t : TGs) : TG := fun v σ H Q => ∃ a xs, v = .ref a /\ SqT K H a xs /\ xs.length = n /\ t xs σ H Q
theorem pg_tup {es : List Expr} {k : Nat} {t : TGs} {n : Nat} (hc : X.calm = true) (h : PGs X es t)
  (hn : (assignEach es X.env).length = n := by rfl) (hst : (assignEach es X.env).findIdx? (·.1) = none := by rfl) : PG X (.Tuple es k pos) (gTup X.K n t) := by
 intro pins s σ H v u Q I r hw
 obtain ⟨a, xs, e1, hq, hl, hw⟩ := hw
 subst e1
 cases r
 obtain ⟨its, rv, ht, hz⟩ := I.tuple hq
 refine assign_Tuple_tuple (I.ok.hd hc) ht (by simp [hn, <- hl, rv.length]) hst fun h' hx => ?_
 have I1 : Inv X pins σ H { s with heap := h' } := I.kept (t' := s.toks) fun b o e => hx b o (Nat.ne_of_lt (Heap.lt_size e)) e
 exact h pins _ σ H xs _ Q I1 (by simpa using rv) hw
noncomputable def gSub (to ti : TE) (t : TSet) : TG := fun v σ H Q => to σ H fun o H1 => ti σ H1 fun i H2 => t o i v H2 fun H3 => Q σ H3
theorem pg_sub {o i : Expr} {to ti : TE} {t : TSet} (ho : PE X o to) (hi : PE X i ti) (hs : PSet X t)
  (ha : ∀ v, assign (.Subscript o i pos) X.env v = (do
   let ov <- holding [v] (eval o X.env)
   let iv <- holding [v, ov] (eval i X.env)
   standAt pos
   holding [v, ov, iv] (setItem ov iv v)
   release [v, ov, iv] []) := by intro _; rfl) : PG X (.Subscript o i pos) (gSub to ti t) := by
 intro pins s σ H v u Q I r h
 rw [ha]
 refine wpAny_bind (wpAny_holding (thn (ho pins s σ H _ I h) fun ov s1 ⟨x, H1, I1, r1, q1⟩ => ?_))
 refine wpAny_bind (wpAny_holding (thn (hi pins s1 σ H1 _ I1 q1) fun iv s2 ⟨y, H2, I2, r2, q2⟩ => ?_))
 refine wpAny_bind (wpAny_standAt (wpAny_bind (wpAny_holding (thn (hs pins s2 σ H2 x y v ov iv u _ I2 r1 r2 r q2) fun _ s3 ⟨H3, I3, q3⟩ => ?_))))
 exact wpAny_release ⟨σ, H3, I3, q3⟩
noncomputable def tAsg (te : TE) (g : TG) : TS := fun D σ H => te σ H fun x H1 => g x σ H1 D.nx
theorem ps_asg {tg e : Expr} {te : TE} {g : TG} (he : PE X e te) (hg : PG X tg g) (hs : swapsWithSole [tg] e pos.line X.env = pure false := by rfl) (hw : swappedStores [tg] e X.env = pure none := by rfl)
  (h1 : (assignEach [tg] X.env).map (·.2) = [assign tg X.env] := by rfl) : PS X (.Assign [tg] e pos) (tAsg te g) := by
 intro pins s σ H D I h
 refine wpAny_Assign_stores (thn (he pins s σ H _ I h) fun v s1 ⟨x, H1, I1, r1, q1⟩ => ?_) hs hw
 rw [h1]
 exact thn (hg pins s1 σ H1 x v _ I1 r1 q1) fun _ s2 q => q
theorem ps_set {i : Nat} {x : Str} {e : Expr} {te : TE} {pos' : Pos} (hN : X.N.Nodup) (hi : X.N[i]? = some x) (hx : Loc X.env.scope x) (he : PE X e te) (hs : swapsWith e (some (.Name x pos')) pos.line X.env = pure false := by rfl) (hf : X.fn x = true ∨ X.env.scope.names.lookup x = some .local := by first | exact .inl rfl | exact .inr rfl | assumption) :
  PS X (.Assign [.Name x pos'] e pos) (tAsg te (gName i)) := by
 intro pins s σ H D I h
 refine wpAny_Assign_Name (thn (he pins s σ H _ I h) fun v s1 ⟨y, H1, I1, r1, q1⟩ => ?_) hs
 exact store_ok I1 hN hi hx r1 (fun s2 I2 => ⟨_, H1, I2, q1⟩) hf
noncomputable def tPar (i j : Nat) (ta : TA) : TS := fun D σ H => ta σ H fun vs H1 => ∃ v w, vs = [v, w] /\ D.nx ((σ.set i (some v)).set j (some w)) H1
theorem ps_par {i j : Nat} {x y : Str} {a b : Expr} {ta : TA} {px py pt : Pos} {kt k2 pt2} (hc : X.calm = true) (hN : X.N.Nodup) (hi : X.N[i]? = some x) (hj : X.N[j]? = some y) (hij : i ≠ j)
  (hx : X.env.scope.names.lookup x = some .local) (hy : X.env.scope.names.lookup y = some .local) (ha : PA X [a, b] ta)
  (hw : swappedStores [.Tuple [.Name x px, .Name y py] kt pt] (.Tuple [a, b] k2 pt2) X.env = pure (some [x, y]))
  (hs : swapsWithSole [.Tuple [.Name x px, .Name y py] kt pt] (.Tuple [a, b] k2 pt2) pos.line X.env = pure false := by rfl) :
  PS X (.Assign [.Tuple [.Name x px, .Name y py] kt pt] (.Tuple [a, b] k2 pt2) pos) (tPar i j ta) := by
 intro pins s σ H D I h
 rw [exec_Assign_arm]
 refine wpAny_bind (wpAny_standAt ?_)
 rw [hs]
 refine wpAny_bind (wpAny_pure ?_)
 rw [if_neg (by decide)]
 refine wpAny_bind (Tuple_ (thn (ha _ pins s σ H _ I h) fun us s1 ⟨vs, H1, I1, r1, q1⟩ => ?_))
 obtain ⟨v, w, e1, q1⟩ := q1
 subst e1
 obtain ⟨u1, u2, rfl, rv, rw'⟩ : ∃ u1 u2, us = [u1, u2] /\ RelV v u1 /\ RelV w u2 := by
  cases r1 with
  | cons p q =>
   cases q with
   | cons p' q' =>
    cases q'
    exact ⟨_, _, rfl, p, p'⟩
 refine wpAny_newObj_type ?_ (by show 2 <= sizeLine; decide)
 have I2 : Inv X pins σ H1 { s1 with heap := s1.heap.push { cls := .type "tuple", data := .seq [u1, u2].toArray } } := I1.kept (t' := s1.toks) fun b o e => Heap.get?_push_of_some _ e
 rw [hw]
 refine wpAny_bind (wpAny_pure ?_)
 show wpAny (model X.prog X.w) X.A (do rule "assign.swapped-stores"; let items <- unpackItems (.ref s1.heap.objs.size) 2 none; assignInOrder [fun v => bindName X.env y v, fun v => bindName X.env x v] items.reverse; pure Flow.next) _ _ _
 refine wpAny_bind (wpAny_rule (wpAny_bind (unpackItems_tuple (items := #[u1, u2]) (I.ok.hd hc) (IsTup.new s1.heap _) fun h' hx' => ?_)))
 have I3 := I2.kept (h' := h') (t' := s1.toks) fun b o e => hx' b o (Nat.ne_of_lt (Heap.lt_size e)) e
 show wpAny _ _ (assignInOrder [fun v => bindName X.env y v, fun v => bindName X.env x v] [u2, u1] >>= fun _ => pure Flow.next) _ _ _
 refine wpAny_bind (assignInOrder_cons (wpAny_bindName (store_ok I3 hN hj (.inl hy) rw' (fun s2 I4 => ?_) (.inr hy))))
 refine assignInOrder_cons (wpAny_bindName (store_ok I4 hN hi (.inl hx) rv (fun s3 I5 => assignInOrder_nil (wpAny_pure ?_)) (.inr hx)))
 rw [List.set_comm _ _ (Ne.symm hij)] at I5
 exact ⟨_, H1, I5, q1⟩
end
section
variable {X : Cx} {pos : Pos}
noncomputable def tWhile (c : TT) (tb : TS) : TS := fun D σ H => ∃ W : Nat -> St -> Hp -> Prop, (∃ m, W m σ H) /\ ∀ m σ H, W m σ H ->
 c σ H fun b H1 => if b = true then ∃ N : St -> Hp -> Prop, (∀ σ' H', N σ' H' -> ∃ m', m' < m /\ W m' σ' H') /\ tb { D with nx := N, ct := N, bk := D.nx } σ H1 else D.nx σ H1
theorem ps_while {c : Expr} {body : List Stmt} {tc : TT} {tb : TS} (hp : PassesOwn (model X.prog X.w) X.A X.env X.xe) (hc : PT X c tc) (hb : PSs X body tb) : PS X (.While c body [] pos) (tWhile tc tb) := by
 intro pins s σ H D I h
 obtain ⟨W, ⟨m0, w0⟩, turn⟩ := h
 refine wpAny_While (codeAny_whileLoop (fun n s' => ∃ σ' H', Inv X pins σ' H' s' /\ W n σ' H') ?_ m0 ⟨σ, H, I, w0⟩)
 rintro n s1 ⟨σ1, H1, I1, w1⟩
 refine wpAny_passesOwn hp (thn (hc pins s1 σ1 H1 _ I1 (turn n σ1 H1 w1)) fun b s2 ⟨H2, I2, q2⟩ => ?_)
 cases b with
 | true =>
  obtain ⟨N, hN, q2⟩ := q2
  rw [if_pos rfl]
  refine wpAny_passesOwn hp (thn (hb pins s2 σ1 H2 _ I2 q2) fun f s3 q3 => ?_)
  cases f with
  | next =>
   obtain ⟨σ3, H3, I3, n3⟩ := q3
   obtain ⟨m', hm, w3⟩ := hN σ3 H3 n3
   exact ⟨m', hm, σ3, H3, I3, w3⟩
  | cont =>
   obtain ⟨σ3, H3, I3, n3⟩ := q3
   obtain ⟨m', hm, w3⟩ := hN σ3 H3 n3
   exact ⟨m', hm, σ3, H3, I3, w3⟩
  | brk => exact q3
  | ret v => exact q3
 | false =>
  rw [if_neg Bool.false_ne_true]
  exact wpAny_execs_nil ⟨σ1, H2, I2, q2⟩
end
structure It where
 go : Nat -> Hp -> Prop
 yld : Nat -> Hp -> V -> Hp -> Prop
 stop : Nat -> Hp -> Prop
noncomputable def FpOk (X : Cx) (pins : List (Addr × Obj)) (H : Hp) (b : Addr) : Prop :=
 H b = none /\ b ≠ X.env.locals /\ b ∉ X.fs /\ (b ∈ X.ex ∨ X.s₀.heap.objs.size <= b) /\ (∀ x c, X.env.cells.lookup x = some c -> c ≠ b) /\ ∀ p ∈ X.pn ++ pins, p.1 ≠ b
theorem Inv.fpOk {X : Cx} {pins : List (Addr × Obj)} {σ : St} {H H' : Hp} {s : Shared} {b : Addr} (I : Inv X pins σ H s) (hb : s.heap.objs.size <= b) (hn : H' b = none) : FpOk X pins H' b := by
 refine ⟨hn, Nat.ne_of_gt (Nat.lt_of_lt_of_le I.lt hb), I.nofs hb, .inr (Nat.le_trans I.sz hb), fun x c e z => ?_, fun p hp z => ?_⟩
 ·obtain ⟨v, q⟩ := I.cell x c e
  exact absurd (Nat.lt_of_lt_of_le q.lt (by rw [z]; exact hb)) (Nat.lt_irrefl _)
 ·exact absurd (Nat.lt_of_lt_of_le (Heap.lt_size (I.pin p hp).1) (by rw [z]; exact hb)) (Nat.lt_irrefl _)
structure Turn (P : Program) (w : World) (K : PySem.W.Frag) (tg : Expr) (J : It) (fp : List Addr) (it : Addr) (tn : Nat -> Heap -> Prop) : Prop where
 mem : it ∈ fp
 obj : ∀ i h, tn i h -> ∀ b ∈ fp, ∃ o, h.get? b = some o /\ ∀ v, o.data ≠ .cell v
 keep : ∀ i h h', tn i h -> (∀ b ∈ fp, ∀ o, h.get? b = some o -> h'.get? b = some o) -> tn i h'
 item : ∀ (X : Cx), X.prog = P -> X.w = w -> X.K = K -> X.calm = true -> ∀ (i : Nat) (pins : List (Addr × Obj)) (s : Shared) (σ : St) (H : Hp) (E : Value -> Shared -> Prop), Inv X pins σ H s -> (∀ b ∈ fp, FpOk X pins H b) -> tn i s.heap -> J.go i H ->
  wpAny (model P w) X.A (pyNext (.ref it)) (fun r s1 => ∃ u, r = some u /\
   wpAny (model P w) X.A (letOwnedTupleGo tg (.ref it) u) (fun _ s2 => ∃ x H', Inv X pins σ H' s2 /\ RelV x u /\ J.yld i H x H' /\ tn (i + 1) s2.heap /\ ∀ b ∈ fp, H' b = none) E s1) E s
 done : ∀ (X : Cx), X.prog = P -> X.w = w -> X.K = K -> X.calm = true -> ∀ (i : Nat) (pins : List (Addr × Obj)) (s : Shared) (σ : St) (H : Hp) (E : Value -> Shared -> Prop), Inv X pins σ H s -> (∀ b ∈ fp, FpOk X pins H b) -> tn i s.heap -> J.stop i H ->
  wpAny (model P w) X.A (pyNext (.ref it)) (fun r s1 => r = none /\ Inv X pins σ H s1) E s
 self : ∀ (A : Around) (i : Nat) (s : Shared) (Q : Value -> Shared -> Prop) (E : Value -> Shared -> Prop), tn i s.heap -> Q (.ref it) s -> wpAny (model P w) A (pyIter (.ref it)) Q E s
noncomputable abbrev TI := St -> Hp -> (It -> Hp -> Prop) -> Prop
noncomputable def PIE (X : Cx) (pins : List (Addr × Obj)) (σ : St) (tg : Expr) (R : It -> Hp -> Prop) (itv : Value) (s2 : Shared) : Prop :=
 ∃ (it : Addr) (fp : List Addr) (tn : Nat -> Heap -> Prop) (J : It) (H' : Hp), itv = .ref it /\ Inv X pins σ H' s2 /\ Turn X.prog X.w X.K tg J fp it tn /\ tn 0 s2.heap /\ (∀ b ∈ fp, FpOk X pins H' b) /\ R J H'
noncomputable def PI (X : Cx) (tg iter : Expr) (wi : TI) : Prop :=
 ∀ (pins : List (Addr × Obj)) (s : Shared) (σ : St) (H : Hp) (R : It -> Hp -> Prop), Inv X pins σ H s -> wi σ H R ->
  wpAny (model X.prog X.w) X.A (eval iter X.env) (fun v s1 => wpAny (model X.prog X.w) X.A (pyIter v) (PIE X pins σ tg R) X.xe s1) X.xe s
theorem go_of {M : Model} {A : Around} {E : Value -> Shared -> Prop} {s : Shared} {tg : Expr} {it : Addr} {u : Value} {o : Obj} {n : String} {vs : Array Value} {Q : Unit -> Shared -> Prop} (ho : s.heap.get? it = some o) (hc : o.cls = .type n) (hd : o.data = .fields vs)
    (hn : ["enumerate", "zip", "dict_itemiterator", "dict_reverseitemiterator", "odict_iterator", "itertools.zip_longest", "itertools.pairwise"].contains n = false) (hQ : Q () s) : wpAny M A (letOwnedTupleGo tg (.ref it) u) Q E s := by
  unfold letOwnedTupleGo
  cases tg <;> first
    | exact wpAny_pure hQ
    | (cases u <;> first
        | exact wpAny_pure hQ
        | (refine wpAny_bind (wpAny_load ho ?_)
           rw [hc, hd]
           show wpAny M A (if (["enumerate", "zip", "dict_itemiterator", "dict_reverseitemiterator", "odict_iterator", "itertools.zip_longest", "itertools.pairwise"].contains n && vs[0]? == some (rawInt _)) = true then _ else _) Q E s
           rw [if_neg (by intro h; rw [hn, Bool.false_and] at h; cases h)]
           exact wpAny_pure hQ))
noncomputable def Itl (K : PySem.W.Frag) (a : Addr) : It :=
 ⟨fun i H => ∃ xs x, SqL K H a xs /\ xs[i]? = some x, fun i H x H' => H' = H /\ ∀ xs, SqL K H a xs -> xs[i]? = some x, fun i H => ∃ xs, SqL K H a xs /\ xs.length <= i⟩
noncomputable def Itt (K : PySem.W.Frag) (a : Addr) : It :=
 ⟨fun i H => ∃ xs x, SqT K H a xs /\ xs[i]? = some x, fun i H x H' => H' = H /\ ∀ xs, SqT K H a xs -> xs[i]? = some x, fun i H => ∃ xs, SqT K H a xs /\ xs.length <= i⟩
noncomputable def Itr (lo : Int) (n : Nat) : It := ⟨fun i _ => i < n, fun i H x H' => H' = H /\ x = .int (lo + i), fun i _ => n <= i⟩
theorem turn_list {P : Program} {w : World} {K : PySem.W.Frag} {tg : Expr} (a it : Addr) : Turn P w K tg (Itl K a) [it] it (fun i h => h.IsListIter it a i) where
 mem := by simp
 obj := fun i h st b hb => by
  have e : b = it := by simpa using hb
  subst e
  obtain ⟨o, e, c, d⟩ := st
  exact ⟨o, e, fun v z => by rw [d] at z; cases z⟩
 keep := fun i h h' st k => st.at fun o e => k it (by simp) o e
 item := by
  intro X hP hw hK hc i pins s σ H E I hf st hg
  subst hP hw hK
  obtain ⟨xs, x, hq, hx⟩ := hg
  obtain ⟨its, rv, p, hz⟩ := I.list hq
  obtain ⟨u, hu, ru⟩ := rv.get hx
  obtain ⟨f0, f1, f2, f3, f4, f5⟩ := hf it (by simp)
  refine wpAny_pyNext_list_item st p.isList (x := u) (by simpa using hu) fun h' st' sb => ?_
  have I1 : Inv X pins σ H { s with heap := h' } := I.turned (t' := s.toks) (fun b o hb e => (sb.2 b hb).trans e) f0 f1 f3 f4 f5
  obtain ⟨o, e, c, d⟩ := id st'
  exact ⟨u, rfl, go_of (s := { s with heap := h' }) e c d (by decide) ⟨x, H, I1, ru, ⟨rfl, fun ys hy => by rw [I.list_inj hy hq]; exact hx⟩, st', fun b hb => (hf b hb).1⟩⟩
 done := by
  intro X hP hw hK hc i pins s σ H E I hf st hg
  subst hP hw hK
  obtain ⟨xs, hq, hx⟩ := hg
  obtain ⟨its, rv, p, hz⟩ := I.list hq
  obtain ⟨f0, f1, f2, f3, f4, f5⟩ := hf it (by simp)
  have hl := rv.length
  exact wpAny_pyNext_list_end (I.ok.hd hc) st p.isList (by simp; (first | lia | omega)) fun h' eb => ⟨rfl, I.turned (t' := s.toks) (fun b o hb e => eb b o hb e) f0 f1 f3 f4 f5⟩
 self := fun _ _ _ _ _ st h => wpAny_pyIter_listiter st h
theorem turn_tuple {P : Program} {w : World} {K : PySem.W.Frag} {tg : Expr} (a it : Addr) : Turn P w K tg (Itt K a) [it] it (fun i h => h.IsTupleIter it a i) where
 mem := by simp
 obj := fun i h st b hb => by
  have e : b = it := by simpa using hb
  subst e
  obtain ⟨o, e, c, d⟩ := st
  exact ⟨o, e, fun v z => by rw [d] at z; cases z⟩
 keep := fun i h h' st k => st.at fun o e => k it (by simp) o e
 item := by
  intro X hP hw hK hc i pins s σ H E I hf st hg
  subst hP hw hK
  obtain ⟨xs, x, hq, hx⟩ := hg
  obtain ⟨its, rv, p, hz⟩ := I.tuple hq
  obtain ⟨u, hu, ru⟩ := rv.get hx
  obtain ⟨f0, f1, f2, f3, f4, f5⟩ := hf it (by simp)
  refine wpAny_pyNext_tuple_item st (show s.heap.IsTuple a its.toArray from p) (x := u) (by simpa using hu) fun h' st' sb => ?_
  have I1 : Inv X pins σ H { s with heap := h' } := I.turned (t' := s.toks) (fun b o hb e => (sb.2 b hb).trans e) f0 f1 f3 f4 f5
  obtain ⟨o, e, c, d⟩ := id st'
  exact ⟨u, rfl, go_of (s := { s with heap := h' }) e c d (by decide) ⟨x, H, I1, ru, ⟨rfl, fun ys hy => by rw [I.tuple_inj hy hq]; exact hx⟩, st', fun b hb => (hf b hb).1⟩⟩
 done := by
  intro X hP hw hK hc i pins s σ H E I hf st hg
  subst hP hw hK
  obtain ⟨xs, hq, hx⟩ := hg
  obtain ⟨its, rv, p, hz⟩ := I.tuple hq
  obtain ⟨f0, f1, f2, f3, f4, f5⟩ := hf it (by simp)
  have hl := rv.length
  exact wpAny_pyNext_tuple_end (I.ok.hd hc) st (show s.heap.IsTuple a its.toArray from p) (by simp; (first | lia | omega)) fun h' eb => ⟨rfl, I.turned (t' := s.toks) (fun b o hb e => eb b o hb e) f0 f1 f3 f4 f5⟩
 self := fun _ _ _ _ _ st h => wpAny_pyIter_tupleiter st h
theorem turn_range {P : Program} {w : World} {K : PySem.W.Frag} {tg : Expr} (it : Addr) (lo : Int) (n : Nat) : Turn P w K tg (Itr lo n) [it] it (fun i h => IsRangeIter h it (lo + (i : Nat) * 1) ((n : Int) - (i : Nat)) 1) where
 mem := by simp
 obj := fun i h st b hb => by
  have e : b = it := by simpa using hb
  subst e
  exact ⟨_, st, fun v z => by
   have z' : Data.fields _ = Data.cell v := z
   cases z'⟩
 keep := fun i h h' st k => k it (by simp) _ st
 item := by
  intro X hP hw hK hc i pins s σ H E I hf st hg
  subst hP hw hK
  obtain ⟨f0, f1, f2, f3, f4, f5⟩ := hf it (by simp)
  have W := Walks.range (prog := X.prog) (w := X.w) (I.ok.hd hc) it lo 1 n
  refine W.item i s _ _ hg st fun v h' tk hv st' kk => ?_
  obtain ⟨t, rfl⟩ := hv
  have I1 : Inv X pins σ H { s with heap := h', toks := tk } := I.turned (fun b o hb e => kk b o (by simpa using hb) e) f0 f1 f3 f4 f5
  refine ⟨_, rfl, go_of (s := { s with heap := h', toks := tk }) (n := "range_iterator") st' rfl rfl (by decide) ⟨.int (lo + i), H, I1, ⟨t, ?_⟩, ⟨rfl, rfl⟩, st', fun b hb => (hf b hb).1⟩⟩
  rw [Int.mul_one]
 done := by
  intro X hP hw hK hc i pins s σ H E I hf st hg
  subst hP hw hK
  obtain ⟨f0, f1, f2, f3, f4, f5⟩ := hf it (by simp)
  exact wpAny_pyNext_range_end (I.ok.hd hc) st (by have : n <= i := hg; (first | lia | omega)) fun h' eb => ⟨rfl, I.turned (t' := s.toks) (fun b o hb e => eb b o hb e) f0 f1 f3 f4 f5⟩
 self := fun _ _ _ _ _ st h => wpAny_pyIter_rangeiter st h
end L2
namespace L2
open PySem PySem.Spec PyProof.Rows
section
variable {X : Cx} {tg : Expr}
noncomputable def iList (K : PySem.W.Frag) (tl : TE) : TI := fun σ H R => tl σ H fun x H1 => ∃ a, x = .ref a /\ (∃ xs, SqL K H1 a xs) /\ R (Itl K a) H1
noncomputable def iTup (K : PySem.W.Frag) (tl : TE) : TI := fun σ H R => tl σ H fun x H1 => ∃ a, x = .ref a /\ (∃ xs, SqT K H1 a xs) /\ R (Itt K a) H1
theorem pi_list {l : Expr} {tl : TE} (hl : PE X l tl) : PI X tg l (iList X.K tl) := by
 intro pins s σ H R I h
 refine thn (hl pins s σ H _ I h) fun v s1 ⟨x, H1, I1, r1, q1⟩ => ?_
 obtain ⟨a, e, ⟨xs, hq⟩, q⟩ := q1
 subst e
 cases r1
 obtain ⟨its, rv, p, hz⟩ := I1.list hq
 refine wpAny_pyIter_list p.isList ?_
 refine ⟨s1.heap.objs.size, [s1.heap.objs.size], _, _, H1, rfl, I1.kept (t' := s1.toks) fun b o e => Heap.get?_push_of_some _ e, turn_list a _, ⟨_, Heap.get?_push_size _ rfl, rfl, rfl⟩, fun b hb => ?_, q⟩
 have e : b = s1.heap.objs.size := by simpa using hb
 subst e
 exact I1.fpOk (Nat.le_refl _) (I1.hok.fresh (Nat.le_refl _))
theorem pi_tup {l : Expr} {tl : TE} (hl : PE X l tl) : PI X tg l (iTup X.K tl) := by
 intro pins s σ H R I h
 refine thn (hl pins s σ H _ I h) fun v s1 ⟨x, H1, I1, r1, q1⟩ => ?_
 obtain ⟨a, e, ⟨xs, hq⟩, q⟩ := q1
 subst e
 cases r1
 obtain ⟨its, rv, p, hz⟩ := I1.tuple hq
 refine wpAny_pyIter_tuple (show s1.heap.IsTuple a its.toArray from p) ?_
 refine ⟨s1.heap.objs.size, [s1.heap.objs.size], _, _, H1, rfl, I1.kept (t' := s1.toks) fun b o e => Heap.get?_push_of_some _ e, turn_tuple a _, ⟨_, Heap.get?_push_size _ rfl, rfl, rfl⟩, fun b hb => ?_, q⟩
 have e : b = s1.heap.objs.size := by simpa using hb
 subst e
 exact I1.fpOk (Nat.le_refl _) (I1.hok.fresh (Nat.le_refl _))
theorem range_it {pins : List (Addr × Obj)} {σ : St} {H : Hp} {s : Shared} {R : It -> Hp -> Prop} {E : Value -> Shared -> Prop} {lo hi : Int} {t u v : Tok} {tk : Nat} (I : Inv X pins σ H s) (h1 : -(2 ^ 62) <= lo) (h2 : lo < 2 ^ 62) (h3 : -(2 ^ 62) <= hi) (h4 : hi < 2 ^ 62)
  (q : R (Itr lo (hi - lo).toNat) H) : wpAny (model X.prog X.w) X.A (pyIter (.ref s.heap.objs.size)) (PIE X pins σ tg R) E { s with heap := s.heap.push { cls := .type "range", data := .fields #[.int lo t, .int hi u, .int 1 v] }, toks := tk } := by
 refine wpAny_pyIter_range (IsRange.new ..) (small_one h1 h2 h3 h4) ?_
 have I1 : Inv X pins σ H { s with heap := s.heap.push { cls := .type "range", data := .fields #[.int lo t, .int hi u, .int 1 v] }, toks := tk } := I.kept fun b o e => Heap.get?_push_of_some _ e
 refine ⟨(s.heap.push { cls := .type "range", data := .fields #[.int lo t, .int hi u, .int 1 v] }).objs.size, [(s.heap.push { cls := .type "range", data := .fields #[.int lo t, .int hi u, .int 1 v] }).objs.size], _, _, H, rfl,
  I1.kept (t' := tk) fun b o e => Heap.get?_push_of_some _ e, turn_range _ lo (hi - lo).toNat, ?_, fun b hb => ?_, q⟩
 ·have e1 : lo + ((0 : Nat) : Int) * 1 = lo := by simp
  have e2 : (((hi - lo).toNat : Nat) : Int) - ((0 : Nat) : Int) = Builtin.Range.rangeSize lo hi 1 := by rw [rangeSize_one]; split <;> (first | lia | omega)
  show IsRangeIter _ _ (lo + ((0 : Nat) : Int) * 1) ((((hi - lo).toNat : Nat) : Int) - ((0 : Nat) : Int)) 1
  rw [e1, e2]
  exact Heap.get?_push_size _ rfl
 ·have e : b = (s.heap.push { cls := .type "range", data := .fields #[.int lo t, .int hi u, .int 1 v] }).objs.size := by simpa using hb
  subst e
  exact I1.fpOk (Nat.le_refl _) (I1.hok.fresh (Nat.le_refl _))
noncomputable def iRng1 (ta : TA) : TI := fun σ H R => ta σ H fun vs H1 => ∃ j : Int, vs = [.int j] /\ -(2 ^ 62) <= j /\ j < 2 ^ 62 /\ R (Itr 0 j.toNat) H1
theorem pi_range1 {a : Expr} {ta : TA} {p pos : Pos} (hg : Gl X "range") (hm : X.mg "range" = none) (ha : PA X [a] ta) (hs : starEach [a] X.env = [(false, eval a X.env)] := by rfl) : PI X tg (.Call (.Name "range" p) [a] [] pos) (iRng1 ta) := by
 intro pins s σ H R I h
 refine Call_ (ld_blt I hg hm boot_range (PyProof.Rows.callWith_type1 (thn (ha pos pins s σ H _ I h) fun us s1 ⟨vs, H1, I1, r1, q1⟩ => ?_) hs rfl))
 obtain ⟨j, e, q1, q2, q⟩ := q1
 subst e
 cases r1 with
 | cons r rr =>
  cases rr
  obtain ⟨t, rfl⟩ := r
  exact call_range_1 (range_it I1 (by (first | lia | omega)) (by (first | lia | omega)) q1 q2 (by simpa using q))
noncomputable def tFor (wi : TI) (g : TG) (tb : TS) : TS := fun D σ H => wi σ H fun J H1 => ∃ W : Nat -> Nat -> St -> Hp -> Prop, (∃ m, W 0 m σ H1) /\ ∀ i m σ H, W i m σ H ->
 (J.stop i H /\ D.nx σ H) ∨ (J.go i H /\ ∃ N : St -> Hp -> Prop, (∀ σ' H', N σ' H' -> ∃ m', m' < m /\ W (i + 1) m' σ' H') /\ ∀ x H', J.yld i H x H' -> g x σ H' fun σ2 H2 => tb { D with nx := N, ct := N, bk := D.nx } σ2 H2)
noncomputable def pinsAt (fp : List Addr) (h : Heap) : List (Addr × Obj) := fp.filterMap fun b => (h.get? b).map fun o => (b, o)
theorem mem_pinsAt {fp : List Addr} {h : Heap} {b : Addr} {o : Obj} (hb : b ∈ fp) (e : h.get? b = some o) : (b, o) ∈ pinsAt fp h := List.mem_filterMap.mpr ⟨b, hb, by rw [e]; rfl⟩
theorem of_pinsAt {fp : List Addr} {h : Heap} {p : Addr × Obj} (hp : p ∈ pinsAt fp h) : p.1 ∈ fp /\ h.get? p.1 = some p.2 := by
 obtain ⟨b, hb, e⟩ := List.mem_filterMap.mp hp
 cases q : h.get? b with
 | none => rw [q] at e; cases e
 | some o =>
  rw [q] at e
  have e' : (b, o) = p := Option.some.inj e
  subst e'
  exact ⟨hb, q⟩
theorem Inv.pinned {pins : List (Addr × Obj)} {σ : St} {H : Hp} {s : Shared} {fp : List Addr} (I : Inv X pins σ H s) (hf : ∀ b ∈ fp, FpOk X pins H b) (ho : ∀ b ∈ fp, ∃ o, s.heap.get? b = some o /\ ∀ v, o.data ≠ .cell v) : Inv X (pins ++ pinsAt fp s.heap) σ H s :=
 I.pins_of fun p hp => (List.mem_append.mp hp).elim (fun z => I.pin p (List.mem_append_right _ z)) fun z => by
  obtain ⟨hb, e⟩ := of_pinsAt z
  obtain ⟨f0, f1, f2, _⟩ := hf p.1 hb
  obtain ⟨o, e', d⟩ := ho p.1 hb
  rw [e] at e'; cases e'
  exact ⟨e, f0, f1, f2, d⟩
theorem Inv.unpinned {pins pl : List (Addr × Obj)} {σ : St} {H : Hp} {s : Shared} (I : Inv X (pins ++ pl) σ H s) : Inv X pins σ H s := I.pins_of fun p hp => I.pin p (List.mem_append_right _ (List.mem_append_left _ hp))
theorem ps_for {iter : Expr} {body : List Stmt} {wi : TI} {g : TG} {tb : TS} {pos : Pos} (hp : PassesOwn (model X.prog X.w) X.A X.env X.xe) (hc : X.calm = true) (hi : PI X tg iter wi) (hg : PG X tg g) (hb : PSs X body tb)
  (hs : ∀ x, foldedSetIterable iter X.env x = pure x := by intro _; rfl) : PS X (.For tg iter body [] pos) (tFor wi g tb) := by
 intro pins s σ H D I h
 refine wpAny_For (thn (hi pins s σ H _ I h) fun v s1 h1 => thn h1 fun itv s2 h2 => ?_) hs
 obtain ⟨it, fp, tn, J, H2, e, I2, T, st2, f2, W, ⟨m0, w0⟩, turn⟩ := h2
 subst e
 have stat : ∀ {H' : Hp}, (∀ b ∈ fp, H' b = none) -> ∀ b ∈ fp, FpOk X pins H' b := fun hn b hb => ⟨hn b hb, (f2 b hb).2⟩
 refine codeAny_forLoop_any (fun n s' => ∃ i σ' H', Inv X pins σ' H' s' /\ tn i s'.heap /\ (∀ b ∈ fp, H' b = none) /\ W i n σ' H') ?_ m0 ⟨0, σ, H2, I2, st2, fun b hb => (f2 b hb).1, w0⟩
 rintro n s3 ⟨i, σ3, H3, I3, st3, fr3, w3⟩
 rcases turn i n σ3 H3 w3 with ⟨stop, qn⟩ | ⟨go, N, hN, step⟩
 ·refine wpAny_passesOwn hp (thn (T.done X rfl rfl rfl hc i pins s3 σ3 H3 X.xe I3 (stat fr3) st3 stop) fun r s4 ⟨hr, I4⟩ => ?_)
  subst hr
  exact wpAny_execs_nil ⟨σ3, H3, I4, qn⟩
 ·refine wpAny_passesOwn hp (thn (T.item X rfl rfl rfl hc i pins s3 σ3 H3 X.xe I3 (stat fr3) st3 go) fun r s4 ⟨u, hr, h4⟩ => ?_)
  subst hr
  refine wpAny_passesOwn hp (thn h4 fun _ s5 ⟨x, H5, I5, r5, y5, st5, fr5⟩ => ?_)
  have I5' := I5.pinned (stat fr5) (T.obj _ _ st5)
  refine wpAny_passesOwn hp (thn (hg _ s5 σ3 H5 x u _ I5' r5 (step x H5 y5)) fun _ s6 ⟨σ6, H6, I6, q6⟩ => ?_)
  refine wpAny_passesOwn hp (thn (hb _ s6 σ6 H6 _ I6 q6) fun f s7 q7 => ?_)
  have again : ∀ {σ7 : St} {H7 : Hp}, Inv X (pins ++ pinsAt fp s5.heap) σ7 H7 s7 -> N σ7 H7 -> ∃ m, m < n /\ ∃ i σ' H', Inv X pins σ' H' s7 /\ tn i s7.heap /\ (∀ b ∈ fp, H' b = none) /\ W i m σ' H' := fun {σ7 H7} I7 n7 => by
   obtain ⟨m', hm, w7⟩ := hN σ7 H7 n7
   refine ⟨m', hm, i + 1, σ7, H7, I7.unpinned, T.keep _ _ _ st5 fun b hb o e => (I7.pin (b, o) (List.mem_append_right _ (List.mem_append_right _ (mem_pinsAt hb e)))).1, fun b hb => ?_, w7⟩
   obtain ⟨o, e, d⟩ := T.obj _ _ st5 b hb
   exact (I7.pin (b, o) (List.mem_append_right _ (List.mem_append_right _ (mem_pinsAt hb e)))).2.1
  cases f with
  | next => obtain ⟨σ7, H7, I7, n7⟩ := q7; exact again I7 n7
  | cont => obtain ⟨σ7, H7, I7, n7⟩ := q7; exact again I7 n7
  | brk => obtain ⟨σ7, H7, I7, q7⟩ := q7; exact ⟨σ7, H7, I7.unpinned, q7⟩
  | ret v => obtain ⟨x7, σ7, H7, I7, r7, q7⟩ := q7; exact ⟨x7, σ7, H7, I7.unpinned, r7, q7⟩
end
theorem for_list {K : PySem.W.Frag} {a : Addr} {xs : List V} {g : TG} {tb : TS} {D : Ends} {σ : St} {H : Hp} (Pv : Nat -> St -> Hp -> Prop) (h0 : Pv 0 σ H) (hl : ∀ i σ H, i <= xs.length -> Pv i σ H -> SqL K H a xs)
  (hs : ∀ i x σ H, xs[i]? = some x -> Pv i σ H -> g x σ H fun σ2 H2 => tb { D with nx := Pv (i + 1), ct := Pv (i + 1), bk := D.nx } σ2 H2) (hd : ∀ σ H, Pv xs.length σ H -> D.nx σ H) :
  ∃ W : Nat -> Nat -> St -> Hp -> Prop, (∃ m, W 0 m σ H) /\ ∀ i m σ H, W i m σ H ->
   ((Itl K a).stop i H /\ D.nx σ H) ∨ ((Itl K a).go i H /\ ∃ N : St -> Hp -> Prop, (∀ σ' H', N σ' H' -> ∃ m', m' < m /\ W (i + 1) m' σ' H') /\ ∀ x H', (Itl K a).yld i H x H' -> g x σ H' fun σ2 H2 => tb { D with nx := N, ct := N, bk := D.nx } σ2 H2) := by
 refine ⟨fun i m σ H => m = xs.length - i /\ i <= xs.length /\ Pv i σ H, ⟨xs.length, by simp, Nat.zero_le _, h0⟩, ?_⟩
 rintro i m σ H ⟨rfl, hi, p⟩
 have q := hl i σ H hi p
 by_cases hlt : i < xs.length
 ·refine .inr ⟨⟨xs, xs[i], q, by simp [hlt]⟩, Pv (i + 1), fun σ' H' p' => ⟨xs.length - (i + 1), by (first | lia | omega), rfl, hlt, p'⟩, fun x H' y => ?_⟩
  obtain ⟨e, y⟩ := y
  subst e
  exact hs i x σ _ (y xs q) p
 ·have e : i = xs.length := by (first | lia | omega)
  subst e
  exact .inl ⟨⟨xs, q, Nat.le_refl _⟩, hd σ H p⟩
theorem for_tup {K : PySem.W.Frag} {a : Addr} {xs : List V} {g : TG} {tb : TS} {D : Ends} {σ : St} {H : Hp} (Pv : Nat -> St -> Hp -> Prop) (h0 : Pv 0 σ H) (hl : ∀ i σ H, i <= xs.length -> Pv i σ H -> SqT K H a xs)
  (hs : ∀ i x σ H, xs[i]? = some x -> Pv i σ H -> g x σ H fun σ2 H2 => tb { D with nx := Pv (i + 1), ct := Pv (i + 1), bk := D.nx } σ2 H2) (hd : ∀ σ H, Pv xs.length σ H -> D.nx σ H) :
  ∃ W : Nat -> Nat -> St -> Hp -> Prop, (∃ m, W 0 m σ H) /\ ∀ i m σ H, W i m σ H ->
   ((Itt K a).stop i H /\ D.nx σ H) ∨ ((Itt K a).go i H /\ ∃ N : St -> Hp -> Prop, (∀ σ' H', N σ' H' -> ∃ m', m' < m /\ W (i + 1) m' σ' H') /\ ∀ x H', (Itt K a).yld i H x H' -> g x σ H' fun σ2 H2 => tb { D with nx := N, ct := N, bk := D.nx } σ2 H2) := by
 refine ⟨fun i m σ H => m = xs.length - i /\ i <= xs.length /\ Pv i σ H, ⟨xs.length, by simp, Nat.zero_le _, h0⟩, ?_⟩
 rintro i m σ H ⟨rfl, hi, p⟩
 have q := hl i σ H hi p
 by_cases hlt : i < xs.length
 ·refine .inr ⟨⟨xs, xs[i], q, by simp [hlt]⟩, Pv (i + 1), fun σ' H' p' => ⟨xs.length - (i + 1), by (first | lia | omega), rfl, hlt, p'⟩, fun x H' y => ?_⟩
  obtain ⟨e, y⟩ := y
  subst e
  exact hs i x σ _ (y xs q) p
 ·have e : i = xs.length := by (first | lia | omega)
  subst e
  exact .inl ⟨⟨xs, q, Nat.le_refl _⟩, hd σ H p⟩
theorem for_range {lo : Int} {n : Nat} {g : TG} {tb : TS} {D : Ends} {σ : St} {H : Hp} (Pv : Nat -> St -> Hp -> Prop) (h0 : Pv 0 σ H)
  (hs : ∀ i σ H, i < n -> Pv i σ H -> g (.int (lo + i)) σ H fun σ2 H2 => tb { D with nx := Pv (i + 1), ct := Pv (i + 1), bk := D.nx } σ2 H2) (hd : ∀ σ H, Pv n σ H -> D.nx σ H) :
  ∃ W : Nat -> Nat -> St -> Hp -> Prop, (∃ m, W 0 m σ H) /\ ∀ i m σ H, W i m σ H ->
   ((Itr lo n).stop i H /\ D.nx σ H) ∨ ((Itr lo n).go i H /\ ∃ N : St -> Hp -> Prop, (∀ σ' H', N σ' H' -> ∃ m', m' < m /\ W (i + 1) m' σ' H') /\ ∀ x H', (Itr lo n).yld i H x H' -> g x σ H' fun σ2 H2 => tb { D with nx := N, ct := N, bk := D.nx } σ2 H2) := by
 refine ⟨fun i m σ H => m = n - i /\ i <= n /\ Pv i σ H, ⟨n, by simp, Nat.zero_le _, h0⟩, ?_⟩
 rintro i m σ H ⟨rfl, hi, p⟩
 by_cases hlt : i < n
 ·refine .inr ⟨hlt, Pv (i + 1), fun σ' H' p' => ⟨n - (i + 1), by (first | lia | omega), rfl, hlt, p'⟩, fun x H' y => ?_⟩
  obtain ⟨e, y⟩ := y
  subst e y
  exact hs i σ _ hlt p
 ·have e : i = n := by (first | lia | omega)
  subst e
  exact .inl ⟨Nat.le_refl _, hd σ H p⟩
end L2
namespace L2
open PySem PySem.Spec PyProof.Rows
noncomputable abbrev R2 := V -> V -> Hp -> VK -> Prop
noncomputable def OpR (X : Cx) (f : Value -> Value -> Sem Value) (r : R2) : Prop :=
 ∀ (pins : List (Addr × Obj)) (s : Shared) (σ : St) (H : Hp) (x y : V) (v u : Value) (Q : VK), Inv X pins σ H s -> RelV x v -> RelV y u -> r x y H Q ->
  wpAny (model X.prog X.w) X.A (f v u) (EP X pins σ Q) X.xe s
noncomputable def UnR (X : Cx) (f : Value -> Sem Value) (r : V -> Hp -> VK -> Prop) : Prop :=
 ∀ (pins : List (Addr × Obj)) (s : Shared) (σ : St) (H : Hp) (x : V) (v : Value) (Q : VK), Inv X pins σ H s -> RelV x v -> r x H Q ->
  wpAny (model X.prog X.w) X.A (f v) (EP X pins σ Q) X.xe s
noncomputable def CallR (X : Cx) (f : Value) (r : List V -> Hp -> VK -> Prop) : Prop :=
 ∀ (pins : List (Addr × Obj)) (s : Shared) (σ : St) (H : Hp) (xs : List V) (us : List Value) (Q : VK), Inv X pins σ H s -> Vals xs us -> r xs H Q ->
  wpAny (model X.prog X.w) X.A (call f us) (EP X pins σ Q) X.xe s
noncomputable def tOp (r : R2) (ta tb : TE) : TE := fun σ H Q => ta σ H fun x H1 => tb σ H1 fun y H2 => r x y H2 Q
noncomputable def tUn (r : V -> Hp -> VK -> Prop) (ta : TE) : TE := fun σ H Q => ta σ H fun x H1 => r x H1 Q
noncomputable def rI (C : Int -> Int -> Prop) (g : Int -> Int -> V) : R2 := fun x y H Q => ∃ i j, x = .int i /\ y = .int j /\ C i j /\ Q (g i j) H
noncomputable def rI0 (g : Int -> Int -> V) : R2 := fun x y H Q => ∃ i j, x = .int i /\ y = .int j /\ Q (g i j) H
noncomputable def rU (g : Int -> V) : V -> Hp -> VK -> Prop := fun x H Q => ∃ i, x = .int i /\ Q (g i) H
section
variable {X : Cx} {a b c : Expr} {ta tb tc : TE} {pos : Pos}
theorem binT (ha : PE X a ta) (hb : PE X b tb) {pins : List (Addr × Obj)} {s : Shared} {σ : St} {H : Hp} {R : V -> V -> Hp -> Prop} (I : Inv X pins σ H s)
  (h : ta σ H fun x H1 => tb σ H1 fun y H2 => R x y H2) {Q : Value -> Shared -> Prop} {f : Value -> Value -> Sem Value}
  (hf : ∀ v u s2 x y H2, Inv X pins σ H2 s2 -> RelV x v -> RelV y u -> R x y H2 -> wpAny (model X.prog X.w) X.A (f v u) Q X.xe s2) :
  wpAny (model X.prog X.w) X.A (eval a X.env) (fun v s₁ => wpAny (model X.prog X.w) X.A (eval b X.env) (fun u s₂ => wpAny (model X.prog X.w) X.A (f v u) Q X.xe s₂) X.xe s₁) X.xe s := by
 refine thn (ha pins s σ H _ I h) fun v s1 ⟨x, H1, I1, r1, q1⟩ => ?_
 refine thn (hb pins s1 σ H1 _ I1 q1) fun u s2 ⟨y, H2, I2, r2, q2⟩ => ?_
 exact hf v u s2 x y H2 I2 r1 r2 q2
theorem pe_op {op : Operator} {r : R2} (ho : OpR X (binaryOp op) r) (ha : PE X a ta) (hb : PE X b tb) : PE X (.BinOp a op b pos) (tOp r ta tb) := by
 intro pins s σ H Q I h
 exact wpAny_BinOp (binT ha hb I h fun v u s2 x y H2 I2 rx ry q => ho pins s2 σ H2 x y v u Q I2 rx ry q)
theorem pe_un {op : UnaryOp} {r : V -> Hp -> VK -> Prop} (ho : UnR X (unaryOp op) r) (ha : PE X a ta) : PE X (.UnaryOp op a pos) (tUn r ta) := by
 intro pins s σ H Q I h
 exact UnaryOp_ (thn (ha pins s σ H _ I h) fun v s1 ⟨x, H1, I1, r1, q1⟩ => ho pins s1 σ H1 x v Q I1 r1 q1)
theorem opI {f : Value -> Value -> Sem Value} {C : Int -> Int -> Prop} {g : Int -> Int -> Int}
  (rule : ∀ (i j : Int) (t u : Tok) (s : Shared) (Q : Value -> Shared -> Prop) (E : Value -> Shared -> Prop), C i j -> Q (.int (g i j) s.toks) { s with toks := s.toks + 1 } -> wpAny (model X.prog X.w) X.A (f (.int i t) (.int j u)) Q E s) :
  OpR X f (rI C fun i j => .int (g i j)) := by
 intro pins s σ H x y v u Q I rx ry h
 obtain ⟨i, j, rfl, rfl, hc, q⟩ := h
 obtain ⟨t, rfl⟩ := rx
 obtain ⟨t', rfl⟩ := ry
 exact rule i j t t' s _ _ hc ⟨.int (g i j), H, I.tok _, ⟨_, rfl⟩, q⟩
theorem opI0 {f : Value -> Value -> Sem Value} {g : Int -> Int -> Int}
  (rule : ∀ (i j : Int) (t u : Tok) (s : Shared) (Q : Value -> Shared -> Prop) (E : Value -> Shared -> Prop), Q (.int (g i j) s.toks) { s with toks := s.toks + 1 } -> wpAny (model X.prog X.w) X.A (f (.int i t) (.int j u)) Q E s) :
  OpR X f (rI0 fun i j => .int (g i j)) := by
 intro pins s σ H x y v u Q I rx ry h
 obtain ⟨i, j, rfl, rfl, q⟩ := h
 obtain ⟨t, rfl⟩ := rx
 obtain ⟨t', rfl⟩ := ry
 exact rule i j t t' s _ _ ⟨.int (g i j), H, I.tok _, ⟨_, rfl⟩, q⟩
theorem opB0 {f : Value -> Value -> Sem Value} {g : Int -> Int -> Bool}
  (rule : ∀ (i j : Int) (t u : Tok) (s : Shared) (Q : Value -> Shared -> Prop) (E : Value -> Shared -> Prop), Q (.bool (g i j)) s -> wpAny (model X.prog X.w) X.A (f (.int i t) (.int j u)) Q E s) :
  OpR X f (rI0 fun i j => .bl (g i j)) := by
 intro pins s σ H x y v u Q I rx ry h
 obtain ⟨i, j, rfl, rfl, q⟩ := h
 obtain ⟨t, rfl⟩ := rx
 obtain ⟨t', rfl⟩ := ry
 exact rule i j t t' s _ _ ⟨.bl (g i j), H, I, rfl, q⟩
noncomputable def CDiv (i j : Int) : Prop := 0 < j /\ j < 1073741824
noncomputable def CPow (i j : Int) : Prop := 0 <= j /\ j <= 1000000 /\ i.natAbs < 2 ^ 64
noncomputable def CMul (i j : Int) : Prop := (-(2 ^ 64) < i /\ i < 2 ^ 64) ∨ (-(2 ^ 64) < j /\ j < 2 ^ 64)
theorem CMul.ok {i j : Int} (h : CMul i j) : IntMulOk i j := by
 rcases h with ⟨h1, h2⟩ | ⟨h1, h2⟩
 ·exact .of_left (intBits_le_64 h1 h2)
 ·exact .of_right (intBits_le_64 h1 h2)
theorem op_add : OpR X (binaryOp .Add) (rI0 fun i j => .int (i + j)) := opI0 fun _ _ _ _ _ _ _ q => add_int q
theorem op_sub : OpR X (binaryOp .Sub) (rI0 fun i j => .int (i - j)) := opI0 fun _ _ _ _ _ _ _ q => sub_int q
theorem op_mul : OpR X (binaryOp .Mult) (rI CMul fun i j => .int (i * j)) := opI fun _ _ _ _ _ _ _ hc q => mul_int q hc.ok
theorem op_fdiv : OpR X (binaryOp .FloorDiv) (rI CDiv fun i j => .int (i / j)) := opI fun i j _ _ _ _ _ hc q => by
 have h1 : (0 : Int) < j := hc.1
 have h2 : j < 1073741824 := hc.2
 exact floordiv_int (by (first | lia | omega)) (by rw [Int.fdiv_eq_ediv_of_nonneg i (by (first | lia | omega))]; exact q) (.inl (PyProof.noPylong_small (by (first | lia | omega))))
theorem op_mod : OpR X (binaryOp .Mod) (rI (fun _ j => 0 < j) fun i j => .int (i % j)) := opI fun i j _ _ _ _ _ hc q => by
 have h1 : (0 : Int) < j := hc
 exact mod_int' (by (first | lia | omega)) (by rw [Int.fmod_eq_emod_of_nonneg i (by (first | lia | omega))]; exact q)
theorem op_pow : OpR X (binaryOp .Pow) (rI CPow fun i j => .int (i ^ j.toNat)) := opI fun _ _ _ _ _ _ _ hc q => pow_int_small hc.1 hc.2.1 hc.2.2 q
theorem unI {f : Value -> Sem Value} {g : Int -> Int}
  (rule : ∀ (i : Int) (t : Tok) (s : Shared) (Q : Value -> Shared -> Prop) (E : Value -> Shared -> Prop), Q (.int (g i) s.toks) { s with toks := s.toks + 1 } -> wpAny (model X.prog X.w) X.A (f (.int i t)) Q E s) :
  UnR X f (rU fun i => .int (g i)) := by
 intro pins s σ H x v Q I rx h
 obtain ⟨i, rfl, q⟩ := h
 obtain ⟨t, rfl⟩ := rx
 exact rule i t s _ _ ⟨.int (g i), H, I.tok _, ⟨_, rfl⟩, q⟩
theorem un_neg : UnR X (unaryOp .USub) (rU fun i => .int (-i)) := unI fun _ _ _ _ _ q => neg_int q
end
noncomputable def scal : V -> V -> Bool
 | .non, .non => true | .non, .int _ => true | .int _, .non => true | .non, .bl _ => true | .bl _, .non => true | .non, .str _ => true | .str _, .non => true
 | .int _, .int _ => true | .bl _, .bl _ => true | .str _, .str _ => true | .byt _, .byt _ => true
 | .int _, .str _ => true | .str _, .int _ => true | .bl _, .str _ => true | .str _, .bl _ => true
 | _, _ => false
noncomputable def rEq : R2 := fun x y H Q => scal x y = true /\ Q (.bl (decide (x = y))) H
noncomputable def rNe : R2 := fun x y H Q => scal x y = true /\ Q (.bl (!decide (x = y))) H
theorem dec_int {i j : Int} : decide (V.int i = V.int j) = (i == j) := by
 rw [Bool.eq_iff_iff]
 simp
theorem dec_bl {i j : Bool} : decide (V.bl i = V.bl j) = (i == j) := by
 rw [Bool.eq_iff_iff]
 simp
theorem dec_str {i j : Str} : decide (V.str i = V.str j) = (i == j) := by
 rw [Bool.eq_iff_iff]
 simp
theorem dec_byt {i j : Array UInt8} : decide (V.byt i = V.byt j) = (i.toList == j.toList) := by
 rw [Bool.eq_iff_iff]
 cases i
 cases j
 simp
section
variable {X : Cx} {a b c : Expr} {ta tb tc : TE} {pos : Pos}
theorem fin_bl {pins : List (Addr × Obj)} {σ : St} {H : Hp} {s : Shared} {Q : VK} {k k' : Bool} (I : Inv X pins σ H s) (q : Q (.bl k) H) (e : k = k') : EP X pins σ Q (.bool k') s := by
 subst e
 exact ⟨.bl k, H, I, rfl, q⟩
theorem op_eq : OpR X (compareOp .Eq) rEq := by
 intro pins s σ H x y v u Q I rx ry h
 obtain ⟨hs, q⟩ := h
 cases x with
 | non =>
  cases rx
  cases y with
  | non => cases ry; exact PySem.EqNone.eq_none_none (fin_bl I q (by simp))
  | bl j => cases ry; exact PySem.EqNone.eq_none_bool (fin_bl I q (by simp))
  | int j => obtain ⟨t', rfl⟩ := ry; exact PySem.EqNone.eq_none_int (fin_bl I q (by simp))
  | str j => obtain ⟨t', rfl⟩ := ry; exact PySem.EqNone.eq_none_str (fin_bl I q (by simp))
  | _ => exact absurd (show false = true from hs) Bool.false_ne_true
 | bl i =>
  cases rx
  cases y with
  | non => cases ry; exact PySem.EqNone.eq_bool_none (fin_bl I q (by simp))
  | bl j => cases ry; exact eq_bool (fin_bl I q dec_bl)
  | str j => obtain ⟨t', rfl⟩ := ry; exact PySem.EqMixed.eq_bool_str (fin_bl I q (by simp))
  | _ => exact absurd (show false = true from hs) Bool.false_ne_true
 | int i =>
  obtain ⟨t, rfl⟩ := rx
  cases y with
  | non => cases ry; exact PySem.EqNone.eq_int_none (fin_bl I q (by simp))
  | int j => obtain ⟨t', rfl⟩ := ry; exact eq_int (fin_bl I q dec_int)
  | str j => obtain ⟨t', rfl⟩ := ry; exact PySem.EqMixed.eq_int_str (fin_bl I q (by simp))
  | _ => exact absurd (show false = true from hs) Bool.false_ne_true
 | str i =>
  obtain ⟨t, rfl⟩ := rx
  cases y with
  | non => cases ry; exact PySem.EqNone.eq_str_none (fin_bl I q (by simp))
  | bl j => cases ry; exact PySem.EqMixed.eq_str_bool (fin_bl I q (by simp))
  | int j => obtain ⟨t', rfl⟩ := ry; exact PySem.EqMixed.eq_str_int (fin_bl I q (by simp))
  | str j => obtain ⟨t', rfl⟩ := ry; exact eq_str (fin_bl I q dec_str)
  | _ => exact absurd (show false = true from hs) Bool.false_ne_true
 | byt i =>
  obtain ⟨t, rfl⟩ := rx
  cases y with
  | byt j => obtain ⟨t', rfl⟩ := ry; exact PySem.W.eq_bytes (fin_bl I q dec_byt)
  | _ => exact absurd (show false = true from hs) Bool.false_ne_true
 | _ => cases y <;> exact absurd (show false = true from hs) Bool.false_ne_true
theorem op_ne : OpR X (compareOp .NotEq) rNe := by
 intro pins s σ H x y v u Q I rx ry h
 obtain ⟨hs, q⟩ := h
 cases x with
 | non =>
  cases rx
  cases y with
  | non => cases ry; exact PySem.EqNone.ne_none_none (fin_bl I q (by simp))
  | bl j => cases ry; exact PySem.EqNone.ne_none_bool (fin_bl I q (by simp))
  | int j => obtain ⟨t', rfl⟩ := ry; exact PySem.EqNone.ne_none_int (fin_bl I q (by simp))
  | str j => obtain ⟨t', rfl⟩ := ry; exact PySem.EqNone.ne_none_str (fin_bl I q (by simp))
  | _ => exact absurd (show false = true from hs) Bool.false_ne_true
 | bl i =>
  cases rx
  cases y with
  | non => cases ry; exact PySem.EqNone.ne_bool_none (fin_bl I q (by simp))
  | bl j => cases ry; exact ne_bool (fin_bl I q (congrArg not dec_bl))
  | str j => obtain ⟨t', rfl⟩ := ry; exact PySem.EqMixed.ne_bool_str (fin_bl I q (by simp))
  | _ => exact absurd (show false = true from hs) Bool.false_ne_true
 | int i =>
  obtain ⟨t, rfl⟩ := rx
  cases y with
  | non => cases ry; exact PySem.EqNone.ne_int_none (fin_bl I q (by simp))
  | int j => obtain ⟨t', rfl⟩ := ry; exact ne_int (fin_bl I q (congrArg not dec_int))
  | str j => obtain ⟨t', rfl⟩ := ry; exact PySem.EqMixed.ne_int_str (fin_bl I q (by simp))
  | _ => exact absurd (show false = true from hs) Bool.false_ne_true
 | str i =>
  obtain ⟨t, rfl⟩ := rx
  cases y with
  | non => cases ry; exact PySem.EqNone.ne_str_none (fin_bl I q (by simp))
  | bl j => cases ry; exact PySem.EqMixed.ne_str_bool (fin_bl I q (by simp))
  | int j => obtain ⟨t', rfl⟩ := ry; exact PySem.EqMixed.ne_str_int (fin_bl I q (by simp))
  | str j => obtain ⟨t', rfl⟩ := ry; exact ne_str (fin_bl I q (congrArg not dec_str))
  | _ => exact absurd (show false = true from hs) Bool.false_ne_true
 | byt i =>
  obtain ⟨t, rfl⟩ := rx
  cases y with
  | byt j => obtain ⟨t', rfl⟩ := ry; exact PySem.W.ne_bytes (fin_bl I q (congrArg not dec_byt))
  | _ => exact absurd (show false = true from hs) Bool.false_ne_true
 | _ => cases y <;> exact absurd (show false = true from hs) Bool.false_ne_true
theorem op_lt : OpR X (compareOp .Lt) (rI0 fun i j => .bl (decide (i < j))) := opB0 fun _ _ _ _ _ _ _ q => lt_int q
theorem op_gt : OpR X (compareOp .Gt) (rI0 fun i j => .bl (decide (j < i))) := opB0 fun _ _ _ _ _ _ _ q => gt_int q
theorem op_ge : OpR X (compareOp .GtE) (rI0 fun i j => .bl (decide (j <= i))) := opB0 fun _ _ _ _ _ _ _ q => ge_int q
theorem nomark (b : Expr) {op : CmpOp} (h : op ≠ .In := by decide) (h2 : op ≠ .NotIn := by decide) : behindInMarks op b = false := by
 have e1 : (op == CmpOp.In) = false := by cases op <;> first | rfl | exact absurd rfl h
 have e2 : (op == CmpOp.NotIn) = false := by cases op <;> first | rfl | exact absurd rfl h2
 cases b <;> simp [behindInMarks, e1, e2]
theorem pe_cmpR {op : CmpOp} {r : R2} (ho : OpR X (compareOp op) r) (ha : PE X a ta) (hb : PE X b tb) (hm : behindInMarks op b = false) : PE X (.Compare a [op] [b] pos) (tOp r ta tb) := by
 intro pins s σ H Q I h
 exact wpAny_Compare1 (binT ha hb I h fun v u s2 x y H2 I2 rx ry q => ho pins s2 σ H2 x y v u Q I2 rx ry q) hm
noncomputable def tTest (t : TE) : TT := fun σ H Q => t σ H fun x H' => ∃ k, x = .bl k /\ Q k H'
theorem pt_cmpR {op : CmpOp} {r : R2} (ho : OpR X (compareOp op) r) (ha : PE X a ta) (hb : PE X b tb) (hm : behindInMarks op b = false) : PT X (.Compare a [op] [b] pos) (tTest (tOp r ta tb)) := by
 intro pins s σ H Q I h
 refine wpAny_isTrue_Compare1 (thn (ha pins s σ H _ I h) fun v s1 ⟨x, H1, I1, r1, q1⟩ => thn (hb pins s1 σ H1 _ I1 q1) fun u s2 ⟨y, H2, I2, r2, q2⟩ =>
  thn (ho pins s2 σ H2 x y v u _ I2 r1 r2 q2) fun c s3 ⟨z, H3, I3, r3, k, e, q3⟩ => ?_) hm
 subst e
 cases r3
 exact wpAny_truthy_bool ⟨H3, I3, q3⟩
theorem line63 : (sizeLine : Nat) < 2 ^ 63 := by rw [sizeLine_eq]; decide
theorem vals1 {x : V} {us : List Value} (r : Vals [x] us) : ∃ u, us = [u] /\ RelV x u := by
 cases r with
 | cons r1 r2 => cases r2; exact ⟨_, rfl, r1⟩
theorem vals2 {x y : V} {us : List Value} (r : Vals [x, y] us) : ∃ u w', us = [u, w'] /\ RelV x u /\ RelV y w' := by
 cases r with
 | cons r1 r2 =>
  cases r2 with
  | cons r3 r4 => cases r4; exact ⟨_, _, rfl, r1, r3⟩
theorem call_int1 : CallR X (.type "int") (fun xs H Q => (∃ i, xs = [.int i] /\ Q (.int i) H) ∨ ∃ k, xs = [.bl k] /\ Q (.int (if k then 1 else 0)) H) := by
 intro pins s σ H xs us Q I r h
 rcases h with ⟨i, rfl, q⟩ | ⟨k, rfl, q⟩
 ·obtain ⟨u, rfl, t, rfl⟩ := vals1 r
  exact call_int_int ⟨.int i, H, I, ⟨_, rfl⟩, q⟩
 ·obtain ⟨u, rfl, r1⟩ := vals1 r
  cases r1
  exact call_int_bool ⟨.int (if k then 1 else 0), H, I.tok _, ⟨_, rfl⟩, q⟩
end
end L2
namespace L2
open PySem PySem.Spec PyProof.Rows
structure ObjM (h : Heap) (x dx C : Addr) (mA : Str -> Option Value) : Prop where
 obj : h.get? x = some (PySem.W.instObj C dx)
 ns : h.Ns1 dx mA
 ne : dx ≠ x
theorem lookIn_ns {h : Heap} {dx : Addr} {mA : Str -> Option Value} (n : h.Ns1 dx mA) : ∃ od, h.get? dx = some od /\ ∀ name, PySem.W.lookIn name od = some (mA name) := by
 obtain ⟨o, es, ep, ho, hd, hk, _, hm⟩ := n
 refine ⟨o, ho, fun name => ?_⟩
 have e := hm name
 unfold nsFind findBy at e
 rw [<- Array.find?_toList] at e
 unfold PySem.W.lookIn
 rw [hd]
 dsimp only
 split
 ·rename_i y q
  rw [q] at e
  exact congrArg some e
 ·rename_i q
  rw [q] at e
  have a : es.toList.any (·.refKey) = false := by
   rw [List.any_eq_false]
   intro y hy
   obtain ⟨z, t, hkey⟩ := hk y (Array.mem_toList_iff.mp hy)
   simp [DictEntry.refKey, hkey]
  have a' : ¬ es.toList.any (·.refKey) = true := by rw [a]; exact Bool.false_ne_true
  rw [if_neg a']
  exact congrArg some e
theorem ObjM.look {h : Heap} {x dx C : Addr} {mA : Str -> Option Value} (I : ObjM h x dx C mA) : ∃ od, PySem.W.InstAt h x (PySem.W.instObj C dx) C (some od) /\ ∀ name, PySem.W.lookIn name od = some (mA name) :=
 let ⟨od, ho, hl⟩ := lookIn_ns I.ns
 ⟨od, ⟨I.obj, rfl, rfl, ho⟩, hl⟩
section
variable {prog : Program} {w : World} {A : Around} {E : Value -> Shared -> Prop} {s : Shared} {K : PySem.W.Frag} {x dx C f : Addr} {mA : Str -> Option Value} {name : Str} {v : Value}
end
theorem RelO.some_of {v : V} {o : Option Value} (r : RelO (some v) o) : ∃ u, o = some u /\ RelV v u := by
 cases o with
 | none => exact (show False from r).elim
 | some u => exact ⟨u, rfl, r⟩
section
variable {P : Program} {w : World} {H H' : Hp} {h h' : Heap} {a C dx : Addr} {fs fs' : List (Str × V)}
theorem ins_get (hok : HOk P w H h) (e : H a = some (.ins C dx fs)) : ∃ mA, ObjM h a dx C mA /\ (∀ f, RelO (fs.lookup f) (mA f)) /\ PySem.Within mA (fs.map (·.1)) /\ fs.length <= 1000 /\ H dx = some (.own a) := by
 obtain ⟨d, z, ne, ob, mA, n, r, q⟩ := (show ObjOk P w H h a (.ins C dx fs) from hok a _ e)
 exact ⟨mA, ⟨ob, n, ne⟩, r, q, z, d⟩
end
structure Cls (K : PySem.W.Frag) (C : Addr) : Prop where
 pg : PySem.W.plainGet K C Str.empty = true
 hd : PySem.W.hasDictIn K C = true
 po : PySem.W.plainOver K C = true
 sa : PySem.W.findIn K (.ref C) "__setattr__" = some (some (.builtin "object.__setattr__"))
theorem Cls.get {K : PySem.W.Frag} {C : Addr} (c : Cls K C) (f : Str) : PySem.W.plainGet K C f = true := c.pg
structure Con (K : PySem.W.Frag) (C : Addr) (f : Str) (v : V) (u : Value) : Prop where
 at_ : PySem.W.findIn K (.ref C) f = some (some u)
 rel : RelV v u
 get : PySem.W.specialIn K u "__get__" = some none
 cp : PySem.W.copiedNames.contains f = false
structure Meth (K : PySem.W.Frag) (C : Addr) (m : Str) (f : Addr) : Prop where
 at_ : PySem.W.findIn K (.ref C) m = some (some (.ref f))
 fn : PySem.W.isFn K (.ref f) = true
 kp : PySem.W.keepIn K (.ref f) = true
section
variable {X : Cx} {pins : List (Addr × Obj)} {σ : St} {H : Hp} {s : Shared} {a C dx : Addr} {fs : List (Str × V)} {f : Str} {v : V} {A : Around} {E : Value -> Shared -> Prop}
end
section
variable {X : Cx} {o e value : Expr} {f : Str} {pos pos' tpos : Pos} {ta tv : TE}
end
section
variable {X : Cx} {pins : List (Addr × Obj)} {σ : St} {H : Hp} {s : Shared} {A : Around} {E : Value -> Shared -> Prop} {Q : Value -> Shared -> Prop} {c : Value} {b : Bool}
inductive TyOf (K : PySem.W.Frag) (H : Hp) : V -> Value -> Prop where
 | non : TyOf K H .non (.type "NoneType")
 | bl (x : Bool) : TyOf K H (.bl x) (.type "bool")
 | int (i : Int) : TyOf K H (.int i) (.type "int")
 | str (x : Str) : TyOf K H (.str x) (.type "str")
 | flt (x : UInt64) : TyOf K H (.flt x) (.type "float")
 | lst {a : Addr} {xs : List V} (e : H a = some (.lst xs)) : TyOf K H (.ref a) (.type "list")
 | frz {a : Addr} {o : Obj} {xs : List V} (e : H a = some (.frz o (.lst xs))) : TyOf K H (.ref a) (.type "list")
 | tup {a : Addr} {xs : List V} (e : H a = some (.tup xs)) : TyOf K H (.ref a) (.type "tuple")
 | dK {a : Addr} {kvs : List (Key × V)} (e : H a = some (.dK kvs)) : TyOf K H (.ref a) (.type "dict")
 | dT {a : Addr} {kvs : List (List Key × V)} (e : H a = some (.dT kvs)) : TyOf K H (.ref a) (.type "dict")
 | ins {a C dx : Addr} {fs : List (Str × V)} (e : H a = some (.ins C dx fs)) (cl : Cls K C) (ha : PySem.W.findIn K (.ref C) "__class__" = some (some (.builtin "object.__class__")))
   (hn : PySem.W.specialIn K (.builtin "object.__class__") "__get__" = some (some (.builtin "getset_descriptor.__get__"))) (htk : PySem.W.takesIn K (.builtin "object.__class__") = some true)
   (hm : PySem.W.mroIn K C (.type "object") = some true) : TyOf K H (.ref a) (.ref C)
theorem isinst_ok {x : V} {u t : Value} (I : Inv X pins σ H s) (rx : RelV x u) (ty : TyOf X.K H x t) (e : PySem.W.kitOne X.K t c = some b) (h : ∀ tk, Q (.bool b) { s with toks := tk }) :
  wpAny (model X.prog X.w) A (call (.builtin "isinstance") [u, c]) Q E s := by
 cases ty with
 | non => cases (show u = Value.none from rx); exact PySem.W.kia_one PySem.W.kitx_none I.kIn True.intro e (fun z => nomatch z) h
 | bl y => cases (show u = Value.bool y from rx); exact PySem.W.kia_one PySem.W.kitx_bool I.kIn True.intro e (fun z => nomatch z) h
 | int i => obtain ⟨t, q⟩ := (show ∃ t, u = Value.int i t from rx); cases q; exact PySem.W.kia_one PySem.W.kitx_int I.kIn True.intro e (fun z => nomatch z) h
 | str y => obtain ⟨t, q⟩ := (show ∃ t, u = Value.str y t from rx); cases q; exact PySem.W.kia_one PySem.W.kitx_str I.kIn True.intro e (fun z => nomatch z) h
 | flt y => obtain ⟨t, q⟩ := (show ∃ t, u = Value.float y t from rx); cases q; exact PySem.W.kia_one PySem.W.kitx_float I.kIn True.intro e (fun z => nomatch z) h
 | @lst a xs ea =>
  cases (show u = Value.ref a from rx)
  obtain ⟨_, _, n, _, h1⟩ := (show ObjOk X.prog X.w H s.heap a (.lst xs) from I.hok a _ ea)
  exact PySem.W.kia_one PySem.W.kitx_list I.kIn ⟨_, h1, rfl⟩ e (fun z => nomatch z) h
 | @frz a ob xs ea =>
  cases (show u = Value.ref a from rx)
  obtain ⟨_, _, _, n, _, h1⟩ := (show ObjOk X.prog X.w H s.heap a (.frz ob (.lst xs)) from I.hok a _ ea)
  exact PySem.W.kia_one PySem.W.kitx_list I.kIn ⟨_, h1, rfl⟩ e (fun z => nomatch z) h
 | @tup a xs ea =>
  cases (show u = Value.ref a from rx)
  obtain ⟨_, _, _, p⟩ := (show ObjOk X.prog X.w H s.heap a (.tup xs) from I.hok a _ ea)
  obtain ⟨o, h1, h2, _⟩ := p
  exact PySem.W.kia_one PySem.W.kitx_tuple I.kIn ⟨o, h1, h2⟩ e (fun z => nomatch z) h
 | @dK a kvs ea =>
  cases (show u = Value.ref a from rx)
  obtain ⟨_, _, vs, _, p⟩ := (show ObjOk X.prog X.w H s.heap a (.dK kvs) from I.hok a _ ea)
  obtain ⟨o, es, ep, h1, h2, _⟩ := p
  exact PySem.W.kia_one PySem.W.kitx_dict I.kIn ⟨o, h1, h2.1⟩ e (fun z => nomatch z) h
 | @dT a kvs ea =>
  cases (show u = Value.ref a from rx)
  obtain ⟨_, _, xs, _, o, es, ep, h1, h2, _⟩ := (show ObjOk X.prog X.w H s.heap a (.dT kvs) from I.hok a _ ea)
  exact PySem.W.kia_one PySem.W.kitx_dict I.kIn ⟨o, h1, h2.1⟩ e (fun z => nomatch z) h
 | @ins a C dx fs ea cl ha hn htk hm =>
  cases (show u = Value.ref a from rx)
  obtain ⟨mA, O, _⟩ := ins_get I.hok ea
  obtain ⟨od, J, _⟩ := O.look
  exact PySem.W.kia_one (PySem.W.kitx_own (cl.get _) cl.hd ha hn htk hm) I.kIn J e (fun z => nomatch z) h
end
end L2
namespace L2
open PySem PySem.Spec PyProof.Rows
structure Room (k : Nat) (A : Around) : Prop where
 hd : A.handled = none
 dp : A.depth + 3 * k + 5 < recursionLimit
 un : A.units + 16 * k + 200 < cLine
 gd : A.guards = some []
theorem Room.mono {j k : Nat} {A : Around} (r : Room k A) (h : j <= k) : Room j A := ⟨r.hd, by have := r.dp; (first | lia | omega), by have := r.un; (first | lia | omega), r.gd⟩
theorem Room.deeper {k : Nat} {A : Around} (r : Room (k + 1) A) (env : Env) : Room k (A.deeper env) :=
 ⟨r.hd, by have := r.dp; show A.depth + 1 + 3 * k + 5 < _; (first | lia | omega), by have := r.un; show A.units + 3 + 16 * k + 200 < _; (first | lia | omega), r.gd⟩
theorem Room.depth {k : Nat} {A : Around} (r : Room k A) : A.depth < recursionLimit := by have := r.dp; (first | lia | omega)
theorem Room.units {k : Nat} {A : Around} (r : Room k A) : A.units + 64 < cLine := by have := r.un; (first | lia | omega)
noncomputable def tNil : TA := fun _ H Q => Q [] H
noncomputable def tCons (ta : TE) (tr : TA) : TA := fun σ H Q => ta σ H fun x H1 => tr σ H1 fun xs H2 => Q (x :: xs) H2
section
variable {X : Cx} {e : Expr} {es : List Expr} {te : TE} {t : TA} {pos : Pos}
theorem pa_nil : PA X [] tNil := fun _ _ _ _ H Q I h => Calls.spliced_nil ⟨[], H, I, .nil, h⟩
theorem pa_cons (ha : PE X e te) (hr : PA X es t) (hs : starEach (e :: es) X.env = (false, eval e X.env) :: starEach es X.env := by rfl) : PA X (e :: es) (tCons te t) := by
 intro pos pins s σ H Q I h
 rw [hs]
 show wpAny _ _ (spliced ((false, eval e X.env) :: backTo pos (starEach es X.env))) _ _ s
 refine Calls.spliced_cons (thn (ha pins s σ H _ I h) fun u s1 ⟨x, H1, I1, r1, q1⟩ => ?_)
 exact thn (hr pos pins s1 σ H1 _ I1 q1) fun us s2 ⟨xs, H2, I2, r2, q2⟩ => ⟨x :: xs, H2, I2, .cons r1 r2, q2⟩
noncomputable def tTup (t : TA) : TE := fun σ H Q => t σ H fun xs H1 => xs.length <= sizeLine /\ ∀ p, H1 p = none -> Q (.ref p) (upd H1 p (.tup xs))
noncomputable def tLst (t : TA) : TE := fun σ H Q => t σ H fun xs H1 => xs.length <= sizeLine /\ ∀ p, H1 p = none -> Q (.ref p) (upd H1 p (.lst xs))
theorem pe_tup {x1} (h : PA X es t) : PE X (.Tuple es x1 pos) (tTup t) := by
 intro pins s σ H Q I hq
 refine wpAny_Tuple_spliced (thn (h pos pins s σ H _ I hq) fun us s1 ⟨xs, H1, I1, r, z, q⟩ => ⟨by rw [<- r.length]; exact z, ?_⟩)
 have hf : H1 s1.heap.objs.size = none := I1.hok.fresh (Nat.le_refl _)
 refine ⟨.ref s1.heap.objs.size, upd H1 s1.heap.objs.size (.tup xs), I1.laid (t' := s1.toks) (fun b u e => Heap.get?_push_of_some _ e) (Nat.le_refl _) ?_, rfl, q _ hf⟩
 exact ⟨z, us, r, PTup.new⟩
theorem pe_lst (h : PA X es t) : PE X (.List es pos) (tLst t) := by
 intro pins s σ H Q I hq
 refine wpAny_List_spliced (thn (h pos pins s σ H _ I hq) fun us s1 ⟨xs, H1, I1, r, z, q⟩ => ⟨by rw [<- r.length]; exact z, ?_⟩)
 have hf : H1 s1.heap.objs.size = none := I1.hok.fresh (Nat.le_refl _)
 refine ⟨.ref s1.heap.objs.size, upd H1 s1.heap.objs.size (.lst xs), I1.laid (t' := s1.toks) (fun b u e => Heap.get?_push_of_some _ e) (Nat.le_refl _) ?_, rfl, q _ hf⟩
 exact ⟨z, us, 0, r, Heap.get?_push_size _ rfl⟩
end
noncomputable abbrev Sp := List V -> Hp -> VK -> XK -> Prop
noncomputable abbrev CXT := List Env -> Hp -> Shared -> XK -> Value -> Shared -> Prop
structure Env0 (P : Program) (w : World) (K : PySem.W.Frag) (mg : Str -> Option Value) (base : Heap) (A : Around) (outer : List Env) (s : Shared) (H : Hp) : Prop where
 frames : A.frames = some outer
 mod : Mod K mg base
 bs : ∀ b o, base.get? b = some o -> s.heap.get? b = some o /\ H b = none
 bsz : base.objs.size <= s.heap.objs.size
 funs : s.heap.FunFrames base outer
 frf : ∀ b ∈ frs outer, H b = none
 hok : HOk P w H s.heap
 bare : AllBare s.gens
noncomputable def CE (outer : List Env) (P : Program) (w : World) (H : Hp) (s : Shared) (Q : VK) (u : Value) (s' : Shared) : Prop :=
 ∃ v H', s'.os = s.os /\ AllBare s'.gens /\ Un (frs outer) [] H H' s.heap s'.heap /\ HOk P w H' s'.heap /\ RelV v u /\ Q v H'
noncomputable def CR (CX : CXT) (outer : List Env) (P : Program) (w : World) (H : Hp) (s : Shared) (Q : VK) (E : XK) (r : Result) (s' : Shared) : Prop :=
 match r with
 | .ok (.ret u) => CE outer P w H s Q u s'
 | .ok _ => False
 | .error e => CX outer H s E e s'
structure FnOk (P : Program) (w : World) (K : PySem.W.Frag) (mg : Str -> Option Value) (base : Heap) (CX : CXT) (k : Nat) (f : Addr) (fd : FuncData) (ps : List Str) (sp : Sp) : Prop where
 len : ∀ vs H Q E, sp vs H Q E -> vs.length = ps.length
 run : ∀ (A : Around) (outer : List Env) (s : Shared) (H : Hp) (args : Args) (us : List Value) (vs : List V) (Q : VK) (E : XK), Room k A -> Env0 P w K mg base A outer s H -> BindsTo s fd args (ps.zip us) -> Vals vs us -> sp vs H Q E ->
  codeAny (model P w) A (.call (.ref f) args) (CR CX outer P w H s Q E) s
section
variable {X : Cx} {pins : List (Addr × Obj)} {σ : St} {H : Hp} {s s' : Shared}
theorem Inv.env0 (I : Inv X pins σ H s) : Env0 X.prog X.w X.K X.mg X.base X.A X.stack s H :=
 ⟨I.ok.frames, I.ok.mod, I.bs, Nat.le_trans I.ok.bsz I.sz, I.stack, I.stkFree, I.hok, I.bare⟩
theorem Inv.after {Q : VK} {u : Value} (I : Inv X pins σ H s) (h : CE X.stack X.prog X.w H s Q u s') : EP X pins σ Q u s' := by
 obtain ⟨v, H', os, bare, un, hok, r, q⟩ := h
 obtain ⟨hh, g, d, t, os'⟩ := s'
 obtain rfl : os' = s.os := os
 exact ⟨v, H', I.call (h' := hh) (g' := g) (d' := d) (t' := t) (ch := []) un hok bare (fun b z => absurd z (by simp)), r, q⟩
end
noncomputable def tCall (sp : Sp) (dvs : List V) (E : XK) (t : TA) : TE := fun σ H Q => t σ H fun vs H1 => sp (vs ++ dvs) H1 Q E
noncomputable def Binds (K : PySem.W.Frag) (fd : FuncData) (ps : List Str) (ds : List Value) : Prop :=
 ∀ (s : Shared) (us : List Value), K.In s.heap -> (us ++ ds).length = ps.length -> BindsTo s fd ⟨us, []⟩ (ps.zip (us ++ ds))
theorem Binds.all {K : PySem.W.Frag} {fd : FuncData} {ps : List Str} (h : ∀ us : List Value, us.length = ps.length -> bindArgs fd ⟨us, []⟩ = pure (ps.zip us)) : Binds K fd ps [] := fun s us _ hl => by
 rw [List.append_nil] at hl ⊢
 exact .of_eq (h us hl)
noncomputable def Passes (CX : CXT) (X : Cx) (E : XK) : Prop := ∀ (pins : List (Addr × Obj)) (σ : St) (H : Hp) (s : Shared) (e : Value) (s' : Shared), Inv X pins σ H s -> CX X.stack H s E e s' -> X.xe e s'
section
variable {X : Cx} {CX : CXT} {k : Nat} {f C : Addr} {fd : FuncData} {ps : List Str} {sp : Sp} {dvs : List V} {ds : List Value} {E : XK} {x m : Str} {p pos apos : Pos} {e o : Expr} {es : List Expr} {ta : TE} {t : TA}
theorem run_fn {pins : List (Addr × Obj)} {σ : St} {H : Hp} {s : Shared} {Q : VK} {us : List Value} {vs : List V} (F : FnOk X.prog X.w X.K X.mg X.base CX k f fd ps sp) (hr : Room k X.A) (hb : Binds X.K fd ps ds) (hd : Vals dvs ds) (hx : Passes CX X E)
  (I : Inv X pins σ H s) (r : Vals vs us) (h : sp (vs ++ dvs) H Q E) : wpAny (model X.prog X.w) X.A (call (.ref f) us) (EP X pins σ Q) X.xe s := by
 have r2 : Vals (vs ++ dvs) (us ++ ds) := r.append hd
 have hl : (us ++ ds).length = ps.length := by rw [<- r2.length]; exact F.len _ _ _ _ h
 refine wpAny_call (codeAny_mono (F.run X.A X.stack s H ⟨us, []⟩ (us ++ ds) (vs ++ dvs) Q E hr I.env0 (hb s us I.kIn hl) r2 h) fun r s' hq => ?_)
 cases r with
 | error e => exact hx pins σ H s e s' I hq
 | ok fl =>
  cases fl with
  | ret u => exact I.after hq
  | next => exact False.elim hq
  | brk => exact False.elim hq
  | cont => exact False.elim hq
theorem pe_call (F : FnOk X.prog X.w X.K X.mg X.base CX k f fd ps sp) (hr : Room k X.A) (hg : Gl X x) (hm : X.mg x = some (.ref f)) (hk : PySem.W.keepIn X.K (.ref f) = true) (hb : Binds X.K fd ps ds) (hd : Vals dvs ds) (hx : Passes CX X E)
  (ha : PA X (e :: es) t) (hdb : (x == ("__debug__" : Str)) = false := by decide) (he : starEach (e :: es) X.env = (false, eval e X.env) :: starEach es X.env := by rfl) (hpl : (backTo pos (starEach es X.env)).any (·.1) = false := by rfl) :
  PE X (.Call (.Name x p) (e :: es) [] pos) (tCall sp dvs E t) := by
 intro pins s σ H Q I h
 refine wpAny_Call_Name_kw (ld_glob I hg hm ?_ hdb)
 refine PySem.W.callWith_K (h₀ := X.base) I.ok.mod.kin hk (thn (ha pos pins s σ H _ I h) fun us s1 ⟨vs, H1, I1, r, q⟩ => ⟨I1.kIn, ?_⟩) he hpl
 exact run_fn F hr hb hd hx I1 r q
structure Mk (K : PySem.W.Frag) (C f : Addr) : Prop where
 makes : PySem.W.makesIn K C = true
 init : PySem.W.findIn K (.ref C) "__init__" = some (some (.ref f))
 fn : PySem.W.isFn K (.ref f) = true
 kp : PySem.W.keepIn K (.ref C) = true
end
section
variable {X : Cx} {CX : CXT} {k : Nat} {f C : Addr} {fd : FuncData} {ps ks : List Str} {sp : Sp} {E : XK} {x m : Str} {p pos apos kpos : Pos} {e o : Expr} {es : List Expr} {kws : List Keyword} {te ta : TE} {t tk : TA} {nm : Option Str}
structure KBinds (K : PySem.W.Frag) (fd : FuncData) (ps ks : List Str) (g : List Value -> List Value -> List Value) (gV : List V -> List V -> List V) : Prop where
 to : ∀ (s : Shared) (us ws : List Value), K.In s.heap -> (g us ws).length = ps.length -> BindsTo s fd ⟨us, ks.zip ws⟩ (ps.zip (g us ws))
 rel : ∀ {vs : List V} {us : List Value} {zs : List V} {ws : List Value}, Vals vs us -> Vals zs ws -> Vals (gV vs zs) (g us ws)
variable {g : List Value -> List Value -> List Value} {gV : List V -> List V -> List V}
end
structure FnScope (N P : List Str) (sc : Scope) : Prop where
 kind : sc.kind = .function
 co : sc.isCoroutine = false
 gen : sc.isGenerator = false
 nd : N.Nodup
 pre : N.take P.length = P
 par : ∀ x ∈ P, sc.names.lookup x = some .local ∨ sc.names.lookup x = some .cell
 nofree : ∀ y ∈ sc.names, y.2 ≠ .free
theorem bindL_out {kindOf : Str -> Option NameKind} {x : Str} : ∀ {binds : List (Str × Value)} {m : Str -> Option Value}, (∀ v, (x, v) ∉ binds) -> bindL kindOf binds m x = m x
 | [], _, _ => rfl
 | (n, v) :: r, m, h => by
  unfold bindL
  rw [bindL_out fun w hw => h w (List.mem_cons_of_mem _ hw)]
  split
  ·have : x ≠ n := by rintro rfl; exact h v List.mem_cons_self
   simp [this]
  ·rfl
theorem bindC_out {kindOf : Str -> Option NameKind} {x : Str} : ∀ {binds : List (Str × Value)} {m : Str -> Option Value}, (∀ v, (x, v) ∉ binds) -> bindC kindOf binds m x = m x
 | [], _, _ => rfl
 | (n, v) :: r, m, h => by
  unfold bindC
  rw [bindC_out fun w hw => h w (List.mem_cons_of_mem _ hw)]
  split
  ·rfl
  ·have : x ≠ n := by rintro rfl; exact h v List.mem_cons_self
   simp [this]
theorem bindL_get {kindOf : Str -> Option NameKind} {x : Str} {v : Value} : ∀ {P : List Str} {vs : List Value} {i : Nat} {m : Str -> Option Value}, P.Nodup -> P[i]? = some x -> vs[i]? = some v -> kindOf x = some .local ->
  bindL kindOf (P.zip vs) m x = some v
 | [], _, _, _, _, h, _, _ => by simp at h
 | _ :: _, [], _, _, _, _, h, _ => by simp at h
 | p :: P, w :: vs, 0, m, nd, h1, h2, hk => by
  simp at h1 h2; subst h1; subst h2
  show bindL kindOf ((p, w) :: P.zip vs) m p = _
  unfold bindL
  rw [bindL_out fun v hv => (List.nodup_cons.mp nd).1 (List.of_mem_zip hv).1, if_pos hk]
  simp
 | p :: P, w :: vs, i + 1, m, nd, h1, h2, hk => by
  show bindL kindOf ((p, w) :: P.zip vs) m x = _
  unfold bindL
  exact bindL_get (i := i) (List.nodup_cons.mp nd).2 (by simpa using h1) (by simpa using h2) hk
theorem bindC_get {kindOf : Str -> Option NameKind} {x : Str} {v : Value} : ∀ {P : List Str} {vs : List Value} {i : Nat} {m : Str -> Option Value}, P.Nodup -> P[i]? = some x -> vs[i]? = some v -> kindOf x ≠ some .local ->
  bindC kindOf (P.zip vs) m x = some v
 | [], _, _, _, _, h, _, _ => by simp at h
 | _ :: _, [], _, _, _, _, h, _ => by simp at h
 | p :: P, w :: vs, 0, m, nd, h1, h2, hk => by
  simp at h1 h2; subst h1; subst h2
  show bindC kindOf ((p, w) :: P.zip vs) m p = _
  unfold bindC
  rw [bindC_out fun v hv => (List.nodup_cons.mp nd).1 (List.of_mem_zip hv).1, if_neg hk]
  simp
 | p :: P, w :: vs, i + 1, m, nd, h1, h2, hk => by
  show bindC kindOf ((p, w) :: P.zip vs) m x = _
  unfold bindC
  exact bindC_get (i := i) (List.nodup_cons.mp nd).2 (by simpa using h1) (by simpa using h2) hk
noncomputable def start (N : List Str) (vs : List V) : St := vs.map some ++ List.replicate (N.length - vs.length) none
noncomputable def cxOf (CX : CXT) (P : Program) (w : World) (K : PySem.W.Frag) (mg : Str -> Option Value) (base : Heap) (N : List Str) (qual : Str) (scope : Scope) (f : Addr) (cd : Value) (A : Around) (outer : List Env) (s : Shared) (H : Hp) (E : XK) : Cx where
 prog := P
 w := w
 K := K
 mg := mg
 base := base
 A := A.deeper (envOfC qual scope s.heap.objs.size f cd)
 N := N
 s₀ := s
 H₀ := H
 env := envOfC qual scope s.heap.objs.size f cd
 outer := outer
 stack := envOfC qual scope s.heap.objs.size f cd :: outer
 ex := []
 calm := true
 fn := fun _ => true
 pn := []
 xe := fun e s' => wpAny (model P w) (A.deeper (envOfC qual scope s.heap.objs.size f cd)) (leaving (envOfC qual scope s.heap.objs.size f cd) e) (fun _ s'' => CX outer H s E e s'') (fun e' s'' => CX outer H s E e' s'') s'
theorem cell_has {sc : Scope} {n : Nat} {x : Str} (h : sc.names.lookup x = some .cell) : ∃ c, (cellsFrom n sc.names []).lookup x = some c := by
 have q := PySem.W.cellsFrom_some sc.names n [] (.inl h)
 exact Option.isSome_iff_exists.mp q
theorem inv_start {CX : CXT} {P : Program} {w : World} {K : PySem.W.Frag} {mg : Str -> Option Value} {base : Heap} {N ps : List Str} {qual : Str} {scope : Scope} {f : Addr} {cd : Value} {A : Around} {outer : List Env} {s s1 : Shared} {H : Hp} {E : XK} {us : List Value} {vs : List V}
  (S : FnScope N ps scope) (hd : A.handled = none) (e0 : Env0 P w K mg base A outer s H) (hl : vs.length = ps.length) (r : Vals vs us)
  (x : InCallC s s.heap.objs.size (bindL (envOfC qual scope s.heap.objs.size f cd).kindOf (ps.zip us) fun _ => none) (cellsFrom (s.heap.objs.size + 1) scope.names []) (bindC (envOfC qual scope s.heap.objs.size f cd).kindOf (ps.zip us) fun _ => none) s1) :
  Inv (cxOf CX P w K mg base N qual scope f cd A outer s H E) [] (start N vs) H s1 := by
 have hpl : ps.length <= N.length := by have := congrArg List.length S.pre; rw [List.length_take] at this; (first | lia | omega)
 obtain ⟨h1, tk, rfl, hk⟩ := x.done
 have noA : ∀ b : Addr, b ∉ (cxOf CX P w K mg base N qual scope f cd A outer s H E).ex := fun b z => absurd (show b ∈ ([] : List Addr) from z) (by simp)
 refine ⟨⟨e0.mod, S.kind, rfl, rfl, Nat.le_refl _, fun y z c h1 h2 => ?_, fun y hy => ?_, fun y c _ h => ?_, fun _ => hd, Around.frames_deeper e0.frames, .inr ⟨rfl, rfl⟩, fun b z => absurd z (noA b), e0.bs, e0.bsz, fun b _ _ => noA b, fun b z => absurd z (noA b), e0.funs, e0.frf⟩,
  rfl, e0.bare, Un.kept hk, ⟨_, x.toInCall.ns, fun i y v h1 h2 h3 => ?_⟩, fun y c h => ⟨_, x.cell y c h⟩, e0.hok.fresh (Nat.le_refl _), fun y c h => ?_, fun p hp => absurd (show p ∈ ([] : List (Addr × Obj)) from hp) (by simp), e0.hok.kept hk, ?_⟩
 ·exact name_of_addr x.apart (PySem.mem_of_lookup h1) (PySem.mem_of_lookup h2)
 ·have hy : scope.names.lookup y = some .cell ∨ scope.names.lookup y = some .free := hy
  rcases hy with hy | hy
  ·exact cell_has hy
  ·exact absurd rfl (S.nofree _ (PySem.mem_of_lookup hy))
 ·exact Nat.le_of_lt (x.above y c (PySem.mem_of_lookup h))
 ·have hi : i < vs.length := by
   unfold start at h2
   by_cases hi : i < vs.length
   ·exact hi
   ·rw [List.getElem?_append_right (by simpa using hi)] at h2
    rw [List.getElem?_replicate] at h2
    split at h2 <;> cases h2
  have ha : vs[i]? = some v := by
   unfold start at h2
   rw [List.getElem?_append_left (by simpa using hi), List.getElem?_map] at h2
   cases e : vs[i]? with
   | none => rw [e] at h2; cases h2
   | some a => rw [e] at h2; cases h2; rfl
  obtain ⟨u, hu, rv⟩ := r.get ha
  have hp : ps[i]? = some y := by
   rw [<- S.pre, List.getElem?_take_of_lt (by (first | lia | omega))]; exact h1
  have ndP : ps.Nodup := by rw [<- S.pre]; exact S.nd.sublist (List.take_sublist _ _)
  refine ⟨u, rv, ?_⟩
  rcases S.par y (List.mem_of_getElem? hp) with k | k
  ·exact .inl ⟨k, bindL_get ndP hp hu k⟩
  ·obtain ⟨c, e⟩ := cell_has (n := s.heap.objs.size + 1) k
   refine .inr ⟨.inl k, c, e, ?_⟩
   have q := x.cell y c e
   rw [bindC_get ndP hp hu (by show scope.names.lookup y ≠ _; rw [k]; decide)] at q
   exact q
 ·exact e0.hok.fresh (Nat.le_of_lt (x.above y c (PySem.mem_of_lookup h)))
 ·unfold start
  show _ = N.length
  rw [List.length_append, List.length_map, List.length_replicate]
  (first | lia | omega)
theorem fn_of {CX : CXT} {P : Program} {w : World} {K : PySem.W.Frag} {mg : Str -> Option Value} {base : Heap} {k : Nat} {f : Addr} {name qual : Str} {params : Arguments} {body : List Stmt} {scope : Scope} {dV kV doc pm cdv ct oc : Value} {an od : Option Addr}
  {osl : Array (Option Value)} {N ps : List Str} {sp : Sp} (lk : K.lookup f = some ⟨oc, od, .func (PySem.W.fnOf name qual params body scope dV kV doc pm an cdv ct), osl⟩) (hcd : PySem.W.codeIn K cdv qual = true) (S : FnScope N ps scope)
  (len : ∀ vs H Q E, sp vs H Q E -> vs.length = ps.length)
  (hbody : ∀ (A : Around) (outer : List Env) (s : Shared) (H : Hp) (vs : List V) (Q : VK) (E : XK), Room k (A.deeper (envOfC qual scope s.heap.objs.size f cdv)) -> sp vs H Q E ->
   ∃ t, PSs (cxOf CX P w K mg base N qual scope f cdv A outer s H E) body t /\ t { nx := fun _ H' => Q .non H', rt := Q } (start N vs) H) :
  FnOk P w K mg base CX (k + 1) f (PySem.W.fnOf name qual params body scope dV kV doc pm an cdv ct) ps sp := by
 refine ⟨len, fun A outer s H args us vs Q E hr e0 hb r hsp => ?_⟩
 have hl := len _ _ _ _ hsp
 have KX : K.In s.heap := e0.mod.kin.keeps fun b o e => (e0.bs b o e).1
 have lim : s.heap.NoLimit := e0.mod.nolimit.keeps fun b o e => (e0.bs b o e).1
 have hkind : ∀ y ∈ ps.zip us, scope.names.lookup y.1 = some .local ∨ (scope.names.lookup y.1 = some .cell /\ ((cellsFrom (s.heap.objs.size + 1) scope.names []).lookup y.1).isSome = true) := fun ⟨n, v⟩ hy => by
  rcases S.par n (List.of_mem_zip hy).1 with q | q
  ·exact .inl q
  ·exact .inr ⟨q, PySem.W.cellsFrom_some _ _ _ (.inl q)⟩
 refine codeAny_call_function hr.depth (KX _ _ lk) rfl S.co S.gen rfl (PySem.W.codeRec_of KX hcd) (hb _ _ _ _ ?_)
 refine wpAny_newFunctionEnv_cells S.kind hkind fun env he s1 x => ?_
 subst he
 refine ⟨lim.keeps x.toInCall.keep, codeAny_func ?_⟩
 obtain ⟨t, ht, hq⟩ := hbody A outer s H vs Q E (hr.deeper _) hsp
 have I : Inv (cxOf CX P w K mg base N qual scope f cdv A outer s H E) [] (start N vs) H s1 := inv_start S hr.hd e0 hl r x
 refine wpAny_mono (ht [] s1 (start N vs) H _ I hq) (fun fl s' hs => ?_) fun e s' hs => hs
 have fin : ∀ {σ' : St} {H' : Hp} {v : V} {u : Value}, Inv (cxOf CX P w K mg base N qual scope f cdv A outer s H E) [] σ' H' s' -> RelV v u -> Q v H' -> CE outer P w H s Q u s' :=
  fun {σ' H' v u} J rv q => ⟨v, H', J.os, J.bare, J.base, J.hok, rv, q⟩
 cases fl with
 | ret u =>
  obtain ⟨v, σ', H', J, rv, q⟩ := hs
  exact fin J rv q
 | next =>
  obtain ⟨σ', H', J, q⟩ := hs
  exact fin (v := V.non) (u := Value.none) J rfl q
 | brk =>
  obtain ⟨_, _, _, q⟩ := hs
  exact False.elim q
 | cont =>
  obtain ⟨_, _, _, q⟩ := hs
  exact False.elim q
end L2
namespace L2
open PySem PySem.Spec PyProof.Rows
section
variable {X : Cx} {x : Str} {p pos : Pos} {e : Expr} {es : List Expr} {t : TA} {id T : String} {r : List V -> Hp -> VK -> Prop}
noncomputable def tCB (r : List V -> Hp -> VK -> Prop) (t : TA) : TE := fun σ H Q => t σ H fun vs H1 => r vs H1 Q
theorem pe_callB (hc : CallR X (.builtin id) r) (hg : Gl X x) (hm : X.mg x = none) (hv : bootBuiltins x = some (.builtin id)) (ha : PA X (e :: es) t) (hn : x ≠ "__name__" := by decide) (hdb : (x == ("__debug__" : Str)) = false := by decide)
  (he : starEach (e :: es) X.env = (false, eval e X.env) :: starEach es X.env := by rfl) (hpl : (backTo pos (starEach es X.env)).any (·.1) = false := by rfl) : PE X (.Call (.Name x p) (e :: es) [] pos) (tCB r t) := by
 intro pins s σ H Q I h
 refine wpAny_Call_Name_kw (ld_blt I hg hm hv ?_ hn hdb)
 exact PyProof.Rows.callWith_builtin1 (thn (ha pos pins s σ H _ I h) fun us s1 ⟨vs, H1, I1, r1, q1⟩ => hc pins s1 σ H1 vs us Q I1 r1 q1) he hpl
theorem pe_callTy (hc : CallR X (.type T) r) (hg : Gl X x) (hm : X.mg x = none) (hv : bootBuiltins x = some (.type T)) (ha : PA X (e :: es) t) (hn : x ≠ "__name__" := by decide) (hdb : (x == ("__debug__" : Str)) = false := by decide)
  (he : starEach (e :: es) X.env = (false, eval e X.env) :: starEach es X.env := by rfl) (hpl : (backTo pos (starEach es X.env)).any (·.1) = false := by rfl) : PE X (.Call (.Name x p) (e :: es) [] pos) (tCB r t) := by
 intro pins s σ H Q I h
 refine wpAny_Call_Name_kw (ld_blt I hg hm hv ?_ hn hdb)
 exact PyProof.Rows.callWith_type1 (thn (ha pos pins s σ H _ I h) fun us s1 ⟨vs, H1, I1, r1, q1⟩ => hc pins s1 σ H1 vs us Q I1 r1 q1) he hpl
end
end L2
namespace HT
open PySem PyProof.Rows
section
open PySem.SeqAt
open PySem.AutoSeq1 (wpAny_loadPart')
open PySem.MeetsSeq PySem.MeetsSeq2 PySem.MeetsSeq3
end
section
variable {prog : Program} {w : World} {A : Around} {E : Value -> Shared -> Prop} {s : Shared}
noncomputable def sIx (n d : Nat) : Option Int -> Nat
 | none => d
 | some v => if v < 0 then (v + (n : Int)).toNat else min v.toNat n
theorem slicePart_ {v : Value} {o : Option Int} {Q : Option Int -> Shared -> Prop} (p : IsPart v o) (h : Q o s) : wpAny (model prog w) A (Builtin.Slice.slicePartIndex v) Q E s := by
 cases p with
 | none => exact slicePart_none h
 | int i t => exact slicePart_int h
end
end HT
namespace L2
open PySem PySem.Spec PyProof.Rows
noncomputable abbrev TO := St -> Hp -> (Option Int -> Hp -> Prop) -> Prop
noncomputable def PO (X : Cx) (e : Option Expr) (t : TO) : Prop :=
 ∀ (pins : List (Addr × Obj)) (s : Shared) (σ : St) (H : Hp) (Q : Option Int -> Hp -> Prop), Inv X pins σ H s -> t σ H Q ->
  wpAny (model X.prog X.w) X.A (evalPart e X.env) (fun u s' => ∃ o H', Inv X pins σ H' s' /\ IsPart u o /\ Q o H') X.xe s
noncomputable def tNoPart : TO := fun _ H Q => Q none H
noncomputable def tPart (t : TE) : TO := fun σ H Q => t σ H fun x H1 => ∃ i, x = .int i /\ Q (some i) H1
theorem intsAre_of {ns : List Int} : ∀ {us : List Value}, Vals (ns.map V.int) us -> IntsAre us ns := by
 induction ns with
 | nil => intro us r; rw [List.map_nil] at r; cases r; exact .nil
 | cons n ns ih =>
  intro us r
  rw [List.map_cons] at r
  cases r with
  | cons r1 r2 =>
   obtain ⟨t, e⟩ := r1
   subst e
   exact .cons n t (ih r2)
section
variable {X : Cx} {e : Expr} {te : TE} {lo hi : Option Expr} {tl th : TO} {pos p2 : Pos}
theorem po_none : PO X none tNoPart := by
 intro pins s σ H Q I h
 rw [evalPart_none]
 exact wpAny_pure ⟨none, H, I, .none, h⟩
theorem po_some (h : PE X e te) : PO X (some e) (tPart te) := by
 intro pins s σ H Q I hw
 rw [evalPart_some]
 refine thn (h pins s σ H _ I hw) fun u s1 ⟨x, H1, I1, r1, q1⟩ => ?_
 obtain ⟨i, rfl, q⟩ := q1
 obtain ⟨t, rfl⟩ := r1
 exact ⟨some i, H1, I1, .int i t, q⟩
noncomputable def SlR (X : Cx) (r : V -> Option Int -> Option Int -> Hp -> VK -> Prop) : Prop :=
 ∀ (pins : List (Addr × Obj)) (s : Shared) (σ : St) (H : Hp) (x : V) (v vl vu : Value) (lo hi : Option Int) (sl : Addr) (Q : VK), Inv X pins σ H s -> RelV x v -> s.heap.IsSliceOf sl vl vu .none -> IsPart vl lo -> IsPart vu hi -> r x lo hi H Q ->
  ∃ T id, typeLookup (.type T) "__getitem__" = pure (some (.builtin id)) /\ s.TypeIs v T /\ wpAny (model X.prog X.w) X.A (getItem v (.ref sl)) (EP X pins σ Q) X.xe s
noncomputable def tSl (r : V -> Option Int -> Option Int -> Hp -> VK -> Prop) (te : TE) (tl th : TO) : TE := fun σ H Q => te σ H fun x H1 => tl σ H1 fun l H2 => th σ H2 fun u H3 => r x l u H3 Q
theorem pe_slice {r : V -> Option Int -> Option Int -> Hp -> VK -> Prop} (hr : SlR X r) (he : PE X e te) (hl : PO X lo tl) (hu : PO X hi th) : PE X (.Subscript e (.Slice lo hi none p2) pos) (tSl r te tl th) := by
 intro pins s σ H Q I h
 refine Subscript_ (thn (he pins s σ H _ I h) fun v s1 ⟨x, H1, I1, r1, q1⟩ => ?_)
 refine wpAny_Slice (thn (hl pins s1 σ H1 _ I1 q1) fun vl s2 ⟨l, H2, I2, pl, q2⟩ => thn (hu pins s2 σ H2 _ I2 q2) fun vu s3 ⟨u, H3, I3, pu, q3⟩ => ?_)
 rw [evalPart_none]
 refine wpAny_pure ?_
 have I4 : Inv X pins σ H3 { s3 with heap := s3.heap.push { cls := .type "slice", data := .fields #[vl, vu, .none] } } := I3.kept (t' := s3.toks) fun b ob q => Heap.get?_push_of_some _ q
 obtain ⟨T, id, hT, ht, hg⟩ := hr pins { s3 with heap := s3.heap.push { cls := .type "slice", data := .fields #[vl, vu, .none] } } σ H3 x v vl vu l u s3.heap.objs.size Q I4 r1 (Heap.IsSliceOf.new ..) pl pu q3
 show wpAny (model X.prog X.w) X.A (subscriptTail e (.Slice lo hi none p2) v (.ref s3.heap.objs.size)) (EP X pins σ Q) X.xe { s3 with heap := s3.heap.push { cls := .type "slice", data := .fields #[vl, vu, .none] } }
 exact tail_any (ops := [.ref s3.heap.objs.size, v]) ht hT hg (by with_unfolding_all rfl)
noncomputable def cutV (xs : List V) (lo hi : Option Int) : List V := (xs.drop (HT.sIx xs.length 0 lo)).take (HT.sIx xs.length xs.length hi - HT.sIx xs.length 0 lo)
theorem cutV_length (xs : List V) (lo hi : Option Int) : (cutV xs lo hi).length <= xs.length := by
 unfold cutV
 rw [List.length_take, List.length_drop]
 (first | lia | omega)
end
end L2
namespace L2
open PySem PySem.Spec PyProof.Rows
noncomputable def ixN (n : Nat) (i : Int) : Option Nat := if 0 <= i then (if i < n then some i.toNat else none) else if -(n : Int) <= i then some (i + n).toNat else none
noncomputable def atI {α : Type} (xs : List α) (i : Int) : Option α := (ixN xs.length i).bind fun j => xs[j]?
theorem ixN_seq {n : Nat} {i : Int} {j : Nat} (h : ixN n i = some j) : seqIndex? i n = some j /\ j < n /\ -(n : Int) <= i /\ i < n := by
 unfold ixN at h
 by_cases h0 : 0 <= i
 ·rw [if_pos h0] at h
  by_cases h1 : i < n
  ·rw [if_pos h1] at h
   have e : i.toNat = j := Option.some.inj h
   exact ⟨by rw [seqIndex_of h0 h1, e], by (first | lia | omega), by (first | lia | omega), h1⟩
  ·rw [if_neg h1] at h; cases h
 ·rw [if_neg h0] at h
  by_cases h1 : -(n : Int) <= i
  ·rw [if_pos h1] at h
   have e : (i + n).toNat = j := Option.some.inj h
   exact ⟨by rw [seqIndex_neg (by (first | lia | omega)) h1, e], by (first | lia | omega), h1, by (first | lia | omega)⟩
  ·rw [if_neg h1] at h; cases h
theorem atI_get {α : Type} {xs : List α} {i : Int} {v : α} (h : atI xs i = some v) : ∃ j, seqIndex? i xs.length = some j /\ xs[j]? = some v /\ j < xs.length /\ -(xs.length : Int) <= i /\ i < xs.length := by
 unfold atI at h
 cases e : ixN xs.length i with
 | none => rw [e] at h; cases h
 | some j =>
  rw [e] at h
  obtain ⟨h1, h2, h3, h4⟩ := ixN_seq e
  exact ⟨j, h1, h, h2, h3, h4⟩
theorem atI_nat {α : Type} {xs : List α} {j : Nat} {v : α} (h : xs[j]? = some v) : atI xs (j : Int) = some v := by
 have hj : j < xs.length := (List.getElem?_eq_some_iff.mp h).1
 have e : ixN xs.length (j : Int) = some j := by
  unfold ixN
  rw [if_pos (by (first | lia | omega)), if_pos (by (first | lia | omega))]; simp
 unfold atI; rw [e]; exact h
noncomputable def PlainIx (b : Expr) : Prop := ∀ o i, subscripted b false o i = operate [o, i] (getItem o i)
noncomputable def IxR (X : Cx) (r : R2) : Prop :=
 ∀ (value slice : Expr) (pins : List (Addr × Obj)) (s : Shared) (σ : St) (H : Hp) (x y : V) (v u : Value) (Q : VK), Inv X pins σ H s -> RelV x v -> RelV y u -> r x y H Q ->
  subscripted slice false v u = operate [v, u] (getItem v u) -> wpAny (model X.prog X.w) X.A (subscriptTail value slice v u) (EP X pins σ Q) X.xe s
noncomputable def MtR (X : Cx) (id : String) (r : V -> List V -> Hp -> VK -> Prop) : Prop :=
 ∀ (pins : List (Addr × Obj)) (s : Shared) (σ : St) (H : Hp) (x : V) (xs : List V) (v : Value) (us : List Value) (Q : VK), Inv X pins σ H s -> RelV x v -> Vals xs us -> r x xs H Q ->
  wpAny (model X.prog X.w) X.A (call (.builtin id) (v :: us)) (EP X pins σ Q) X.xe s
section
variable {X : Cx} {a b : Expr} {ta tb : TE} {pos : Pos}
theorem pe_ix {r : R2} (hr : IxR X r) (ha : PE X a ta) (hb : PE X b tb) (hs : PlainIx b) : PE X (.Subscript a b pos) (tOp r ta tb) := by
 intro pins s σ H Q I h
 exact Subscript_ (binT ha hb I h fun v u s2 x y H2 I2 rx ry q => hr a b pins s2 σ H2 x y v u Q I2 rx ry q (hs _ _))
noncomputable def rIxL (K : PySem.W.Frag) : R2 := fun x y H Q => ∃ p xs i v, x = .ref p /\ y = .int i /\ SqL K H p xs /\ atI xs i = some v /\ Q v H
noncomputable def rIxT (K : PySem.W.Frag) : R2 := fun x y H Q => ∃ p xs i v, x = .ref p /\ y = .int i /\ SqT K H p xs /\ atI xs i = some v /\ Q v H
theorem ix_list : IxR X (rIxL X.K) := by
 intro value slice pins s σ H x y v u Q I rx ry h hs
 obtain ⟨p, xs, i, z, rfl, rfl, hq, he, q⟩ := h
 cases rx
 obtain ⟨t, rfl⟩ := ry
 obtain ⟨its, r, pl, hz⟩ := I.list hq
 obtain ⟨j, h1, h2, h3, h4, h5⟩ := atI_get he
 obtain ⟨w, ew, rw'⟩ := r.get h2
 have hl := r.length
 have hn := line63
 have fin : EP X pins σ Q w s := ⟨z, H, I, rw', q⟩
 by_cases h0 : 0 <= i
 ·have hj : i.toNat = j := by
   rw [seqIndex_of h0 h5] at h1
   exact Option.some.inj h1
  exact item_listR pl.isList h0 (by (first | lia | omega)) (by rw [hj]; simpa using ew) fin hs
 ·have hj : (i + (its.toArray.size : Int)).toNat = j := by
   rw [seqIndex_neg (by (first | lia | omega)) h4] at h1
   rw [List.size_toArray, <- hl]
   exact Option.some.inj h1
  exact subscriptTail_builtinR (x := w) pl.isList.typeIs slot_list_getitem.lookup
   (wpAny_getItem_list_neg (Q := fun r s' => r = w /\ EP X pins σ Q r s') pl.isList (by (first | lia | omega)) (by rw [List.size_toArray] <;> (first | lia | omega)) (by (first | lia | omega)) (by rw [hj]; simpa using ew) ⟨rfl, fin⟩) hs
theorem ix_tup : IxR X (rIxT X.K) := by
 intro value slice pins s σ H x y v u Q I rx ry h hs
 obtain ⟨p, xs, i, z, rfl, rfl, hq, he, q⟩ := h
 cases rx
 obtain ⟨t, rfl⟩ := ry
 obtain ⟨its, r, pl, hz⟩ := I.tuple hq
 obtain ⟨j, h1, h2, h3, h4, h5⟩ := atI_get he
 obtain ⟨w, ew, rw'⟩ := r.get h2
 have hl := r.length
 have hn := line63
 have fin : EP X pins σ Q w s := ⟨z, H, I, rw', q⟩
 exact subscriptTail_builtinR (x := w) pl.typeIs slot_tuple_getitem.lookup
  (getItem_tuple (j := j) (Q := fun r s' => r = w /\ EP X pins σ Q r s') pl (by (first | lia | omega)) (by (first | lia | omega)) (by rw [List.size_toArray, <- hl]; exact h1) (by simpa using ew) ⟨rfl, fin⟩) hs
theorem mapSeq_set (its : List Value) (n j : Nat) (u : Value) : Obj.mapSeq (·.setIfInBounds j u) { cls := .type "list", data := .seq its.toArray n } = { cls := .type "list", data := .seq (its.set j u).toArray n } := by
 simp [Obj.mapSeq]
theorem Inv.lst {pins : List (Addr × Obj)} {σ : St} {H : Hp} {s : Shared} {p : Addr} {xs : List V} (I : Inv X pins σ H s) (h : H p = some (.lst xs)) :
  ∃ (its : List Value) (n : Nat), Vals xs its /\ s.heap.get? p = some { cls := .type "list", data := .seq its.toArray n } /\ xs.length <= sizeLine := by
 obtain ⟨z, its, n, r, e⟩ := I.hok p _ h
 exact ⟨its, n, r, e, z⟩
theorem Inv.lstUpd {pins : List (Addr × Obj)} {σ : St} {H : Hp} {s : Shared} {p : Addr} {xs ys : List V} {its its' : List Value} {n n' : Nat} {f : Obj -> Obj} (I : Inv X pins σ H s) (h : H p = some (.lst xs))
  (ho : s.heap.get? p = some { cls := .type "list", data := .seq its.toArray n }) (hf : f { cls := .type "list", data := .seq its.toArray n } = { cls := .type "list", data := .seq its'.toArray n' }) (r : Vals ys its') (hz : ys.length <= sizeLine) (t : Nat) :
  Inv X pins σ (upd H p (.lst ys)) { s with heap := s.heap.update p f, toks := t } := by
 have e : (s.heap.update p f).get? p = some { cls := .type "list", data := .seq its'.toArray n' } := by
  rw [Heap.get?_update_self f ho (by rw [hf] <;> rfl), hf]
 refine I.write (x := p) (e := p) (by rw [h]; trivial) (.inl rfl) (fun b u hb q => (Heap.get?_update_other _ _ (Ne.symm hb)).trans q) ⟨_, e⟩ ?_
 exact ⟨hz, its', n', r, e⟩
noncomputable def rSetL : V -> V -> V -> Hp -> (Hp -> Prop) -> Prop := fun o i v H Q => ∃ p xs k j, o = .ref p /\ i = .int k /\ H p = some (.lst xs) /\ ixN xs.length k = some j /\ Q (upd H p (.lst (xs.set j v)))
theorem set_list : PSet X rSetL := by
 intro pins s σ H o i v ov iv u Q I ro ri rv h
 obtain ⟨p, xs, k, j, rfl, rfl, hp, hj, q⟩ := h
 cases ro
 obtain ⟨t, rfl⟩ := ri
 obtain ⟨its, n, r, ho, hz⟩ := I.lst hp
 obtain ⟨h1, h2, h3, h4⟩ := ixN_seq hj
 have hl := r.length
 have hn := line63
 have I' : Inv X pins σ (upd H p (.lst (xs.set j v))) { s with heap := s.heap.update p (Obj.mapSeq (·.setIfInBounds j u)) } :=
  I.lstUpd hp ho (mapSeq_set its n j u) (r.set rv j) (by rw [List.length_set]; exact hz) s.toks
 by_cases h0 : 0 <= k
 ·have hk : k.toNat = j := by
   rw [seqIndex_of h0 h4] at h1
   exact Option.some.inj h1
  exact PySem.W.ki_setAt ho h0 (by (first | lia | omega)) (by rw [List.size_toArray, <- hl]; exact h4) (by rw [hk]; exact ⟨_, I', q⟩)
 ·have hk : (k + (its.toArray.size : Int)).toNat = j := by
   rw [seqIndex_neg (by (first | lia | omega)) h3] at h1
   rw [List.size_toArray, <- hl]
   exact Option.some.inj h1
  exact PySem.W.ki_setBack ho (by (first | lia | omega)) (by rw [List.size_toArray, <- hl]; exact h3) (by (first | lia | omega)) (by rw [hk]; exact ⟨_, I', q⟩)
theorem slice_bounds (lo hi : Option Int) (n : Nat) : (sliceBounds lo hi none n).1 = ((HT.sIx n 0 lo : Nat) : Int) /\ (sliceBounds lo hi none n).2.1 = ((HT.sIx n n hi : Nat) : Int) /\ (sliceBounds lo hi none n).2.2 = 1 := by
 refine ⟨?_, ?_, rfl⟩
 ·cases lo with
  | none => simp [sliceBounds, HT.sIx]
  | some i =>
   simp only [sliceBounds, HT.sIx, Option.getD_none, show (1 : Int) > 0 by decide, if_true]
   by_cases h : i < 0
   ·simp only [h, if_true] <;> (first | lia | omega)
   ·simp only [h, if_false] <;> (first | lia | omega)
 ·cases hi with
  | none => simp [sliceBounds, HT.sIx]
  | some i =>
   simp only [sliceBounds, HT.sIx, Option.getD_none, show (1 : Int) > 0 by decide, if_true]
   by_cases h : i < 0
   ·simp only [h, if_true] <;> (first | lia | omega)
   ·simp only [h, if_false] <;> (first | lia | omega)
theorem slicePick_cut (its : List Value) (lo hi : Option Int) : slicePick its.toArray lo hi none = ((its.drop (HT.sIx its.length 0 lo)).take (HT.sIx its.length its.length hi - HT.sIx its.length 0 lo)).toArray := by
 obtain ⟨h1, h2, h3⟩ := slice_bounds lo hi its.toArray.size
 unfold slicePick
 rw [h1, h2, h3]
 simp only [sliceRange_one, pick_run, List.size_toArray] <;> rfl
noncomputable def rSlL (K : PySem.W.Frag) : V -> Option Int -> Option Int -> Hp -> VK -> Prop := fun x lo hi H Q => ∃ a xs, x = .ref a /\ SqL K H a xs /\ ∀ p, H p = none -> Q (.ref p) (upd H p (.lst (cutV xs lo hi)))
theorem sl_list : SlR X (rSlL X.K) := by
 intro pins s σ H x v vl vu lo hi sl Q I rx hs pl pu h
 obtain ⟨a, xs, rfl, hx, q⟩ := h
 cases rx
 obtain ⟨its, r, ht, hz⟩ := I.list hx
 have hlen := r.length
 refine ⟨"list", _, slot_list_getitem.lookup, ht.isList.typeIs, ?_⟩
 refine wpAny_getItem_list_slice ht.isList hs pl pu .none (by simp) ?_ (by rw [List.size_toArray] <;> (first | lia | omega))
 rw [slicePick_cut, <- hlen]
 refine ⟨.ref s.heap.objs.size, _, I.laid (t' := s.toks) (o := .lst (cutV xs lo hi)) (fun b ob q => Heap.get?_push_of_some _ q) (Nat.le_refl _) ?_, rfl, q _ (I.hok.fresh (Nat.le_refl _))⟩
 exact ⟨Nat.le_trans (cutV_length xs lo hi) hz, _, 0, (r.drop (HT.sIx xs.length 0 lo)).take (HT.sIx xs.length xs.length hi - HT.sIx xs.length 0 lo), Heap.get?_push_size _ rfl⟩
theorem call_len_seq : CallR X (.builtin "len") (fun xs H Q => ∃ p ys, xs = [.ref p] /\ (SqL X.K H p ys ∨ SqT X.K H p ys) /\ Q (.int ys.length) H) := by
 intro pins s σ H xs us Q I r h
 obtain ⟨p, ys, rfl, hq, q⟩ := h
 obtain ⟨u, rfl, rx⟩ := vals1 r
 cases rx
 have hn := line63
 rcases hq with hq | hq
 ·obtain ⟨its, r', pl, hz⟩ := I.list hq
  have hlen := r'.length
  exact Calls.call_len_list pl.isList (by simp only [List.size_toArray] <;> (first | lia | omega)) ⟨.int ys.length, H, I.tok _, ⟨s.toks + 1, by rw [List.size_toArray, hlen]⟩, q⟩
 ·obtain ⟨its, r', pl, hz⟩ := I.tuple hq
  have hlen := r'.length
  exact len_tuple pl (by simp only [List.size_toArray] <;> (first | lia | omega)) ⟨.int ys.length, H, I.tok _, ⟨s.toks + 1, by rw [List.size_toArray, hlen]⟩, q⟩
theorem call_list_of : CallR X (.type "list") (fun xs H Q => ∃ p ys, xs = [.ref p] /\ (SqL X.K H p ys ∨ SqT X.K H p ys) /\ ∀ l, H l = none -> Q (.ref l) (upd H l (.lst ys))) := by
 intro pins s σ H xs us Q I r h
 obtain ⟨p, ys, rfl, hq, q⟩ := h
 obtain ⟨u, rfl, rx⟩ := vals1 r
 cases rx
 have fin : ∀ (its : List Value), Vals ys its -> ys.length <= sizeLine -> ∀ (h' : Heap) (c' : Nat), (∀ b o', s.heap.get? b = some o' -> h'.get? b = some o') ->
   h'.get? s.heap.objs.size = some { cls := .type "list", dict := none, data := .seq its.toArray c', slots := #[] } -> EP X pins σ Q (.ref s.heap.objs.size) { s with heap := h' } := fun its r' hz h' c' kp e =>
  ⟨.ref s.heap.objs.size, _, I.laid (t' := s.toks) kp (Nat.le_refl _) (show ObjOk X.prog X.w _ h' _ (.lst ys) from ⟨hz, its, c', r', e⟩), rfl, q _ (I.hok.fresh (Nat.le_refl _))⟩
 rcases hq with hq | hq
 ·obtain ⟨its, r', pl, hz⟩ := I.list hq
  have hlen := r'.length
  obtain ⟨o, ho, hc, n, hd⟩ := pl.isList
  exact call_list_seq p (.inl rfl) ho hc hd (fun h' c' kp e => fin its r' hz h' c' kp e) (by simp only [List.size_toArray] <;> (first | lia | omega))
 ·obtain ⟨its, r', pl, hz⟩ := I.tuple hq
  have hlen := r'.length
  obtain ⟨o, ho, hc, n, hd⟩ := pl
  exact call_list_seq p (.inr rfl) ho hc hd (fun h' c' kp e => fin its r' hz h' c' kp e) (by simp only [List.size_toArray] <;> (first | lia | omega))
theorem call_tuple_of : CallR X (.type "tuple") (fun xs H Q => ∃ p ys, xs = [.ref p] /\ ((SqL X.K H p ys /\ ∀ l, H l = none -> Q (.ref l) (upd H l (.tup ys))) ∨ (SqT X.K H p ys /\ Q (.ref p) H))) := by
 intro pins s σ H xs us Q I r h
 obtain ⟨p, ys, rfl, h⟩ := h
 obtain ⟨u, rfl, rx⟩ := vals1 r
 cases rx
 rcases h with ⟨hq, q⟩ | ⟨hq, q⟩
 ·obtain ⟨its, r', pl, hz⟩ := I.list hq
  have hlen := r'.length
  refine call_tuple_list pl.isList (fun h' kp => ?_) (by simp only [List.size_toArray] <;> (first | lia | omega))
  have I1 : Inv X pins σ H { s with heap := h' } := I.kept (t' := s.toks) kp
  have I2 : Inv X pins σ (upd H h'.objs.size (.tup ys)) { s with heap := h'.push { cls := .type "tuple", data := .seq its.toArray } } :=
   I1.laid (t' := s.toks) (fun b o e => Heap.get?_push_of_some _ e) (Nat.le_refl _) (show ObjOk X.prog X.w _ _ _ (.tup ys) from ⟨hz, its, r', PTup.new⟩)
  exact ⟨.ref h'.objs.size, _, I2, rfl, q _ (I1.hok.fresh (Nat.le_refl _))⟩
 ·obtain ⟨its, r', pl, hz⟩ := I.tuple hq
  exact call_tuple_same pl ⟨.ref p, H, I, rfl, q⟩
noncomputable def tyV (K : PySem.W.Frag) (T : String) (x : V) (H : Hp) : Prop := match x with
 | .str _ => T = "str"
 | .int _ => T = "int"
 | .ref p => (T = "list" /\ ∃ xs, SqL K H p xs) ∨ (T = "tuple" /\ ∃ o, K.lookup p = some o /\ o.cls = .type "tuple" /\ o.dict = none) ∨
   (T = "dict" /\ ((∃ kvs, H p = some (.dK kvs)) ∨ ∃ kvs, H p = some (.dT kvs))) ∨ (T = "set" /\ ∃ S n, H p = some (.set S n))
 | _ => False
theorem tyV_is {pins : List (Addr × Obj)} {σ : St} {H : Hp} {s : Shared} {T : String} {x : V} {v : Value} (I : Inv X pins σ H s) (r : RelV x v) (ty : tyV X.K T x H) :
  s.TypeIs v T /\ ∀ a, v = .ref a -> ∃ ob, s.heap.get? a = some ob /\ ob.dict = none := by
 cases x with
 | str z =>
  obtain ⟨t, rfl⟩ := r
  cases (show T = "str" from ty)
  exact ⟨typeIs_str s z t, fun _ e => nomatch e⟩
 | int i =>
  obtain ⟨t, rfl⟩ := r
  cases (show T = "int" from ty)
  exact ⟨typeIs_int s i t, fun _ e => nomatch e⟩
 | ref p =>
  cases r
  rcases ty with ⟨rfl, xs, hq⟩ | ⟨rfl, o, hk, hc, hd⟩ | ⟨rfl, hk⟩ | ⟨rfl, S, n, hk⟩
  ·obtain ⟨its, _, pl, _⟩ := I.list hq
   refine ⟨pl.isList.typeIs, fun a e => ?_⟩
   cases e
   obtain ⟨o, n, e, c, hd, _⟩ := pl
   exact ⟨o, e, hd⟩
  ·refine ⟨⟨o, I.kIn p o hk, hc⟩, fun a e => ?_⟩
   cases e
   exact ⟨o, I.kIn _ o hk, hd⟩
  ·have z : ∃ o, s.heap.get? p = some o /\ o.ExactDict := by
    rcases hk with ⟨kvs, hk⟩ | ⟨kvs, hk⟩
    ·obtain ⟨_, _, _, _, o, _, _, e, ex, _⟩ := I.hok p _ hk
     exact ⟨o, e, ex⟩
    ·obtain ⟨_, _, _, _, o, _, _, e, ex, _⟩ := I.hok p _ hk
     exact ⟨o, e, ex⟩
   obtain ⟨o, e, ex⟩ := z
   refine ⟨⟨o, e, ex.1⟩, fun a e2 => ?_⟩
   cases e2
   exact ⟨o, e, ex.2.1⟩
  ·obtain ⟨o, _, _, _, e, ex, _⟩ := I.hok p _ hk
   refine ⟨⟨o, e, ex.1⟩, fun a e2 => ?_⟩
   cases e2
   exact ⟨o, e, ex.2.1⟩
 | _ => exact False.elim ty
noncomputable def tBM0 (K : PySem.W.Frag) (T : String) (r : V -> List V -> Hp -> VK -> Prop) (to : TE) : TE := fun σ H Q => to σ H fun x H1 => tyV K T x H1 /\ r x [] H1 Q
noncomputable def tBM (K : PySem.W.Frag) (T : String) (r : V -> List V -> Hp -> VK -> Prop) (to : TE) (t : TA) : TE := fun σ H Q => to σ H fun x H1 => tyV K T x H1 /\ t σ H1 fun xs H2 => r x xs H2 Q
variable {o e : Expr} {es : List Expr} {to : TE} {t : TA} {name : Str} {apos cpos : Pos} {T id : String} {r : V -> List V -> Hp -> VK -> Prop}
theorem pe_bm0 (pa : PlainAttrs T) (slot : Slot T name id) (hty : typeOf (.builtin id) = pure (.type "method_descriptor")) (hm : MtR X id r) (ho : PE X o to)
  (hbase : attributeBase o name X.env (eval o X.env) = eval o X.env := by rfl) (hline : (apos.endLine == cpos.line) = true := by rfl) : PE X (.Call (.Attribute o name apos) [] [] cpos) (tBM0 X.K T r to) := by
 intro pins s σ H Q I h
 refine wpAny_Call_method0_late hbase hline (thn (ho pins s σ H _ I h) fun v s1 ⟨x, H1, I1, r1, ty, q1⟩ => ?_)
 obtain ⟨h1, h2⟩ := tyV_is I1 r1 ty
 exact ⟨T, id, pa, slot, hty, h1, h2, Calls.callWith_builtin rfl (PySem.evalArgs_none (hm pins s1 σ H1 x [] v [] Q I1 r1 .nil q1))⟩
theorem pe_bm (pa : PlainAttrs T) (slot : Slot T name id) (hty : typeOf (.builtin id) = pure (.type "method_descriptor")) (hm : MtR X id r) (ho : PE X o to) (ha : PA X (e :: es) t)
  (hbase : attributeBase o name X.env (eval o X.env) = eval o X.env := by rfl)
  (hfew : ((backTo cpos (starEach (e :: es) X.env)).all (fun x => !x.1) && (backToKw cpos (keywordEach [] X.env)).all (fun x => x.1.isSome)
   && decide ((e :: es).length + ([] : List Keyword).length + (if ([] : List Keyword).isEmpty then 0 else 1) < 30)) = true := by rfl)
  (hline : (apos.endLine == cpos.line) = true := by rfl) (hs : starEach (e :: es) X.env = (false, eval e X.env) :: starEach es X.env := by rfl) (hplain : (backTo cpos (starEach es X.env)).any (·.1) = false := by rfl) :
  PE X (.Call (.Attribute o name apos) (e :: es) [] cpos) (tBM X.K T r to t) := by
 intro pins s σ H Q I h
 refine wpAny_Call_method_late hbase hfew hline rfl (thn (ho pins s σ H _ I h) fun v s1 ⟨x, H1, I1, r1, ty, q1⟩ => ?_)
 obtain ⟨h1, h2⟩ := tyV_is I1 r1 ty
 refine ⟨T, id, pa, slot, hty, h1, h2, ?_⟩
 have hA := ha cpos pins s1 σ H1 _ I1 q1
 rw [hs] at hA ⊢
 refine Calls.callWith_builtin (by show (false || (backTo cpos (starEach es X.env)).any (·.1)) = false; rw [hplain] <;> rfl) (Calls.evalArgs_plain ?_)
 exact thn hA fun us s2 ⟨vs, H2, I2, r2, q2⟩ => hm pins s2 σ H2 x vs v us Q I2 r1 r2 q2
end
end L2
namespace L2
open PySem PySem.Spec PyProof.Rows
noncomputable def MtM (X : Cx) (id : String) (r : V -> List V -> Hp -> VK -> Prop) : Prop :=
 ∀ (pins : List (Addr × Obj)) (s : Shared) (σ : St) (H : Hp) (x : V) (xs : List V) (v : Value) (us : List Value) (Q : VK), Inv X pins σ H s -> RelV x v -> Vals xs us -> r x xs H Q ->
  wpAny (model X.prog X.w) X.A (call (.builtin id) (v :: us)) (EP X pins σ Q) X.xe s
theorem Vals.one : ∀ {x : V} {us : List Value}, Vals [x] us -> ∃ u, us = [u] /\ RelV x u
 | _, _, .cons r .nil => ⟨_, rfl, r⟩
theorem Vals.two : ∀ {x y : V} {us : List Value}, Vals [x, y] us -> ∃ u v, us = [u, v] /\ RelV x u /\ RelV y v
 | _, _, _, .cons r (.cons q .nil) => ⟨_, _, rfl, r, q⟩
theorem Vals.zero : ∀ {us : List Value}, Vals [] us -> us = []
 | _, .nil => rfl
theorem Vals.dropLast {xs : List V} {us : List Value} (h : Vals xs us) : Vals xs.dropLast us.dropLast := by
 induction h with
 | nil => exact .nil
 | cons r t ih =>
  cases t with
  | nil => exact .nil
  | cons q t' => exact .cons r ih
theorem Vals.eraseIdx : ∀ {xs : List V} {us : List Value} (i : Nat), Vals xs us -> Vals (xs.eraseIdx i) (us.eraseIdx i)
 | _, _, _, .nil => .nil
 | _, _, 0, .cons _ t => t
 | _, _, i + 1, .cons r t => .cons r (Vals.eraseIdx i t)
theorem Vals.reverse {xs : List V} {us : List Value} (h : Vals xs us) : Vals xs.reverse us.reverse := by
 induction h with
 | nil => exact .nil
 | cons r t ih => rw [List.reverse_cons, List.reverse_cons]; exact Vals.append ih (.cons r .nil)
theorem Vals.rep {xs : List V} {us : List Value} (h : Vals xs us) : ∀ k : Nat, Vals (List.replicate k xs).flatten (List.replicate k us).flatten
 | 0 => .nil
 | k + 1 => by
  rw [List.replicate_succ, List.replicate_succ, List.flatten_cons, List.flatten_cons]
  exact Vals.append h (Vals.rep h k)
theorem erase_last {α : Type} (l : List α) : l.eraseIdx (l.length - 1) = l.dropLast := by
 induction l with
 | nil => rfl
 | cons a r ih =>
  cases r with
  | nil => rfl
  | cons b r =>
   have e : (a :: b :: r).length - 1 = ((b :: r).length - 1) + 1 := by
    have h1 : (a :: b :: r).length = r.length + 2 := rfl
    have h2 : (b :: r).length = r.length + 1 := rfl
    (first | lia | omega)
   rw [e, List.eraseIdx_cons_succ, ih]
   all_goals rfl
theorem len_erase {α : Type} : ∀ (l : List α) (i : Nat), (l.eraseIdx i).length <= l.length
 | [], _ => Nat.le_refl _
 | _ :: _, 0 => Nat.le_succ _
 | _ :: r, i + 1 => Nat.succ_le_succ (len_erase r i)
theorem foldl_rep (its : List Value) : ∀ (k : Nat) (acc : List Value),
  List.foldl (fun x1 x2 => x1 ++ x2) acc.toArray (List.replicate k its.toArray) = (acc ++ (List.replicate k its).flatten).toArray
 | 0, acc => by simp
 | k + 1, acc => by
  have e : acc.toArray ++ its.toArray = (acc ++ its).toArray := by simp
  have e2 : (acc ++ its) ++ (List.replicate k its).flatten = acc ++ (List.replicate (k + 1) its).flatten := by
   rw [List.replicate_succ, List.flatten_cons, List.append_assoc]
  rw [<- e2, <- foldl_rep its k (acc ++ its), <- e, List.replicate_succ, List.foldl_cons]
section
variable {X : Cx} {pins : List (Addr × Obj)} {σ : St} {H : Hp} {s : Shared} {l b : Addr} {xs ys zs : List V}
theorem Inv.lset {its its' : List Value} {n : Nat} {f : Array Value -> Array Value} {t' : Nat} (I : Inv X pins σ H s) (hH : H l = some (.lst xs))
  (e : s.heap.get? l = some { cls := .type "list", data := .seq its.toArray n }) (hf : f its.toArray = its'.toArray) (hv : Vals ys its') (hz : ys.length <= sizeLine) :
  Inv X pins σ (upd H l (.lst ys)) { s with heap := s.heap.update l (Obj.mapSeq f), toks := t' } := by
 have q := PySem.IsL.update e f
 rw [hf] at q
 refine I.write (x := l) (e := l) (by rw [hH]; exact trivial) (.inl rfl) (fun b' u hb hu => (Heap.get?_update_other s.heap (Obj.mapSeq f) (Ne.symm hb)).trans hu) ⟨_, q⟩ ?_
 exact ⟨hz, its', _, hv, q⟩
theorem Inv.lnew {its : List Value} {t' : Nat} (I : Inv X pins σ H s) (hv : Vals ys its) (hz : ys.length <= sizeLine) :
  Inv X pins σ (upd H s.heap.objs.size (.lst ys)) { s with heap := s.heap.push { cls := .type "list", data := .seq its.toArray }, toks := t' } :=
 I.laid (fun _ _ q => Heap.get?_push_of_some _ q) (Nat.le_refl _) ⟨hz, its, 0, hv, Heap.get?_push_size _ rfl⟩
theorem Inv.fresh (I : Inv X pins σ H s) : H s.heap.objs.size = none := I.hok.fresh (Nat.le_refl _)
theorem Inv.lstM (I : Inv X pins σ H s) (hH : H l = some (.lst xs)) : xs.length <= sizeLine /\ ∃ (its : List Value) (n : Nat), Vals xs its /\ xs.length = its.length /\ s.heap.get? l = some { cls := .type "list", data := .seq its.toArray n } := by
 obtain ⟨z, its, n, r, e⟩ := I.hok l _ hH
 exact ⟨z, its, n, r, r.length, e⟩
theorem notLongL {n : Nat} (h : n <= sizeLine) : Builtin.List.listTooLong n = false := by
 unfold Builtin.List.listTooLong
 exact decide_eq_false (by (first | lia | omega))
end
section
variable {X : Cx}
noncomputable def rAppend : V -> List V -> Hp -> VK -> Prop := fun x vs H Q => ∃ l xs y, x = .ref l /\ vs = [y] /\ H l = some (.lst xs) /\ xs.length < sizeLine /\ Q .non (upd H l (.lst (xs ++ [y])))
theorem mt_append : MtM X "list.append" rAppend := by
 intro pins s σ H x vs v us Q I rx rv h
 obtain ⟨l, xs, y, rfl, rfl, hH, hz, q⟩ := h
 cases rx
 obtain ⟨u, rfl, ru⟩ := rv.one
 obtain ⟨z, its, n, r, hl, e⟩ := I.lstM hH
 refine call_meets F.slot_list_append ⟨_, e, rfl⟩ F.entry_list_append (F.args_list_append_2 _ _) (PySem.list_append l its.toArray n u (by rw [List.size_toArray]; (first | lia | omega))) ⟨e, ?_⟩
 refine ⟨.non, _, I.lset (its' := its ++ [u]) hH e (by simp) (r.append (.cons ru .nil)) ?_, rfl, q⟩
 rw [List.length_append, List.length_singleton]
 (first | lia | omega)
noncomputable def rPop : V -> List V -> Hp -> VK -> Prop := fun x vs H Q => ∃ l xs y, x = .ref l /\ vs = [] /\ H l = some (.lst xs) /\ xs[xs.length - 1]? = some y /\ Q y (upd H l (.lst xs.dropLast))
theorem mt_pop : MtM X "list.pop" rPop := by
 intro pins s σ H x vs v us Q I rx rv h
 obtain ⟨l, xs, y, rfl, rfl, hH, hy, q⟩ := h
 cases rx
 have hus := rv.zero
 subst hus
 obtain ⟨z, its, n, r, hl, e⟩ := I.lstM hH
 obtain ⟨u, hu, ru⟩ := r.get hy
 have hy' : its.toArray[its.toArray.size - 1]? = some u := by
  show its.toArray[its.length - 1]? = some u
  rw [<- Array.getElem?_toList, <- hl]
  exact hu
 refine call_meets F.slot_list_pop ⟨_, e, rfl⟩ F.entry_list_pop (F.args_list_pop_1 _) (MeetsSeq.list_pop_last l its.toArray n u hy' (by rw [List.size_toArray]; (first | lia | omega))) ⟨e, ?_⟩
 refine ⟨y, _, I.lset (its' := its.dropLast) hH e ?_ r.dropLast ?_, ru, q⟩
 ·show its.toArray.eraseIdxIfInBounds (its.toArray.size - 1) = its.dropLast.toArray
  rw [List.size_toArray, List.eraseIdxIfInBounds_toArray, erase_last]
 ·rw [List.length_dropLast]
  (first | lia | omega)
noncomputable def rPopAt : V -> List V -> Hp -> VK -> Prop := fun x vs H Q => ∃ l xs i k y, x = .ref l /\ vs = [.int i] /\ H l = some (.lst xs) /\ -(2 ^ 63) <= i /\ i < 2 ^ 63 /\ seqIndex? i xs.length = some k /\ xs[k]? = some y /\ Q y (upd H l (.lst (xs.eraseIdx k)))
theorem mt_popAt : MtM X "list.pop" rPopAt := by
 intro pins s σ H x vs v us Q I rx rv h
 obtain ⟨l, xs, i, k, y, rfl, rfl, hH, h1, h2, hk, hy, q⟩ := h
 cases rx
 obtain ⟨u, rfl, ru⟩ := rv.one
 obtain ⟨t, rfl⟩ := ru
 obtain ⟨z, its, n, r, hl, e⟩ := I.lstM hH
 obtain ⟨w, hw, rw'⟩ := r.get hy
 refine call_meets F.slot_list_pop ⟨_, e, rfl⟩ F.entry_list_pop (F.args_list_pop_2 _ _)
  (MeetsSeq.list_pop_at l its.toArray n i t k w (fitsIndex_both h1 h2) (by rw [List.size_toArray, <- hl]; exact hk) (by rw [<- Array.getElem?_toList]; exact hw) (by rw [List.size_toArray]; (first | lia | omega))) ⟨e, ?_⟩
 refine ⟨y, _, I.lset (its' := its.eraseIdx k) hH e ?_ (r.eraseIdx k) ?_, rw', q⟩
 ·show its.toArray.eraseIdxIfInBounds k = (its.eraseIdx k).toArray
  rw [List.eraseIdxIfInBounds_toArray]
 ·have := len_erase xs k
  (first | lia | omega)
noncomputable def rCat : R2 := fun x y H Q => ∃ l b xs zs, x = .ref l /\ y = .ref b /\ H l = some (.lst xs) /\ H b = some (.lst zs) /\ xs.length + zs.length <= sizeLine /\ ∀ p, H p = none -> Q (.ref p) (upd H p (.lst (xs ++ zs)))
theorem op_cat : OpR X (binaryOp .Add) rCat := by
 intro pins s σ H x y v u Q I rx ry h
 obtain ⟨l, b, xs, zs, rfl, rfl, hH, hB, hz, q⟩ := h
 cases rx
 cases ry
 obtain ⟨z, its, n, r, hl, e⟩ := I.lstM hH
 obtain ⟨z2, its2, n2, r2, hl2, e2⟩ := I.lstM hB
 refine PySem.P.add_list e e2 ?_ (by rw [List.size_toArray, List.size_toArray]; (first | lia | omega))
 have ea : its.toArray ++ its2.toArray = (its ++ its2).toArray := by simp
 rw [ea]
 exact ⟨.ref _, _, I.lnew (t' := s.toks) (r.append r2) (by rw [List.length_append]; (first | lia | omega)), rfl, q _ I.fresh⟩
noncomputable def rRep : R2 := fun x y H Q => ∃ l k xs, x = .ref l /\ y = .int k /\ H l = some (.lst xs) /\ -(2 ^ 63) <= k /\ k < 2 ^ 63 /\ xs.length * k.toNat <= sizeLine /\
 ∀ p, H p = none -> Q (.ref p) (upd H p (.lst (List.replicate k.toNat xs).flatten))
theorem len_rep {α : Type} (xs : List α) (k : Nat) : (List.replicate k xs).flatten.length = k * xs.length := by
 induction k with
 | zero => simp
 | succ k ih => rw [List.replicate_succ, List.flatten_cons, List.length_append, ih, Nat.succ_mul, Nat.add_comm]
theorem op_rep : OpR X (binaryOp .Mult) rRep := by
 intro pins s σ H x y v u Q I rx ry h
 obtain ⟨l, k, xs, rfl, rfl, hH, h1, h2, hz, q⟩ := h
 cases rx
 obtain ⟨t, rfl⟩ := ry
 obtain ⟨z, its, n, r, hl, e⟩ := I.lstM hH
 have hlen : its.toArray.size * k.toNat <= sizeLine := by rw [List.size_toArray, <- hl]; exact hz
 have hcap : ¬ its.toArray.size * k.toNat > (2 ^ 63 - 1) / 8 := by
  have : (sizeLine : Nat) <= (2 ^ 63 - 1) / 8 := by decide
  (first | lia | omega)
 have hfit : ¬ (!Builtin.List.listFitsIndex k) = true := by
  rw [fitsIndex_both h1 h2]
  exact Bool.false_ne_true
 have hlong : ¬ Builtin.List.listTooLong (its.toArray.size * k.toNat) = true := by
  rw [notLongL hlen]
  exact Bool.false_ne_true
 have hnew : List.foldl (fun x1 x2 => x1 ++ x2) #[] (List.replicate (if its.toArray.isEmpty = true then 0 else k.toNat) its.toArray) = (List.replicate k.toNat its).flatten.toArray := by
  have f0 : ∀ m : Nat, List.foldl (fun x1 x2 => x1 ++ x2) #[] (List.replicate m its.toArray) = (List.replicate m its).flatten.toArray := fun m => by
   have := foldl_rep its m []
   rw [List.nil_append] at this
   exact this
  rw [f0]
  cases its with
  | nil => simp
  | cons a r' => rw [if_neg (by simp)]
 refine wpAny_binaryOp_repeat_ref (T := "list") (U := "int") (by decide) ⟨_, e, rfl⟩ (fun s' => typeIs_int s' k t) noFill_list_mul F.fills_int_mul F.slot_int_rmul repeat_list F.slot_int_index.lookup
  (call_meets F.slot_int_rmul (typeIs_int s k t) F.entry_int_rmul (F.args_int_rmul_2 _ _) (int___rmul___int_list k t l its.toArray n)
   ⟨e, rfl, ⟨_, e, rfl⟩, call_meets F.slot_list_mul ⟨_, e, rfl⟩ F.entry_list_mul (F.args_list_mul_2 _ _) (AutoListH.list___mul___list_int_3 l its.toArray n k t hfit hcap hlong) ⟨e, ?_⟩⟩)
 rw [hnew]
 exact ⟨.ref _, _, I.lnew (t' := s.toks) (r.rep k.toNat) (by rw [len_rep, Nat.mul_comm]; exact hz), rfl, q _ I.fresh⟩
end
section
variable {prog : Program} {w : World} {A : Around} {E : Value -> Shared -> Prop} {s : Shared}
end
section
variable {X : Cx}
end
end L2
namespace Att
open PySem PySem.W PySem.Calls PyProof.Rows
theorem ints_of_wellAll {P : Params} {h : Heap} : ∀ (ns : List Int) (vs : List Value), WellAll P h vs (ns.map WData.int) -> IntsAre vs ns := by
 intro ns
 induction ns with
 | nil =>
  intro vs w
  rw [List.map_nil] at w
  cases w
  exact .nil
 | cons n ns ih =>
  intro vs w
  rw [List.map_cons] at w
  cases w with
  | cons a b =>
   cases a
   exact .cons _ _ (ih _ b)
theorem script_of {l : OpenLaw} {n : Nat} (hn : l.most = some n) {P : Params} {h : Heap} {args : List WData} {vals : List Value}
  (hpre : l.row.toRowW.claim.pre args = true) (hwl : WellAll P h vals args) :
  ∃ a vs ns, vals = [Value.ref a] /\ args = [WData.list (ns.map WData.int)] /\ h.get? a = some { cls := .type "list", data := .seq vs.toArray } /\ IntsAre vs ns /\ ns.length <= n := by
 have hsh : WShape.hasAll [] args [.list .int] = true := (pre_splitW hpre).1
 have hc : l.pre.holds [] { args := args } = true := (pre_splitW hpre).2
 obtain ⟨d, r, rfl, h1, h2⟩ := hasAllW_cons hsh
 obtain rfl := hasAllW_nil h2
 obtain ⟨xs, rfl, h3⟩ := hasW_list h1
 obtain ⟨ns, rfl⟩ := items_int h3
 have hlen : ns.length <= n := by
  unfold OpenLaw.pre at hc
  have h4 : (WTm.not (.lt (.lit (.int (n : Int))) (.len (.arg 0)))).holds [] { args := [.list (ns.map .int)] } = true := by
   have h4 := (holds_andW hc).1
   rw [hn] at h4
   exact h4
  have h5 := condW_of h4 (w_not (w_lt w_lit (w_len_list (w_arg rfl))))
  rw [List.length_map] at h5
  refine Nat.le_of_not_lt fun q => ?_
  have q' : (n : Int) < ((ns.length : Nat) : Int) := by (first | lia | omega)
  first
   | (rw [decide_eq_true q'] at h5; exact absurd h5 (by decide))
   | (simp at h5; (first | lia | omega))
 cases hwl with
 | cons w1 w2 =>
  cases w2
  cases w1 with
  | list ho hall => exact ⟨_, _, ns, rfl, rfl, ho, ints_of_wellAll ns _ hall, hlen⟩
theorem post_true (l : OpenLaw) (args : List WData) : l.row.toRowW.claim.post args (.bool true) args = true :=
 postW_of (r := l.row.toRowW) (X := (true == true))
  (show WShape.has [] (.bool true) .bool = true by first | rfl | decide | simp [WShape.has, WShape.arms, WShape.armsAll])
  (show (WTm.eq .res (.lit (.bool true))).value [] { args := args, res := some (.bool true), after := args } = some (.bool (true == true)) from w_eq_bool (w_res rfl) w_lit) rfl
theorem attach_call {l : OpenLaw} {n : Nat} {q : Program} {loose : List Str} {XP : (Str -> Option Value) -> Heap -> Prop} {YP : World -> Heap -> Prop} {d : DefRec}
  (hn : l.most = some n) (hdf : d.params.defaults = [])
  (call : ∀ (w : World) (s₀ s₁ : Shared) (mg mb : Str -> Option Value) (fa : Addr) (o : Obj) (pm cd doc : Value) (a : Addr) (vs : List Value) (ns : List Int),
   Ground q loose [] XP w s₀ mg mb s₁.heap -> YP w s₁.heap ->
   s₁.heap.get? fa = some o -> o.data = .func (docDef d.name d.params d.body d.scope pm cd doc) -> s₁.heap.CodeRec cd d.name -> mg d.name = some (.ref fa) ->
   s₁.heap.get? a = some { cls := .type "list", data := .seq vs.toArray } -> IntsAre vs ns -> ns.length <= n -> s₁.gens = #[] ->
   codeAny (model l.prog w) callerA (.call (.ref fa) ⟨[.ref a], []⟩) (fun r s' => r = .ok (.ret (.bool true)) /\ OldK s₁.heap s'.heap /\ s'.os = s₁.os /\ AllBare s'.gens) s₁) :
  WalkO q loose XP YP l.row.toRowW d [] (fun f vs => PySem.call f vs) := by
 intro w s₀ s₁ mg mb G Y fa o pm cd doc dV kV ho hd hcd hD hmg hg args vals as hpre hlay hrd hwl hlo
 obtain rfl : dV = .none := Dflts.none hD hdf
 obtain rfl : kV = .none := Dflts.noKw hD
 obtain ⟨a, vs, ns, rfl, rfl, hobj, hints, hlen⟩ := script_of hn hpre hwl
 refine enter_call (codeAny_mono (call w s₀ s₁ mg mb fa o pm cd doc a vs ns G Y ho (fd_plain hd) hcd hmg hobj hints hlen hg) fun r s' hq => ?_)
 obtain ⟨rfl, h2, h3, h4⟩ := hq
 exact ⟨.inl ⟨.bool true, .bool true, [], rfl, fun _ => rfl, .bool true, post_true l _, fun _ => ⟨List.Pairwise.nil, fun _ hm => (nomatch hm)⟩⟩, h2, h3, h4⟩
section
variable {prog : Program} {w : World} {A : Around} {E : Value -> Shared -> Prop} {s : Shared} {K : Frag}
end
end Att
namespace L2
open PySem PySem.Spec PyProof.Rows
theorem vals_ints : ∀ {vs : List Value} {ns : List Int}, IntsAre vs ns -> Vals (ns.map V.int) vs
 | _, _, .nil => .nil
 | _, _, .cons n t h => .cons ⟨t, rfl⟩ (vals_ints h)
noncomputable def Only (H : Hp) : Prop := ∀ b, H b = none ∨ ∃ o xs, H b = some (.frz o (.lst xs))
theorem law_call {P : Program} {w : World} {K : PySem.W.Frag} {mg mb : Str -> Option Value} {CX : CXT} {k : Nat} {fa a : Addr} {fd : FuncData} {x : Str} {sp : Sp} {s₁ : Shared} {vs : List Value} {ns : List Int}
  (KX : K.In s₁.heap) (hns : s₁.heap.Ns mainGlobals mg) (hb : s₁.heap.Ns builtinsNs mb) (hbb : ∀ x : Str, x ≠ "__name__" -> mb x = bootBuiltins x) (hlim : s₁.heap.NoLimit) (hg : s₁.gens = #[])
  (ha : s₁.heap.get? a = some { cls := .type "list", data := .seq vs.toArray }) (hi : IntsAre vs ns) (hl : ns.length <= sizeLine) (hr : Room k callerA)
  (F : ∀ base : Heap, K.In base -> base.Ns mainGlobals mg -> FnOk P w K mg base CX k fa fd [x] sp) (hbind : ∀ (s : Shared) (u : Value), BindsTo s fd ⟨[u], []⟩ [(x, u)])
  (hsp : ∀ H : Hp, Only H -> SqL K H a (ns.map V.int) -> sp [.ref a] H (fun v _ => v = .bl true) fun _ _ _ => False)
  (hCX : ∀ H e s', CX [] H s₁ (fun _ _ _ => False) e s' -> False) :
  codeAny (model P w) callerA (.call (.ref fa) ⟨[.ref a], []⟩) (fun r s' => r = .ok (.ret (.bool true)) /\ OldK s₁.heap s'.heap /\ s'.os = s₁.os /\ AllBare s'.gens) s₁ := by
 have rv := vals_ints hi
 have lenV := hi.length
 have core : ∀ H : Hp, Only H -> SqL K H a (ns.map V.int) -> HOk P w H s₁.heap -> (∀ b, H b ≠ none -> b = a) -> (H a ≠ none -> K.lookup a = none) ->
   codeAny (model P w) callerA (.call (.ref fa) ⟨[.ref a], []⟩) (fun r s' => r = .ok (.ret (.bool true)) /\ OldK s₁.heap s'.heap /\ s'.os = s₁.os /\ AllBare s'.gens) s₁ := by
  intro H hO hS hok hA hK
  have base_of : ∀ {b : Addr} {o : Obj}, s₁.heap.get? b = some o -> H b = none -> (hidT s₁.heap H).get? b = some o := fun e n => hidT_get e n
  have noA : ∀ {b : Addr} {o : Obj} {es : Array DictEntry} {ep : Nat}, s₁.heap.get? b = some o -> o.data = .dict es ep -> H b = none := fun {b o es ep} e d => by
   cases q : H b with
   | none => rfl
   | some u =>
    have e' : b = a := hA b (by rw [q]; simp)
    subst e'
    rw [ha] at e; cases e
    have d' : Data.seq vs.toArray _ = Data.dict es ep := d
    cases d'
  have nsK : ∀ {b : Addr} {m : Str -> Option Value}, s₁.heap.Ns b m -> (hidT s₁.heap H).Ns b m := fun {b m} ⟨o, es, ep, e, d, r⟩ => ⟨o, es, ep, base_of e (noA e d), d, r⟩
  have hKb : K.In (hidT s₁.heap H) := fun b o e => base_of (KX b o e) (by
   cases q : H b with
   | none => rfl
   | some u =>
    have e' : b = a := hA b (by rw [q]; simp)
    subst e'
    rw [hK (by rw [q]; simp)] at e; cases e)
  have hM : Mod K mg (hidT s₁.heap H) := ⟨hKb, nsK hns, ⟨mb, nsK hb, hbb⟩, let ⟨mc, h1, h2⟩ := hlim; ⟨mc, nsK h1, h2⟩⟩
  have e0 : Env0 P w K mg (hidT s₁.heap H) callerA [] s₁ H := ⟨rfl, hM, fun b o e => of_hidT e, Nat.le_of_eq (hidT_size _ _), trivial, fun b hb => absurd (show b ∈ ([] : List Addr) from hb) (by simp), hok, .of_eq hg⟩
  refine codeAny_mono ((F _ hKb (nsK hns)).run callerA [] s₁ H ⟨[.ref a], []⟩ [.ref a] [.ref a] _ _ hr e0 (hbind s₁ (.ref a)) (.cons rfl .nil) (hsp H hO hS)) fun r s' h => ?_
  cases r with
  | error e => exact (hCX H e s' h).elim
  | ok fl =>
   cases fl with
   | next => exact False.elim h
   | brk => exact False.elim h
   | cont => exact False.elim h
   | ret u =>
    obtain ⟨v, H', os, bare, un, hok', r', q⟩ := h
    have q' : v = .bl true := q
    subst q'
    obtain rfl : u = Value.bool true := r'
    refine ⟨rfl, OldK.of_keep fun b o e => ?_, os, bare⟩
    cases q : H b with
    | none => exact un.keep b o e q (by intro z; exact absurd (show b ∈ ([] : List Addr) from z) (by simp)) (by simp)
    | some u =>
     rcases hO b with z | ⟨ob, xs, z⟩
     ·rw [q] at z; cases z
     ·have z2 := un.frzs b ob _ z
      obtain ⟨e1, _⟩ := hok b _ z
      obtain ⟨e2, _⟩ := hok' b _ z2
      rw [e] at e1; cases e1
      exact e2
 cases hk : K.lookup a with
 | some o =>
  have e := KX a o hk
  rw [ha] at e
  cases e
  refine core (fun _ => none) (fun _ => .inl rfl) (.inr ⟨_, vs.toArray, _, hk, rfl, rfl, rfl, by rw [List.size_toArray, lenV]; exact hl, by simpa using rv⟩) (fun b u z => by have z' : (none : Option HO) = some u := z; cases z') (fun b z => absurd rfl z) fun z => absurd rfl z
 | none =>
  refine core (fun b => if b = a then some (.frz { cls := .type "list", data := .seq vs.toArray } (.lst (ns.map V.int))) else none) (fun b => ?_) (.inl (.inr ⟨{ cls := .type "list", data := .seq vs.toArray }, if_pos rfl⟩)) (fun b u z => ?_) (fun b z => ?_) fun _ => hk
  ·by_cases hb : b = a
   ·exact .inr ⟨_, _, if_pos hb⟩
   ·exact .inl (if_neg hb)
  ·by_cases hb : b = a
   ·have z' := (if_pos hb).symm.trans z
    cases z'
    subst hb
    exact ⟨ha, by rw [List.length_map]; exact hl, vs, _, rv, ha⟩
   ·have z' := (if_neg hb).symm.trans z
    cases z'
  ·by_cases hb : b = a
   ·exact hb
   ·exact absurd (if_neg hb) z
end L2
namespace L2
open PySem PySem.Spec PyProof.Rows
theorem walk_of {l : PySem.W.OpenLaw} {n k : Nat} {q : Program} {loose : List Str} {XP : (Str -> Option Value) -> Heap -> Prop} {YP : World -> Heap -> Prop} {d : DefRec} {K : Params -> PySem.W.Frag} {CX : World -> CXT} {sp : World -> Sp} {x : Str}
  (hn : l.most = some n) (hn2 : n <= sizeLine) (hdf : d.params.defaults = []) (hr : Room k callerA)
  (hY : ∀ (w : World) (h : Heap), YP w h -> (K w.params).In h)
  (F : ∀ (w : World) (mg : Str -> Option Value) (fa : Addr) (h : Heap), (K w.params).In h -> h.Ns mainGlobals mg -> mg d.name = some (.ref fa) ->
   ∃ fd : FuncData, (∀ (s : Shared) (u : Value), BindsTo s fd ⟨[u], []⟩ [(x, u)]) /\
    ∀ base : Heap, (K w.params).In base -> base.Ns mainGlobals mg -> FnOk l.prog w (K w.params) mg base (CX w) k fa fd [x] (sp w))
  (hsp : ∀ (w : World) (H : Hp) (a : Addr) (ns : List Int), ns.length <= n -> Only H -> SqL (K w.params) H a (ns.map V.int) -> sp w [.ref a] H (fun v _ => v = .bl true) fun _ _ _ => False)
  (hCX : ∀ (w : World) (H : Hp) (s : Shared) (e : Value) (s' : Shared), CX w [] H s (fun _ _ _ => False) e s' -> False) :
  PySem.W.WalkO q loose XP YP l.row.toRowW d [] (fun f vs => PySem.call f vs) := by
 refine Att.attach_call hn hdf fun w s₀ s₁ mg mb fa o pm cd doc a vs ns G Y ho hd hcd hmg hobj hints hlen hg => ?_
 have KX := hY w _ Y
 obtain ⟨fd, hb, hF⟩ := F w mg fa _ KX G.T.g hmg
 exact law_call KX G.T.g G.T.b G.T.builtins G.T.nolimit hg hobj hints (Nat.le_trans hlen hn2) hr hF hb (fun H hO hS => hsp w H a ns hlen hO hS) fun H e s' => hCX w H s₁ e s'
end L2
namespace L2
open PySem PySem.Spec PyProof.Rows
noncomputable def defArgs (s : Stmt) : Arguments := match s with
 | .FunctionDef _ a _ _ _ _ _ _ _ _ => a
 | _ => { posonlyargs := [], args := [], vararg := none, kwonlyargs := [], kw_defaults := [], kwarg := none, defaults := [] }
noncomputable def defBody (s : Stmt) : List Stmt := match s with
 | .FunctionDef _ _ b _ _ _ _ _ _ _ => b
 | _ => []
noncomputable def defScope (s : Stmt) : Scope := match s with
 | .FunctionDef _ _ _ _ _ _ sc _ _ _ => sc
 | _ => { kind := .function, names := [], isGenerator := false, isCoroutine := false }
noncomputable abbrev CX0 : CXT := fun _ _ _ _ _ _ => False
noncomputable abbrev E0 : XK := fun _ _ _ => False
theorem pass0 {X : Cx} : Passes CX0 X E0 := fun _ _ _ _ _ _ _ h => h.elim
structure Fun (K : PySem.W.Frag) (x qual : Str) (st : Stmt) (f : Addr) (fd : FuncData) : Prop where
 ex : ∃ (oc : Value) (od : Option Addr) (kV doc pm : Value) (an : Option Addr) (cdv ct : Value) (osl : Array (Option Value)),
  fd = PySem.W.fnOf x qual (defArgs st) (defBody st) (defScope st) .none kV doc pm an cdv ct /\ K.lookup f = some ⟨oc, od, .func fd, osl⟩ /\ PySem.W.codeIn K cdv qual = true
 kp : PySem.W.keepIn K (.ref f) = true
section
variable {P : Program} {w : World} {K : PySem.W.Frag} {mg : Str -> Option Value} {base : Heap}
theorem Fun.ok {x qual : Str} {st : Stmt} {f : Addr} {fd : FuncData} {N ps : List Str} {k : Nat} {sp : Sp} (F : Fun K x qual st f fd) (S : FnScope N ps (defScope st)) (len : ∀ vs H Q E, sp vs H Q E -> vs.length = ps.length)
  (hbody : ∀ (cdv : Value) (A : Around) (outer : List Env) (s : Shared) (H : Hp) (vs : List V) (Q : VK) (E : XK), Room k (A.deeper (envOfC qual (defScope st) s.heap.objs.size f cdv)) -> sp vs H Q E ->
   ∃ t, PSs (cxOf CX0 P w K mg base N qual (defScope st) f cdv A outer s H E).nox (defBody st) t /\ t { nx := fun _ H' => Q .non H', rt := Q } (start N vs) H) : FnOk P w K mg base CX0 (k + 1) f fd ps sp := by
 obtain ⟨oc, od, kV, doc, pm, an, cdv, ct, osl, rfl, lk, hcd⟩ := F.ex
 refine fn_of lk hcd S len fun A outer s H vs Q E hr hsp => ?_
 obtain ⟨t, h, q⟩ := hbody cdv A outer s H vs Q E hr hsp
 exact ⟨t, h.nox, q⟩
theorem Fun.binds {x qual : Str} {st : Stmt} {f : Addr} {fd : FuncData} {ps : List Str} (F : Fun K x qual st f fd)
  (h : ∀ (kV doc pm : Value) (an : Option Addr) (cdv ct : Value) (us : List Value), us.length = ps.length -> bindArgs (PySem.W.fnOf x qual (defArgs st) (defBody st) (defScope st) .none kV doc pm an cdv ct) ⟨us, []⟩ = pure (ps.zip us)) : Binds K fd ps [] := by
 obtain ⟨oc, od, kV, doc, pm, an, cdv, ct, osl, rfl, lk, hcd⟩ := F.ex
 exact .all (h kV doc pm an cdv ct)
theorem fun_mk {x qual : Str} {st : Stmt} {f : Addr} {oc : Value} {od an : Option Addr} {osl : Array (Option Value)} {kV doc pm cdv ct : Value} (l : K.lookup f = some ⟨oc, od, .func (PySem.W.fnOf x qual (defArgs st) (defBody st) (defScope st) .none kV doc pm an cdv ct), osl⟩)
  (c : PySem.W.codeIn K cdv qual = true) (k : PySem.W.keepIn K (.ref f) = true) : Fun K x qual st f (PySem.W.fnOf x qual (defArgs st) (defBody st) (defScope st) .none kV doc pm an cdv ct) := ⟨⟨oc, od, kV, doc, pm, an, cdv, ct, osl, rfl, l, c⟩, k⟩
end
theorem hu_of {A : Around} {k : Nat} (hr : Room k A) : A.units + 1 < cLine := Nat.lt_of_le_of_lt (Nat.add_le_add_left (by decide : 1 <= 64) _) hr.units
section
variable {X : Cx}
theorem pv (i : Nat) {x : Str} {pos : Pos} (hN : X.N[i]? = some x := by rfl) (hv : Vis X.env.scope x := by first | exact Or.inl rfl | exact Or.inr (Or.inl rfl) | exact Or.inr (Or.inr rfl)) (hd : (x == ("__debug__" : Str)) = false := by decide)
  (hcd : (x == ("__classdict__" : Str)) = false := by decide) : PE X (.Name x pos) (tVar i) := pe_var hN hv hd hcd
end
theorem iteF {A B : Prop} (h : B) : if false = true then A else B := by
 rw [if_neg Bool.false_ne_true]
 exact h
theorem iteT {A B : Prop} (h : A) : if true = true then A else B := by
 rw [if_pos rfl]
 exact h
theorem ite2 {c A B : Prop} [Decidable c] (h1 : c -> A) (h2 : ¬ c -> B) : if c then A else B := by
 by_cases h : c
 ·rw [if_pos h]
  exact h1 h
 ·rw [if_neg h]
  exact h2 h
theorem iteNS {c A B : Prop} [Decidable c] (hc : c) (h : B) : if (!decide c) = true then A else B := by
 rw [decide_eq_true hc]
 exact iteF h
noncomputable def Same (H H' : Hp) : Prop := ∀ b o, H b = some o -> H' b = some o
theorem Same.refl (H : Hp) : Same H H := fun _ _ h => h
theorem Same.trans {H H1 H2 : Hp} (a : Same H H1) (b : Same H1 H2) : Same H H2 := fun c o h => b c o (a c o h)
theorem Same.free {H H' : Hp} (e : Same H H') {l : Addr} (h : H' l = Option.none) : H l = Option.none := by
 cases q : H l with
 | none => rfl
 | some o =>
  rw [e l o q] at h
  cases h
theorem Same.seq {K : PySem.W.Frag} {H H' : Hp} {a : Addr} {xs : List V} (e : Same H H') (h : SqL K H a xs) : SqL K H' a xs := by
 rcases h with (h | ⟨o, h⟩) | h
 ·exact .inl (.inl (e _ _ h))
 ·exact .inl (.inr ⟨o, e _ _ h⟩)
 ·exact .inr h
end L2
namespace L2
open PySem PySem.Spec PyProof.Rows
theorem closure_ok {env : Env} {scope : Scope} (h : ∀ y ∈ scope.names, y.2 = .free -> ∃ c, env.cells.lookup y.1 = some c) :
  ∃ cl, closureFor scope env = pure cl /\ (∀ x c, cl.lookup x = some c -> env.cells.lookup x = some c) /\ ∀ y ∈ scope.names, y.2 = .free -> cl.lookup y.1 = env.cells.lookup y.1 := by
 have go : ∀ (names : List (Str × NameKind)) (acc : List (Str × Addr)), (∀ y ∈ names, y.2 = .free -> ∃ c, env.cells.lookup y.1 = some c) ->
   (∀ x c, acc.lookup x = some c -> env.cells.lookup x = some c) ->
   ∃ cl, (forIn names acc (fun (y : Str × NameKind) (cs : List (Str × Addr)) => if (y.2 == .free) = true then (do let c <- cellOf env y.1; pure (ForInStep.yield ((y.1, c) :: cs))) else pure (ForInStep.yield cs)) : Sem (List (Str × Addr))) = pure cl /\
    (∀ x c, cl.lookup x = some c -> env.cells.lookup x = some c) /\ (∀ x c, acc.lookup x = some c -> cl.lookup x = some c) /\ ∀ y ∈ names, y.2 = .free -> cl.lookup y.1 = env.cells.lookup y.1 := by
  intro names
  induction names with
  | nil => intro acc _ ha; exact ⟨acc, rfl, ha, fun _ _ h => h, fun y hy => nomatch hy⟩
  | cons y r ih =>
   intro acc hn ha
   obtain ⟨n, k⟩ := y
   by_cases hk : k = .free
   ·subst hk
    obtain ⟨c, hc⟩ := hn (n, .free) List.mem_cons_self rfl
    have ha' : ∀ x d, (((n, c) :: acc : List (Str × Addr))).lookup x = some d -> env.cells.lookup x = some d := fun x d e => by
     rw [List.lookup_cons] at e
     cases hx : x == n with
     | true =>
      rw [hx] at e
      have e1 : x = n := eq_of_beq hx
      subst e1
      cases e
      exact hc
     | false => rw [hx] at e; exact ha x d e
    obtain ⟨cl, e, h1, h2, h3⟩ := ih ((n, c) :: acc) (fun y hy => hn y (List.mem_cons_of_mem _ hy)) ha'
    refine ⟨cl, ?_, h1, fun x d e => ?_, fun y hy hf => ?_⟩
    ·rw [List.forIn_cons]
     have ec : cellOf env n = pure c := by unfold cellOf; rw [hc]
     simp only [beq_self_eq_true, if_true]
     rw [ec]
     exact e
    ·have e' := ha x d e
     by_cases hx : x = n
     ·subst hx
      rw [hc] at e'; cases e'
      exact h2 x c (by rw [List.lookup_cons]; simp)
     ·exact h2 x d (by rw [List.lookup_cons, beq_eq_false_iff_ne.mpr hx]; exact e)
    ·rcases List.mem_cons.mp hy with rfl | hy
     ·show cl.lookup n = env.cells.lookup n
      rw [hc]
      exact h2 n c (by rw [List.lookup_cons]; simp)
     ·exact h3 y hy hf
   ·obtain ⟨cl, e, h1, h2, h3⟩ := ih acc (fun y hy => hn y (List.mem_cons_of_mem _ hy)) ha
    refine ⟨cl, ?_, h1, h2, fun y hy hf => ?_⟩
    ·rw [List.forIn_cons]
     have : (k == NameKind.free) = false := by simpa using hk
     simp only [this, Bool.false_eq_true, if_false]
     exact e
    ·rcases List.mem_cons.mp hy with rfl | hy
     ·exact absurd hf hk
     ·exact h3 y hy hf
 obtain ⟨cl, e, h1, _, h3⟩ := go scope.names [] h (fun x c e => by simp at e)
 refine ⟨cl, ?_, h1, h3⟩
 unfold closureFor
 exact (congrArg (fun m => m >>= fun r => pure r) e).trans rfl
noncomputable def compSt (n : Nat) (ix : List Nat) (σ : St) : St := List.replicate n none ++ ix.map fun i => σ.getD i none
noncomputable def Cx.comp (X : Cx) (s₂ : Shared) (H₂ : Hp) (N' : List Str) (scope : Scope) (cl : List (Str × Addr)) (C : Addr) (fp : List Addr) : Cx :=
 { X with N := N', s₀ := s₂, H₀ := H₂, env := compEnvC scope cl C X.env, outer := X.stack, stack := X.stack, ex := fp, fn := fun _ => false, pn := [], xe := fun _ _ => False }
structure CompScope (X : Cx) (scope : Scope) (N' : List Str) (n : Nat) (ix : List Nat) : Prop where
 kind : scope.kind = .function
 nocell : ∀ y ∈ scope.names, y.2 ≠ .cell
 names : ∀ y ∈ scope.names, y.2 = .local -> scope.names.lookup y.1 = some .local
 free : ∀ y ∈ scope.names, y.2 = .free -> X.env.scope.names.lookup y.1 = some .cell ∨ X.env.scope.names.lookup y.1 = some .free
 nodup : ∀ y : Str, (y, NameKind.free) ∈ scope.names -> scope.names.lookup y = some .local -> False
 len : N'.length = n + ix.length
 at_ : ∀ (j i : Nat), ix[j]? = some i -> ∃ x, N'[n + j]? = some x /\ X.N[i]? = some x /\ (x, NameKind.free) ∈ scope.names
end L2
namespace L2
open PySem PySem.Spec PyProof.Rows
theorem relabel_lookup {env : Env} {scope : Scope} (x : Str) : (relabel scope env).names.lookup x = (scope.names.lookup x).map fun k => if (k == .free && env.scope.kind == .function && env.kindOf x == some .cell) then .cell else k := by
 show (scope.names.map fun (n, k) => if (k == NameKind.free && env.scope.kind == .function && env.kindOf n == some .cell) then (n, NameKind.cell) else (n, k)).lookup x = _
 generalize scope.names = l
 induction l with
 | nil => rfl
 | cons y r ih =>
  obtain ⟨n, k⟩ := y
  rw [List.map_cons, List.lookup_cons]
  cases hx : x == n with
  | true =>
   have e : x = n := eq_of_beq hx
   subst e
   by_cases hc : (k == NameKind.free && env.scope.kind == .function && env.kindOf x == some .cell) = true
   ·rw [if_pos hc, List.lookup_cons]
    simp only [beq_self_eq_true]
    show some NameKind.cell = some (ite _ _ _)
    rw [if_pos hc]
   ·rw [if_neg hc, List.lookup_cons]
    simp only [beq_self_eq_true]
    show some k = some (ite _ _ _)
    rw [if_neg hc]
  | false =>
   by_cases hc : (k == NameKind.free && env.scope.kind == .function && env.kindOf n == some .cell) = true
   ·rw [if_pos hc, List.lookup_cons, hx]; exact ih
   ·rw [if_neg hc, List.lookup_cons, hx]; exact ih
section
variable {X : Cx} {pins : List (Addr × Obj)} {σ : St} {H : Hp} {s : Shared}
theorem relabel_free {env : Env} {scope : Scope} {x : Str} (h : scope.names.lookup x = some .free) : (relabel scope env).names.lookup x = some .cell ∨ (relabel scope env).names.lookup x = some .free := by
 rw [relabel_lookup, h]
 by_cases hc : (NameKind.free == NameKind.free && env.scope.kind == .function && env.kindOf x == some .cell) = true
 ·exact .inl (by show some (ite _ _ _) = _; rw [if_pos hc])
 ·exact .inr (by show some (ite _ _ _) = _; rw [if_neg hc])
theorem of_relabel {env : Env} {scope : Scope} {x : Str} (hn : ∀ y ∈ scope.names, y.2 ≠ .cell) (h : (relabel scope env).names.lookup x = some .cell ∨ (relabel scope env).names.lookup x = some .free) : scope.names.lookup x = some .free := by
 rw [relabel_lookup] at h
 cases e : scope.names.lookup x with
 | none => rw [e] at h; rcases h with h | h <;> cases h
 | some k =>
  rw [e] at h
  have hk := hn _ (PySem.mem_of_lookup e)
  by_cases hf : k = .free
  ·rw [hf]
  ·have hb : (k == NameKind.free) = false := by simpa using hf
   have hr : Option.map (fun k => if (k == NameKind.free && env.scope.kind == .function && env.kindOf x == some .cell) = true then NameKind.cell else k) (some k) = some k := by
    show some (ite _ _ _) = _
    rw [if_neg (by rw [hb]; simp)]
   rw [hr] at h
   rcases h with h | h
   ·cases h; exact absurd rfl hk
   ·exact h
theorem inv_comp {scope : Scope} {N' : List Str} {n : Nat} {ix : List Nat} {cl : List (Str × Addr)} {fp : List Addr} {h₁ : Heap} {acc C : Addr} {na : Nat} {m : Str -> Option Value} {tk : Nat}
  (I : Inv X pins σ H s) (S : CompScope X scope N' n ix) (hcl1 : ∀ x c, cl.lookup x = some c -> X.env.cells.lookup x = some c) (hcl2 : ∀ y ∈ scope.names, y.2 = .free -> cl.lookup y.1 = X.env.cells.lookup y.1)
  (hf : ∀ b ∈ fp, FpOk X pins H b) (hlt : ∀ b ∈ fp, b < s.heap.objs.size) (ha : s.heap.objs.size <= acc) (hC : s.heap.objs.size <= C) (hne : C ≠ acc)
  (k : ∀ b u, s.heap.get? b = some u -> h₁.get? b = some u) (hacc : h₁.get? acc = some { cls := .type "list", data := .seq ([] : List Value).toArray na }) (hns : h₁.Ns C m) :
  Inv (X.comp s H N' scope cl C fp) [] (compSt n ix σ) (upd H acc (.lst [])) { s with heap := h₁, toks := tk } := by
 have fr : ∀ b : Addr, s.heap.objs.size <= b -> H b = none := fun b hb => I.hok.fresh hb
 have cellLt : ∀ x c, cl.lookup x = some c -> c < s.heap.objs.size := fun x c e => by
  obtain ⟨v, q⟩ := I.cell x c (hcl1 x c e)
  exact q.lt
 refine ⟨⟨I.ok.mod, S.kind, I.ok.glob, I.ok.blt, hC, fun x y c e1 e2 => I.ok.inj x y c (hcl1 x c e1) (hcl1 y c e2), fun x hx => ?_, fun x c e _ => absurd e Bool.false_ne_true, I.ok.hd, I.ok.frames, .inl rfl, fun b hb => ⟨Nat.ne_of_lt (Nat.lt_of_lt_of_le (hlt b hb) hC), fun x c e => (hf b hb).2.2.2.2.1 x c (hcl1 x c e)⟩,
   I.bs, Nat.le_trans I.ok.bsz I.sz, fun b o e hb => ?_, fun b hb hs => ?_, I.stack, I.stkFree⟩,
  rfl, I.bare, Un.laid k ha (fr acc ha), ⟨m, hns, fun i x v e1 e2 e3 => ?_⟩, fun x c e => ?_, ?_, fun x c e => ?_, fun p hp => absurd (show p ∈ ([] : List (Addr × Obj)) from hp) (by simp), I.hok.laid k ha ⟨Nat.zero_le _, [], na, .nil, hacc⟩, ?_⟩
 ·have hx' : scope.names.lookup x = some .free := of_relabel (env := X.env) S.nocell hx
  have hm := PySem.mem_of_lookup hx'
  obtain ⟨c, e⟩ := I.ok.has x (S.free _ hm rfl)
  exact ⟨c, (hcl2 _ hm rfl).trans e⟩
 ·rcases (hf b hb).2.2.2.1 with z | z
  ·exact I.ok.noex b o e z
  ·exact absurd (Nat.lt_of_lt_of_le (Heap.lt_size e) (Nat.le_trans I.ok.bsz z)) (Nat.lt_irrefl _)
 ·rcases List.mem_cons.mp (I.stkSub b hs) with z | z
  ·exact (hf b hb).2.1 z
  ·exact (hf b hb).2.2.1 z
 ·-- a name of the frame, seen through its cell
  have hi : n <= i := by
   by_cases hi : n <= i
   ·exact hi
   ·unfold compSt at e2
    rw [List.getElem?_append_left (by simp; (first | lia | omega)), List.getElem?_replicate] at e2
    split at e2 <;> cases e2
  obtain ⟨j, rfl⟩ : ∃ j, i = n + j := ⟨i - n, by (first | lia | omega)⟩
  unfold compSt at e2
  rw [List.getElem?_append_right (by simp), List.length_replicate, Nat.add_sub_cancel_left, List.getElem?_map] at e2
  cases ej : ix[j]? with
  | none => rw [ej] at e2; cases e2
  | some q =>
   rw [ej] at e2
   have e2' : σ.getD q none = some v := Option.some.inj e2
   have e2'' : σ[q]? = some (some v) := by
    rw [List.getD_eq_getElem?_getD] at e2'
    cases eq : σ[q]? with
    | none => rw [eq] at e2'; cases e2'
    | some z => rw [eq] at e2'; exact congrArg some e2'
   obtain ⟨y, h1, h2, h3⟩ := S.at_ j q ej
   have ey : y = x := Option.some.inj (h1.symm.trans e1)
   subst ey
   have hk := S.free _ h3 rfl
   obtain ⟨mX, _, hl⟩ := I.loc
   obtain ⟨u, r, l⟩ := hl q y v h2 e2'' (.inr hk)
   refine ⟨u, r, .inr ?_⟩
   have hkc : X.env.kindOf y = some .cell ∨ X.env.kindOf y = some .free := hk
   have l' : ∃ c, X.env.cells.lookup y = some c /\ s.heap.IsCell c (some u) := by
    rcases l with ⟨z, _⟩ | ⟨_, c, ec, hc⟩
    ·rcases hkc with q | q <;> (rw [q] at z; cases z)
    ·exact ⟨c, ec, hc⟩
   obtain ⟨c, ec, o, ho, hd⟩ := l'
   have e3' : Vis (relabel scope X.env) y := e3
   refine ⟨?_, c, (hcl2 _ h3 rfl).trans ec, o, k _ _ ho, hd⟩
   have nl : scope.names.lookup y ≠ some .local := fun z => ?_
   ·cases el : scope.names.lookup y with
    | none =>
     have : (relabel scope X.env).names.lookup y = none := by rw [relabel_lookup, el]; rfl
     rcases e3' with z | z | z <;> (rw [this] at z; cases z)
    | some kk =>
     have hmem := PySem.mem_of_lookup el
     have ncell := S.nocell _ hmem
     have hr : (relabel scope X.env).names.lookup y = some (if (kk == NameKind.free && X.env.scope.kind == .function && X.env.kindOf y == some .cell) = true then .cell else kk) := by rw [relabel_lookup, el]; rfl
     by_cases hkf : kk = .free
     ·subst hkf
      exact relabel_free (env := X.env) el
     ·have hb : (kk == NameKind.free) = false := by simpa using hkf
      have hr' : (relabel scope X.env).names.lookup y = some kk := by rw [hr, hb]; rfl
      rcases e3' with z | z | z
      ·rw [hr'] at z; cases z; exact absurd el nl
      ·rw [hr'] at z; cases z; exact absurd rfl ncell
      ·rw [hr'] at z; cases z; exact absurd rfl hkf
   ·exact S.nodup _ h3 z
 ·obtain ⟨v, o, ho, hd⟩ := I.cell x c (hcl1 x c e)
  exact ⟨v, o, k _ _ ho, hd⟩
 ·show upd H acc (.lst []) C = none
  rw [upd_ne hne]; exact fr C hC
 ·show upd H acc (.lst []) c = none
  have := cellLt x c e
  rw [upd_ne (Nat.ne_of_lt (Nat.lt_of_lt_of_le this ha))]
  exact I.freeC x c (hcl1 x c e)
 ·show (compSt n ix σ).length = N'.length
  unfold compSt
  rw [List.length_append, List.length_replicate, List.length_map, S.len]
end
end L2
namespace L2
open PySem PySem.Spec PyProof.Rows
noncomputable def Wk (σ σ' : St) : Prop := σ.length = σ'.length /\ ∀ (i : Nat) v, σ[i]? = some (some v) -> σ'[i]? = some (some v)
noncomputable def PTs (Y : Cx) (ifs : List Expr) (t : TT) : Prop :=
 ∀ (pins : List (Addr × Obj)) (s : Shared) (σ : St) (H : Hp) (Q : Bool -> Hp -> Prop), Inv Y pins σ H s -> t σ H Q ->
  wpAny (model Y.prog Y.w) Y.A (forIn ifs true fun c r => if r = true then do let ok <- isTrue c Y.env (eval c Y.env); pure (ForInStep.yield ok) else pure (ForInStep.yield r)) (TP Y pins σ Q) Y.xe s
noncomputable def tNoTest : TT := fun _ H Q => Q true H
theorem pts_nil {Y : Cx} : PTs Y [] tNoTest := fun _ _ _ H _ I h => wpAny_tests_nil ⟨H, I, h⟩
theorem pts_one {Y : Cx} {c : Expr} {t : TT} (h : PT Y c t) : PTs Y [c] t := fun pins s σ H Q I q => wpAny_tests_one (h pins s σ H Q I q)
theorem compLoop_gen {prog : Program} {w : World} {A : Around} {R : Result -> Shared -> Prop} {s : Shared} {elt target iter : Expr} {ifs : List Expr} {scope : Scope} {pos : Pos} {it acc : Value} {env : Env} (I : Nat -> Shared -> Prop)
  (turn : ∀ n s, I n s -> wpAny (model prog w) A (pyNext it) (fun r s₁ => match r with
   | none => R (.ok .next) s₁
   | some v => wpAny (model prog w) A (letOwnedTupleGo target it v) (fun _ s₂ => wpAny (model prog w) A (assign target env v) (fun _ s₃ =>
     wpAny (model prog w) A (forIn ifs true fun c r => if r = true then do let ok <- isTrue c env (eval c env); pure (ForInStep.yield ok) else pure (ForInStep.yield r)) (fun ok s₄ =>
      if ok = true then wpAny (model prog w) A (eval elt env) (fun x s₅ =>
       wpAny (model prog w) A (call (.builtin "list.append") [acc, x]) (fun _ s₆ => ∃ m, m < n /\ I m s₆) (fun _ _ => False) s₅) (fun _ _ => False) s₄
      else ∃ m, m < n /\ I m s₄) (fun _ _ => False) s₃) (fun _ _ => False) s₂) (fun _ _ => False) s₁) (fun _ _ => False) s)
  (n : Nat) (h : I n s) :
  codeAny (model prog w) A (.compLoop (.ListComp elt [⟨target, iter, ifs, 0⟩] scope pos) 0 it acc env) R s := by
 refine codeAny_loop rfl I (fun n s hI => ?_) n h
 show wpAny _ A ((compTurn (.ListComp elt [⟨target, iter, ifs, 0⟩] scope pos) 0 it acc env).onRaise (fun x => do noteFrame x env; theTreesLotGoes x)) _ _ s
 refine wpAny_noted (wpAny_noRaise ?_)
 rw [compTurn_list]
 refine wpAny_bind (wpAny_standAt (wpAny_bind (thn (turn n s hI) fun r s₁ h₁ => ?_)))
 cases r with
 | none => exact wpAny_pure h₁
 | some v =>
  refine wpAny_bind (thn h₁ fun _ s₂ h₂ => wpAny_bind (thn h₂ fun _ s₃ h₃ => wpAny_bind (thn h₃ fun ok s₄ h₄ => ?_)))
  cases ok with
  | false => exact wpAny_pure ⟨rfl, h₄⟩
  | true => exact wpAny_bind (wpAny_bind (thn h₄ fun x s₅ h₅ => wpAny_bind (thn h₅ fun _ s₆ h₆ => wpAny_pure (wpAny_pure ⟨rfl, h₆⟩))))
noncomputable def LcW (J : It) (H1 : Hp) (g : TG) (tt : TT) (te : TE) (n : Nat) (ix : List Nat) (σ : St) (Q : VK) : Prop := ∀ acc, H1 acc = none ->
 ∃ W : Nat -> Nat -> Hp -> Prop, (∃ m, W 0 m (upd H1 acc (.lst []))) /\ ∀ i m H, W i m H ->
  (J.stop i H /\ Q (.ref acc) H) ∨ (J.go i H /\ ∀ x H', J.yld i H x H' -> g x (compSt n ix σ) H' fun σ2 H2 => Wk (compSt n ix σ) σ2 /\ tt σ2 H2 fun b H3 =>
   if b = true then te σ2 H3 fun v H4 => ∃ ys, H4 acc = some (.lst ys) /\ ys.length < sizeLine /\ ∃ m', m' < m /\ W (i + 1) m' (upd H4 acc (.lst (ys ++ [v])))
   else ∃ m', m' < m /\ W (i + 1) m' H3)
noncomputable def tLc (wi : TI) (g : TG) (tt : TT) (te : TE) (n : Nat) (ix : List Nat) : TE := fun σ H Q => wi σ H fun J H1 => LcW J H1 g tt te n ix σ Q
section
variable {X : Cx} {elt tg iter : Expr} {ifs : List Expr} {scope : Scope} {pos : Pos} {wi : TI} {g : TG} {tt : TT} {te : TE} {N' : List Str} {n : Nat} {ix : List Nat}
theorem lc_core {pins : List (Addr × Obj)} {σ : St} {H2 : Hp} {s2 : Shared} {cl : List (Str × Addr)} {it : Addr} {fp : List Addr} {tn : Nat -> Heap -> Prop} {J : It} {Q : VK} {R : Value -> Addr -> Result -> Shared -> Prop}
  (hc : X.calm = true) (S : CompScope X scope N' n ix)
  (hY : ∀ s₂ H₂ cl C fp, PG (X.comp s₂ H₂ N' scope cl C fp) tg g /\ PTs (X.comp s₂ H₂ N' scope cl C fp) ifs tt /\ PE (X.comp s₂ H₂ N' scope cl C fp) elt te)
  (I2 : Inv X pins σ H2 s2) (hcl1 : ∀ x c, cl.lookup x = some c -> X.env.cells.lookup x = some c) (hcl2 : ∀ y ∈ scope.names, y.2 = .free -> cl.lookup y.1 = X.env.cells.lookup y.1)
  (T : Turn X.prog X.w X.K tg J fp it tn) (st2 : tn 0 s2.heap) (f2 : ∀ b ∈ fp, FpOk X pins H2 b)
  (hW : LcW J H2 g tt te n ix σ Q)
  (hR : ∀ acc C s' H' m, s'.heap.Ns C m -> Inv X pins σ H' s' -> H' C = none -> C ≠ X.env.locals -> (C ∈ X.ex ∨ X.s₀.heap.objs.size <= C) -> (∀ x c, X.env.cells.lookup x = some c -> c ≠ C) -> (∀ p ∈ X.pn ++ pins, p.1 ≠ C) -> C ∉ X.fs -> Q (.ref acc) H' -> R (.ref acc) C (.ok .next) s') :
  wpAny (model X.prog X.w) X.A (newList []) (fun acc s₃ => wpAny (model X.prog X.w) X.A (newFunctionEnv scope X.env.globals cl [] X.env.qual none .none (some X.env)) (fun cenv s₄ =>
   codeAny (model X.prog X.w) X.A (.compStart (.ListComp elt [⟨tg, iter, ifs, 0⟩] scope pos) 0 (.ref it) acc { cenv with scope := relabel scope X.env }) (R acc cenv.locals) s₄) X.xe s₃) X.xe s2 := by
 refine wpAny_newObj_type (wpAny_newFunctionEnv S.nocell (by intro y hy; simp at hy) (fun h₁ hns₁ hsb₁ => ?_) S.kind)
 dsimp only at hns₁ hsb₁ ⊢
 generalize hH2 : s2.heap.push { cls := .type "list", dict := none, data := .seq ([] : List Value).toArray } = G at hns₁ hsb₁ ⊢
 have hC : G.objs.size = s2.heap.objs.size + 1 := by rw [<- hH2, Heap.size_push]
 have hlt : ∀ b ∈ fp, b < s2.heap.objs.size := fun b hb => by
  obtain ⟨o, e, _⟩ := T.obj _ _ st2 b hb
  exact Heap.lt_size e
 have old : ∀ b o, s2.heap.get? b = some o -> h₁.get? b = some o := fun b o e => hsb₁.extBut b o (by rw [hC]; exact Nat.ne_of_lt (Nat.lt_succ_of_lt (Heap.lt_size e))) (Heap.get?_push_of_some _ (hH2 ▸ Heap.get?_push_of_some _ e))
 have hacc : h₁.get? s2.heap.objs.size = some { cls := .type "list", dict := none, data := .seq ([] : List Value).toArray } := hsb₁.extBut _ _ (by rw [hC]; exact Nat.ne_of_lt (Nat.lt_succ_self _)) (Heap.get?_push_of_some _ (hH2 ▸ Heap.get?_push_size _ rfl))
 obtain ⟨W, ⟨m0, w0⟩, turn⟩ := hW s2.heap.objs.size (I2.hok.fresh (Nat.le_refl _))
 obtain ⟨hYg, hYt, hYe⟩ := hY s2 H2 cl G.objs.size fp
 have fpY : ∀ {H' : Hp}, (∀ b ∈ fp, H' b = none) -> ∀ b ∈ fp, FpOk (X.comp s2 H2 N' scope cl G.objs.size fp) [] H' b := fun {H'} hn b hb => by
  obtain ⟨_, q1, q2, q3, q4, q5⟩ := f2 b hb
  refine ⟨hn b hb, ?_, fun z => ?_, .inl hb, fun x c e => q4 x c (hcl1 x c e), fun p hp => absurd (show p ∈ ([] : List (Addr × Obj)) from hp) (by simp)⟩
  ·show b ≠ G.objs.size
   rw [hC]
   exact Nat.ne_of_lt (Nat.lt_succ_of_lt (hlt b hb))
  ·rcases List.mem_cons.mp (I2.stkSub b z) with y | y
   ·exact q1 y
   ·exact q2 y
 have loop : ∀ s₃ : Shared, s₃ = { s2 with heap := h₁, toks := s2.toks + ([] : List (Str × Value)).length } ->
   codeAny (model X.prog X.w) X.A (.compLoop (.ListComp elt [⟨tg, iter, ifs, 0⟩] scope pos) 0 (.ref it) (.ref s2.heap.objs.size) (compEnvC scope cl G.objs.size X.env)) (R (.ref s2.heap.objs.size) G.objs.size) s₃ := by
  rintro s₃ rfl
  have I4 := inv_comp (tk := s2.toks + ([] : List (Str × Value)).length) I2 S hcl1 hcl2 f2 hlt (Nat.le_refl _) (by rw [hC]; exact Nat.le_succ _) (by rw [hC]; exact Nat.ne_of_gt (Nat.lt_succ_self _)) old hacc hns₁
  refine compLoop_gen (fun n' s' => ∃ i H', Inv (X.comp s2 H2 N' scope cl G.objs.size fp) [] (compSt n ix σ) H' s' /\ tn i s'.heap /\ (∀ b ∈ fp, H' b = none) /\ W i n' H') ?_ m0
   ⟨0, _, I4, T.keep _ _ _ st2 fun b hb o e => old b o e, fun b hb => ?_, w0⟩
  ·rintro n' s3 ⟨i, H3, I3, st3, fr3, w3⟩
   rcases turn i n' H3 w3 with ⟨stop, q⟩ | ⟨go, step⟩
   ·refine thn (T.done (X.comp s2 H2 N' scope cl G.objs.size fp) rfl rfl rfl hc i [] s3 _ H3 _ I3 (fpY fr3) st3 stop) fun r s4 ⟨hr, I5⟩ => ?_
    subst hr
    obtain ⟨mC, hnC, _⟩ := I5.loc
    have IX : Inv X pins σ H3 s4 := I2.call' I5.os I5.base I5.hok I5.bare fun b hb => by
     obtain ⟨_, q1, q2, q3, q4, q5⟩ := f2 b hb
     exact ⟨q3, q1, q4, q5⟩
    refine hR _ _ s4 H3 mC hnC IX I5.free ?_ (.inr ?_) (fun x c e z => ?_) (fun p hp z => ?_) (I2.nofs (by rw [hC]; exact Nat.le_succ _)) q
    ·rw [hC]
     exact Nat.ne_of_gt (Nat.lt_succ_of_lt I2.lt)
    ·rw [hC]
     exact Nat.le_succ_of_le I2.sz
    ·obtain ⟨v, q⟩ := I2.cell x c e
     rw [hC] at z
     exact absurd z (Nat.ne_of_lt (Nat.lt_succ_of_lt q.lt))
    ·rw [hC] at z
     exact absurd z (Nat.ne_of_lt (Nat.lt_succ_of_lt (Heap.lt_size (I2.pin p hp).1)))
   ·refine thn (T.item (X.comp s2 H2 N' scope cl G.objs.size fp) rfl rfl rfl hc i [] s3 _ H3 _ I3 (fpY fr3) st3 go) fun r s4 ⟨u, hr, h4⟩ => ?_
    subst hr
    refine thn h4 fun _ s5 ⟨x, H5, I5, r5, y5, st5, fr5⟩ => ?_
    have I5' := I5.pinned (fpY fr5) (T.obj _ _ st5)
    refine thn (hYg _ s5 _ H5 x u _ I5' r5 (step x H5 y5)) fun _ s6 ⟨σ6, H6, I6, wk, q6⟩ => ?_
    have back : ∀ {H' : Hp} {s' : Shared}, Inv (X.comp s2 H2 N' scope cl G.objs.size fp) ([] ++ pinsAt fp s5.heap) σ6 H' s' ->
      Inv (X.comp s2 H2 N' scope cl G.objs.size fp) [] (compSt n ix σ) H' s' /\ tn (i + 1) s'.heap /\ ∀ b ∈ fp, H' b = none := fun {H' s'} I7 => by
     refine ⟨I7.unpinned.weak wk.1 wk.2, T.keep _ _ _ st5 fun b hb o e => (I7.pin (b, o) (List.mem_append_right _ (List.mem_append_right _ (mem_pinsAt hb e)))).1, fun b hb => ?_⟩
     obtain ⟨o, e, d⟩ := T.obj _ _ st5 b hb
     exact (I7.pin (b, o) (List.mem_append_right _ (List.mem_append_right _ (mem_pinsAt hb e)))).2.1
    refine thn (hYt _ s6 σ6 H6 _ I6 q6) fun ok s7 ⟨H7, I7, q7⟩ => ?_
    cases ok with
    | false =>
     rw [if_neg Bool.false_ne_true] at q7 ⊢
     obtain ⟨m', hm, w7⟩ := q7
     obtain ⟨b1, b2, b3⟩ := back I7
     exact ⟨m', hm, i + 1, H7, b1, b2, b3, w7⟩
    | true =>
     rw [if_pos rfl] at q7 ⊢
     refine thn (hYe _ s7 σ6 H7 _ I7 q7) fun xv s8 ⟨v8, H8, I8, r8, ys, ha, hz, m', hm, w8⟩ => ?_
     refine thn (mt_append _ s8 σ6 H8 (.ref s2.heap.objs.size) [v8] (.ref s2.heap.objs.size) [xv] (fun _ H' => H' = upd H8 s2.heap.objs.size (.lst (ys ++ [v8]))) I8 rfl (.cons r8 .nil) ⟨_, ys, v8, rfl, rfl, ha, hz, rfl⟩) fun _ s9 ⟨_, H9, I9, _, e9⟩ => ?_
     subst e9
     obtain ⟨b1, b2, b3⟩ := back I9
     exact ⟨m', hm, i + 1, _, b1, b2, b3, w8⟩
  ·rw [upd_ne (Nat.ne_of_lt (hlt b hb))]
   exact (f2 b hb).1
 exact codeAny_compStart_list (loop _ rfl) (T.self _ 0 _ _ _ (T.keep _ _ _ st2 fun b hb o e => old b o e) (loop _ rfl))
theorem pe_lc (hc : X.calm = true) (S : CompScope X scope N' n ix) (hi : PI X tg iter wi)
  (hY : ∀ s₂ H₂ cl C fp, PG (X.comp s₂ H₂ N' scope cl C fp) tg g /\ PTs (X.comp s₂ H₂ N' scope cl C fp) ifs tt /\ PE (X.comp s₂ H₂ N' scope cl C fp) elt te)
  (hs : ∀ x, foldedSetIterable iter X.env x = pure x := by intro _; rfl) : PE X (.ListComp elt [⟨tg, iter, ifs, 0⟩] scope pos) (tLc wi g tt te n ix) := by
 intro pins s σ H Q I h
 obtain ⟨cl, hcl, hcl1, hcl2⟩ := closure_ok (env := X.env) (scope := scope) fun y hy hf => I.ok.has _ (S.free y hy hf)
 rw [eval_ListComp]
 refine wpAny_comprehension_free (use := none) rfl hs hcl S.kind S.names (thn (hi pins s σ H _ I h) fun v s1 h1 => thn h1 fun itv s2 h2 => ?_)
 obtain ⟨it, fp, tn, J, H2, rfl, I2, T, st2, f2, hW⟩ := h2
 refine lc_core (R := fun acc C => compPost (model X.prog X.w) X.A X.xe none (EP X pins σ Q) acc C) hc S hY I2 hcl1 hcl2 T st2 f2 hW ?_
 intro acc C s' H' m hn IX hf hL h1 h2 h3 h4 q
 exact ⟨m, hn, fun h' sb => ⟨.ref acc, H', IX.turned (t' := s'.toks) (fun b o hb e => sb.extBut b o hb e) hf hL h1 h2 h3, rfl, q⟩⟩
theorem ps_lcset {x : Str} {i : Nat} {pos' spos : Pos} (hsw : swapsWith (.ListComp elt [⟨tg, iter, ifs, 0⟩] scope pos) (some (.Name x pos')) spos.line X.env = pure true) (hN : X.N.Nodup) (hi' : X.N[i]? = some x) (hx : X.env.scope.names.lookup x = some .local)
  (hc : X.calm = true) (S : CompScope X scope N' n ix) (hi : PI X tg iter wi)
  (hY : ∀ s₂ H₂ cl C fp, PG (X.comp s₂ H₂ N' scope cl C fp) tg g /\ PTs (X.comp s₂ H₂ N' scope cl C fp) ifs tt /\ PE (X.comp s₂ H₂ N' scope cl C fp) elt te)
  (hs : ∀ x, foldedSetIterable iter X.env x = pure x := by intro _; rfl) : PS X (.Assign [.Name x pos'] (.ListComp elt [⟨tg, iter, ifs, 0⟩] scope pos) spos) (tAsg (tLc wi g tt te n ix) (gName i)) := by
 intro pins s σ H D I h
 obtain ⟨cl, hcl, hcl1, hcl2⟩ := closure_ok (env := X.env) (scope := scope) fun y hy hf => I.ok.has _ (S.free y hy hf)
 rw [exec_Assign_Name_used _ _ _ _ hsw]
 refine wpAny_bind (wpAny_standAt (wpAny_bind ?_))
 show wpAny _ _ (do let _ <- comprehension (.ListComp elt [⟨tg, iter, ifs, 0⟩] scope pos) scope X.env _ (newList []) false (eval iter X.env) (some (assign (.Name x pos') X.env))) _ _ s
 refine wpAny_bind (thn (wpAny_comprehension_free (use := some (assign (.Name x pos') X.env)) (Q := fun _ s' => SP X pins D .next s') rfl hs hcl S.kind S.names (thn (hi pins s σ H _ I h) fun v s1 h1 => thn h1 fun itv s2 h2 => ?_)) fun _ s' hq => wpAny_pure (wpAny_pure hq))
 obtain ⟨it, fp, tn, J, H2, rfl, I2, T, st2, f2, hW⟩ := h2
 refine lc_core (Q := fun x H1 => gName i x σ H1 D.nx) (R := fun acc C => compPost (model X.prog X.w) X.A X.xe (some (assign (.Name x pos') X.env)) (fun _ s' => SP X pins D .next s') acc C) hc S hY I2 hcl1 hcl2 T st2 f2 hW ?_
 intro acc C s' H' m hn IX hf hL h1 h2 h3 h4 q
 show wpAny _ _ (assign (.Name x pos') X.env (.ref acc)) _ _ _
 obtain ⟨oC, esC, epC, hoC, hdC, rC⟩ := id hn
 have IP : Inv X (pins ++ [(C, oC)]) σ H' s' := IX.pins_of fun p hp => by
  rcases List.mem_append.mp hp with z | z
  ·exact IX.pin p (List.mem_append_right _ z)
  ·have e : p = (C, oC) := by simpa using z
   subst e
   exact ⟨hoC, hf, hL, h4, fun v z => by rw [hdC] at z; cases z⟩
 refine thn (pg_name hN hi' (.inl hx) (.inr hx) _ s' σ H' (.ref acc) (.ref acc) D.nx IP rfl q) fun _ s'' ⟨σ', H'', I'', q''⟩ => ?_
 obtain ⟨e1, e2, _⟩ := I''.pin (C, oC) (List.mem_append_right _ (List.mem_append_right _ (by simp)))
 refine ⟨m, ⟨oC, esC, epC, e1, hdC, rC⟩, fun h' sb => ⟨σ', H'', ?_, q''⟩⟩
 exact I''.unpinned.turned (t' := s''.toks) (fun b o hb e => sb.extBut b o hb e) e2 hL h1 h2 h3
end
end L2
namespace L2
open PySem PySem.Spec PyProof.Rows
theorem PE.mono {X : Cx} {e : Expr} {t t' : TE} (h : PE X e t) (m : ∀ σ H Q, t' σ H Q -> t σ H Q) : PE X e t' := fun pins s σ H Q I q => h pins s σ H Q I (m σ H Q q)
theorem same_upd {H : Hp} {a : Addr} {o : HO} (h : H a = none) : Same H (upd H a o) := fun b u e => by
 rw [upd_ne (ne_of_none e h)]; exact e
theorem same_updR {H H' : Hp} {a : Addr} {o : HO} (s : Same H H') (h : H a = none) : Same H (upd H' a o) := fun b u e => by
 rw [upd_ne (ne_of_none e h)]; exact s b u e
noncomputable def SameT (H H' : Hp) : Prop := ∀ b xs, H b = some (.tup xs) -> H' b = some (.tup xs)
theorem Same.t {H H' : Hp} (h : Same H H') : SameT H H' := fun b xs e => h b _ e
theorem SameT.trans {H H1 H2 : Hp} (a : SameT H H1) (b : SameT H1 H2) : SameT H H2 := fun c o h => b c o (a c o h)
theorem sameT_lst {H : Hp} {a : Addr} {xs ys : List V} (h : H a = some (.lst xs)) : SameT H (upd H a (.lst ys)) := fun b zs e => by
 rw [upd_ne (ne_of e h (by intro z; cases z))]; exact e
structure Yields (J : It) (Ok : Hp -> Prop) (xs : List V) : Prop where
 go : ∀ i H, Ok H -> i < xs.length -> J.go i H
 yld : ∀ i H x H', Ok H -> i < xs.length -> J.yld i H x H' -> H' = H /\ xs[i]? = some x
 stop : ∀ H, Ok H -> J.stop xs.length H
theorem yields_list {K : PySem.W.Frag} {a : Addr} {xs : List V} : Yields (Itl K a) (fun H => SqL K H a xs) xs :=
 ⟨fun i H q h => ⟨xs, xs[i], q, by simp [h]⟩, fun i H x H' q _ y => ⟨y.1, y.2 xs q⟩, fun H q => ⟨xs, q, Nat.le_refl _⟩⟩
theorem yields_tup {K : PySem.W.Frag} {a : Addr} {xs : List V} : Yields (Itt K a) (fun H => SqT K H a xs) xs :=
 ⟨fun i H q h => ⟨xs, xs[i], q, by simp [h]⟩, fun i H x H' q _ y => ⟨y.1, y.2 xs q⟩, fun H q => ⟨xs, q, Nat.le_refl _⟩⟩
noncomputable def rangeV (lo : Int) (n : Nat) : List V := (List.range n).map fun (i : Nat) => V.int (lo + (i : Int))
theorem rangeV_len (lo : Int) (n : Nat) : (rangeV lo n).length = n := by simp [rangeV]
theorem rangeV_get {lo : Int} {n i : Nat} (h : i < n) : (rangeV lo n)[i]? = some (V.int (lo + (i : Int))) := by
 simp [rangeV, h]
theorem yields_range {lo : Int} {n : Nat} : Yields (Itr lo n) (fun _ => True) (rangeV lo n) := by
 refine ⟨fun i H _ h => ?_, fun i H x H' _ h y => ?_, fun H _ => ?_⟩
 ·rw [rangeV_len] at h; exact h
 ·obtain ⟨y1, y2⟩ := y
  rw [rangeV_len] at h
  exact ⟨y1, by rw [rangeV_get h, y2]⟩
 ·rw [rangeV_len]; exact Nat.le_refl _
section
variable {J : It} {Ok : Hp -> Prop} {xs : List V} {tt : TT} {te : TE} {ix : List Nat} {σ : St} {H1 : Hp} {Q : VK}
theorem lc_pure (Y : Yields J Ok xs) (small : xs.length < sizeLine) (p : V -> Bool) (f : V -> V) (hok : ∀ H, Same H1 H -> Ok H)
  (ht : ∀ x ∈ xs, ∀ H, Same H1 H -> ∀ Q' : Bool -> Hp -> Prop, Q' (p x) H -> tt (some x :: ix.map fun i => σ.getD i none) H Q')
  (he : ∀ x ∈ xs, p x = true -> ∀ H, Same H1 H -> ∀ Q' : VK, Q' (f x) H -> te (some x :: ix.map fun i => σ.getD i none) H Q')
  (fin : ∀ acc, H1 acc = none -> Q (.ref acc) (upd H1 acc (.lst ((xs.filter p).map f)))) :
  LcW J H1 (gName 0) tt te 1 ix σ Q := by
 intro acc ha
 refine ⟨fun i m H => m = xs.length - i /\ i <= xs.length /\ H = upd H1 acc (.lst (((xs.take i).filter p).map f)), ⟨xs.length, by simp, Nat.zero_le _, rfl⟩, ?_⟩
 rintro i m H ⟨rfl, hi, rfl⟩
 have sm : Same H1 (upd H1 acc (.lst (((xs.take i).filter p).map f))) := same_upd ha
 have o := hok _ sm
 by_cases hlt : i < xs.length
 ·refine .inr ⟨Y.go i _ o hlt, fun x H' y => ?_⟩
  obtain ⟨rfl, hx⟩ := Y.yld i _ x H' o hlt y
  have hmem : x ∈ xs := List.mem_of_getElem? hx
  have htk : xs.take (i + 1) = xs.take i ++ [x] := by
   rw [List.take_succ, hx]; rfl
  refine ⟨⟨rfl, fun j v e => ?_⟩, ?_⟩
  ·cases j with
   | zero => cases e
   | succ j => exact e
  ·refine ht x hmem _ sm _ ?_
   cases hp : p x with
   | false =>
    rw [if_neg Bool.false_ne_true]
    refine ⟨xs.length - (i + 1), by (first | lia | omega), rfl, hlt, ?_⟩
    rw [htk, List.filter_append]
    simp [hp]
   | true =>
    rw [if_pos rfl]
    refine he x hmem hp _ sm _ ?_
    refine ⟨_, upd_same, ?_, xs.length - (i + 1), by (first | lia | omega), rfl, hlt, ?_⟩
    ·rw [List.length_map]
     refine Nat.lt_of_le_of_lt (List.length_filter_le _ _) ?_
     rw [List.length_take]; (first | lia | omega)
    ·rw [upd_upd, htk, List.filter_append, List.map_append]
     simp [hp]
 ·have e : i = xs.length := by (first | lia | omega)
  subst e
  refine .inl ⟨Y.stop _ o, ?_⟩
  rw [List.take_length]
  exact fin acc ha
theorem lc_grow (Y : Yields J Ok xs) (small : xs.length < sizeLine) (R : V -> V -> Hp -> Prop) (hR : ∀ x v H H', SameT H H' -> R x v H -> R x v H') (hok : ∀ H, Same H1 H -> Ok H)
  (he : ∀ x ∈ xs, ∀ H, Same H1 H -> ∀ Q' : VK, (∀ v H', Same H H' -> R x v H' -> Q' v H') -> te (some x :: ix.map fun i => σ.getD i none) H Q')
  (fin : ∀ acc ys H', H1 acc = none -> Same H1 H' -> H' acc = some (.lst ys) -> Paired (fun x v => R x v H') xs ys -> Q (.ref acc) H') :
  LcW J H1 (gName 0) tNoTest te 1 ix σ Q := by
 intro acc ha
 refine ⟨fun i m H => m = xs.length - i /\ i <= xs.length /\ Same H1 H /\ ∃ ys, H acc = some (.lst ys) /\ Paired (fun x v => R x v H) (xs.take i) ys, ⟨xs.length, by simp, Nat.zero_le _, same_upd ha, [], upd_same, .nil⟩, ?_⟩
 rintro i m H ⟨rfl, hi, sm, ys, hacc, pr⟩
 have o := hok _ sm
 have hlen : ys.length = i := by rw [<- Paired.length pr, List.length_take]; (first | lia | omega)
 by_cases hlt : i < xs.length
 ·refine .inr ⟨Y.go i _ o hlt, fun x H' y => ?_⟩
  obtain ⟨rfl, hx⟩ := Y.yld i _ x H' o hlt y
  have hmem : x ∈ xs := List.mem_of_getElem? hx
  have htk : xs.take (i + 1) = xs.take i ++ [x] := by
   rw [List.take_succ, hx]; rfl
  refine ⟨⟨rfl, fun j v e => ?_⟩, ?_⟩
  ·cases j with
   | zero => cases e
   | succ j => exact e
  ·unfold tNoTest
   dsimp only
   rw [if_pos rfl]
   refine he x hmem _ sm _ fun v H4 s4 r4 => ?_
   have h4 : H4 acc = some (.lst ys) := s4 _ _ hacc
   refine ⟨ys, h4, by (first | lia | omega), xs.length - (i + 1), by (first | lia | omega), rfl, hlt, same_updR (sm.trans s4) ha, ys ++ [v], upd_same, ?_⟩
   rw [htk]
   have st : SameT H4 (upd H4 acc (.lst (ys ++ [v]))) := sameT_lst h4
   exact Paired.snoc (Paired.mapP pr fun x' v' r' => hR _ _ _ _ (s4.t.trans st) r') (hR _ _ _ _ st r4)
 ·have e : i = xs.length := by (first | lia | omega)
  subst e
  refine .inl ⟨Y.stop _ o, ?_⟩
  rw [List.take_length] at pr
  exact fin acc ys H ha sm hacc pr
end
end L2
namespace L2
open PySem PySem.Spec PyProof.Rows
section
variable {prog : Program} {w : World} {A : Around} {E : Value -> Shared -> Prop} {s : Shared}
theorem nextT_item {it t : Addr} {i : Nat} {its : Array Value} {x : Value} {Q : Value -> Shared -> Prop} (hi : s.heap.IsTupleIter it t i) (ht : s.heap.IsTuple t its) (hx : its[i]? = some x)
  (q : ∀ h', h'.IsTupleIter it t (i + 1) -> Heap.SameBut it s.heap h' -> Q x { s with heap := h' }) : wpAny (model prog w) A (Builtin.SmallTypes.nextOf (.ref it)) Q E s := by
 obtain ⟨o, e1, e2, e3⟩ := id hi
 obtain ⟨u, f1, f2, nu, f3⟩ := ht
 unfold Builtin.SmallTypes.nextOf
 refine wpAny_bind (wpAny_callSpecial?_slot (name := Str.ofString "__next__") hi.typeIs F.slot_tuple_iterator_next (wpAny_call_entry F.slot_tuple_iterator_next hi.typeIs F.entry_tuple_iterator_next ?_ (F.args_tuple_iterator_next_1 _)))
 show wpAny _ _ (field (.ref it) 0 >>= _) _ _ s
 refine wpAny_bind (wpAny_field e1 e3 (x := .ref t) rfl ?_)
 show wpAny _ _ (if (Value.ref t == Value.none) = true then _ else _) _ _ s
 rw [if_neg (show ¬ ((Value.ref t == Value.none) = true) from Bool.false_ne_true)]
 show wpAny _ _ (field (.ref it) 1 >>= _) _ _ s
 refine wpAny_bind (wpAny_field e1 e3 (x := .int i 0) rfl ?_)
 show wpAny _ _ (seqItems? (.ref t) >>= _) _ _ s
 refine wpAny_bind (wpAny_seqItems f1 f3 ?_)
 simp only [Int.toNat_natCast, hx]
 refine wpAny_bind (wpAny_setField e1 e3 (by simp) (wpAny_pure ⟨x, rfl, wpAny_pure (q _ ⟨_, Heap.get?_update_self _ e1 (Obj.isFreed_of_fields (Obj.data_mapFields e3 _)), (Obj.cls_mapFields ..).trans e2, ?_⟩ (Heap.SameBut.update ..))⟩))
 rw [Obj.data_mapFields e3]
 simp [rawInt]
theorem nextT_end {it t : Addr} {i : Nat} {its : Array Value} {Q : Value -> Shared -> Prop} (hh : A.handled = none) (hi : s.heap.IsTupleIter it t i) (ht : s.heap.IsTuple t its) (hx : its[i]? = none)
  (q : ∀ h' e, Heap.ExtBut it s.heap h' -> (∃ o, h'.get? e = some o /\ o.cls = .type "StopIteration") -> E (.ref e) { s with heap := h' }) : wpAny (model prog w) A (Builtin.SmallTypes.nextOf (.ref it)) Q E s := by
 obtain ⟨o, e1, e2, e3⟩ := id hi
 obtain ⟨u, f1, f2, nu, f3⟩ := ht
 unfold Builtin.SmallTypes.nextOf
 refine wpAny_bind (wpAny_callSpecial?_slot (name := Str.ofString "__next__") hi.typeIs F.slot_tuple_iterator_next (wpAny_call_entry F.slot_tuple_iterator_next hi.typeIs F.entry_tuple_iterator_next ?_ (F.args_tuple_iterator_next_1 _)))
 show wpAny _ _ (field (.ref it) 0 >>= _) _ _ s
 refine wpAny_bind (wpAny_field e1 e3 (x := .ref t) rfl ?_)
 show wpAny _ _ (if (Value.ref t == Value.none) = true then _ else _) _ _ s
 rw [if_neg (show ¬ ((Value.ref t == Value.none) = true) from Bool.false_ne_true)]
 show wpAny _ _ (field (.ref it) 1 >>= _) _ _ s
 refine wpAny_bind (wpAny_field e1 e3 (x := .int i 0) rfl ?_)
 show wpAny _ _ (seqItems? (.ref t) >>= _) _ _ s
 refine wpAny_bind (wpAny_seqItems f1 f3 ?_)
 simp only [Int.toNat_natCast, hx]
 refine wpAny_bind (wpAny_rule (wpAny_bind (wpAny_setField e1 e3 (by simp) ?_)))
 show wpAny _ _ (newExc (.type "StopIteration") [] >>= _) _ _ _
 refine wpAny_bind ?_
 simp only [newExc, newTuple]
 refine wpAny_bind (wpAny_newObj_type ?_ (by size_fits))
 refine wpAny_bind (m := firstArgMember _ _) (wpAny_of_eq (a := Value.none) (by first | rfl | (simp only [firstArgMember]; rfl)) ?_)
 refine wpAny_newObj_type ?_ (by size_fits)
 simp only [raiseNew]
 refine wpAny_bind (wpAny_handled ?_)
 first | rw [show A.in1.handled = none from hh] | rw [hh]
 refine wpAny_bind (wpAny_pure (wpAny_throw ?_))
 exact q _ _ (((Heap.SameBut.update ..).extBut.push _).push _) ⟨_, Heap.get?_push_size _ rfl, rfl⟩
end
theorem drawsT {prog : Program} {w : World} {A : Around} (hh : A.handled = none) (it t : Addr) (hne : t ≠ it) (its : Array Value) :
  Draws prog w A it [it, t] its.size (fun i v => its[i]? = some v) (fun i h => h.IsTupleIter it t i /\ h.IsTuple t its) where
 live := fun _ _ st => let ⟨o, ho, _⟩ := st.1; ⟨o, ho⟩
 frame := fun _ _ _ st hk => ⟨let ⟨o, ho, r⟩ := st.1; ⟨o, hk it (by simp) o ho, r⟩, let ⟨o, ho, r⟩ := st.2; ⟨o, hk t (by simp) o ho, r⟩⟩
 item := fun i s Q E hi st hQ => nextT_item st.1 st.2 (x := its[i]) (by simp [hi]) fun h' a b => hQ _ h' s.toks (by simp [hi]) ⟨a, st.2.extBut b.extBut hne⟩ b
 done := fun s Q E st hE => nextT_end hh st.1 st.2 (by simp) hE
theorem enum_newT (l : Addr) (items : Array Value) (n : Nat) (dct : Option Addr) (sl : Array (Option Value)) :
  Meets (Builtin.«enumerate.__new__» ⟨[.type "enumerate", .ref l], []⟩) (fun _ R s => s.heap.get? l = some { cls := .type "tuple", dict := dct, data := .seq items n, slots := sl } /\
   R (.ok (.ret (.ref (s.heap.push { cls := .type "tuple_iterator", data := .fields #[.ref l, .int 0 0] }).objs.size)))
    { s with heap := (s.heap.push { cls := .type "tuple_iterator", data := .fields #[.ref l, .int 0 0] }).push { cls := .type "enumerate", data := .fields #[.none, .bool false, .ref s.heap.objs.size, rawInt 0, .none, .none] } }) :=
 .of_wp fun prog w A R s h => by
  obtain ⟨hp, g, d, tk, os⟩ := s; obtain ⟨hl, h⟩ := h
  have hsub := sub_enumerate
  have hL : Heap.IsTuple (Shared.heap ⟨hp, g, d, tk, os⟩) l items := ⟨_, hl, rfl, n, rfl⟩
  wp_walk using AutoSeq1.wpAny_loadPart' hl
  refine wpAny_stack_any fun st => wpAny_pure ?_
  split
  ·rename_i c _ _ _ _ _
   cases (c == Value.type "enumerate") <;> (wp_walk using AutoSeq1.wpAny_loadPart' hl, wpAny_pyIter_tuple hL; exact ⟨_, rfl, h⟩)
  ·wp_walk using AutoSeq1.wpAny_loadPart' hl, wpAny_pyIter_tuple hL
   exact ⟨_, rfl, h⟩
theorem call_enumT {prog : Program} {w : World} {A : Around} {E : Value -> Shared -> Prop} {s : Shared} {l : Addr} {items : Array Value} {Q : Value -> Shared -> Prop} (hL : s.heap.IsTuple l items)
  (h : ∀ h', IsEnum h' (s.heap.objs.size + 1) s.heap.objs.size 0 .none -> h'.IsTupleIter s.heap.objs.size l 0 -> h'.objs.size = s.heap.objs.size + 2 ->
   (∀ b o, s.heap.get? b = some o -> h'.get? b = some o) -> Q (.ref (s.heap.objs.size + 1)) { s with heap := h' }) :
  wpAny (model prog w) A (call (.type "enumerate") [.ref l]) Q E s := by
 obtain ⟨⟨c, dct, dt, sl⟩, hl, hc, n, hd⟩ := hL
 replace hc : c = .type "tuple" := hc
 replace hd : dt = .seq items n := hd
 subst hc hd
 refine callType_new F.called_enumerate (by decide) (F.typeCall_enumerate_1 _) (F.newCall_enumerate_1 _) (fun obj => F.args_object_init_2 obj _) F.entry_enumerate_new (enum_newT l items n dct sl) ⟨hl, ?_⟩
 have hz : (s.heap.push { cls := .type "tuple_iterator", data := .fields #[.ref l, .int 0 0] }).objs.size = s.heap.objs.size + 1 := Heap.size_push ..
 show _ /\ _
 rw [hz]
 have he := Heap.get?_push_size (s.heap.push { cls := .type "tuple_iterator", data := .fields #[.ref l, .int 0 0] }) (o := { cls := .type "enumerate", data := .fields #[.none, .bool false, .ref s.heap.objs.size, rawInt 0, .none, .none] }) rfl
 rw [hz] at he
 exact ⟨⟨_, he, rfl⟩, h _ he ⟨_, Heap.get?_push_of_some _ (Heap.get?_push_size _ rfl), rfl, rfl⟩ (by rw [Heap.size_push, hz]) fun b o x => Heap.get?_push_of_some _ (Heap.get?_push_of_some _ x)⟩
end L2
namespace L2
open PySem PySem.Spec PyProof.Rows
section
variable {X : Cx} {pins : List (Addr × Obj)} {σ : St} {H : Hp} {s : Shared} {h' : Heap}
theorem Inv.turnedN {t' : Nat} {fp : List Addr} (I : Inv X pins σ H s) (hf : ∀ b ∈ fp, FpOk X pins H b) (k : ∀ b o, b ∉ fp -> s.heap.get? b = some o -> h'.get? b = some o) : Inv X pins σ H { s with heap := h', toks := t' } := by
 have nit : ∀ b u, H b = some u -> b ∉ fp := fun b u e z => by rw [(hf b z).1] at e; cases e
 refine I.step (g' := s.gens) (d' := s.drawn) (ch := fp) (fun b hb => ?_) (fun b o _ _ hc e _ => k b o hc e) (fun b o _ _ hc e _ => ⟨o.slots, k b o hc e⟩) (fun _ _ _ _ n => n)
  (fun b o hc e => ⟨o, k b o hc e⟩) (fun _ _ e => e) (fun _ _ _ e => e) (fun b ps e => ⟨#[], by rw [e]; simp⟩) (fun m hm => ?_) (fun b u e => ?_) I.bare
 ·obtain ⟨_, q1, q2, q3, q4, q5⟩ := hf b hb
  exact ⟨q3, q1, q4, q5⟩
 ·obtain ⟨o, es, ep, ho, r⟩ := hm
  exact ⟨o, es, ep, k _ o (fun z => (hf _ z).2.1 rfl) ho, r⟩
 ·refine (I.hok b u e).stay (fun c v hc q => k c v ?_ q) (fun _ q => q) fun _ _ q => q
  rcases hc with z | z
  ·rw [z]; exact nit b u e
  ·exact nit c _ z
theorem Inv.trackT {a : Addr} {xs : List V} {its : List Value} (I : Inv X pins σ H s) (hn : H a = none) (hs : X.s₀.heap.objs.size <= a) (hL : a ≠ X.env.locals) (hc : ∀ x c, X.env.cells.lookup x = some c -> c ≠ a) (hp : ∀ p ∈ X.pn ++ pins, p.1 ≠ a)
  (rv : Vals xs its) (ht : PTup s.heap a its.toArray) (hz : xs.length <= sizeLine) : Inv X pins σ (upd H a (.tup xs)) s := by
 have ne : ∀ {b u}, H b = some u -> b ≠ a := fun e => ne_of_none e hn
 refine ⟨I.ok, I.os, I.bare, ⟨I.base.keep, I.base.slot, fun b o e n hx => ?_, I.base.there, fun b ys e => ?_, fun b o u e => ?_, fun b ps e => ?_⟩, I.loc, I.cell, ?_, fun x c e => ?_, fun p hp' => ?_, fun b u e => ?_, I.len⟩
 ·rw [upd_ne (Nat.ne_of_lt (Nat.lt_of_lt_of_le (Heap.lt_size e) hs))]
  exact I.base.free b o e n hx
 ·have q := I.base.tups b ys e
  rw [upd_ne (ne q)]; exact q
 ·have q := I.base.frzs b o u e
  rw [upd_ne (ne q)]; exact q
 ·obtain ⟨m, q⟩ := I.base.tbls b ps e
  exact ⟨m, by rw [upd_ne (ne q)]; exact q⟩
 ·rw [upd_ne (Ne.symm hL)]; exact I.free
 ·rw [upd_ne (hc x c e)]; exact I.freeC x c e
 ·obtain ⟨q1, q2, q3⟩ := I.pin p hp'
  exact ⟨q1, by rw [upd_ne (hp p hp')]; exact q2, q3⟩
 ·by_cases hb : b = a
  ·subst hb
   rw [upd_same] at e; cases e
   exact ⟨hz, its, rv, ht⟩
  ·rw [upd_ne hb] at e
   exact (I.hok b u e).stay (fun _ _ _ q => q) (fun c q => by rw [upd_ne (ne q)]; exact q) fun c ys q => by rw [upd_ne (ne q)]; exact q
theorem Inv.turnedT {t' : Nat} {fp : List Addr} {xs : List V} {its : List Value} (I : Inv X pins σ H s) (hf : ∀ b ∈ fp, FpOk X pins H b) (k : ∀ b o, b ∉ fp -> s.heap.get? b = some o -> h'.get? b = some o)
  (rv : Vals xs its) (ht : PTup h' s.heap.objs.size its.toArray) (hz : xs.length <= sizeLine) : Inv X pins σ (upd H s.heap.objs.size (.tup xs)) { s with heap := h', toks := t' } := by
 refine (I.turnedN (t' := t') hf k).trackT (I.hok.fresh (Nat.le_refl _)) I.sz (Nat.ne_of_gt I.lt) (fun x c e => ?_) (fun p hp => ?_) rv ht hz
 ·obtain ⟨v, q⟩ := I.cell x c e
  exact Nat.ne_of_lt q.lt
 ·exact Nat.ne_of_lt (Heap.lt_size (I.pin p hp).1)
end
noncomputable def Ite (K : PySem.W.Frag) (a : Addr) : It :=
 ⟨fun i H => ∃ xs x, SqT K H a xs /\ xs[i]? = some x, fun i H v H' => ∃ t x, H t = none /\ v = .ref t /\ H' = upd H t (.tup [.int i, x]) /\ ∀ xs, SqT K H a xs -> xs[i]? = some x, fun i H => ∃ xs, SqT K H a xs /\ xs.length = i⟩
theorem turn_enumT {P : Program} {w : World} {K : PySem.W.Frag} {els : List Expr} {kx} {tp : Pos} (a e it : Addr) (hne : e ≠ it) : Turn P w K (.Tuple els kx tp) (Ite K a) [e, it] e (fun i h => (∃ old, IsEnum h e it i old) /\ h.IsTupleIter it a i) where
 mem := by simp
 obj := fun i h st b hb => by
  obtain ⟨⟨old, he⟩, o, ho, hc, hd⟩ := st
  rcases List.mem_cons.mp hb with rfl | hb
  ·exact ⟨_, he, fun v z => by cases z⟩
  ·rw [List.mem_singleton.mp hb]
   exact ⟨o, ho, fun v z => by rw [hd] at z; cases z⟩
 keep := fun i h h' st k => by
  obtain ⟨⟨old, he⟩, o, ho, r⟩ := st
  exact ⟨⟨old, k e (by simp) _ he⟩, o, k it (by simp) _ ho, r⟩
 item := by
  intro X hP hw hK hc i pins s σ H E I hf st hg
  subst hP hw hK
  obtain ⟨xs, x, hq, hx⟩ := hg
  obtain ⟨its, rv, p, hz⟩ := I.tuple hq
  obtain ⟨u, hu, ru⟩ := rv.get hx
  obtain ⟨⟨old, he⟩, hi⟩ := st
  obtain ⟨o, ho, hcl, hd⟩ := id hi
  have hT : s.heap.IsTuple a its.toArray := p
  have hai : a ≠ it := fun z => by
   obtain ⟨o', e1, e2, _⟩ := p
   rw [z, ho] at e1; cases e1; rw [hcl] at e2; injection e2 with z2; revert z2; decide
  have hae : e ≠ a := fun z => by
   obtain ⟨o', e1, e2, _⟩ := p
   rw [<- z, he] at e1; cases e1; injection e2 with z2; revert z2; decide
  have hlt : i < its.toArray.size := by
   have := (List.getElem?_eq_some_iff.mp hu).1
   simpa using this
  have hh : X.A.in1.handled = none := I.ok.hd hc
  refine wpAny_pyNext_enum_itemD (drawsT hh it a hai its.toArray) he ⟨hi, hT⟩ hlt hne (by simp [hne, hae]) fun x' h1 tk hP1 ho1 hs1 hT1 hz1 hk1 => ?_
  have ex : x' = u := by
   have q : its[i]? = some x' := by simpa using hP1
   rw [hu] at q; exact (Option.some.inj q).symm
  subst ex
  refine ⟨_, rfl, wpAny_letOwnedTupleGo_enum ho1 fun h2 he2 hs2 => ?_⟩
  have hne0 : s.heap.objs.size ≠ e := Nat.ne_of_gt (Heap.lt_size he)
  have keep : ∀ b o, b ∉ [e, it] -> s.heap.get? b = some o -> h2.get? b = some o := fun b o hb e0 => (hs2.2 b fun z => hb (by simp [z])).trans (hk1 b o (fun z => hb (by simp [z])) (fun z => hb (by simp [z])) e0)
  refine ⟨.ref s.heap.objs.size, _, I.turnedT (h' := h2) (t' := tk + 1) (xs := [.int i, x]) hf keep (.cons ⟨tk, rfl⟩ (.cons ru .nil)) ⟨_, (hs2.2 _ hne0).trans hT1, rfl, ⟨_, rfl⟩, rfl, rfl⟩ (by show 2 <= sizeLine; decide), rfl, ⟨_, x, I.hok.fresh (Nat.le_refl _), rfl, rfl, fun ys hy => by rw [I.tuple_inj hy hq]; exact hx⟩, ⟨⟨_, by simpa using he2⟩, ?_⟩, fun b hb => ?_⟩
  ·obtain ⟨⟨o1, e1, r1⟩, _⟩ := hs1
   exact ⟨o1, (hs2.2 it (Ne.symm hne)).trans e1, r1⟩
  ·rcases List.mem_cons.mp hb with rfl | hb'
   ·rw [upd_ne (Nat.ne_of_lt (Heap.lt_size he))]; exact (hf _ hb).1
   ·have e9 := List.mem_singleton.mp hb'
    subst e9
    rw [upd_ne (Nat.ne_of_lt (Heap.lt_size ho))]; exact (hf _ hb).1
 done := by
  intro X hP hw hK hc i pins s σ H E I hf st hg
  subst hP hw hK
  obtain ⟨xs, hq, hx⟩ := hg
  obtain ⟨its, rv, p, hz⟩ := I.tuple hq
  obtain ⟨⟨old, he⟩, hi⟩ := st
  obtain ⟨o, ho, hcl, hd⟩ := id hi
  have hT : s.heap.IsTuple a its.toArray := p
  have hai : a ≠ it := fun z => by
   obtain ⟨o', e1, e2, _⟩ := p
   rw [z, ho] at e1; cases e1; rw [hcl] at e2; injection e2 with z2; revert z2; decide
  have hh : X.A.in1.handled = none := I.ok.hd hc
  have hl : its.toArray.size = i := by rw [List.size_toArray, <- rv.length, hx]
  refine wpAny_pyNext_enum_endD (drawsT hh it a hai its.toArray) he (by rw [hl]; exact ⟨hi, hT⟩) fun h1 hk => ⟨rfl, ?_⟩
  exact I.turnedN (t' := s.toks) hf fun b o hb e0 => hk b o (fun z => hb (by simp [z])) e0
 self := fun _ _ _ _ _ st h => by
  obtain ⟨⟨old, he⟩, _⟩ := st
  exact wpAny_pyIter_enum he h
section
variable {X : Cx}
noncomputable def iEnum (K : PySem.W.Frag) (ta : TA) : TI := fun σ H R => ta σ H fun vs H1 => ∃ a, vs = [.ref a] /\ (∃ xs, SqT K H1 a xs) /\ R (Ite K a) H1
theorem pi_enumT {els : List Expr} {kx} {tp : Pos} {l : Expr} {ta : TA} {p pos : Pos} (hg : Gl X "enumerate") (hm : X.mg "enumerate" = none) (ha : PA X [l] ta) (hs : starEach [l] X.env = [(false, eval l X.env)] := by rfl) :
  PI X (.Tuple els kx tp) (.Call (.Name "enumerate" p) [l] [] pos) (iEnum X.K ta) := by
 intro pins s σ H R I h
 refine Call_ (ld_blt I hg hm boot_enumerate (PyProof.Rows.callWith_type1 (thn (ha pos pins s σ H _ I h) fun us s1 ⟨vs, H1, I1, r1, q1⟩ => ?_) hs rfl))
 obtain ⟨a, rfl, ⟨xs, hq⟩, q⟩ := q1
 obtain ⟨u, rfl, ru⟩ := vals1 r1
 cases (show u = Value.ref a from ru)
 obtain ⟨its, rv, p', hz⟩ := I1.tuple hq
 refine call_enumT (show s1.heap.IsTuple a its.toArray from p') fun h' he hi hsz hk => wpAny_pyIter_enum he ?_
 have I2 : Inv X pins σ H1 { s1 with heap := h' } := I1.kept (t' := s1.toks) hk
 refine ⟨s1.heap.objs.size + 1, [s1.heap.objs.size + 1, s1.heap.objs.size], _, _, H1, rfl, I2, turn_enumT a _ _ (Nat.ne_of_gt (Nat.lt_succ_self _)), ⟨⟨_, he⟩, hi⟩, fun b hb => ?_, q⟩
 rcases List.mem_cons.mp hb with rfl | hb
 ·exact I1.fpOk (Nat.le_succ _) (I1.hok.fresh (Nat.le_succ _))
 ·rw [List.mem_singleton.mp hb]
  exact I1.fpOk (Nat.le_refl _) (I1.hok.fresh (Nat.le_refl _))
end
end L2
namespace L2
open PySem PySem.Spec PyProof.Rows
structure ZipT (h : Heap) (z TI TO i1 i2 a b : Addr) (i : Nat) : Prop where
 z : IsZip h z TI TO .none
 ti : IsPair h TI (.ref i1) (.ref i2)
 to : ∃ x y, IsPair h TO x y
 one : h.IsTupleIter i1 a i
 two : h.IsTupleIter i2 b i
structure ZipNe (z TI TO i1 i2 : Addr) : Prop where
 az : TI ≠ z
 bz : TO ≠ z
 cz : i1 ≠ z
 dz : i2 ≠ z
 ab : TI ≠ TO
 ac : TI ≠ i1
 ad : TI ≠ i2
 bc : TO ≠ i1
 bd : TO ≠ i2
 cd : i1 ≠ i2
section
variable {prog : Program} {w : World} {A : Around} {E : Value -> Shared -> Prop} {s : Shared} {z TI TO i1 i2 a b : Addr} {i : Nat} {xs ys : Array Value}
theorem pairSet {T : Addr} {p q x : Value} {k : Nat} {Q : Unit -> Shared -> Prop} (hT : IsPair s.heap T p q) (h : ∀ h', h'.get? T = some { cls := .type "tuple", data := .seq ((#[p, q] : Array Value).setIfInBounds k x) } -> Heap.SameBut T s.heap h' -> Q () { s with heap := h' }) :
  wpAny (model prog w) A (updateSeq T (·.setIfInBounds k x)) Q E s := wpAny_updateSeq_pair hT h
theorem tupNe {h : Heap} {t j : Addr} {k : Nat} {its : Array Value} {u : Addr} (ht : h.IsTuple t its) (hj : h.IsTupleIter j u k) : t ≠ j := fun e => by
 obtain ⟨o, e1, e2, _⟩ := ht
 obtain ⟨o', f1, f2, _⟩ := hj
 rw [e, f1] at e1; cases e1; rw [f2] at e2; injection e2 with z2; revert z2; decide
theorem zipT_item {x y : Value} {Q : Option Value -> Shared -> Prop} (D : ZipNe z TI TO i1 i2) (S : ZipT s.heap z TI TO i1 i2 a b i) (ha : s.heap.IsTuple a xs) (hb : s.heap.IsTuple b ys) (haz : a ≠ z /\ a ≠ TO) (hbz : b ≠ z /\ b ≠ TO) (hx : xs[i]? = some x) (hy : ys[i]? = some y)
  (q : ∀ h', IsZip h' z TI TO (rawInt s.heap.objs.size) -> IsPair h' TI (.ref i1) (.ref i2) -> IsPair h' TO x y -> h'.IsTupleIter i1 a (i + 1) -> h'.IsTupleIter i2 b (i + 1) -> IsPair h' s.heap.objs.size x y ->
   (∀ c o, c ≠ z -> c ≠ TO -> c ≠ i1 -> c ≠ i2 -> s.heap.get? c = some o -> h'.get? c = some o) -> Q (some (.ref s.heap.objs.size)) { s with heap := h' }) :
  wpAny (model prog w) A (pyNext (.ref z)) Q E s := by
 obtain ⟨hz, hti, ⟨p0, p1, hto⟩, h1, h2⟩ := S
 have ai1 := tupNe ha h1
 have ai2 := tupNe ha h2
 have bi1 := tupNe hb h1
 have bi2 := tupNe hb h2
 have hT : s.TypeIs (.ref z) "zip" := ⟨_, hz, rfl⟩
 unfold pyNext
 refine wpAny_bind (wpAny_attempt (wpAny_callSpecial?_slot (name := Str.ofString "__next__") hT F.slot_zip_next (wpAny_call_entry F.slot_zip_next hT F.entry_zip_next ?_ (F.args_zip_next_1 _))))
 show wpAny _ _ (field (.ref z) 2 >>= _) _ _ _
 refine wpAny_bind (wpAny_field hz rfl (x := .bool false) rfl ?_); show wpAny _ _ (field (.ref z) 3 >>= _) _ _ _
 refine wpAny_bind (wpAny_field hz rfl (x := .ref TI) rfl (wpAny_bind (wpAny_seqItems hti rfl ?_)))
 show wpAny _ _ (Builtin.SmallTypes.ownedTupleIsFree (.ref z) >>= _) _ _ _
 refine wpAny_bind ?_
 unfold Builtin.SmallTypes.ownedTupleIsFree
 refine wpAny_bind (wpAny_field hz rfl (x := .none) rfl (wpAny_pure ?_)); simp only [if_true]
 refine wpAny_bind (wpAny_rule (wpAny_bind (wpAny_field hz rfl (x := .ref TO) rfl (wpAny_bind (wpAny_setField_rec hz (by simp) fun g1 k1 s1 => ?_)))))
 replace k1 : IsZip g1 z TI TO .ellipsis := k1
 refine wpAny_bind ?_
 simp only [List.zipIdx_cons, List.zipIdx_nil, List.forIn_cons, List.forIn_nil]
 refine wpAny_bind (wpAny_bind (wpAny_onRaise ?_)); show wpAny _ _ (Builtin.SmallTypes.nextOf (.ref i1) >>= _) _ _ _
 refine wpAny_bind (nextT_item (h1.extBut s1.extBut D.cz) (ha.extBut s1.extBut haz.1) hx fun g2 j2 s2 => wpAny_pure ?_)
 have t2 : IsPair g2 TO p0 p1 := s2.extBut _ _ D.bc (s1.extBut _ _ D.bz hto)
 refine wpAny_bind (wpAny_seqItems t2 rfl (wpAny_bind (pairSet t2 fun g3 t3 s3 => ?_)))
 replace t3 : IsPair g3 TO x p1 := t3
 refine wpAny_bind (wpAny_letGo (wpAny_pure ?_))
 refine wpAny_bind (wpAny_bind (wpAny_onRaise ?_)); show wpAny _ _ (Builtin.SmallTypes.nextOf (.ref i2) >>= _) _ _ _
 have e3 : ∀ c o, c ≠ z -> c ≠ i1 -> c ≠ TO -> s.heap.get? c = some o -> g3.get? c = some o := fun c o c1 c2 c3 e => s3.extBut _ _ c3 (s2.extBut _ _ c2 (s1.extBut _ _ c1 e))
 have h23 : g3.IsTupleIter i2 b i := let ⟨o, ho, r⟩ := h2; ⟨o, e3 _ _ D.dz D.cd.symm D.bd.symm ho, r⟩
 have hb3 : g3.IsTuple b ys := let ⟨o, ho, r⟩ := hb; ⟨o, e3 _ _ hbz.1 bi1 hbz.2 ho, r⟩
 refine wpAny_bind (nextT_item h23 hb3 hy fun g4 j4 s4 => wpAny_pure ?_)
 have t4 : IsPair g4 TO x p1 := s4.extBut _ _ D.bd t3
 refine wpAny_bind (wpAny_seqItems t4 rfl (wpAny_bind (pairSet t4 fun g5 t5 s5 => ?_)))
 replace t5 : IsPair g5 TO x y := t5
 refine wpAny_bind (wpAny_letGo (wpAny_pure (wpAny_pure ?_)))
 refine wpAny_bind (wpAny_seqItems t5 rfl (wpAny_bind (wpAny_newTuple ?_)))
 have z5 : g5.objs.size = s.heap.objs.size := by rw [s5.1, s4.1, s3.1, s2.1, s1.1]
 have e5 : ∀ c o, c ≠ z -> c ≠ TO -> c ≠ i1 -> c ≠ i2 -> s.heap.get? c = some o -> g5.get? c = some o := fun c o c1 c2 c3 c4 e => s5.extBut _ _ c2 (s4.extBut _ _ c4 (e3 c o c1 c3 c2 e))
 have k5 : IsZip g5 z TI TO .ellipsis := s5.extBut _ _ D.bz.symm (s4.extBut _ _ D.dz.symm (s3.extBut _ _ D.bz.symm (s2.extBut _ _ D.cz.symm k1)))
 have m1 : g5.IsTupleIter i1 a (i + 1) := ((j2.extBut s3.extBut D.bc.symm).extBut s4.extBut D.cd).extBut s5.extBut D.bc.symm
 have m2 : g5.IsTupleIter i2 b (i + 1) := j4.extBut s5.extBut D.bd.symm
 have zlt : z < g5.objs.size := Heap.lt_size k5
 show wpAny _ _ (Builtin.SmallTypes.ownedTupleHandOut (.ref z) (.ref g5.objs.size) >>= _) _ _ _
 refine wpAny_bind ?_
 unfold Builtin.SmallTypes.ownedTupleHandOut
 have k6 : IsZip (g5.push { cls := .type "tuple", data := .seq #[x, y] }) z TI TO .ellipsis := Heap.get?_push_of_some _ k5
 refine wpAny_bind (wpAny_setField_rec k6 (by simp) fun g7 k7 s7 => ?_)
 replace k7 : IsZip g7 z TI TO (rawInt g5.objs.size) := k7
 refine wpAny_setField_rec k7 (by simp) fun g8 k8 s8 => ?_
 replace k8 : IsZip g8 z TI TO (rawInt g5.objs.size) := k8
 have up : ∀ c o, c ≠ z -> g5.get? c = some o -> g8.get? c = some o := fun c o c1 e => s8.extBut _ _ c1 (s7.extBut _ _ c1 (Heap.get?_push_of_some _ e))
 have t8 : IsPair g8 g5.objs.size x y := s8.extBut _ _ (Nat.ne_of_gt zlt) (s7.extBut _ _ (Nat.ne_of_gt zlt) (Heap.get?_push_size _ rfl))
 rw [z5] at k8 t8
 refine wpAny_pure ⟨_, rfl, wpAny_pure ?_⟩
 show Q (some (.ref g5.objs.size)) _
 rw [z5]
 exact q g8 k8 (up _ _ D.az (e5 _ _ D.az D.ab D.ac D.ad hti)) (up _ _ D.bz t5) (let ⟨o, ho, r⟩ := m1; ⟨o, up _ _ D.cz ho, r⟩) (let ⟨o, ho, r⟩ := m2; ⟨o, up _ _ D.dz ho, r⟩) t8 fun c o c1 c2 c3 c4 e => up c o c1 (e5 c o c1 c2 c3 c4 e)
end
end L2
namespace L2
open PySem PySem.Spec PyProof.Rows
section
variable {prog : Program} {w : World} {A : Around} {E : Value -> Shared -> Prop} {s : Shared} {z TI TO i1 i2 a b : Addr} {i : Nat} {xs ys : Array Value}
theorem zipT_end {Q : Option Value -> Shared -> Prop} (hh : A.in1.handled = none) (D : ZipNe z TI TO i1 i2) (S : ZipT s.heap z TI TO i1 i2 a b i) (ha : s.heap.IsTuple a xs) (hb : s.heap.IsTuple b ys) (haz : a ≠ z /\ a ≠ TO) (hbz : b ≠ z /\ b ≠ TO) (hend : xs[i]? = none ∨ ys[i]? = none)
  (q : ∀ h', (∀ c o, c ≠ z -> c ≠ TO -> c ≠ i1 -> c ≠ i2 -> s.heap.get? c = some o -> h'.get? c = some o) -> Q none { s with heap := h' }) :
  wpAny (model prog w) A (pyNext (.ref z)) Q E s := by
 obtain ⟨hz, hti, ⟨p0, p1, hto⟩, h1, h2⟩ := S
 have bi1 := tupNe hb h1
 have hT : s.TypeIs (.ref z) "zip" := ⟨_, hz, rfl⟩
 unfold pyNext
 refine wpAny_bind (wpAny_attempt (wpAny_callSpecial?_slot (name := Str.ofString "__next__") hT F.slot_zip_next (wpAny_call_entry F.slot_zip_next hT F.entry_zip_next ?_ (F.args_zip_next_1 _))))
 show wpAny _ _ (field (.ref z) 2 >>= _) _ _ _
 refine wpAny_bind (wpAny_field hz rfl (x := .bool false) rfl ?_); show wpAny _ _ (field (.ref z) 3 >>= _) _ _ _
 refine wpAny_bind (wpAny_field hz rfl (x := .ref TI) rfl (wpAny_bind (wpAny_seqItems hti rfl ?_)))
 show wpAny _ _ (Builtin.SmallTypes.ownedTupleIsFree (.ref z) >>= _) _ _ _
 refine wpAny_bind ?_
 unfold Builtin.SmallTypes.ownedTupleIsFree
 refine wpAny_bind (wpAny_field hz rfl (x := .none) rfl (wpAny_pure ?_)); simp only [if_true]
 refine wpAny_bind (wpAny_rule (wpAny_bind (wpAny_field hz rfl (x := .ref TO) rfl (wpAny_bind (wpAny_setField_rec hz (by simp) fun g1 k1 s1 => ?_)))))
 replace k1 : IsZip g1 z TI TO .ellipsis := k1
 refine wpAny_bind ?_
 simp only [List.zipIdx_cons, List.zipIdx_nil, List.forIn_cons, List.forIn_nil]
 have fin : ∀ (g : Heap) (e : Addr), IsZip g z TI TO .ellipsis -> (∀ c o, c ≠ z -> c ≠ TO -> c ≠ i1 -> c ≠ i2 -> s.heap.get? c = some o -> g.get? c = some o) -> (∃ o, g.get? e = some o /\ o.cls = .type "StopIteration") ->
   wpAny (model prog w) A.in1 (setField (.ref z) 0 .none) (fun _ s' => wpAny (model prog w) A (do if <- isInstance (.ref e) (.type "StopIteration") then pure none else throw (Value.ref e)) Q E s') (fun e' s' => wpAny (model prog w) A (do if <- isInstance e' (.type "StopIteration") then pure none else throw e') Q E s') { s with heap := g } := by
  rintro g e kz kk ⟨oe, f1, f2⟩
  have ez : e ≠ z := fun y => by subst y; rw [kz] at f1; cases f1; injection f2 with z2; revert z2; decide
  refine wpAny_setField_rec kz (by simp) fun g' _ s' => ?_
  refine wpAny_bind (wpAny_isInstance (T := "StopIteration") (b := true) ⟨oe, s'.extBut _ _ ez f1, f2⟩ isSubtype_stop ?_)
  exact wpAny_pure (q g' fun c o c1 c2 c3 c4 y => s'.extBut _ _ c1 (kk c o c1 c2 c3 c4 y))
 refine wpAny_bind (wpAny_bind (wpAny_onRaise ?_)); show wpAny _ _ (Builtin.SmallTypes.nextOf (.ref i1) >>= _) _ _ _
 cases hx : xs[i]? with
 | none =>
  refine wpAny_bind (nextT_end hh (h1.extBut s1.extBut D.cz) (ha.extBut s1.extBut haz.1) hx fun g2 e s2 he => ?_)
  exact fin g2 e (s2 _ _ D.cz.symm k1) (fun c o c1 _ c3 _ y => s2 _ _ c3 (s1.extBut _ _ c1 y)) he
 | some x =>
  have hy : ys[i]? = none := by rcases hend with h | h; rw [hx] at h; cases h; exact h
  refine wpAny_bind (nextT_item (h1.extBut s1.extBut D.cz) (ha.extBut s1.extBut haz.1) hx fun g2 j2 s2 => wpAny_pure ?_)
  have t2 : IsPair g2 TO p0 p1 := s2.extBut _ _ D.bc (s1.extBut _ _ D.bz hto)
  refine wpAny_bind (wpAny_seqItems t2 rfl (wpAny_bind (pairSet t2 fun g3 t3 s3 => ?_)))
  refine wpAny_bind (wpAny_letGo (wpAny_pure ?_))
  refine wpAny_bind (wpAny_bind (wpAny_onRaise ?_)); show wpAny _ _ (Builtin.SmallTypes.nextOf (.ref i2) >>= _) _ _ _
  have e3 : ∀ c o, c ≠ z -> c ≠ i1 -> c ≠ TO -> s.heap.get? c = some o -> g3.get? c = some o := fun c o c1 c2 c3 e => s3.extBut _ _ c3 (s2.extBut _ _ c2 (s1.extBut _ _ c1 e))
  have h23 : g3.IsTupleIter i2 b i := let ⟨o, ho, r⟩ := h2; ⟨o, e3 _ _ D.dz D.cd.symm D.bd.symm ho, r⟩
  have hb3 : g3.IsTuple b ys := let ⟨o, ho, r⟩ := hb; ⟨o, e3 _ _ hbz.1 bi1 hbz.2 ho, r⟩
  refine wpAny_bind (nextT_end hh h23 hb3 hy fun g4 e s4 he => ?_)
  exact fin g4 e (s4 _ _ D.dz.symm (s3.extBut _ _ D.bz.symm (s2.extBut _ _ D.cz.symm k1))) (fun c o c1 c2 c3 c4 y => s4 _ _ c4 (e3 c o c1 c3 c2 y)) he
noncomputable abbrev zT1 (h : Heap) (l1 : Addr) : Heap := h.push { cls := .type "tuple_iterator", data := .fields #[.ref l1, .int 0 0] }
noncomputable abbrev zT2 (h : Heap) (l1 l2 : Addr) : Heap := (zT1 h l1).push { cls := .type "tuple_iterator", data := .fields #[.ref l2, .int 0 0] }
noncomputable abbrev zT3 (h : Heap) (l1 l2 : Addr) : Heap := (zT2 h l1 l2).push { cls := .type "tuple", data := .seq #[.ref h.objs.size, .ref (zT1 h l1).objs.size] }
noncomputable abbrev zT4 (h : Heap) (l1 l2 : Addr) : Heap := (zT3 h l1 l2).push { cls := .type "tuple", data := .seq #[.none, .none] }
noncomputable abbrev zT5 (h : Heap) (l1 l2 : Addr) : Heap := (zT4 h l1 l2).push { cls := .type "zip", data := .fields #[.none, .bool false, .bool false, .ref (zT2 h l1 l2).objs.size, .ref (zT3 h l1 l2).objs.size] }
theorem zip_newT (l1 l2 : Addr) (xs ys : Array Value) :
  Meets (Builtin.«zip.__new__» ⟨[.type "zip", .ref l1, .ref l2], []⟩) (fun _ R s => s.heap.IsTuple l1 xs /\ s.heap.IsTuple l2 ys /\ R (.ok (.ret (.ref (zT4 s.heap l1 l2).objs.size))) { s with heap := zT5 s.heap l1 l2 }) :=
 .of_wp fun prog w A R s h => by
  obtain ⟨hp, g, d, tk, os⟩ := s; obtain ⟨hl1, hl2, h⟩ := h
  have hsub := sub_zip
  have hL1 : Heap.IsTuple (Shared.heap ⟨hp, g, d, tk, os⟩) l1 xs := hl1
  have hL2 : Heap.IsTuple (Shared.heap ⟨hp.push { cls := .type "tuple_iterator", data := .fields #[.ref l1, .int 0 0] }, g, d, tk, os⟩) l2 ys := Heap.IsTuple.push hl2 _
  wp_walk using wpAny_pyIter_tuple hL1, wpAny_pyIter_tuple hL2
  exact ⟨_, rfl, h⟩
theorem call_zipT {l1 l2 : Addr} {Q : Value -> Shared -> Prop} (hl1 : s.heap.IsTuple l1 xs) (hl2 : s.heap.IsTuple l2 ys)
  (h : ∀ h', ZipT h' (s.heap.objs.size + 4) (s.heap.objs.size + 2) (s.heap.objs.size + 3) s.heap.objs.size (s.heap.objs.size + 1) l1 l2 0 -> (∀ c o, s.heap.get? c = some o -> h'.get? c = some o) -> Q (.ref (s.heap.objs.size + 4)) { s with heap := h' }) :
  wpAny (model prog w) A (call (.type "zip") [.ref l1, .ref l2]) Q E s := by
 refine callType_new F.called_zip (by decide) (F.typeCall_zip_2 _ _) (F.newCall_zip_2 _ _) (fun obj => F.args_object_init_3 obj _ _) F.entry_zip_new (zip_newT l1 l2 xs ys) ⟨hl1, hl2, ?_⟩
 have z1 : (zT1 s.heap l1).objs.size = s.heap.objs.size + 1 := Heap.size_push ..
 have z2 : (zT2 s.heap l1 l2).objs.size = s.heap.objs.size + 2 := by rw [Heap.size_push, z1]
 have z3 : (zT3 s.heap l1 l2).objs.size = s.heap.objs.size + 3 := by rw [Heap.size_push, z2]
 have z4 : (zT4 s.heap l1 l2).objs.size = s.heap.objs.size + 4 := by rw [Heap.size_push, z3]
 have p1 : ∀ {g : Heap} {c o u}, g.get? c = some o -> (g.push u).get? c = some o := fun e => Heap.get?_push_of_some _ e
 have g5 : (zT5 s.heap l1 l2).get? (zT4 s.heap l1 l2).objs.size = some _ := Heap.get?_push_size _ rfl
 have g4 : (zT5 s.heap l1 l2).get? (zT3 s.heap l1 l2).objs.size = some _ := p1 (Heap.get?_push_size _ rfl)
 have g3 : (zT5 s.heap l1 l2).get? (zT2 s.heap l1 l2).objs.size = some _ := p1 (p1 (Heap.get?_push_size _ rfl))
 have g2 : (zT5 s.heap l1 l2).get? (zT1 s.heap l1).objs.size = some _ := p1 (p1 (p1 (Heap.get?_push_size _ rfl)))
 have g1 : (zT5 s.heap l1 l2).get? s.heap.objs.size = some _ := p1 (p1 (p1 (p1 (Heap.get?_push_size _ rfl))))
 show _ /\ _
 rw [z2, z3, z4] at g5
 rw [z1, z2] at g3
 rw [z3] at g4
 rw [z1] at g2
 rw [z4]
 exact ⟨⟨_, g5, rfl⟩, h _ ⟨g5, g3, ⟨_, _, g4⟩, ⟨_, g1, rfl, rfl⟩, ⟨_, g2, rfl, rfl⟩⟩ fun c o x => p1 (p1 (p1 (p1 (p1 x))))⟩
end
noncomputable def Itz (K : PySem.W.Frag) (a b : Addr) : It :=
 ⟨fun i H => ∃ xs ys x y, SqT K H a xs /\ SqT K H b ys /\ xs[i]? = some x /\ ys[i]? = some y, fun i H v H' => ∃ t x y, H t = none /\ v = .ref t /\ H' = upd H t (.tup [x, y]) /\ ∀ xs ys, SqT K H a xs -> SqT K H b ys -> xs[i]? = some x /\ ys[i]? = some y,
  fun i H => ∃ xs ys, SqT K H a xs /\ SqT K H b ys /\ (xs[i]? = none ∨ ys[i]? = none)⟩
theorem zipNe_of {z TI TO i1 i2 : Addr} {h : Heap} {a b : Addr} {i : Nat} (S : ZipT h z TI TO i1 i2 a b i) (h1 : TI ≠ TO) (h2 : i1 ≠ i2) : ZipNe z TI TO i1 i2 := by
 obtain ⟨hz, hti, ⟨p0, p1, hto⟩, ⟨o1, e1, c1, d1⟩, ⟨o2, e2, c2, d2⟩⟩ := S
 refine ⟨fun e => ?_, fun e => ?_, fun e => ?_, fun e => ?_, h1, fun e => ?_, fun e => ?_, fun e => ?_, fun e => ?_, h2⟩
 ·have q := (show h.get? TI = _ from hti); rw [e, show h.get? z = _ from hz] at q; injection q with q; injection q with q1; injection q1 with q2; revert q2; decide
 ·have q := (show h.get? TO = _ from hto); rw [e, show h.get? z = _ from hz] at q; injection q with q; injection q with q1; injection q1 with q2; revert q2; decide
 ·rw [e, hz] at e1; cases e1; injection c1 with q2; revert q2; decide
 ·rw [e, hz] at e2; cases e2; injection c2 with q2; revert q2; decide
 ·rw [<- e, hti] at e1; cases e1; injection c1 with q2; revert q2; decide
 ·rw [<- e, hti] at e2; cases e2; injection c2 with q2; revert q2; decide
 ·rw [<- e, hto] at e1; cases e1; injection c1 with q2; revert q2; decide
 ·rw [<- e, hto] at e2; cases e2; injection c2 with q2; revert q2; decide
theorem SqT.fpNe {X : Cx} {pins : List (Addr × Obj)} {σ : St} {H : Hp} {s : Shared} {t c : Addr} {zs : List V} (I : Inv X pins σ H s) (hq : SqT X.K H t zs) (f : FpOk X pins H c) : t ≠ c := by
 rintro rfl
 rcases hq with (h | ⟨o, h⟩) | h
 ·rw [f.1] at h; cases h
 ·rw [f.1] at h; cases h
 ·obtain ⟨o, _, _, hl, _⟩ := h
  have e := I.ok.mod.kin _ _ hl
  rcases f.2.2.2.1 with z | z
  ·exact I.ok.noex _ _ e z
  ·exact absurd (Nat.lt_of_lt_of_le (Heap.lt_size e) (Nat.le_trans I.ok.bsz z)) (Nat.lt_irrefl _)
theorem turn_zipT {P : Program} {w : World} {K : PySem.W.Frag} {els : List Expr} {kx} {tp : Pos} (a b z TI TO i1 i2 : Addr) (h1 : TI ≠ TO) (h2 : i1 ≠ i2) : Turn P w K (.Tuple els kx tp) (Itz K a b) [z, TI, TO, i1, i2] z (fun i h => ZipT h z TI TO i1 i2 a b i) where
 mem := by simp
 obj := fun i h st c hc => by
  obtain ⟨hz, hti, ⟨p0, p1, hto⟩, ⟨o1, e1, c1, d1⟩, ⟨o2, e2, c2, d2⟩⟩ := st
  simp only [List.mem_cons, List.not_mem_nil, or_false] at hc
  rcases hc with rfl | rfl | rfl | rfl | rfl
  ·exact ⟨_, hz, fun v q => by cases q⟩
  ·exact ⟨_, hti, fun v q => by cases q⟩
  ·exact ⟨_, hto, fun v q => by cases q⟩
  ·exact ⟨_, e1, fun v q => by rw [d1] at q; cases q⟩
  ·exact ⟨_, e2, fun v q => by rw [d2] at q; cases q⟩
 keep := fun i h h' st k => by
  obtain ⟨hz, hti, ⟨p0, p1, hto⟩, ⟨o1, e1, r1⟩, ⟨o2, e2, r2⟩⟩ := st
  exact ⟨k _ (by simp) _ hz, k _ (by simp) _ hti, ⟨p0, p1, k _ (by simp) _ hto⟩, ⟨o1, k _ (by simp) _ e1, r1⟩, ⟨o2, k _ (by simp) _ e2, r2⟩⟩
 item := by
  intro X hP hw hK hc i pins s σ H E I hf st hg
  subst hP hw hK
  obtain ⟨xs, ys, x, y, hqa, hqb, hx, hy⟩ := hg
  obtain ⟨its, rv, p, _⟩ := I.tuple hqa
  obtain ⟨jts, rw', p', _⟩ := I.tuple hqb
  obtain ⟨u, hu, ru⟩ := rv.get hx
  obtain ⟨v, hv, rvv⟩ := rw'.get hy
  have D := zipNe_of st h1 h2
  obtain ⟨hz, hti, ⟨p0, p1, hto⟩, hi1, hi2⟩ := id st
  have apart : ∀ {t : Addr} {zs : List V}, SqT X.K H t zs -> t ≠ z /\ t ≠ TO := fun hq => ⟨SqT.fpNe I hq (hf z (by simp)), SqT.fpNe I hq (hf TO (by simp))⟩
  refine zipT_item D st p p' (apart hqa) (apart hqb) (by simpa using hu) (by simpa using hv) fun g k1 k2 k3 k4 k5 k6 k7 => ?_
  refine ⟨_, rfl, wpAny_letOwnedTupleGo_zip k1 fun g2 l1 s2 => ?_⟩
  have hne0 : s.heap.objs.size ≠ z := Nat.ne_of_gt (Heap.lt_size hz)
  have keep : ∀ c o, c ∉ [z, TI, TO, i1, i2] -> s.heap.get? c = some o -> g2.get? c = some o := fun c o hc e => s2.extBut _ _ (fun q => hc (by simp [q])) (k7 c o (fun q => hc (by simp [q])) (fun q => hc (by simp [q])) (fun q => hc (by simp [q])) (fun q => hc (by simp [q])) e)
  refine ⟨.ref s.heap.objs.size, _, I.turnedT (h' := g2) (t' := s.toks) (xs := [x, y]) hf keep (.cons ru (.cons rvv .nil)) ⟨_, s2.extBut _ _ hne0 k6, rfl, ⟨_, rfl⟩, rfl, rfl⟩ (by show 2 <= sizeLine; decide), rfl,
   ⟨_, x, y, I.hok.fresh (Nat.le_refl _), rfl, rfl, fun as bs ha hb => ⟨by rw [I.tuple_inj ha hqa]; exact hx, by rw [I.tuple_inj hb hqb]; exact hy⟩⟩, ⟨l1, s2.extBut _ _ D.az k2, ⟨_, _, s2.extBut _ _ D.bz k3⟩, k4.extBut s2.extBut D.cz, k5.extBut s2.extBut D.dz⟩, fun c hc => ?_⟩
  have : c < s.heap.objs.size := by
   obtain ⟨o1, e1, _⟩ := hi1
   obtain ⟨o2, e2, _⟩ := hi2
   simp only [List.mem_cons, List.not_mem_nil, or_false] at hc
   rcases hc with rfl | rfl | rfl | rfl | rfl
   ·exact Heap.lt_size hz
   ·exact Heap.lt_size hti
   ·exact Heap.lt_size hto
   ·exact Heap.lt_size e1
   ·exact Heap.lt_size e2
  rw [upd_ne (Nat.ne_of_lt this)]
  exact (hf c hc).1
 done := by
  intro X hP hw hK hc i pins s σ H E I hf st hg
  subst hP hw hK
  obtain ⟨xs, ys, hqa, hqb, hx⟩ := hg
  obtain ⟨its, rv, p, _⟩ := I.tuple hqa
  obtain ⟨jts, rw', p', _⟩ := I.tuple hqb
  have D := zipNe_of st h1 h2
  have apart : ∀ {t : Addr} {zs : List V}, SqT X.K H t zs -> t ≠ z /\ t ≠ TO := fun hq => ⟨SqT.fpNe I hq (hf z (by simp)), SqT.fpNe I hq (hf TO (by simp))⟩
  refine zipT_end (I.ok.hd hc) D st p p' (apart hqa) (apart hqb) (hx.elim (fun q => .inl (by simpa using rv.none_of q)) fun q => .inr (by simpa using rw'.none_of q)) fun g k => ⟨rfl, ?_⟩
  exact I.turnedN (t' := s.toks) hf fun c o hc e => k c o (fun q => hc (by simp [q])) (fun q => hc (by simp [q])) (fun q => hc (by simp [q])) (fun q => hc (by simp [q])) e
 self := fun _ _ _ _ _ st h => wpAny_pyIter_zip st.z h
section
variable {X : Cx}
noncomputable def iZip (K : PySem.W.Frag) (ta : TA) : TI := fun σ H R => ta σ H fun vs H1 => ∃ a b, vs = [.ref a, .ref b] /\ (∃ xs, SqT K H1 a xs) /\ (∃ ys, SqT K H1 b ys) /\ R (Itz K a b) H1
theorem pi_zipT {els : List Expr} {kx} {tp : Pos} {l l' : Expr} {ta : TA} {p pos : Pos} (hg : Gl X "zip") (hm : X.mg "zip" = none) (ha : PA X [l, l'] ta) (hs : starEach [l, l'] X.env = [(false, eval l X.env), (false, eval l' X.env)] := by rfl) (hs2 : starEach [l'] X.env = [(false, eval l' X.env)] := by rfl) :
  PI X (.Tuple els kx tp) (.Call (.Name "zip" p) [l, l'] [] pos) (iZip X.K ta) := by
 intro pins s σ H R I h
 refine Call_ (ld_blt I hg hm boot_zip (PyProof.Rows.callWith_type1 (thn (ha pos pins s σ H _ I h) fun us s1 ⟨vs, H1, I1, r1, q1⟩ => ?_) (by rw [hs, hs2]) (by rw [hs2]; rfl)))
 obtain ⟨a, b, rfl, ⟨xs, hqa⟩, ⟨ys, hqb⟩, q⟩ := q1
 obtain ⟨u, v, rfl, ru, rv⟩ := vals2 r1
 cases (show u = Value.ref a from ru)
 cases (show v = Value.ref b from rv)
 obtain ⟨its, _, p1, _⟩ := I1.tuple hqa
 obtain ⟨jts, _, p2, _⟩ := I1.tuple hqb
 refine call_zipT (show s1.heap.IsTuple a its.toArray from p1) (show s1.heap.IsTuple b jts.toArray from p2) fun h' S hk => wpAny_pyIter_zip S.z ?_
 have I2 : Inv X pins σ H1 { s1 with heap := h' } := I1.kept (t' := s1.toks) hk
 refine ⟨_, _, _, _, H1, rfl, I2, turn_zipT a b _ _ _ _ _ (Nat.ne_of_lt (Nat.lt_succ_self _)) (Nat.ne_of_lt (Nat.lt_succ_self _)), S, fun c hc => ?_, q⟩
 have : s1.heap.objs.size <= c := by
  simp only [List.mem_cons, List.not_mem_nil, or_false] at hc
  rcases hc with rfl | rfl | rfl | rfl | rfl <;> first | exact Nat.le_refl _ | exact Nat.le_add_right _ _ | exact Nat.le_succ _ | exact Nat.le_succ_of_le (Nat.le_add_right _ _)
 exact I1.fpOk this (I1.hok.fresh this)
end
end L2
namespace L2
open PySem PySem.Spec PyProof.Rows
theorem fm_congr {α β : Type} {f g : α -> Option β} : ∀ {l : List α}, (∀ x ∈ l, f x = g x) -> l.filterMap f = l.filterMap g
 | [], _ => rfl
 | a :: l, h => by rw [List.filterMap_cons, List.filterMap_cons, h a List.mem_cons_self, fm_congr fun x hx => h x (List.mem_cons_of_mem _ hx)]
theorem rev_pick (its : List Value) : (List.range its.length).filterMap (fun (k : Nat) => its.toArray[its.length - 1 - k]?) = its.reverse := by
 apply List.ext_getElem?
 intro i
 have e : (List.range its.length).filterMap (fun (k : Nat) => its.toArray[its.length - 1 - k]?) = (List.range its.length).map fun k => its.getD (its.length - 1 - k) .none := by
  rw [<- List.filterMap_eq_map]
  apply fm_congr
  intro k hk
  have hk' := List.mem_range.mp hk
  have h1 : its.length - 1 - k < its.length := by (first | lia | omega)
  simp [h1]
 rw [e, List.getElem?_map]
 by_cases h : i < its.length
 ·rw [List.getElem?_range h, List.getElem?_reverse h]
  have h1 : its.length - 1 - i < its.length := by (first | lia | omega)
  simp [h1]
 ·rw [List.getElem?_eq_none (by simpa using h), List.getElem?_eq_none (by simpa using h)]
  rfl
theorem pick_rev (its : List Value) : slicePick its.toArray none none (some (-1)) = its.reverse.toArray := by
 have hb : sliceBounds none none (some (-1)) its.length = ((its.length : Int) - 1, -1, -1) := by
  unfold sliceBounds; simp
 have hr : ∀ n : Nat, sliceRange ((n : Int) - 1) (-1) (-1) = (List.range n).map fun k => n - 1 - k := by
  intro n
  unfold sliceRange
  have e1 : (if (-1 : Int) > 0 then (if (n : Int) - 1 < -1 then (-1 - ((n : Int) - 1) + -1 - 1) / -1 else 0) else if (n : Int) - 1 > -1 then ((n : Int) - 1 - -1 - -1 - 1) / - -1 else 0).toNat = n := by
   rw [if_neg (by decide)]
   by_cases h : (n : Int) - 1 > -1
   ·rw [if_pos h]
    have : ((n : Int) - 1 - -1 - -1 - 1) / - -1 = n := by
     rw [show (- -1 : Int) = 1 by decide, Int.ediv_one]; (first | lia | omega)
    rw [this]; rfl
   ·rw [if_neg h]; (first | lia | omega)
  dsimp only
  rw [e1]
  apply List.map_congr_left
  intro k hk
  have := List.mem_range.mp hk
  (first | lia | omega)
 unfold slicePick
 rw [List.size_toArray, hb]
 show (List.filterMap _ (sliceRange ((its.length : Int) - 1) (-1) (-1))).toArray = _
 rw [hr, List.filterMap_map]
 congr 1
 exact rev_pick its
section
variable {X : Cx} {e : Expr} {te : TE} {p2 pos : Pos}
noncomputable def RvR (X : Cx) (r : V -> Hp -> VK -> Prop) : Prop :=
 ∀ (pins : List (Addr × Obj)) (s : Shared) (σ : St) (H : Hp) (x : V) (v vs : Value) (sl : Addr) (Q : VK), Inv X pins σ H s -> RelV x v -> s.heap.IsSliceOf sl .none .none vs -> IsPart vs (some (-1)) -> r x H Q ->
  ∃ T id, typeLookup (.type T) "__getitem__" = pure (some (.builtin id)) /\ s.TypeIs v T /\ wpAny (model X.prog X.w) X.A (getItem v (.ref sl)) (EP X pins σ Q) X.xe s
theorem pe_rev {r : V -> Hp -> VK -> Prop} {j : Nat} {p3 p4 : Pos} (hr : RvR X r) (he : PE X e te) : PE X (.Subscript e (.Slice none none (some (.UnaryOp .USub (.Constant (.int 1) j p3) p4)) p2) pos) (tUn r te) := by
 intro pins s σ H Q I h
 have hst : PO X (some (.UnaryOp .USub (.Constant (.int 1) j p3) p4)) (tPart (tUn (rU fun i => .int (-i)) (tC (.int 1)))) := po_some (pe_un un_neg pe_int)
 refine Subscript_ (thn (he pins s σ H _ I h) fun v s1 ⟨x, H1, I1, r1, q1⟩ => ?_)
 refine wpAny_Slice (thn (po_none pins s1 σ H1 (fun o H' => o = none /\ r x H' Q) I1 ⟨rfl, q1⟩) fun vl s2 ⟨l, H2, I2, pl, el, q2⟩ => thn (po_none pins s2 σ H2 (fun o H' => o = none /\ r x H' Q) I2 ⟨rfl, q2⟩) fun vu s3 ⟨u, H3, I3, pu, eu, q3⟩ => ?_)
 subst el eu
 refine thn (hst pins s3 σ H3 (fun o H' => o = some (-1) /\ r x H' Q) I3 ⟨1, rfl, -1, rfl, rfl, q3⟩) fun vs s4 ⟨o, H4, I4, ps, eo, q4⟩ => ?_
 subst eo
 cases pl
 cases pu
 have I5 : Inv X pins σ H4 { s4 with heap := s4.heap.push { cls := .type "slice", data := .fields #[.none, .none, vs] } } := I4.kept (t' := s4.toks) fun b ob q => Heap.get?_push_of_some _ q
 obtain ⟨T, id, hT, ht, hg⟩ := hr pins { s4 with heap := s4.heap.push { cls := .type "slice", data := .fields #[.none, .none, vs] } } σ H4 x v vs s4.heap.objs.size Q I5 r1 (Heap.IsSliceOf.new ..) ps q4
 show wpAny (model X.prog X.w) X.A (subscriptTail e (.Slice none none (some (.UnaryOp .USub (.Constant (.int 1) j p3) p4)) p2) v (.ref s4.heap.objs.size)) (EP X pins σ Q) X.xe { s4 with heap := s4.heap.push { cls := .type "slice", data := .fields #[.none, .none, vs] } }
 exact tail_any (ops := [v, .ref s4.heap.objs.size]) ht hT hg (by with_unfolding_all rfl)
noncomputable def rRvL (K : PySem.W.Frag) : V -> Hp -> VK -> Prop := fun x H Q => ∃ a xs, x = .ref a /\ SqL K H a xs /\ ∀ p, H p = none -> Q (.ref p) (upd H p (.lst xs.reverse))
theorem rv_list : RvR X (rRvL X.K) := by
 intro pins s σ H x v vs sl Q I rx hs ps h
 obtain ⟨a, xs, rfl, hx, q⟩ := h
 cases rx
 obtain ⟨its, r, ht, hz⟩ := I.list hx
 have hlen := r.length
 refine ⟨"list", _, slot_list_getitem.lookup, ht.isList.typeIs, ?_⟩
 refine wpAny_getItem_list_slice ht.isList hs .none .none ps (by simp) ?_ (by rw [List.size_toArray] <;> (first | lia | omega))
 rw [pick_rev]
 refine ⟨.ref s.heap.objs.size, _, I.laid (t' := s.toks) (o := .lst xs.reverse) (fun b ob q => Heap.get?_push_of_some _ q) (Nat.le_refl _) ?_, rfl, q _ (I.hok.fresh (Nat.le_refl _))⟩
 exact ⟨by rw [List.length_reverse]; exact hz, _, 0, r.reverse, Heap.get?_push_size _ rfl⟩
theorem getItem_tuple_rev {prog : Program} {w : World} {A : Around} {E : Value -> Shared -> Prop} {s : Shared} {t sl : Addr} {its : List Value} {vs : Value} {Q : Value -> Shared -> Prop} (ht : IsTup s.heap t its.toArray) (hs : s.heap.IsSliceOf sl .none .none vs) (ps : IsPart vs (some (-1)))
  (h : Q (.ref s.heap.objs.size) { s with heap := s.heap.push { cls := .type "tuple", data := .seq its.reverse.toArray } }) (hsz : its.length <= sizeLine) : wpAny (model prog w) A (getItem (.ref t) (.ref sl)) Q E s := by
 have htake : sizeOk (.seq its.reverse.toArray) := by
  show its.reverse.toArray.size <= sizeLine
  rw [List.size_toArray, List.length_reverse]; exact hsz
 obtain ⟨os, hos, hcs, hds⟩ := id hs
 have hTs : s.TypeIs (.ref sl) "slice" := ⟨os, hos, hcs⟩
 unfold getItem
 try with_reducible refine wpAny_holding ?_
 first | refine wpAny_bind (wpAny_pure ?_) | skip
 refine wpAny_bind (wpAny_sequenceKey ht.typeIs (by decide) ?_)
 refine wpAny_bind (wpAny_callSpecial?_slot (name := Str.ofString "__getitem__") ht.typeIs PyProof.Rows.slot_tuple_getitem
  (wpAny_call_entry PyProof.Rows.slot_tuple_getitem ht.typeIs entry_tuple_getitem ?_ (args_tuple_getitem _ _)))
 show wpAny _ _ (Builtin.Tuple.tupleItemsOf (.ref t) >>= _) _ _ s
 refine wpAny_bind (tupleItemsOf_ ht ?_)
 refine wpAny_bind (wpAny_typeOf hTs ?_)
 rw [if_pos (by decide)]
 have hap : ∀ {Q' : Int × Int × Nat -> Shared -> Prop}, Q' ((its.length : Int) - 1, -1, its.length) s -> wpAny (model prog w) A.in1 (Builtin.Slice.sliceApplied (.ref sl) (pure ((its.toArray.size : Nat) : Int))) Q' E s := fun {Q'} q => by
  unfold Builtin.Slice.sliceApplied Builtin.Slice.sliceFields
  refine wpAny_bind (wpAny_bind (wpAny_field hos hds (x := .none) rfl (wpAny_bind (wpAny_field hos hds (x := .none) rfl (wpAny_bind (wpAny_field hos hds (x := vs) rfl (wpAny_pure ?_)))))))
  refine wpAny_bind (HT.slicePart_ ps ?_)
  show wpAny _ _ (if ((-1 : Int) == 0) = true then _ else _) _ _ s
  rw [if_neg (by decide)]
  refine wpAny_bind (slicePart_none (wpAny_bind (slicePart_none (wpAny_bind (wpAny_pure ?_)))))
  have e1 : Builtin.Slice.sliceAdjust none none (-1) ((its.toArray.size : Nat) : Int) = ((its.length : Int) - 1, -1) := by
   unfold Builtin.Slice.sliceAdjust; simp
  have e2 : Builtin.Slice.slicePlaces ((its.length : Int) - 1) (-1) (-1) = its.length := by
   unfold Builtin.Slice.slicePlaces
   rw [if_neg (by decide)]
   by_cases h : (its.length : Int) - 1 > -1
   ·rw [if_pos h, show (- -1 : Int) = 1 by decide, Int.ediv_one]; (first | lia | omega)
   ·rw [if_neg h]; (first | lia | omega)
  show wpAny _ _ (match Builtin.Slice.sliceAdjust none none (-1) ((its.toArray.size : Nat) : Int) with | (lo, hi) => pure (lo, (-1 : Int), Builtin.Slice.slicePlaces lo hi (-1))) _ _ s
  rw [e1]
  show wpAny _ _ (pure ((its.length : Int) - 1, (-1 : Int), Builtin.Slice.slicePlaces ((its.length : Int) - 1) (-1) (-1))) _ _ s
  rw [e2]
  exact wpAny_pure q
 refine wpAny_bind (hap ?_)
 show wpAny _ _ (if ((its.length : Int) - 1 == 0 && (-1 : Int) == 1 && its.length == its.toArray.size) = true then _ else _) _ _ s
 rw [if_neg (by simp)]
 have e3 : (List.filterMap (fun (k : Nat) => its.toArray[((its.length : Int) - 1 + (k : Int) * -1).toNat]?) (List.range its.length)) = its.reverse := by
  rw [<- rev_pick its]
  apply fm_congr
  intro k hk
  have := List.mem_range.mp hk
  have e : ((its.length : Int) - 1 + (k : Int) * -1).toNat = its.length - 1 - k := by (first | lia | omega)
  rw [e]
 rw [e3]
 first
  | exact wpAny_bind (m := Builtin.Tuple.tupleExact _) (wpAny_newObj_type (wpAny_pure ⟨_, rfl, wpAny_pure h⟩) htake)
  | exact wpAny_bind (m := Builtin.Tuple.tupleExact _) (wpAny_newObj_type (wpAny_bind (wpAny_pure (wpAny_pure ⟨_, rfl, wpAny_pure h⟩))) htake)
  | exact wpAny_bind (wpAny_bind (m := Builtin.Tuple.tupleExact _) (wpAny_newObj_type (wpAny_pure (wpAny_pure ⟨_, rfl, wpAny_pure h⟩)) htake))
  | exact wpAny_bind (wpAny_bind (m := Builtin.Tuple.tupleExact _) (wpAny_newObj_type (wpAny_pure ⟨_, rfl, wpAny_pure h⟩) htake))
noncomputable def rRvT (K : PySem.W.Frag) : V -> Hp -> VK -> Prop := fun x H Q => ∃ a xs, x = .ref a /\ SqT K H a xs /\ ∀ p, H p = none -> Q (.ref p) (upd H p (.tup xs.reverse))
theorem rv_tup : RvR X (rRvT X.K) := by
 intro pins s σ H x v vs sl Q I rx hs ps h
 obtain ⟨a, xs, rfl, hx, q⟩ := h
 cases rx
 obtain ⟨its, r, ht, hz⟩ := I.tuple hx
 have hlen := r.length
 refine ⟨"tuple", _, PyProof.Rows.slot_tuple_getitem.lookup, ht.typeIs, ?_⟩
 refine getItem_tuple_rev ht hs ps ?_ (by (first | lia | omega))
 refine ⟨.ref s.heap.objs.size, _, I.laid (t' := s.toks) (o := .tup xs.reverse) (fun b ob q => Heap.get?_push_of_some _ q) (Nat.le_refl _) ?_, rfl, q _ (I.hok.fresh (Nat.le_refl _))⟩
 exact ⟨by rw [List.length_reverse]; exact hz, _, r.reverse, PTup.new⟩
end
end L2
namespace L2
open PySem PySem.Spec PyProof.Rows
section
variable {X : Cx}
noncomputable def rRange1 : List V -> Hp -> VK -> Prop := fun xs H Q => ∃ j : Int, xs = [.int j] /\ ∀ p, H p = none -> Q (.ref p) (upd H p (.rng 0 j))
theorem call_range1 : CallR X (.type "range") rRange1 := by
 intro pins s σ H xs us Q I rs h
 obtain ⟨j, rfl, q⟩ := h
 obtain ⟨u, rfl, t, rfl⟩ := vals1 rs
 refine call_range_1 ⟨.ref s.heap.objs.size, _, I.laid (o := .rng 0 j) (fun b ob q => Heap.get?_push_of_some _ q) (Nat.le_refl _) ?_, rfl, q _ (I.hok.fresh (Nat.le_refl _))⟩
 exact ⟨_, _, _, Heap.get?_push_size _ rfl⟩
noncomputable def rListRng : List V -> Hp -> VK -> Prop := fun xs H Q => ∃ (a : Addr) (j : Int), xs = [.ref a] /\ H a = some (.rng 0 j) /\ 0 <= j /\ j <= 1000 /\ ∀ p, H p = none -> Q (.ref p) (upd H p (.lst (rangeV 0 j.toNat)))
theorem call_list_rng (hc : X.calm = true) : CallR X (.type "list") rListRng := by
 intro pins s σ H xs us Q I rs h
 obtain ⟨a, j, rfl, ha, h0, h1, q⟩ := h
 obtain ⟨u, rfl, ru⟩ := vals1 rs
 cases (show u = Value.ref a from ru)
 obtain ⟨t, u, v, ho⟩ := (show ObjOk X.prog X.w H s.heap a (.rng 0 j) from I.hok a _ ha)
 have hh : X.A.handled = none := I.ok.hd hc
 have hsz : Builtin.Range.rangeSize 0 j 1 = ((j.toNat : Nat) : Int) := by rw [rangeSize_one]; split <;> (first | lia | omega)
 refine call_list_range hh ho (small_one (by (first | lia | omega)) (by (first | lia | omega)) (by (first | lia | omega)) (by (first | lia | omega))) hsz (by (first | lia | omega)) fun h' tk acc c hk hS hi => ?_
 obtain ⟨i1, i2⟩ := hi
 refine ⟨.ref s.heap.objs.size, _, I.laid (t' := tk) (o := .lst (rangeV 0 j.toNat)) hk (Nat.le_refl _) ?_, rfl, q _ (I.hok.fresh (Nat.le_refl _))⟩
 refine ⟨by rw [rangeV_len]; exact Nat.le_trans (by (first | lia | omega) : j.toNat <= 1000) (by decide), acc.toList, c, ?_, by simpa using hS⟩
 have key : ∀ (n : Nat) (l : List Value) (k : Int), l.length = n -> (∀ (i : Nat) v, l[i]? = some v -> ∃ t, v = Value.int (k + (i : Int)) t) -> Vals ((List.range n).map fun (i : Nat) => V.int (k + (i : Int))) l := by
  intro n
  induction n with
  | zero => intro l k hl _; cases l with
   | nil => exact .nil
   | cons _ _ => cases hl
  | succ n ih =>
   intro l k hl hv
   cases l with
   | nil => cases hl
   | cons x r =>
    rw [List.range_succ_eq_map, List.map_cons, List.map_map]
    refine .cons ?_ ?_
    ·obtain ⟨t, e⟩ := hv 0 x rfl
     exact ⟨t, e⟩
    ·have := ih r (k + 1) (by simpa using hl) (fun i v e => by
      obtain ⟨t, e'⟩ := hv (i + 1) v (by simpa using e)
      exact ⟨t, by rw [e']; congr 1; push_cast; (first | lia | omega)⟩)
     have e : ((fun (i : Nat) => V.int (k + (i : Int))) ∘ Nat.succ) = fun (i : Nat) => V.int (k + 1 + (i : Int)) := by
      funext i
      show V.int (k + ((i + 1 : Nat) : Int)) = _
      congr 1; push_cast; (first | lia | omega)
     rw [e]
     exact this
 refine key _ _ 0 (by simpa using i1) fun i v e => ?_
 obtain ⟨t, e'⟩ := i2 i v (by simpa using e)
 exact ⟨t, by rw [e']; congr 1; (first | lia | omega)⟩
end
end L2
namespace L2
open PySem PySem.Spec PyProof.Rows
theorem range_all_getD (f : Nat -> Bool) : ∀ (bs : List Bool), (∀ i, i < bs.length -> f i = bs.getD i false) -> (List.range bs.length).all f = bs.all id := by
 intro bs h
 rw [Bool.eq_iff_iff, List.all_eq_true, List.all_eq_true]
 constructor
 ·intro q b hb
  obtain ⟨i, hi, e⟩ := List.getElem_of_mem hb
  have := q i (List.mem_range.mpr hi)
  rw [h i hi, List.getD_eq_getElem?_getD, List.getElem?_eq_getElem hi, e] at this
  exact this
 ·intro q i hi
  have hi' := List.mem_range.mp hi
  rw [h i hi', List.getD_eq_getElem?_getD, List.getElem?_eq_getElem hi']
  exact q _ (List.getElem_mem hi')
section
variable {X : Cx}
noncomputable def rIsi (K : PySem.W.Frag) : List V -> Hp -> VK -> Prop := fun xs H Q => ∃ x T t b, xs = [x, .ty T] /\ TyOf K H x t /\ PySem.W.kitOne K t (.type T) = some b /\ Q (.bl b) H
theorem call_isi : CallR X (.builtin "isinstance") (rIsi X.K) := by
 intro pins s σ H xs us Q I rs h
 obtain ⟨x, T, t, b, rfl, ty, e, q⟩ := h
 obtain ⟨u, c, rfl, ru, rc⟩ := vals2 rs
 cases (show c = Value.type T from rc)
 exact isinst_ok I ru ty e fun tk => ⟨.bl b, H, I.tok tk, rfl, q⟩
noncomputable def rAll : List V -> Hp -> VK -> Prop := fun xs H Q => ∃ (a : Addr) (bs : List Bool), xs = [.ref a] /\ H a = some (.lst (bs.map V.bl)) /\ Q (.bl (bs.all id)) H
theorem call_all (hc : X.calm = true) : CallR X (.builtin "all") rAll := by
 intro pins s σ H xs us Q I rs h
 obtain ⟨a, bs, rfl, ha, q⟩ := h
 obtain ⟨u, rfl, ru⟩ := vals1 rs
 cases (show u = Value.ref a from ru)
 obtain ⟨hz, its, n, rv, ho⟩ := (show ObjOk X.prog X.w H s.heap a (.lst (bs.map V.bl)) from I.hok a _ ha)
 have hl : s.heap.IsList a its.toArray := ⟨_, ho, rfl, n, rfl⟩
 have hh : X.A.in1.handled = none := I.ok.hd hc
 have hlen : its.length = bs.length := by rw [<- rv.length, List.length_map]
 have hne : a ≠ s.heap.objs.size := Nat.ne_of_lt (Heap.lt_size ho)
 have hit : ∀ (i : Nat) v, its.toArray[i]? = some v -> v = Value.bool (bs.getD i false) := fun i v e => by
  have e' : its[i]? = some v := by simpa using e
  have hi : i < bs.length := by rw [<- hlen]; exact (List.getElem?_eq_some_iff.mp e').1
  obtain ⟨u, hu, ru⟩ := rv.get (i := i) (x := V.bl bs[i]) (by rw [List.getElem?_map, List.getElem?_eq_getElem hi]; rfl)
  rw [e'] at hu; cases hu
  cases (show v = Value.bool bs[i] from ru)
  rw [List.getD_eq_getElem?_getD, List.getElem?_eq_getElem hi]
  rfl
 refine call_all_walk (wpAny_pyIter_list hl ⟨s.heap.objs.size, _, _, _, _, _, fun i => bs.getD i false, rfl, Walks.list hh _ a hne its.toArray, ⟨⟨_, Heap.get?_push_size _ rfl, rfl, rfl⟩, hl.push _⟩, ?_, fun h' tk hk => ?_⟩)
 ·intro i v s' Q' E' hP hQ
  rw [hit i v hP]
  exact wpAny_truthy_bool hQ
 ·refine ⟨.bl (bs.all id), H, I.kept (t' := tk) fun b o e => hk b o ?_ (Heap.get?_push_of_some _ e), ?_, q⟩
  ·exact fun hm => absurd (List.mem_singleton.mp hm) (Nat.ne_of_lt (Heap.lt_size e))
  ·show Value.bool _ = Value.bool _
   have hs : its.toArray.size = bs.length := by simpa using hlen
   rw [hs, range_all_getD _ bs fun i _ => rfl]
noncomputable def rInsert : V -> List V -> Hp -> VK -> Prop := fun x vs H Q => ∃ l xs i y, x = .ref l /\ vs = [.int i, y] /\ H l = some (.lst xs) /\ 0 <= i /\ i <= xs.length /\ xs.length < sizeLine /\ Q .non (upd H l (.lst (xs.take i.toNat ++ y :: xs.drop i.toNat)))
theorem mt_insert : MtM X "list.insert" rInsert := by
 intro pins s σ H x vs v us Q I rx rv h
 obtain ⟨l, xs, i, y, rfl, rfl, hH, h0, h1, hz, q⟩ := h
 cases rx
 obtain ⟨ui, uy, rfl, ri, ry⟩ := rv.two
 obtain ⟨ti, rfl⟩ := ri
 obtain ⟨z, its, n, r, hl, e⟩ := I.lstM hH
 have hfit : ¬ (!Builtin.List.listFitsIndex i) = true := by
  have hb : (i : Int) < 2 ^ 63 := Int.lt_of_le_of_lt h1 (by have := line63; (first | lia | omega))
  simp [Builtin.List.listFitsIndex]
  (first | lia | omega)
 refine call_meets F.slot_list_insert ⟨_, e, rfl⟩ F.entry_list_insert (F.args_list_insert_3 _ _ _) (AutoSeq1.list_insert_list_int_val_1 l its.toArray n i ti uy hfit (by rw [List.size_toArray]; (first | lia | omega))) ⟨e, ?_⟩
 refine ⟨.non, _, I.lset (its' := its.take i.toNat ++ uy :: its.drop i.toNat) hH e ?_ ((r.take _).append (.cons ry (r.drop _))) ?_, rfl, q⟩
 ·have hle : i.toNat <= its.length := by (first | lia | omega)
  simp only [List.size_toArray]
  rw [if_neg (by (first | lia | omega)), Nat.min_eq_left hle]
  apply Array.ext'
  simp
  rw [List.take_of_length_le (by simp)]
 ·rw [List.length_append, List.length_cons, List.length_take, List.length_drop]
  (first | lia | omega)
end
end L2
namespace L2
open PySem PySem.Spec PyProof.Rows
mutual
inductive Is (H : Hp) : V -> PyData -> Prop
 | non : Is H .non .none
 | bl (b : Bool) : Is H (.bl b) (.bool b)
 | int (i : Int) : Is H (.int i) (.int i)
 | str (x : Str) : Is H (.str x) (.str x)
 | tup {a : Addr} {vs : List V} {ds : List PyData} : H a = some (.tup vs) -> IsAll H vs ds -> Is H (.ref a) (.tuple ds)
 | lst {a : Addr} {vs : List V} {ds : List PyData} : H a = some (.lst vs) -> IsAll H vs ds -> Is H (.ref a) (.list ds)
inductive IsAll (H : Hp) : List V -> List PyData -> Prop
 | nil : IsAll H [] []
 | cons {v : V} {vs : List V} {d : PyData} {ds : List PyData} : Is H v d -> IsAll H vs ds -> IsAll H (v :: vs) (d :: ds)
end
theorem IsAll.ints {H : Hp} : ∀ ns : List Int, IsAll H (ns.map V.int) (ns.map PyData.int)
 | [] => .nil
 | n :: r => .cons (.int n) (IsAll.ints r)
theorem Is.ints {H : Hp} {a : Addr} {ns : List Int} (h : H a = some (.tup (ns.map V.int))) : Is H (.ref a) (.tuple (ns.map PyData.int)) := .tup h (IsAll.ints ns)
section
variable {X : Cx} {pins : List (Addr × Obj)} {σ : St} {H : Hp} {s : Shared}
mutual
theorem Inv.reads (I : Inv X pins σ H s) : ∀ {v : V} {d : PyData} {u : Value}, Is H v d -> RelV v u -> ∃ as, Reads s.heap u d as
 | _, _, _, .non, r => by cases (show _ = Value.none from r); exact ⟨_, .none⟩
 | _, _, _, .bl b, r => by cases (show _ = Value.bool b from r); exact ⟨_, .bool b⟩
 | _, _, _, .int i, r => by obtain ⟨t, rfl⟩ := r; exact ⟨_, .int i t⟩
 | _, _, _, .str x, r => by obtain ⟨t, rfl⟩ := r; exact ⟨_, .str x t⟩
 | _, _, _, .tup (a := a) (vs := vs) h al, r => by
  cases (show _ = Value.ref a from r)
  obtain ⟨_, its, rv, o, ho, hc, ⟨n, hd⟩, _⟩ := (show ObjOk X.prog X.w H s.heap a (.tup vs) from I.hok a _ h)
  obtain ⟨as, q⟩ := Inv.readsAll I al rv
  exact ⟨as, .tuple ho hc hd (by simpa using q)⟩
 | _, _, _, .lst (a := a) (vs := vs) h al, r => by
  cases (show _ = Value.ref a from r)
  obtain ⟨_, its, n, rv, ho⟩ := (show ObjOk X.prog X.w H s.heap a (.lst vs) from I.hok a _ h)
  obtain ⟨as, q⟩ := Inv.readsAll I al rv
  exact ⟨_, .list ho rfl rfl (by simpa using q)⟩
theorem Inv.readsAll (I : Inv X pins σ H s) : ∀ {vs : List V} {ds : List PyData} {us : List Value}, IsAll H vs ds -> Vals vs us -> ∃ as, ReadsAll s.heap us ds as
 | _, _, _, .nil, .nil => ⟨_, .nil⟩
 | _, _, _, .cons h al, .cons r rs => by
  obtain ⟨as, q⟩ := Inv.reads I h r
  obtain ⟨bs, q'⟩ := Inv.readsAll I al rs
  exact ⟨_, .cons q q'⟩
end
noncomputable def rEqD : R2 := fun x y H Q => ∃ d e, Is H x d /\ Is H y e /\ SeqAt.shaped d = true /\ SeqAt.shaped e = true /\ Q (.bl (PyData.eqv d e)) H
noncomputable def rNeD : R2 := fun x y H Q => ∃ d e, Is H x d /\ Is H y e /\ SeqAt.shaped d = true /\ SeqAt.shaped e = true /\ Q (.bl (!PyData.eqv d e)) H
theorem op_eqD (hu : X.A.units + 64 < cLine) : OpR X (compareOp .Eq) rEqD := by
 intro pins s σ H x y v u Q I rx ry h
 obtain ⟨d, e, hd, he, sd, se, q⟩ := h
 obtain ⟨as, ra⟩ := I.reads hd rx
 obtain ⟨bs, rb⟩ := I.reads he ry
 exact eq_dataH ra rb sd se hu ⟨.bl _, H, I, rfl, q⟩
theorem op_neD (hu : X.A.units + 64 < cLine) : OpR X (compareOp .NotEq) rNeD := by
 intro pins s σ H x y v u Q I rx ry h
 obtain ⟨d, e, hd, he, sd, se, q⟩ := h
 obtain ⟨as, ra⟩ := I.reads hd rx
 obtain ⟨bs, rb⟩ := I.reads he ry
 exact ne_dataH ra rb sd se hu ⟨.bl _, H, I, rfl, q⟩
end
theorem lay_ints : ∀ ns : List Int, PyData.canLayAll0 (ns.map PyData.int) = true
 | [] => rfl
 | _ :: r => by simp [PyData.canLayAll0, PyData.canLay0, lay_ints r]
theorem deep_ints : ∀ ns : List Int, PyData.depthAll (ns.map PyData.int) = 0
 | [] => rfl
 | _ :: r => by simp [PyData.depthAll, PyData.depth, deep_ints r]
theorem shaped_tints (ns : List Int) : SeqAt.shaped (.tuple (ns.map PyData.int)) = true := by
 simp [SeqAt.shaped, PyData.canLay0, PyData.depth, lay_ints, deep_ints]
theorem shaped_lints (ns : List Int) : SeqAt.shaped (.list (ns.map PyData.int)) = true := by
 simp [SeqAt.shaped, PyData.canLay0, PyData.depth, lay_ints, deep_ints]
theorem eqv_ints : ∀ ns ms : List Int, PyData.eqvAll (ns.map PyData.int) (ms.map PyData.int) = decide (ns = ms)
 | [], [] => by simp [PyData.eqvAll]
 | [], _ :: _ => by simp [PyData.eqvAll]
 | _ :: _, [] => by simp [PyData.eqvAll]
 | a :: r, b :: t => by
  simp only [List.map_cons, PyData.eqvAll, PyData.eqv, eqv_ints r t]
  by_cases h : a = b <;> by_cases h' : r = t <;> simp [h, h']
end L2
namespace L2
open PySem PySem.Spec PyProof.Rows
noncomputable def cscopeB (sc : Scope) (N : List Str) (scope : Scope) (N' : List Str) (n : Nat) (ix : List Nat) : Bool :=
 scope.kind == .function && scope.names.all (fun y => y.2 != .cell) && scope.names.all (fun y => y.2 != .local || scope.names.lookup y.1 == some .local) &&
 scope.names.all (fun y => y.2 != .free || (sc.names.lookup y.1 == some .cell || sc.names.lookup y.1 == some .free)) && scope.names.all (fun y => y.2 != .free || scope.names.lookup y.1 != some .local) &&
 N'.length == n + ix.length && (List.range ix.length).all fun j => match ix[j]?, N'[n + j]? with
  | some i, some x => N[i]? == some x && scope.names.contains (x, .free)
  | _, _ => false
theorem CompScope.of {X : Cx} {sc : Scope} {N : List Str} {scope : Scope} {N' : List Str} {n : Nat} {ix : List Nat} (h : cscopeB sc N scope N' n ix = true) (hs : X.env.scope = sc) (hN : X.N = N) : CompScope X scope N' n ix := by
 unfold cscopeB at h
 simp only [Bool.and_eq_true, List.all_eq_true] at h
 obtain ⟨⟨⟨⟨⟨⟨h1, h2⟩, h3⟩, h4⟩, h5⟩, h6⟩, h7⟩ := h
 subst hs hN
 refine ⟨eq_of_beq h1, fun y hy => by simpa using h2 y hy, fun y hy hl => ?_, fun y hy hf => ?_, fun y hy hl => ?_, eq_of_beq h6, fun j i e => ?_⟩
 ·have := h3 y hy
  rw [hl] at this
  simpa using this
 ·have := h4 y hy
  rw [hf] at this
  simpa using this
 ·have := h5 _ hy
  rw [hl] at this
  simp at this
 ·have hj : j < ix.length := (List.getElem?_eq_some_iff.mp e).1
  have := h7 j (List.mem_range.mpr hj)
  rw [e] at this
  cases hx : N'[n + j]? with
  | none => rw [hx] at this; simp at this
  | some x =>
   rw [hx] at this
   simp only [Bool.and_eq_true] at this
   exact ⟨x, rfl, eq_of_beq this.1, by simpa using this.2⟩
structure Cal (P : Program) (w : World) (K : PySem.W.Frag) (mg : Str -> Option Value) (base : Heap) (k : Nat) (x : Str) (ps : List Str) (sp : Sp) : Prop where
 ex : ∃ f fd, FnOk P w K mg base CX0 k f fd ps sp /\ mg x = some (.ref f) /\ PySem.W.keepIn K (.ref f) = true /\ Binds K fd ps []
section
variable {X : Cx} {k : Nat} {ps : List Str} {sp : Sp} {x : Str} {p pos : Pos} {e : Expr} {es : List Expr} {t : TA}
theorem pe_cal (C : Cal X.prog X.w X.K X.mg X.base k x ps sp) (hr : Room k X.A) (hg : Gl X x) (ha : PA X (e :: es) t) (hdb : (x == ("__debug__" : Str)) = false := by decide) (he : starEach (e :: es) X.env = (false, eval e X.env) :: starEach es X.env := by rfl)
  (hpl : (backTo pos (starEach es X.env)).any (·.1) = false := by rfl) : PE X (.Call (.Name x p) (e :: es) [] pos) (fun σ H Q => t σ H fun vs H1 => sp vs H1 Q E0) := by
 obtain ⟨f, fd, F, hm, hk, hb⟩ := C.ex
 exact (pe_call F hr hg hm hk hb .nil pass0 ha hdb he hpl).mono fun σ H Q q => by
  have e : (fun (vs : List V) (H1 : Hp) => sp (vs ++ []) H1 Q E0) = fun vs H1 => sp vs H1 Q E0 := by funext vs H1; rw [List.append_nil]
  show t σ H fun vs H1 => sp (vs ++ []) H1 Q E0
  rw [e]
  exact q
end
structure Top (mg : Str -> Option Value) : Prop where
 n_len : mg "len" = none
 n_tuple : mg "tuple" = none
 n_list : mg "list" = none
 n_range : mg "range" = none
 n_int : mg "int" = none
 n_bool : mg "bool" = none
 n_isinstance : mg "isinstance" = none
 n_all : mg "all" = none
 n_zip : mg "zip" = none
 n_enumerate : mg "enumerate" = none
 n_min : mg "min" = none
 n_sum : mg "sum" = none
 n_max : mg "max" = none
 n_abs : mg "abs" = none
 n_sorted : mg "sorted" = none
end L2
namespace L2
open PySem PySem.Spec PyProof.Rows
section
variable {X : Cx}
end
noncomputable def spU (f : List Int -> List Int) : Sp := fun vs H Q _ => ∃ (a : Addr) (ns : List Int), vs = [.ref a] /\ H a = some (.tup (ns.map V.int)) /\ ns.length <= 1000 /\ ∀ p H', Same H H' -> H' p = some (.tup ((f ns).map V.int)) -> Q (.ref p) H'
theorem small1 {n : Nat} (h : n <= 1000) : n < sizeLine := Nat.lt_of_le_of_lt h (by decide)
theorem mapI_len (ns : List Int) : (ns.map V.int).length = ns.length := List.length_map ..
theorem map_of_ints {f : V -> V} {g : Int -> Int} (h : ∀ n, f (.int n) = .int (g n)) (ns : List Int) : (ns.map V.int).map f = (ns.map g).map V.int := by
 rw [List.map_map, List.map_map]
 apply List.map_congr_left
 intro n _
 exact h n
theorem filter_true {α : Type} (l : List α) : l.filter (fun _ => true) = l := by simp
end L2
namespace L2
open PySem PySem.Spec PyProof.Rows
noncomputable def Hand (H : Hp) (p q : Addr) : Prop := ∃ (ns : List Int) (seed : Int), H p = some (.lst [.ref q, .int seed]) /\ H q = some (.lst (ns.map V.int)) /\ (∀ n ∈ ns, 0 <= n) /\ ns.length <= 63
noncomputable def Keep (p q : Addr) (H H' : Hp) : Prop := ∀ b o, H b = some o -> b ≠ p -> b ≠ q -> H' b = some o
theorem Keep.refl (p q : Addr) (H : Hp) : Keep p q H H := fun _ _ h _ _ => h
theorem Keep.trans {p q : Addr} {H H1 H2 : Hp} (a : Keep p q H H1) (b : Keep p q H1 H2) : Keep p q H H2 := fun c o h h1 h2 => b c o (a c o h h1 h2) h1 h2
theorem Same.keep {p q : Addr} {H H' : Hp} (s : Same H H') : Keep p q H H' := fun b o h _ _ => s b o h
theorem Hand.same {p q : Addr} {H H' : Hp} (h : Hand H p q) (s : Same H H') : Hand H' p q := by
 obtain ⟨ns, seed, h1, h2, h3, h4⟩ := h
 exact ⟨ns, seed, s _ _ h1, s _ _ h2, h3, h4⟩
theorem Hand.ne {p q : Addr} {H : Hp} (h : Hand H p q) : p ≠ q := by
 obtain ⟨ns, seed, h1, h2, _⟩ := h
 refine ne_of h1 h2 fun z => ?_
 injection z with z
 cases ns with
 | nil => cases z
 | cons a r => injection z with z _; cases z
theorem Keep.free {p q : Addr} {H H' : Hp} (k : Keep p q H H') (h : Hand H p q) {l : Addr} (hl : H' l = none) (h' : Hand H' p q) : H l = none := by
 cases e : H l with
 | none => rfl
 | some o =>
  obtain ⟨_, _, h1, h2, _⟩ := h'
  have := k l o e (fun z => by subst z; rw [h1] at hl; cases hl) (fun z => by subst z; rw [h2] at hl; cases hl)
  rw [hl] at this; cases this
noncomputable def spHand (K : PySem.W.Frag) : Sp := fun vs H Q _ => ∃ (a : Addr) (ns : List Int), vs = [.ref a] /\ SqL K H a (ns.map V.int) /\ ns.length <= 63 /\ ∀ p q H', Same H H' -> Hand H' p q -> H p = none -> H q = none -> Q (.ref p) H'
noncomputable def spPick : Sp := fun vs H Q _ => ∃ (p q : Addr) (m : Int), vs = [.ref p, .int m] /\ 0 < m /\ m < 1073741824 /\ Hand H p q /\ ∀ d H', 0 <= d -> d < m -> Hand H' p q -> Keep p q H H' -> Q (.int d) H'
noncomputable def spSize : Sp := fun vs H Q _ => ∃ (p q : Addr) (m : Int), vs = [.ref p, .int m] /\ 9 <= m /\ m < 1000 /\ Hand H p q /\ ∀ d H', 0 <= d -> d <= m -> Hand H' p q -> Keep p q H H' -> Q (.int d) H'
noncomputable def num0 (n : Nat) : List Int := (List.range n).map fun (i : Nat) => (i : Int)
noncomputable def spAny : Sp := fun vs H Q _ => ∃ (p q : Addr) (m : Nat), vs = [.ref p, .int m] /\ m <= 500 /\ Hand H p q /\ ∀ (l : Addr) (ys : List Int) (H' : Hp), ys.Perm (num0 m) -> H l = none -> H' l = some (.lst (ys.map V.int)) -> Hand H' p q -> Keep p q H H' -> Q (.ref l) H'
noncomputable def spOrder : Sp := fun vs H Q _ => ∃ (p q : Addr) (m : Nat), vs = [.ref p, .int m] /\ m <= 500 /\ Hand H p q /\ ∀ (l : Addr) (ys : List Int) (H' : Hp), ys.Perm (num0 m) -> H' l = some (.tup (ys.map V.int)) -> Hand H' p q -> Keep p q H H' -> Q (.ref l) H'
theorem upd_hand {p q l : Addr} {H : Hp} {o : HO} (h : Hand H p q) (hl : H l = none) : Hand (upd H l o) p q := h.same (same_upd hl)
theorem lset_hand {p q l : Addr} {H : Hp} {o u : HO} (h : Hand H p q) (hl : H l = some u) (hp : l ≠ p) (hq : l ≠ q) : Hand (upd H l o) p q := by
 obtain ⟨ns, seed, h1, h2, h3, h4⟩ := h
 exact ⟨ns, seed, by rw [upd_ne (Ne.symm hp)]; exact h1, by rw [upd_ne (Ne.symm hq)]; exact h2, h3, h4⟩
end L2
namespace L2
open PySem PySem.Spec PyProof.Rows
theorem PS.mono {X : Cx} {st : Stmt} {t t' : TS} (h : PS X st t) (m : ∀ D σ H, t' D σ H -> t D σ H) : PS X st t' := fun pins s σ H D I q => h pins s σ H D I (m D σ H q)
theorem rangeV_num0 (n : Nat) : rangeV 0 n = (num0 n).map V.int := by
 unfold rangeV num0
 rw [List.map_map]
 apply List.map_congr_left
 intro i _
 show V.int (0 + (i : Int)) = V.int (i : Int)
 rw [Int.zero_add]
theorem num0_mem {n : Nat} {x : Int} (h : x ∈ num0 n) : 0 <= x /\ x < n := by
 unfold num0 at h
 obtain ⟨i, hi, rfl⟩ := List.mem_map.mp h
 have := List.mem_range.mp hi
 (first | lia | omega)
theorem num0_split (c m : Nat) (h : c <= m) : num0 m = num0 c ++ (num0 (m - c)).map fun x => (c : Int) + x := by
 unfold num0
 apply List.ext_getElem?
 intro i
 by_cases hi : i < c
 ·rw [List.getElem?_append_left (by simpa using hi)]
  simp [hi, (by (first | lia | omega) : i < m)]
 ·rw [List.getElem?_append_right (by simpa using hi)]
  simp only [List.length_map, List.length_range, List.map_map, List.getElem?_map]
  by_cases hm : i < m
  ·rw [List.getElem?_range hm, List.getElem?_range (by (first | lia | omega) : i - c < m - c)]
   simp
   (first | lia | omega)
  ·rw [List.getElem?_eq_none (by simpa using hm), List.getElem?_eq_none (by simp; (first | lia | omega))]
   rfl
theorem set_swap_perm : ∀ (ys : List Int) (i j : Nat) (a b : Int), ys[i]? = some a -> ys[j]? = some b -> ((ys.set i b).set j a).Perm ys := by
 intro ys i j a b hi hj
 obtain ⟨h1, e1⟩ := List.getElem?_eq_some_iff.mp hi
 obtain ⟨h2, e2⟩ := List.getElem?_eq_some_iff.mp hj
 subst e1 e2
 exact List.set_set_perm h1 h2
theorem round_perm {row ys : List Int} {m : Nat} (hr : row.Perm (num0 m)) (hl : ys.length = m) (h : ∀ (k : Nat) (a : Int), row[k]? = some a -> ∀ b, row[(k + 1) % m]? = some b -> ys[a.toNat]? = some b) : ys.Perm (num0 m) := by
 have hrl : row.length = m := by rw [hr.length_eq]; simp [num0]
 have e1 : ys = (num0 m).map fun a => ys.getD a.toNat 0 := by
  apply List.ext_getElem?
  intro i
  unfold num0
  rw [List.map_map, List.getElem?_map]
  by_cases hi : i < m
  ·rw [List.getElem?_range hi, List.getElem?_eq_getElem (by (first | lia | omega))]
   simp [hl, hi]
  ·rw [List.getElem?_eq_none (by (first | lia | omega)), List.getElem?_eq_none (by simpa using hi)]
   rfl
 have e2 : (row.map fun a => ys.getD a.toNat 0) = row.drop 1 ++ row.take 1 := by
  apply List.ext_getElem?
  intro i
  rw [List.getElem?_map]
  by_cases hi : i < m
  ·rw [List.getElem?_eq_getElem (by (first | lia | omega) : i < row.length)]
   have hn : (i + 1) % m < row.length := by rw [hrl]; exact Nat.mod_lt _ (by (first | lia | omega))
   have := h i row[i] (List.getElem?_eq_getElem (by (first | lia | omega))) _ (List.getElem?_eq_getElem hn)
   show some (ys.getD _ 0) = _
   rw [List.getD_eq_getElem?_getD, this]
   by_cases hlast : i + 1 = m
   ·have e : (i + 1) % m = 0 := by rw [hlast, Nat.mod_self]
    rw [List.getElem?_append_right (by simp; (first | lia | omega))]
    simp only [e]
    rw [List.getElem?_take]
    simp [hrl, (by (first | lia | omega) : i - (m - 1) = 0)]
   ·have e : (i + 1) % m = i + 1 := Nat.mod_eq_of_lt (by (first | lia | omega))
    rw [List.getElem?_append_left (by simp; (first | lia | omega)), List.getElem?_drop]
    simp only [e]
    rw [Nat.add_comm 1 i, List.getElem?_eq_getElem (by (first | lia | omega) : i + 1 < row.length)]
    rfl
  ·rw [List.getElem?_eq_none (by (first | lia | omega)), List.getElem?_eq_none (by simp; (first | lia | omega))]
   rfl
 have e3 : (row.map fun a => ys.getD a.toNat 0).Perm row := by
  rw [e2]
  refine List.perm_append_comm.trans ?_
  rw [List.take_append_drop]
 rw [e1]
 exact ((hr.map _).symm.trans e3).trans hr
end L2
namespace L2
open PySem PySem.Spec PyProof.Rows
theorem kit_tt {K : PySem.W.Frag} {a b : String} {r : Bool} (h : (if (Value.type a == Value.type b) = true then some true else if PySem.W.kitMeta b = true then (fastBuiltinMro a).map (·.contains (Value.type b)) else none) = some r) : PySem.W.kitOne K (.type a) (.type b) = some r := h
theorem kit_int_tuple {K : PySem.W.Frag} : PySem.W.kitOne K (.type "int") (.type "tuple") = some false := kit_tt (by decide +kernel)
theorem kit_int_bool {K : PySem.W.Frag} : PySem.W.kitOne K (.type "int") (.type "bool") = some false := kit_tt (by decide +kernel)
theorem kit_int_int {K : PySem.W.Frag} : PySem.W.kitOne K (.type "int") (.type "int") = some true := kit_tt (by decide +kernel)
theorem kit_tuple_tuple {K : PySem.W.Frag} : PySem.W.kitOne K (.type "tuple") (.type "tuple") = some true := kit_tt (by decide +kernel)
theorem pg_pair {X : Cx} {i j : Nat} {x y : Str} {px py pt : Pos} {kt : Nat} (hc : X.calm = true) (hN : X.N.Nodup) (hi : X.N[i]? = some x) (hj : X.N[j]? = some y) (hx : Loc X.env.scope x) (hy : Loc X.env.scope y) (fx : X.fn x = true ∨ X.env.scope.names.lookup x = some .local) (fy : X.fn y = true ∨ X.env.scope.names.lookup y = some .local) :
  PG X (.Tuple [.Name x px, .Name y py] kt pt) (gTup X.K 2 (gCons (gName i) (gCons (gName j) gNil))) := pg_tup hc (pgs_cons (pg_name hN hi hx fx) (pgs_cons (pg_name hN hj hy fy) pgs_nil))
theorem pg_pairK {X : Cx} (K : PySem.W.Frag) {i j : Nat} {x y : Str} {px py pt : Pos} {kt : Nat} (hK : X.K = K) (hc : X.calm = true) (hN : X.N.Nodup) (hi : X.N[i]? = some x) (hj : X.N[j]? = some y) (hx : Loc X.env.scope x) (hy : Loc X.env.scope y) (fx : X.fn x = true ∨ X.env.scope.names.lookup x = some .local) (fy : X.fn y = true ∨ X.env.scope.names.lookup y = some .local) :
  PG X (.Tuple [.Name x px, .Name y py] kt pt) (gTup K 2 (gCons (gName i) (gCons (gName j) gNil))) := hK ▸ pg_tup hc (pgs_cons (pg_name hN hi hx fx) (pgs_cons (pg_name hN hj hy fy) pgs_nil))
theorem ix_tupK {X : Cx} (K : PySem.W.Frag) (hK : X.K = K) : IxR X (rIxT K) := hK ▸ ix_tup
theorem ix_listK {X : Cx} (K : PySem.W.Frag) (hK : X.K = K) : IxR X (rIxL K) := hK ▸ ix_list
noncomputable def Alike (H : Hp) : Nat -> V -> V -> Prop
 | 0, x, y => ∃ a : Int, x = .int a /\ y = .int a
 | n + 1, x, y => (∃ a : Int, x = .int a /\ y = .int a) ∨ ∃ a b xs ys, x = .ref a /\ y = .ref b /\ H a = some (.tup xs) /\ H b = some (.tup ys) /\ xs.length <= 1000 /\ Paired (Alike H n) xs ys
theorem Alike.sameT {H H' : Hp} (s : SameT H H') : ∀ {n : Nat} {x y : V}, Alike H n x y -> Alike H' n x y
 | 0, _, _, h => h
 | n + 1, _, _, .inl h => .inl h
 | n + 1, _, _, .inr ⟨a, b, xs, ys, e1, e2, h1, h2, h3, pr⟩ => .inr ⟨a, b, xs, ys, e1, e2, s _ _ h1, s _ _ h2, h3, Paired.mapP pr fun _ _ q => Alike.sameT s q⟩
theorem alike_ints {H : Hp} {a b : Addr} {ns : List Int} (ha : H a = some (.tup (ns.map V.int))) (hb : H b = some (.tup (ns.map V.int))) (hl : ns.length <= 1000) : Alike H 1 (.ref a) (.ref b) := by
 refine .inr ⟨a, b, _, _, rfl, rfl, ha, hb, by rw [mapI_len]; exact hl, ?_⟩
 clear ha hb hl
 induction ns with
 | nil => exact .nil
 | cons x r ih => exact .cons ⟨x, rfl, rfl⟩ ih
theorem paired_get {F : V -> V -> Prop} : ∀ {xs ys : List V}, Paired F xs ys -> ∀ {i : Nat} {x y : V}, xs[i]? = some x -> ys[i]? = some y -> F x y
 | _, _, .nil, _, _, _, h, _ => by simp at h
 | _, _, .cons r _, 0, _, _, h, h' => by simp at h h'; subst h h'; exact r
 | _, _, .cons _ t, i + 1, _, _, h, h' => paired_get t (by simpa using h) (by simpa using h')
noncomputable def spSame (n : Nat) : Sp := fun vs H Q _ => ∃ x y, vs = [x, y] /\ Alike H n x y /\ ∀ H', Same H H' -> Q (.bl true) H'
theorem lc_zip_true {K : PySem.W.Frag} {a b : Addr} {xs ys : List V} {te : TE} {σ : L2.St} {H1 : Hp} {Q : VK} (hx : SqT K H1 a xs) (hy : SqT K H1 b ys) (hxy : xs.length = ys.length) (small : xs.length <= 1000) (Fx : ∀ {H}, Same H1 H -> SqT K H a xs) (Fy : ∀ {H}, Same H1 H -> SqT K H b ys)
  (he : ∀ (i : Nat) x y, xs[i]? = some x -> ys[i]? = some y -> ∀ H, Same H1 H -> ∀ Q' : VK, (∀ H', Same H H' -> Q' (.bl true) H') -> te [some x, some y] H Q')
  (fin : ∀ acc H', H1 acc = none -> Same H1 H' -> H' acc = some (.lst ((List.replicate xs.length true).map V.bl)) -> Q (.ref acc) H') :
  LcW (Itz K a b) H1 (gTup K 2 (gCons (gName 0) (gCons (gName 1) gNil))) tNoTest te 2 [] σ Q := by
 intro acc ha
 refine ⟨fun i m H => m = xs.length - i /\ i <= xs.length /\ Same H1 H /\ H acc = some (.lst ((List.replicate i true).map V.bl)), ⟨xs.length, by simp, Nat.zero_le _, same_upd ha, upd_same⟩, ?_⟩
 rintro i m H ⟨rfl, hi, sm, hacc⟩
 by_cases hlt : i < xs.length
 ·have hlt' : i < ys.length := by (first | lia | omega)
  refine .inr ⟨⟨xs, ys, xs[i], ys[i], Fx sm, Fy sm, List.getElem?_eq_getElem hlt, List.getElem?_eq_getElem hlt'⟩, fun v H' y => ?_⟩
  obtain ⟨t, x, y, ht, rfl, rfl, hv⟩ := y
  obtain ⟨e1, e2⟩ := hv xs ys (Fx sm) (Fy sm)
  refine ⟨t, _, rfl, SqT.of upd_same, rfl, x, _, rfl, y, _, rfl, rfl, ⟨rfl, fun j v e => ?_⟩, ?_⟩
  ·match j, e with
   | 0, e => cases e
   | 1, e => cases e
   | j + 2, e => cases e
  ·unfold tNoTest
   dsimp only
   rw [if_pos rfl]
   refine he i x y e1 e2 _ (sm.trans (same_upd ht)) _ fun H4 s4 => ?_
   have h4 : H4 acc = some (.lst ((List.replicate i true).map V.bl)) := s4 _ _ (by rw [upd_ne (ne_of_none hacc ht)]; exact hacc)
   refine ⟨_, h4, small1 (by simp; (first | lia | omega)), xs.length - (i + 1), by (first | lia | omega), rfl, hlt, ?_, ?_⟩
   ·exact same_updR ((sm.trans (same_upd ht)).trans s4) ha
   ·rw [upd_same, List.replicate_succ', List.map_append]
    rfl
 ·have e : i = xs.length := by (first | lia | omega)
  subst e
  exact .inl ⟨⟨xs, ys, Fx sm, Fy sm, .inl (List.getElem?_eq_none (Nat.le_refl _))⟩, fin acc H ha sm hacc⟩
end L2
namespace L2
open PySem PySem.Spec PyProof.Rows
theorem tab_map (ys : List Int) (h : Int -> Int) : (num0 ys.length).map (fun k => h (ys.getD k.toNat 0)) = ys.map h := by
 apply List.ext_getElem?
 intro i
 unfold num0
 rw [List.map_map, List.getElem?_map, List.getElem?_map]
 by_cases hi : i < ys.length
 ·rw [List.getElem?_range hi, List.getElem?_eq_getElem hi]
  simp [hi]
 ·rw [List.getElem?_eq_none (by simpa using hi), List.getElem?_eq_none (by (first | lia | omega))]
  rfl
theorem mem_rangeV {n : Nat} {x : V} (h : x ∈ rangeV 0 n) : ∃ k : Int, x = .int k /\ 0 <= k /\ k < n := by
 rw [rangeV_num0] at h
 obtain ⟨k, hk, rfl⟩ := List.mem_map.mp h
 exact ⟨k, rfl, num0_mem hk⟩
end L2
namespace L2
open PySem PySem.Spec PyProof.Rows
structure Def (K : PySem.W.Frag) (x : Str) (st : Stmt) : Prop where
 ex : ∃ (f : Addr) (oc : Value) (od an : Option Addr) (kV doc pm cdv ct : Value) (osl : Array (Option Value)), PySem.W.nsIn K mainGlobals x = some (some (.ref f)) /\
  K.lookup f = some ⟨oc, od, .func (PySem.W.fnOf x x (defArgs st) (defBody st) (defScope st) .none kV doc pm an cdv ct), osl⟩ /\ PySem.W.codeIn K cdv x = true /\ PySem.W.keepIn K (.ref f) = true
section
variable {K : PySem.W.Frag} {h : Heap} {mg : Str -> Option Value} {x : Str} {st : Stmt}
theorem Def.of {f : Addr} {oc : Value} {od an : Option Addr} {kV doc pm cdv ct : Value} {osl : Array (Option Value)} (a : PySem.W.nsIn K mainGlobals x = some (some (.ref f)))
  (l : K.lookup f = some ⟨oc, od, .func (PySem.W.fnOf x x (defArgs st) (defBody st) (defScope st) .none kV doc pm an cdv ct), osl⟩) (c : PySem.W.codeIn K cdv x = true) (k : PySem.W.keepIn K (.ref f) = true) : Def K x st :=
 ⟨f, oc, od, an, kV, doc, pm, cdv, ct, osl, a, l, c, k⟩
theorem Def.fn (D : Def K x st) (X : K.In h) (G : h.Ns mainGlobals mg) : ∃ f fd, Fun K x x st f fd /\ mg x = some (.ref f) := by
 obtain ⟨f, oc, od, an, kV, doc, pm, cdv, ct, osl, a, l, c, k⟩ := D.ex
 exact ⟨f, _, fun_mk (st := st) l c k, PySem.W.mg_of X G a⟩
end
structure TopK (K : PySem.W.Frag) : Prop where
 k_len : PySem.W.nsIn K mainGlobals "len" = some none
 k_tuple : PySem.W.nsIn K mainGlobals "tuple" = some none
 k_list : PySem.W.nsIn K mainGlobals "list" = some none
 k_range : PySem.W.nsIn K mainGlobals "range" = some none
 k_int : PySem.W.nsIn K mainGlobals "int" = some none
 k_bool : PySem.W.nsIn K mainGlobals "bool" = some none
 k_isinstance : PySem.W.nsIn K mainGlobals "isinstance" = some none
 k_all : PySem.W.nsIn K mainGlobals "all" = some none
 k_zip : PySem.W.nsIn K mainGlobals "zip" = some none
 k_enumerate : PySem.W.nsIn K mainGlobals "enumerate" = some none
 k_min : PySem.W.nsIn K mainGlobals "min" = some none
 k_sum : PySem.W.nsIn K mainGlobals "sum" = some none
 k_max : PySem.W.nsIn K mainGlobals "max" = some none
 k_abs : PySem.W.nsIn K mainGlobals "abs" = some none
 k_sorted : PySem.W.nsIn K mainGlobals "sorted" = some none
theorem TopK.top {K : PySem.W.Frag} {h : Heap} {mg : Str -> Option Value} (T : TopK K) (X : K.In h) (G : h.Ns mainGlobals mg) : Top mg :=
  ⟨PySem.W.mg_none_of X G T.k_len, PySem.W.mg_none_of X G T.k_tuple, PySem.W.mg_none_of X G T.k_list, PySem.W.mg_none_of X G T.k_range, PySem.W.mg_none_of X G T.k_int, PySem.W.mg_none_of X G T.k_bool, PySem.W.mg_none_of X G T.k_isinstance,
   PySem.W.mg_none_of X G T.k_all, PySem.W.mg_none_of X G T.k_zip, PySem.W.mg_none_of X G T.k_enumerate, PySem.W.mg_none_of X G T.k_min, PySem.W.mg_none_of X G T.k_sum, PySem.W.mg_none_of X G T.k_max, PySem.W.mg_none_of X G T.k_abs, PySem.W.mg_none_of X G T.k_sorted⟩
end L2
namespace L2
open PySem PySem.Spec PyProof.Rows
open Sem (wp)
open AutoSeq1 (wpAny_loadPart')
section
variable {prog : Program} {w : World} {A : Around} {E : Value -> Shared -> Prop} {s : Shared}
end
section
variable {X : Cx}
end
end L2
namespace L2
open PySem PySem.Spec PyProof.Rows
open Sem (wp)
open AutoSeq1 (wpAny_loadPart')
section
variable {prog : Program} {w : World} {A : Around} {E : Value -> Shared -> Prop} {s : Shared}
end
section
variable {X : Cx} {pos : Pos}
end
section
variable {prog : Program} {w : World} {A : Around} {E : Value -> Shared -> Prop} {s : Shared}
end
section
variable {X : Cx}
end
end L2
namespace L2
open PySem PySem.Spec PyProof.Rows
noncomputable def atO (ns : List Int) (x : Int) : Int := ns.getD x.toNat 0
noncomputable def invO (ns : List Int) : List Int := (num0 ns.length).map fun x => ((ns.idxOf x : Nat) : Int)
noncomputable def compO (ns ms : List Int) : List Int := ms.map (atO ns)
noncomputable def Ord (m : Nat) (ns : List Int) : Prop := ns.Perm (num0 m)
theorem num0_len' (n : Nat) : (num0 n).length = n := by simp [num0]
theorem num0_nodup' (n : Nat) : (num0 n).Nodup := by
 unfold num0
 refine List.Pairwise.map _ (fun a b (h : a ≠ b) => ?_) (List.nodup_range (n := n))
 show (a : Int) ≠ (b : Int)
 (first | lia | omega)
theorem mem_num0 {n : Nat} {x : Int} : x ∈ num0 n ↔ 0 <= x /\ x < n := by
 refine ⟨num0_mem, fun ⟨h0, h1⟩ => ?_⟩
 unfold num0
 exact List.mem_map.mpr ⟨x.toNat, List.mem_range.mpr (by (first | lia | omega)), by (first | lia | omega)⟩
theorem num0_get {n i : Nat} (h : i < n) : (num0 n)[i]? = some (i : Int) := by simp [num0, h]
section
variable {m : Nat} {ns ms ks : List Int} {x : Int}
theorem Ord.len (h : Ord m ns) : ns.length = m := by rw [List.Perm.length_eq h, num0_len']
theorem Ord.nodup (h : Ord m ns) : ns.Nodup := h.symm.nodup (num0_nodup' m)
theorem Ord.mem (h : Ord m ns) : x ∈ ns ↔ 0 <= x /\ x < m := by rw [List.Perm.mem_iff h, mem_num0]
theorem Ord.rng (h : Ord m ns) : ∀ y ∈ ns, 0 <= y /\ y < m := fun _ hy => h.mem.mp hy
theorem atO_get {i : Nat} (h : i < ns.length) : atO ns (i : Int) = ns[i] := by
 unfold atO
 rw [Int.toNat_natCast, List.getD_eq_getElem?_getD, List.getElem?_eq_getElem h]
 rfl
theorem tab_self (ys : List Int) : (num0 ys.length).map (atO ys) = ys := by
 have e := tab_map ys fun x => x
 rw [List.map_id'] at e
 exact e
theorem comp_id (h : ns.length = m) : compO ns (num0 m) = ns := by
 subst h
 exact tab_self ns
theorem atO_num0 (h0 : 0 <= x) (h1 : x < m) : atO (num0 m) x = x := by
 unfold atO
 rw [List.getD_eq_getElem?_getD, num0_get (by (first | lia | omega))]
 show ((x.toNat : Nat) : Int) = x
 (first | lia | omega)
theorem id_comp (h : ∀ y ∈ ns, 0 <= y /\ y < m) : compO (num0 m) ns = ns := by
 unfold compO
 conv => rhs; rw [<- List.map_id ns]
 exact List.map_congr_left fun y hy => atO_num0 (h y hy).1 (h y hy).2
theorem atO_comp (h0 : 0 <= x) (h1 : x < ms.length) : atO (compO ns ms) x = atO ns (atO ms x) := by
 show (compO ns ms).getD x.toNat 0 = atO ns (ms.getD x.toNat 0)
 unfold compO
 have hlt : x.toNat < ms.length := by (first | lia | omega)
 rw [List.getD_eq_getElem?_getD, List.getElem?_map, List.getD_eq_getElem?_getD, List.getElem?_eq_getElem hlt]
 rfl
theorem comp_assoc (h : ∀ y ∈ ks, 0 <= y /\ y < ms.length) : compO (compO ns ms) ks = compO ns (compO ms ks) := by
 show ks.map (atO (compO ns ms)) = (ks.map (atO ms)).map (atO ns)
 rw [List.map_map]
 exact List.map_congr_left fun y hy => atO_comp (h y hy).1 (h y hy).2
theorem inv_len : (invO ns).length = ns.length := by unfold invO; rw [List.length_map, num0_len']
theorem atO_inv (h : Ord m ns) (h0 : 0 <= x) (h1 : x < m) : atO (invO ns) x = (ns.idxOf x : Nat) := by
 unfold atO invO
 rw [h.len, List.getD_eq_getElem?_getD, List.getElem?_map, num0_get (by (first | lia | omega) : x.toNat < m)]
 show ((ns.idxOf ((x.toNat : Nat) : Int) : Nat) : Int) = _
 rw [show ((x.toNat : Nat) : Int) = x by (first | lia | omega)]
theorem inv_comp' (h : Ord m ns) : compO (invO ns) ns = num0 m := by
 apply List.ext_getElem?
 intro i
 unfold compO
 rw [List.getElem?_map]
 by_cases hi : i < m
 ·have hi' : i < ns.length := by rw [h.len]; exact hi
  rw [num0_get hi, List.getElem?_eq_getElem hi']
  show some (atO (invO ns) ns[i]) = _
  have := h.rng _ (List.getElem_mem hi')
  rw [atO_inv h this.1 this.2, List.Nodup.idxOf_getElem h.nodup i hi']
 ·rw [List.getElem?_eq_none (by rw [h.len]; (first | lia | omega)), List.getElem?_eq_none (by rw [num0_len']; (first | lia | omega))]
  rfl
theorem comp_inv (h : Ord m ns) : compO ns (invO ns) = num0 m := by
 unfold compO invO
 rw [List.map_map, h.len]
 conv => rhs; rw [<- List.map_id (num0 m)]
 refine List.map_congr_left fun x hx => ?_
 have hmem : x ∈ ns := h.mem.mpr (mem_num0.mp hx)
 have hlt := List.idxOf_lt_length_of_mem hmem
 show atO ns ((ns.idxOf x : Nat) : Int) = x
 rw [atO_get hlt, List.getElem_idxOf hlt]
theorem Ord.inv (h : Ord m ns) : Ord m (invO ns) := by
 have e : (ns.map (atO (invO ns))).Perm ((num0 m).map (atO (invO ns))) := List.Perm.map _ h
 have e2 : (num0 m).map (atO (invO ns)) = invO ns := by rw [<- h.len, <- inv_len]; exact tab_self _
 have e3 : ns.map (atO (invO ns)) = num0 m := inv_comp' h
 rw [e2, e3] at e
 exact e.symm
theorem inv_unique (hx : Ord m ns) (hy : Ord m ms) (e : compO ns ms = num0 m) : ns = invO ms := by
 have a1 : compO (compO ns ms) (invO ms) = compO ns (compO ms (invO ms)) := comp_assoc (by rw [hy.len]; exact hy.inv.rng)
 rw [e, comp_inv hy, id_comp hy.inv.rng, comp_id hx.len] at a1
 exact a1.symm
theorem inv_inv (h : Ord m ns) : invO (invO ns) = ns := (inv_unique h h.inv (comp_inv h)).symm
end
theorem for_enum {K : PySem.W.Frag} {a : Addr} {xs : List V} {g : TG} {tb : TS} {D : Ends} {σ : L2.St} {H : Hp} (Pv : Nat -> L2.St -> Hp -> Prop) (h0 : Pv 0 σ H) (hl : ∀ i σ H, i <= xs.length -> Pv i σ H -> SqT K H a xs)
  (hs : ∀ i x t σ H, xs[i]? = some x -> Pv i σ H -> H t = none -> g (.ref t) σ (upd H t (.tup [.int i, x])) fun σ2 H2 => tb { D with nx := Pv (i + 1), ct := Pv (i + 1), bk := D.nx } σ2 H2) (hd : ∀ σ H, Pv xs.length σ H -> D.nx σ H) :
  ∃ W : Nat -> Nat -> L2.St -> Hp -> Prop, (∃ m, W 0 m σ H) /\ ∀ i m σ H, W i m σ H ->
   ((Ite K a).stop i H /\ D.nx σ H) ∨ ((Ite K a).go i H /\ ∃ N : L2.St -> Hp -> Prop, (∀ σ' H', N σ' H' -> ∃ m', m' < m /\ W (i + 1) m' σ' H') /\ ∀ x H', (Ite K a).yld i H x H' -> g x σ H' fun σ2 H2 => tb { D with nx := N, ct := N, bk := D.nx } σ2 H2) := by
 refine ⟨fun i m σ H => m = xs.length - i /\ i <= xs.length /\ Pv i σ H, ⟨xs.length, by simp, Nat.zero_le _, h0⟩, ?_⟩
 rintro i m σ H ⟨rfl, hi, p⟩
 have q := hl i σ H hi p
 by_cases hlt : i < xs.length
 ·refine .inr ⟨⟨xs, xs[i], q, by simp [hlt]⟩, Pv (i + 1), fun σ' H' p' => ⟨xs.length - (i + 1), by (first | lia | omega), rfl, hlt, p'⟩, fun x H' y => ?_⟩
  obtain ⟨t, x', ht, rfl, rfl, y⟩ := y
  exact hs i x' t σ _ (y xs q) p ht
 ·have e : i = xs.length := by (first | lia | omega)
  subst e
  exact .inl ⟨⟨xs, q, rfl⟩, hd σ H p⟩
noncomputable def spUndone : Sp := fun vs H Q _ => ∃ (a : Addr) (ns : List Int) (m : Nat), vs = [.ref a] /\ H a = some (.tup (ns.map V.int)) /\ Ord m ns /\ m <= 500 /\ ∀ p H', Same H H' -> H' p = some (.tup ((invO ns).map V.int)) -> Q (.ref p) H'
theorem rep_one {α : Type} (x : α) (n : Nat) : (List.replicate n [x]).flatten = List.replicate n x := by
 induction n with
 | zero => rfl
 | succ n ih => rw [List.replicate_succ, List.flatten_cons, ih]; rfl
theorem ixN_of {ys : List Int} {i : Int} (h0 : 0 <= i) (h1 : i < ys.length) : ixN (ys.map V.int).length i = some i.toNat := by
 unfold ixN
 rw [mapI_len, if_pos h0, if_pos (by (first | lia | omega))]
theorem inv_of_places {m : Nat} {ns ys : List Int} (h : Ord m ns) (hl : ys.length = m) (hp : ∀ (j : Nat) x, ns[j]? = some x -> ys[x.toNat]? = some (j : Int)) : ys = invO ns := by
 apply List.ext_getElem?
 intro i
 by_cases hi : i < m
 ·have hm : ((i : Nat) : Int) ∈ ns := h.mem.mpr ⟨by (first | lia | omega), by (first | lia | omega)⟩
  have hlt := List.idxOf_lt_length_of_mem hm
  have := hp (ns.idxOf (i : Int)) i (by rw [List.getElem?_eq_getElem hlt, List.getElem_idxOf hlt])
  rw [Int.toNat_natCast] at this
  rw [this]
  unfold invO
  rw [h.len, List.getElem?_map, num0_get hi]
  rfl
 ·rw [List.getElem?_eq_none (by (first | lia | omega)), List.getElem?_eq_none (by rw [inv_len, h.len]; (first | lia | omega))]
end L2
namespace L2
open PySem PySem.Spec PyProof.Rows
noncomputable def itO (ns : List Int) (x : Int) : Nat -> Int
 | 0 => x
 | k + 1 => atO ns (itO ns x k)
noncomputable def orbO (ns : List Int) (x : Int) (k : Nat) : List Int := (List.range k).map (itO ns x)
structure IsRound (ns : List Int) (x : Int) (row : List Int) : Prop where
 ex : ∃ k, row = orbO ns x (k + 1) /\ itO ns x (k + 1) = x
 nd : row.Nodup
section
variable {m : Nat} {ns : List Int} {x y : Int}
open Classical in
noncomputable def rowO (ns : List Int) (x : Int) : List Int := if h : ∃ row, IsRound ns x row then choose h else []
structure MetO (ns : List Int) (m : Nat) (rows : List (List Int)) : Prop where
 nd : rows.flatten.Nodup
 rng : ∀ y ∈ rows.flatten, 0 <= y /\ y < m
 clo : ∀ y ∈ rows.flatten, atO ns y ∈ rows.flatten
 row : ∀ r ∈ rows, ∃ f : Int, 0 <= f /\ f < m /\ r = rowO ns f
theorem inv_at (h : Ord m ns) (hx : 0 <= x /\ x < m) : atO (invO ns) (atO ns x) = x := by
 have this : atO (compO (invO ns) ns) x = atO (num0 m) x := congrArg (fun l => atO l x) (inv_comp' h)
 rw [atO_comp hx.1 (by rw [h.len]; exact hx.2), atO_num0 hx.1 hx.2] at this
 exact this
end
end L2
namespace L2
open PySem PySem.Spec PyProof.Rows
section
variable {X : Cx}
end
section
variable {prog : Program} {w : World} {A : Around} {E : Value -> Shared -> Prop} {s : Shared}
end
section
variable {X : Cx} {e : Expr} {te : TE} {p2 pos : Pos}
end
end L2
namespace L2
open PySem PySem.Spec PyProof.Rows
noncomputable abbrev RowsAt (H : Hp) (zs : List Addr) (rows : List (List Int)) : Prop := Paired (fun (z : Addr) (r : List Int) => H z = some (.tup (r.map V.int))) zs rows
theorem RowsAt.sameT {H H' : Hp} {zs : List Addr} {rows : List (List Int)} (h : RowsAt H zs rows) (s : SameT H H') : RowsAt H' zs rows := Paired.mapP h fun _ _ q => s _ _ q
theorem RowsAt.same {H H' : Hp} {zs : List Addr} {rows : List (List Int)} (h : RowsAt H zs rows) (s : Same H H') : RowsAt H' zs rows := h.sameT s.t
theorem RowsAt.alike {H : Hp} : ∀ {zs zs' : List Addr} {rows : List (List Int)}, RowsAt H zs rows -> RowsAt H zs' rows -> (∀ r ∈ rows, r.length <= 1000) -> Paired (Alike H 1) (zs.map V.ref) (zs'.map V.ref)
 | _, _, _, .nil, .nil, _ => .nil
 | _, _, _, .cons r t, .cons r' t', h => .cons (alike_ints r r' (h _ (by simp))) (RowsAt.alike t t' fun r hr => h r (by simp [hr]))
theorem RowsAt.data {H : Hp} : ∀ {zs : List Addr} {rows : List (List Int)}, RowsAt H zs rows -> IsAll H (zs.map V.ref) (rows.map fun r => PyData.tuple (r.map PyData.int))
 | _, _, .nil => .nil
 | _, _, .cons r t => .cons (Is.ints r) (RowsAt.data t)
theorem lay_rows : ∀ rows : List (List Int), PyData.canLayAll0 (rows.map fun r => PyData.tuple (r.map PyData.int)) = true
 | [] => rfl
 | r :: t => by
  simp only [List.map_cons, PyData.canLayAll0, PyData.canLay0, lay_ints, lay_rows t]
  rfl
theorem deep_rows : ∀ rows : List (List Int), PyData.depthAll (rows.map fun r => PyData.tuple (r.map PyData.int)) <= 1
 | [] => Nat.zero_le _
 | r :: t => by
  have := deep_rows t
  simp only [List.map_cons, PyData.depthAll, PyData.depth, deep_ints]
  (first | lia | omega)
theorem eqv_rows : ∀ rows : List (List Int), PyData.eqvAll (rows.map fun r => PyData.tuple (r.map PyData.int)) (rows.map fun r => PyData.tuple (r.map PyData.int)) = true
 | [] => rfl
 | r :: t => by
  simp [PyData.eqvAll, PyData.eqv, eqv_ints, eqv_rows t]
structure Bits (bs : List Bool) (m : Nat) (S : List Int) : Prop where
 len : bs.length = m
 bit : ∀ i, i < m -> bs[i]? = some (decide ((i : Int) ∈ S))
theorem bits0 (m : Nat) : Bits (List.replicate m false) m [] := ⟨by simp, fun i hi => by simp [hi]⟩
theorem Bits.set {bs : List Bool} {m : Nat} {S : List Int} {y : Int} (B : Bits bs m S) (h0 : 0 <= y) (h1 : y < m) : Bits (bs.set y.toNat true) m (S ++ [y]) := by
 refine ⟨by rw [List.length_set]; exact B.len, fun i hi => ?_⟩
 have hl := B.len
 by_cases e : i = y.toNat
 ·subst e
  rw [List.getElem?_set_self (by (first | lia | omega))]
  have : ((y.toNat : Nat) : Int) = y := by (first | lia | omega)
  rw [this]
  simp
 ·rw [List.getElem?_set_ne (Ne.symm e), B.bit i hi]
  have hne : ((i : Nat) : Int) ≠ y := by (first | lia | omega)
  simp [hne]
theorem mapR_len (zs : List Addr) : (zs.map V.ref).length = zs.length := List.length_map ..
end L2
namespace L2
open PySem PySem.Spec PyProof.Rows
inductive Ents (P : Params) : List DictEntry -> List (Str × Addr) -> Prop
 | nil : Ents P [] []
 | cons {x : Str} {t : Tok} {f : Addr} {es : List DictEntry} {kvs : List (Str × Addr)} : Ents P es kvs -> Ents P (⟨PyData.keyHash P x, .str x t, .ref f⟩ :: es) ((x, f) :: kvs)
structure GDict (K : PySem.W.Frag) (P : Params) (C : Addr) (kvs : List (Str × Addr)) : Prop where
 ex : ∃ es n, K.lookup C = some { cls := .type "dict", data := .dict es n } /\ Ents P es.toList kvs
 nd : (kvs.map (·.1)).Nodup
section
variable {X : Cx}
end
structure CalF (P : Program) (w : World) (K : PySem.W.Frag) (mg : Str -> Option Value) (base : Heap) (k : Nat) (f : Addr) (ps : List Str) (sp : Sp) : Prop where
 ex : ∃ fd, FnOk P w K mg base CX0 k f fd ps sp /\ PySem.W.keepIn K (.ref f) = true /\ Binds K fd ps []
section
variable {X : Cx} {k : Nat} {x : Str} {p pos : Pos} {e : Expr} {es : List Expr} {t : TA} {tf : TE}
noncomputable def rSumL : List V -> Hp -> VK -> Prop := fun xs H Q => ∃ (l : Addr) (ns : List Int), xs = [.ref l] /\ H l = some (.lst (ns.map V.int)) /\ Q (.int ns.sum) H
theorem call_sumL (hc : X.calm = true) : CallR X (.builtin "sum") rSumL := by
 intro pins s σ H xs us Q I rs h
 obtain ⟨l, ns, rfl, hH, q⟩ := h
 obtain ⟨u, rfl, ru⟩ := vals1 rs
 cases (show u = Value.ref l from ru)
 obtain ⟨z, its, n, r, hl, e⟩ := I.lstM hH
 have hI := intsAre_of r
 obtain ⟨xs, hxs⟩ := hI.allInts.items
 have hnum : (numsOf its.toArray.toList) = ns := hI.numsOf
 refine sum_intListG (xs := xs) (I.ok.hd hc) (by rw [<- hxs]; exact ⟨_, e, rfl, n, rfl⟩) fun h' tk t' hk => ?_
 have hs : preSum (numAt xs) xs.size = ns.sum := by
  rw [preSum_eq, List.take_of_length_le (by simp)]
  rw [<- nums_intItems, <- hxs, hnum]
 rw [hs]
 exact ⟨.int ns.sum, H, I.kept (t' := tk) hk, ⟨_, rfl⟩, q⟩
end
end L2
namespace L2
open PySem PySem.Spec PyProof.Rows
section
variable {prog : Program} {w : World} {A : Around} {R : Result -> Shared -> Prop} {s : Shared} {elt tg iter tg2 iter2 : Expr} {ifs ifs2 : List Expr} {scope : Scope} {pos : Pos} {it acc : Value} {env : Env}
end
end L2
namespace L2
open PySem PySem.Spec PyProof.Rows
section
variable {X : Cx} {elt tg iter tg2 iter2 : Expr} {ifs ifs2 : List Expr} {scope : Scope} {pos : Pos} {wi wi2 : TI} {g g2 : TG} {tt tt2 : TT} {te : TE} {N' : List Str} {n : Nat} {ix : List Nat}
end
end L2
namespace L2
open PySem PySem.Spec PyProof.Rows
noncomputable def Itel (K : PySem.W.Frag) (a : Addr) : It :=
 ⟨fun i H => ∃ xs x, SqL K H a xs /\ xs[i]? = some x, fun i H v H' => ∃ t x, H t = none /\ v = .ref t /\ H' = upd H t (.tup [.int i, x]) /\ ∀ xs, SqL K H a xs -> xs[i]? = some x, fun i H => ∃ xs, SqL K H a xs /\ xs.length = i⟩
theorem turn_enumL {P : Program} {w : World} {K : PySem.W.Frag} {els : List Expr} {kx} {tp : Pos} (a e it : Addr) (hne : e ≠ it) : Turn P w K (.Tuple els kx tp) (Itel K a) [e, it] e (fun i h => (∃ old, IsEnum h e it i old) /\ h.IsListIter it a i) where
 mem := by simp
 obj := fun i h st b hb => by
  obtain ⟨⟨old, he⟩, o, ho, hc, hd⟩ := st
  rcases List.mem_cons.mp hb with rfl | hb
  ·exact ⟨_, he, fun v z => by cases z⟩
  ·rw [List.mem_singleton.mp hb]
   exact ⟨o, ho, fun v z => by rw [hd] at z; cases z⟩
 keep := fun i h h' st k => by
  obtain ⟨⟨old, he⟩, o, ho, r⟩ := st
  exact ⟨⟨old, k e (by simp) _ he⟩, o, k it (by simp) _ ho, r⟩
 item := by
  intro X hP hw hK hc i pins s σ H E I hf st hg
  subst hP hw hK
  obtain ⟨xs, x, hq, hx⟩ := hg
  obtain ⟨its, rv, p, hz⟩ := I.list hq
  obtain ⟨u, hu, ru⟩ := rv.get hx
  obtain ⟨⟨old, he⟩, hi⟩ := st
  obtain ⟨o, ho, hcl, hd⟩ := id hi
  have hT : s.heap.IsList a its.toArray := p.isList
  have hai : a ≠ it := fun z => by
   obtain ⟨o', e1, e2, _⟩ := p.isList
   rw [z, ho] at e1; cases e1; rw [hcl] at e2; injection e2 with z2; revert z2; decide
  have hae : e ≠ a := fun z => by
   obtain ⟨o', e1, e2, _⟩ := p.isList
   rw [<- z, he] at e1; cases e1; injection e2 with z2; revert z2; decide
  have hlt : i < its.toArray.size := by
   have := (List.getElem?_eq_some_iff.mp hu).1
   simpa using this
  have hh : X.A.in1.handled = none := I.ok.hd hc
  refine wpAny_pyNext_enum_itemD (Draws.list hh it a hai its.toArray) he ⟨hi, hT⟩ hlt hne (by simp [hne, hae]) fun x' h1 tk hP1 ho1 hs1 hT1 hz1 hk1 => ?_
  have ex : x' = u := by
   have q : its[i]? = some x' := by simpa using hP1
   rw [hu] at q; exact (Option.some.inj q).symm
  subst ex
  refine ⟨_, rfl, wpAny_letOwnedTupleGo_enum ho1 fun h2 he2 hs2 => ?_⟩
  have hne0 : s.heap.objs.size ≠ e := Nat.ne_of_gt (Heap.lt_size he)
  have keep : ∀ b o, b ∉ [e, it] -> s.heap.get? b = some o -> h2.get? b = some o := fun b o hb e0 => (hs2.2 b fun z => hb (by simp [z])).trans (hk1 b o (fun z => hb (by simp [z])) (fun z => hb (by simp [z])) e0)
  refine ⟨.ref s.heap.objs.size, _, I.turnedT (h' := h2) (t' := tk + 1) (xs := [.int i, x]) hf keep (.cons ⟨tk, rfl⟩ (.cons ru .nil)) ⟨_, (hs2.2 _ hne0).trans hT1, rfl, ⟨_, rfl⟩, rfl, rfl⟩ (by show 2 <= sizeLine; decide), rfl, ⟨_, x, I.hok.fresh (Nat.le_refl _), rfl, rfl, fun ys hy => by rw [I.list_inj hy hq]; exact hx⟩, ⟨⟨_, by simpa using he2⟩, ?_⟩, fun b hb => ?_⟩
  ·obtain ⟨⟨o1, e1, r1⟩, _⟩ := hs1
   exact ⟨o1, (hs2.2 it (Ne.symm hne)).trans e1, r1⟩
  ·rcases List.mem_cons.mp hb with rfl | hb'
   ·rw [upd_ne (Nat.ne_of_lt (Heap.lt_size he))]; exact (hf _ hb).1
   ·have e9 := List.mem_singleton.mp hb'
    subst e9
    rw [upd_ne (Nat.ne_of_lt (Heap.lt_size ho))]; exact (hf _ hb).1
 done := by
  intro X hP hw hK hc i pins s σ H E I hf st hg
  subst hP hw hK
  obtain ⟨xs, hq, hx⟩ := hg
  obtain ⟨its, rv, p, hz⟩ := I.list hq
  obtain ⟨⟨old, he⟩, hi⟩ := st
  obtain ⟨o, ho, hcl, hd⟩ := id hi
  have hT : s.heap.IsList a its.toArray := p.isList
  have hai : a ≠ it := fun z => by
   obtain ⟨o', e1, e2, _⟩ := p.isList
   rw [z, ho] at e1; cases e1; rw [hcl] at e2; injection e2 with z2; revert z2; decide
  have hh : X.A.in1.handled = none := I.ok.hd hc
  have hl : its.toArray.size = i := by rw [List.size_toArray, <- rv.length, hx]
  refine wpAny_pyNext_enum_endD (Draws.list hh it a hai its.toArray) he (by rw [hl]; exact ⟨hi, hT⟩) fun h1 hk => ⟨rfl, ?_⟩
  exact I.turnedN (t' := s.toks) hf fun b o hb e0 => hk b o (fun z => hb (by simp [z])) e0
 self := fun _ _ _ _ _ st h => by
  obtain ⟨⟨old, he⟩, _⟩ := st
  exact wpAny_pyIter_enum he h
section
variable {X : Cx}
noncomputable def iEnumL (K : PySem.W.Frag) (ta : TA) : TI := fun σ H R => ta σ H fun vs H1 => ∃ a, vs = [.ref a] /\ (∃ xs, SqL K H1 a xs) /\ R (Itel K a) H1
theorem pi_enumL {els : List Expr} {kx} {tp : Pos} {l : Expr} {ta : TA} {p pos : Pos} (hg : Gl X "enumerate") (hm : X.mg "enumerate" = none) (ha : PA X [l] ta) (hs : starEach [l] X.env = [(false, eval l X.env)] := by rfl) :
  PI X (.Tuple els kx tp) (.Call (.Name "enumerate" p) [l] [] pos) (iEnumL X.K ta) := by
 intro pins s σ H R I h
 refine Call_ (ld_blt I hg hm boot_enumerate (PyProof.Rows.callWith_type1 (thn (ha pos pins s σ H _ I h) fun us s1 ⟨vs, H1, I1, r1, q1⟩ => ?_) hs rfl))
 obtain ⟨a, rfl, ⟨xs, hq⟩, q⟩ := q1
 obtain ⟨u, rfl, ru⟩ := vals1 r1
 cases (show u = Value.ref a from ru)
 obtain ⟨its, rv, p', hz⟩ := I1.list hq
 refine call_enumerate_list p'.isList fun h' he hi hsz hk => wpAny_pyIter_enum he ?_
 have I2 : Inv X pins σ H1 { s1 with heap := h' } := I1.kept (t' := s1.toks) hk
 refine ⟨s1.heap.objs.size + 1, [s1.heap.objs.size + 1, s1.heap.objs.size], _, _, H1, rfl, I2, turn_enumL a _ _ (Nat.ne_of_gt (Nat.lt_succ_self _)), ⟨⟨_, he⟩, hi⟩, fun b hb => ?_, q⟩
 rcases List.mem_cons.mp hb with rfl | hb
 ·exact I1.fpOk (Nat.le_succ _) (I1.hok.fresh (Nat.le_succ _))
 ·rw [List.mem_singleton.mp hb]
  exact I1.fpOk (Nat.le_refl _) (I1.hok.fresh (Nat.le_refl _))
end
end L2
namespace L2
open PySem PySem.Spec PyProof.Rows
end L2
namespace L2
open PySem PySem.Spec PyProof.Rows
section
variable {X : Cx}
end
theorem for_enumL {K : PySem.W.Frag} {a : Addr} {xs : List V} {g : TG} {tb : TS} {D : Ends} {σ : L2.St} {H : Hp} (Pv : Nat -> L2.St -> Hp -> Prop) (h0 : Pv 0 σ H) (hl : ∀ i σ H, i <= xs.length -> Pv i σ H -> SqL K H a xs)
  (hs : ∀ i x t σ H, xs[i]? = some x -> Pv i σ H -> H t = none -> g (.ref t) σ (upd H t (.tup [.int i, x])) fun σ2 H2 => tb { D with nx := Pv (i + 1), ct := Pv (i + 1), bk := D.nx } σ2 H2) (hd : ∀ σ H, Pv xs.length σ H -> D.nx σ H) :
  ∃ W : Nat -> Nat -> L2.St -> Hp -> Prop, (∃ m, W 0 m σ H) /\ ∀ i m σ H, W i m σ H ->
   ((Itel K a).stop i H /\ D.nx σ H) ∨ ((Itel K a).go i H /\ ∃ N : L2.St -> Hp -> Prop, (∀ σ' H', N σ' H' -> ∃ m', m' < m /\ W (i + 1) m' σ' H') /\ ∀ x H', (Itel K a).yld i H x H' -> g x σ H' fun σ2 H2 => tb { D with nx := N, ct := N, bk := D.nx } σ2 H2) := by
 refine ⟨fun i m σ H => m = xs.length - i /\ i <= xs.length /\ Pv i σ H, ⟨xs.length, by simp, Nat.zero_le _, h0⟩, ?_⟩
 rintro i m σ H ⟨rfl, hi, p⟩
 have q := hl i σ H hi p
 by_cases hlt : i < xs.length
 ·refine .inr ⟨⟨xs, xs[i], q, by simp [hlt]⟩, Pv (i + 1), fun σ' H' p' => ⟨xs.length - (i + 1), by (first | lia | omega), rfl, hlt, p'⟩, fun x H' y => ?_⟩
  obtain ⟨t, x', ht, rfl, rfl, y⟩ := y
  exact hs i x' t σ _ (y xs q) p ht
 ·have e : i = xs.length := by (first | lia | omega)
  subst e
  exact .inl ⟨⟨xs, q, rfl⟩, hd σ H p⟩
section
variable {X : Cx} {elt tg iter tg2 iter2 : Expr} {ifs ifs2 : List Expr} {scope : Scope} {pos : Pos} {wi wi2 : TI} {g g2 : TG} {tt tt2 : TT} {te : TE} {N' : List Str} {n : Nat} {ix : List Nat}
end
end L2
namespace L2
open PySem PySem.Spec PyProof.Rows
noncomputable def freeO (m : Nat) (b : List Int) : List Int := (num0 m).filter fun x => decide (x ∉ b)
structure Beg (m k : Nat) (b : List Int) : Prop where
 len : b.length = k
 nd : b.Nodup
 rng : ∀ y ∈ b, 0 <= y /\ y < m
 free : (freeO m b).length + k = m
end L2
namespace L2
open PySem PySem.Spec PyProof.Rows
end L2
namespace L2
open PySem PySem.Spec PyProof.Rows
theorem ints_inj : ∀ {ns ms : List Int}, ns.map V.int = ms.map V.int -> ns = ms
 | [], [], _ => rfl
 | [], _ :: _, h => by cases h
 | _ :: _, [], h => by cases h
 | a :: t, b :: u, h => by
  simp only [List.map_cons, List.cons.injEq] at h
  obtain ⟨h1, h2⟩ := h
  injection h1 with h1
  rw [h1, ints_inj h2]
end L2
namespace L2
open PySem PySem.Spec PyProof.Rows
section
variable {X : Cx}
end
end L2
namespace L2
open PySem PySem.Spec PyProof.Rows
end L2
namespace L2
open PySem PySem.Spec PyProof.Rows
theorem ones_sum (n : Nat) : (List.replicate n (1 : Int)).sum = n := by
 induction n with
 | zero => rfl
 | succ n ih => rw [List.replicate_succ, List.sum_cons, ih]; push_cast; (first | lia | omega)
noncomputable def patO (L : List Int) (x : Int) : List Int := if L.countP (fun a => decide (a < x)) = L.length then L ++ [x] else L.set (L.countP fun a => decide (a < x)) x
noncomputable def patsO (ns : List Int) : List Int := ns.foldl patO []
structure Heaps (ns : List Int) (L : List Int) (es : List Int) : Prop where
 inc : L.Pairwise (· < ·)
 len : es.length = ns.length
 up : ∀ (j : Nat) a, L[j]? = some a -> ∃ k : Nat, ns[k]? = some a /\ es[k]? = some ((j : Int) + 1)
 dn : ∀ (k : Nat) e, es[k]? = some e -> ∃ (j : Nat) (a b : Int), e = (j : Int) + 1 /\ L[j]? = some a /\ ns[k]? = some b /\ a <= b
theorem pats_snoc (ns : List Int) (x : Int) : patsO (ns ++ [x]) = patO (patsO ns) x := by simp [patsO, List.foldl_append]
end L2
namespace L2
open PySem PySem.Spec PyProof.Rows
noncomputable def Cx.compZ (X : Cx) (s₂ : Shared) (H₂ : Hp) (N' : List Str) (scope : Scope) (cl : List (Str × Addr)) (C : Addr) (fp : List Addr) (z : Str) (Z : Addr) : Cx :=
 { X with N := N', s₀ := s₂, H₀ := H₂, env := compEnvC scope ((z, Z) :: cl) C X.env, outer := X.stack, stack := X.stack, ex := fp, fn := fun x => x == z, pn := [], xe := fun _ _ => False }
structure CompScopeZ (X : Cx) (scope : Scope) (N' : List Str) (n : Nat) (ix : List Nat) (z : Str) : Prop where
 kind : scope.kind = .function
 onecell : ∀ y ∈ scope.names, y.2 = .cell -> y.1 = z
 nz : ∀ y : Str, (y, NameKind.free) ∈ scope.names -> y ≠ z
 cf : ∀ (a : Addr) (cl : List (Str × Addr)), cellsFrom a scope.names cl = (z, a) :: cl
 pc : ∀ h : Heap, pushCells h scope.names = h.push { cls := .type "cell", data := .cell none }
 names : ∀ y ∈ scope.names, y.2 = .local -> scope.names.lookup y.1 = some .local
 free : ∀ y ∈ scope.names, y.2 = .free -> X.env.scope.names.lookup y.1 = some .cell ∨ X.env.scope.names.lookup y.1 = some .free
 nodup : ∀ y : Str, (y, NameKind.free) ∈ scope.names -> scope.names.lookup y = some .local -> False
 len : N'.length = n + ix.length
 at_ : ∀ (j i : Nat), ix[j]? = some i -> ∃ x, N'[n + j]? = some x /\ X.N[i]? = some x /\ (x, NameKind.free) ∈ scope.names
theorem newEnvZ {M : Model} {A : Around} {E : Value -> Shared -> Prop} {s : Shared} {z : Str} {scope : Scope} {globals : Addr} {cl : List (Str × Addr)} {qual : Str} {env : Env} {Q : Env -> Shared -> Prop} (hcf : ∀ a, cellsFrom a scope.names cl = (z, a) :: cl)
  (hpc : ∀ h : Heap, pushCells h scope.names = h.push { cls := .type "cell", data := .cell none })
  (hQ : ∀ env' : Env, env' = { scope, locals := s.heap.objs.size, globals, cells := (z, s.heap.objs.size + 1) :: cl, qual, func := none, code := env.code, frame := env.frame, builtins := env.builtins } ->
   Q env' { s with heap := (s.heap.push { cls := .type "dict", data := .dict #[] }).push { cls := .type "cell", data := .cell none } }) :
  wpAny M A (newFunctionEnv scope globals cl [] qual none .none (some env)) Q E s := by
 simp only [newFunctionEnv, Option.isSome_some, if_true]
 refine wpAny_bind (wpAny_alloc ?_)
 refine wpAny_bind (wpAny_layCells _ (fun name kind cells => by cases hkc : kind == NameKind.cell <;> simp [hkc]) _ _ _ _ ?_)
 rw [hcf, hpc]
 simp only [List.forIn_nil]
 have hz : (s.heap.push { cls := .type "dict", data := .dict #[] }).objs.size = s.heap.objs.size + 1 := Heap.size_push ..
 refine wpAny_bind (wpAny_pure (wpAny_pure ?_))
 exact hQ _ (by simp only [hz])
section
variable {X : Cx} {pins : List (Addr × Obj)} {σ : St} {H : Hp} {s : Shared}
theorem of_relabelZ {env : Env} {scope : Scope} {x z : Str} (hn : ∀ y ∈ scope.names, y.2 = .cell -> y.1 = z) (hxz : x ≠ z) (h : (relabel scope env).names.lookup x = some .cell ∨ (relabel scope env).names.lookup x = some .free) : scope.names.lookup x = some .free := by
 rw [relabel_lookup] at h
 cases e : scope.names.lookup x with
 | none => rw [e] at h; rcases h with h | h <;> cases h
 | some k =>
  rw [e] at h
  have hk : k ≠ .cell := fun q => hxz (hn _ (PySem.mem_of_lookup e) q)
  by_cases hf : k = .free
  ·rw [hf]
  ·have hb : (k == NameKind.free) = false := by simpa using hf
   have hr : Option.map (fun k => if (k == NameKind.free && env.scope.kind == .function && env.kindOf x == some .cell) = true then NameKind.cell else k) (some k) = some k := by
    show some (ite _ _ _) = _
    rw [if_neg (by rw [hb]; simp)]
   rw [hr] at h
   rcases h with h | h
   ·cases h; exact absurd rfl hk
   ·exact h
theorem inv_compZ {z : Str} {Z : Addr} {scope : Scope} {N' : List Str} {n : Nat} {ix : List Nat} {cl : List (Str × Addr)} {fp : List Addr} {h₁ : Heap} {acc C : Addr} {na : Nat} {m : Str -> Option Value} {tk : Nat}
  (I : Inv X pins σ H s) (S : CompScopeZ X scope N' n ix z) (hcl1 : ∀ x c, cl.lookup x = some c -> X.env.cells.lookup x = some c) (hcl2 : ∀ y ∈ scope.names, y.2 = .free -> cl.lookup y.1 = X.env.cells.lookup y.1)
  (hf : ∀ b ∈ fp, FpOk X pins H b) (hlt : ∀ b ∈ fp, b < s.heap.objs.size) (ha : s.heap.objs.size <= acc) (hC : s.heap.objs.size <= C) (hne : C ≠ acc) (hZ : s.heap.objs.size <= Z) (hZC : Z ≠ C) (hZa : Z ≠ acc) (hZc : h₁.IsCell Z none)
  (k : ∀ b u, s.heap.get? b = some u -> h₁.get? b = some u) (hacc : h₁.get? acc = some { cls := .type "list", data := .seq ([] : List Value).toArray na }) (hns : h₁.Ns C m) :
  Inv (X.compZ s H N' scope cl C fp z Z) [] (compSt n ix σ) (upd H acc (.lst [])) { s with heap := h₁, toks := tk } := by
 have fr : ∀ b : Addr, s.heap.objs.size <= b -> H b = none := fun b hb => I.hok.fresh hb
 have cellLt : ∀ x c, cl.lookup x = some c -> c < s.heap.objs.size := fun x c e => by
  obtain ⟨v, q⟩ := I.cell x c (hcl1 x c e)
  exact q.lt
 have look : ∀ x c, List.lookup x ((z, Z) :: cl) = some c -> (x = z /\ c = Z) ∨ (x ≠ z /\ cl.lookup x = some c) := fun x c e => by
  rw [List.lookup_cons] at e
  cases hb : x == z with
  | true =>
   rw [hb] at e
   exact .inl ⟨eq_of_beq hb, (Option.some.inj e).symm⟩
  | false =>
   rw [hb] at e
   exact .inr ⟨fun q => by (rw [q, beq_self_eq_true] at hb; cases hb), e⟩
 have look2 : ∀ x, x ≠ z -> List.lookup x ((z, Z) :: cl) = cl.lookup x := fun x hx => by
  rw [List.lookup_cons]
  have hb : (x == z) = false := beq_eq_false_iff_ne.mpr hx
  rw [hb]
 have nZ : ∀ x c, cl.lookup x = some c -> c ≠ Z := fun x c e q => absurd (cellLt x c e) (by rw [q]; exact Nat.not_lt.mpr hZ)
 refine ⟨⟨I.ok.mod, S.kind, I.ok.glob, I.ok.blt, hC, fun x y c e1 e2 => ?inj, fun x hx => ?has, fun x c e e' => ?cab, I.ok.hd, I.ok.frames, .inl rfl, fun b hb => ⟨Nat.ne_of_lt (Nat.lt_of_lt_of_le (hlt b hb) hC), fun x c e => ?exf⟩,
   I.bs, Nat.le_trans I.ok.bsz I.sz, fun b o e hb => ?noex, fun b hb hs => ?exfs, I.stack, I.stkFree⟩,
  rfl, I.bare, Un.laid k ha (fr acc ha), ⟨m, hns, fun i x v e1 e2 e3 => ?loc⟩, fun x c e => ?cell, ?free, fun x c e => ?freeC, fun p hp => absurd (show p ∈ ([] : List (Addr × Obj)) from hp) (by simp), I.hok.laid k ha ⟨Nat.zero_le _, [], na, .nil, hacc⟩, ?len⟩
 case inj =>
  rcases look x c e1 with ⟨h1, h2⟩ | ⟨h1, h2⟩ <;> rcases look y c e2 with ⟨h3, h4⟩ | ⟨h3, h4⟩
  ·rw [h1, h3]
  ·exact absurd h2 (nZ y c h4)
  ·exact absurd h4 (nZ x c h2)
  ·exact I.ok.inj x y c (hcl1 x c h2) (hcl1 y c h4)
 case has =>
  by_cases hxz : x = z
  ·exact ⟨Z, by show List.lookup x ((z, Z) :: cl) = _; rw [hxz, List.lookup_cons, beq_self_eq_true]⟩
  ·have hx' : scope.names.lookup x = some .free := of_relabelZ (env := X.env) S.onecell hxz hx
   have hm := PySem.mem_of_lookup hx'
   obtain ⟨c, e⟩ := I.ok.has x (S.free _ hm rfl)
   exact ⟨c, by show List.lookup x ((z, Z) :: cl) = _; rw [look2 x hxz]; exact (hcl2 _ hm rfl).trans e⟩
 case cab =>
  rcases look x c e' with ⟨_, h2⟩ | ⟨h1, _⟩
  ·rw [h2]; exact hZ
  ·exact absurd (eq_of_beq (show (x == z) = true from e)) h1
 case exf =>
  rcases look x c e with ⟨_, h2⟩ | ⟨_, h2⟩
  ·rw [h2]; exact Nat.ne_of_gt (Nat.lt_of_lt_of_le (hlt b hb) hZ)
  ·exact (hf b hb).2.2.2.2.1 x c (hcl1 x c h2)
 case noex =>
  rcases (hf b hb).2.2.2.1 with z | z
  ·exact I.ok.noex b o e z
  ·exact absurd (Nat.lt_of_lt_of_le (Heap.lt_size e) (Nat.le_trans I.ok.bsz z)) (Nat.lt_irrefl _)
 case exfs =>
  rcases List.mem_cons.mp (I.stkSub b hs) with z | z
  ·exact (hf b hb).2.1 z
  ·exact (hf b hb).2.2.1 z
 case loc =>
  have hi : n <= i := by
   by_cases hi : n <= i
   ·exact hi
   ·unfold compSt at e2
    rw [List.getElem?_append_left (by simp; (first | lia | omega)), List.getElem?_replicate] at e2
    split at e2 <;> cases e2
  obtain ⟨j, rfl⟩ : ∃ j, i = n + j := ⟨i - n, by (first | lia | omega)⟩
  unfold compSt at e2
  rw [List.getElem?_append_right (by simp), List.length_replicate, Nat.add_sub_cancel_left, List.getElem?_map] at e2
  cases ej : ix[j]? with
  | none => rw [ej] at e2; cases e2
  | some q =>
   rw [ej] at e2
   have e2' : σ.getD q none = some v := Option.some.inj e2
   have e2'' : σ[q]? = some (some v) := by
    rw [List.getD_eq_getElem?_getD] at e2'
    cases eq : σ[q]? with
    | none => rw [eq] at e2'; cases e2'
    | some z => rw [eq] at e2'; exact congrArg some e2'
   obtain ⟨y, h1, h2, h3⟩ := S.at_ j q ej
   have ey : y = x := Option.some.inj (h1.symm.trans e1)
   subst ey
   have hk := S.free _ h3 rfl
   obtain ⟨mX, _, hl⟩ := I.loc
   obtain ⟨u, r, l⟩ := hl q y v h2 e2'' (.inr hk)
   refine ⟨u, r, .inr ?_⟩
   have hkc : X.env.kindOf y = some .cell ∨ X.env.kindOf y = some .free := hk
   have l' : ∃ c, X.env.cells.lookup y = some c /\ s.heap.IsCell c (some u) := by
    rcases l with ⟨z, _⟩ | ⟨_, c, ec, hc⟩
    ·rcases hkc with q | q <;> (rw [q] at z; cases z)
    ·exact ⟨c, ec, hc⟩
   obtain ⟨c, ec, o, ho, hd⟩ := l'
   have e3' : Vis (relabel scope X.env) y := e3
   have hyz : y ≠ z := S.nz y h3
   refine ⟨?_, c, by show List.lookup y ((z, Z) :: cl) = _; rw [look2 y hyz]; exact (hcl2 _ h3 rfl).trans ec, o, k _ _ ho, hd⟩
   have nl : scope.names.lookup y ≠ some .local := fun z => ?_
   ·cases el : scope.names.lookup y with
    | none =>
     have : (relabel scope X.env).names.lookup y = none := by rw [relabel_lookup, el]; rfl
     rcases e3' with z | z | z <;> (rw [this] at z; cases z)
    | some kk =>
     have hmem := PySem.mem_of_lookup el
     have ncell : kk ≠ .cell := fun q => hyz (S.onecell _ hmem q)
     have hr : (relabel scope X.env).names.lookup y = some (if (kk == NameKind.free && X.env.scope.kind == .function && X.env.kindOf y == some .cell) = true then .cell else kk) := by rw [relabel_lookup, el]; rfl
     by_cases hkf : kk = .free
     ·subst hkf
      exact relabel_free (env := X.env) el
     ·have hb : (kk == NameKind.free) = false := by simpa using hkf
      have hr' : (relabel scope X.env).names.lookup y = some kk := by rw [hr, hb]; rfl
      rcases e3' with z | z | z
      ·rw [hr'] at z; cases z; exact absurd el nl
      ·rw [hr'] at z; cases z; exact absurd rfl ncell
      ·rw [hr'] at z; cases z; exact absurd rfl hkf
   ·exact S.nodup _ h3 z
 case cell =>
  rcases look x c e with ⟨_, h2⟩ | ⟨_, h2⟩
  ·rw [h2]; exact ⟨none, hZc⟩
  ·obtain ⟨v, o, ho, hd⟩ := I.cell x c (hcl1 x c h2)
   exact ⟨v, o, k _ _ ho, hd⟩
 case free =>
  show upd H acc (.lst []) C = none
  rw [upd_ne hne]; exact fr C hC
 case freeC =>
  show upd H acc (.lst []) c = none
  rcases look x c e with ⟨_, h2⟩ | ⟨_, h2⟩
  ·rw [h2, upd_ne hZa]; exact fr Z hZ
  ·have := cellLt x c h2
   rw [upd_ne (Nat.ne_of_lt (Nat.lt_of_lt_of_le this ha))]
   exact I.freeC x c (hcl1 x c h2)
 case len =>
  show (compSt n ix σ).length = N'.length
  unfold compSt
  rw [List.length_append, List.length_replicate, List.length_map, S.len]
end
section
variable {X : Cx} {elt tg iter : Expr} {ifs : List Expr} {scope : Scope} {pos : Pos} {wi : TI} {g : TG} {tt : TT} {te : TE} {N' : List Str} {n : Nat} {ix : List Nat}
theorem lc_coreZ {z : Str} {pins : List (Addr × Obj)} {σ : St} {H2 : Hp} {s2 : Shared} {cl : List (Str × Addr)} {it : Addr} {fp : List Addr} {tn : Nat -> Heap -> Prop} {J : It} {Q : VK} {R : Value -> Addr -> Result -> Shared -> Prop}
  (hc : X.calm = true) (S : CompScopeZ X scope N' n ix z)
  (hY : ∀ s₂ H₂ cl C fp Z, PG (X.compZ s₂ H₂ N' scope cl C fp z Z) tg g /\ PTs (X.compZ s₂ H₂ N' scope cl C fp z Z) ifs tt /\ PE (X.compZ s₂ H₂ N' scope cl C fp z Z) elt te)
  (I2 : Inv X pins σ H2 s2) (hcl1 : ∀ x c, cl.lookup x = some c -> X.env.cells.lookup x = some c) (hcl2 : ∀ y ∈ scope.names, y.2 = .free -> cl.lookup y.1 = X.env.cells.lookup y.1)
  (T : Turn X.prog X.w X.K tg J fp it tn) (st2 : tn 0 s2.heap) (f2 : ∀ b ∈ fp, FpOk X pins H2 b)
  (hW : LcW J H2 g tt te n ix σ Q)
  (hR : ∀ acc C s' H' m, s'.heap.Ns C m -> Inv X pins σ H' s' -> H' C = none -> C ≠ X.env.locals -> (C ∈ X.ex ∨ X.s₀.heap.objs.size <= C) -> (∀ x c, X.env.cells.lookup x = some c -> c ≠ C) -> (∀ p ∈ X.pn ++ pins, p.1 ≠ C) -> C ∉ X.fs -> Q (.ref acc) H' -> R (.ref acc) C (.ok .next) s') :
  wpAny (model X.prog X.w) X.A (newList []) (fun acc s₃ => wpAny (model X.prog X.w) X.A (newFunctionEnv scope X.env.globals cl [] X.env.qual none .none (some X.env)) (fun cenv s₄ =>
   codeAny (model X.prog X.w) X.A (.compStart (.ListComp elt [⟨tg, iter, ifs, 0⟩] scope pos) 0 (.ref it) acc { cenv with scope := relabel scope X.env }) (R acc cenv.locals) s₄) X.xe s₃) X.xe s2 := by
 refine wpAny_newObj_type (newEnvZ (z := z) (fun a => S.cf a cl) S.pc fun env' he' => ?_)
 subst he'
 dsimp only
 generalize hH2 : s2.heap.push { cls := .type "list", dict := none, data := .seq ([] : List Value).toArray } = G
 have hC : G.objs.size = s2.heap.objs.size + 1 := by rw [<- hH2, Heap.size_push]
 generalize hh1 : (G.push { cls := .type "dict", data := .dict #[] }).push { cls := .type "cell", data := .cell none } = h₁
 have hkp : ∀ b o, G.get? b = some o -> h₁.get? b = some o := fun b o e => hh1 ▸ Heap.get?_push_of_some _ (Heap.get?_push_of_some _ e)
 have hns₁ : h₁.Ns G.objs.size fun _ => none := hh1 ▸ (Heap.Ns.new G (.type "dict")).keeps fun b o e => Heap.get?_push_of_some _ e
 have hZc : h₁.IsCell (G.objs.size + 1) none := by
  rw [<- hh1]
  refine ⟨{ cls := .type "cell", data := .cell none }, ?_, rfl⟩
  have := Heap.get?_push_size (G.push { cls := .type "dict", data := .dict #[] }) (o := { cls := .type "cell", data := .cell none }) rfl
  rwa [Heap.size_push] at this
 have hlt : ∀ b ∈ fp, b < s2.heap.objs.size := fun b hb => by
  obtain ⟨o, e, _⟩ := T.obj _ _ st2 b hb
  exact Heap.lt_size e
 have old : ∀ b o, s2.heap.get? b = some o -> h₁.get? b = some o := fun b o e => hkp b o (hH2 ▸ Heap.get?_push_of_some _ e)
 have hacc : h₁.get? s2.heap.objs.size = some { cls := .type "list", dict := none, data := .seq ([] : List Value).toArray } := hkp _ _ (hH2 ▸ Heap.get?_push_size _ rfl)
 obtain ⟨W, ⟨m0, w0⟩, turn⟩ := hW s2.heap.objs.size (I2.hok.fresh (Nat.le_refl _))
 obtain ⟨hYg, hYt, hYe⟩ := hY s2 H2 cl G.objs.size fp (G.objs.size + 1)
 have fpY : ∀ {H' : Hp}, (∀ b ∈ fp, H' b = none) -> ∀ b ∈ fp, FpOk (X.compZ s2 H2 N' scope cl G.objs.size fp z (G.objs.size + 1)) [] H' b := fun {H'} hn b hb => by
  obtain ⟨_, q1, q2, q3, q4, q5⟩ := f2 b hb
  refine ⟨hn b hb, ?_, fun z => ?_, .inl hb, fun x c e => ?_, fun p hp => absurd (show p ∈ ([] : List (Addr × Obj)) from hp) (by simp)⟩
  ·show b ≠ G.objs.size
   rw [hC]
   exact Nat.ne_of_lt (Nat.lt_succ_of_lt (hlt b hb))
  ·rcases List.mem_cons.mp (I2.stkSub b z) with y | y
   ·exact q1 y
   ·exact q2 y
  ·have e' : List.lookup x ((z, G.objs.size + 1) :: cl) = some c := e
   rw [List.lookup_cons] at e'
   cases hb' : x == z with
   | true =>
    rw [hb'] at e'
    have e2 : G.objs.size + 1 = c := Option.some.inj e'
    rw [<- e2, hC]
    have := hlt b hb
    exact Nat.ne_of_gt (Nat.lt_of_lt_of_le this (Nat.le_trans (Nat.le_succ _) (Nat.le_succ _)))
   | false =>
    rw [hb'] at e'
    exact q4 x c (hcl1 x c e')
 have loop : ∀ s₃ : Shared, s₃ = { s2 with heap := h₁ } ->
   codeAny (model X.prog X.w) X.A (.compLoop (.ListComp elt [⟨tg, iter, ifs, 0⟩] scope pos) 0 (.ref it) (.ref s2.heap.objs.size) (compEnvC scope ((z, G.objs.size + 1) :: cl) G.objs.size X.env)) (R (.ref s2.heap.objs.size) G.objs.size) s₃ := by
  rintro s₃ rfl
  have I4 := inv_compZ (Z := G.objs.size + 1) (tk := s2.toks) I2 S hcl1 hcl2 f2 hlt (Nat.le_refl _) (by rw [hC]; exact Nat.le_succ _) (by rw [hC]; exact Nat.ne_of_gt (Nat.lt_succ_self _)) (by rw [hC]; exact Nat.le_trans (Nat.le_succ _) (Nat.le_succ _)) (Nat.ne_of_gt (Nat.lt_succ_self _)) (by rw [hC]; exact Nat.ne_of_gt (Nat.lt_succ_of_lt (Nat.lt_succ_self _))) hZc old hacc hns₁
  refine compLoop_gen (fun n' s' => ∃ i H', Inv (X.compZ s2 H2 N' scope cl G.objs.size fp z (G.objs.size + 1)) [] (compSt n ix σ) H' s' /\ tn i s'.heap /\ (∀ b ∈ fp, H' b = none) /\ W i n' H') ?_ m0
   ⟨0, _, I4, T.keep _ _ _ st2 fun b hb o e => old b o e, fun b hb => ?_, w0⟩
  ·rintro n' s3 ⟨i, H3, I3, st3, fr3, w3⟩
   rcases turn i n' H3 w3 with ⟨stop, q⟩ | ⟨go, step⟩
   ·refine thn (T.done (X.compZ s2 H2 N' scope cl G.objs.size fp z (G.objs.size + 1)) rfl rfl rfl hc i [] s3 _ H3 _ I3 (fpY fr3) st3 stop) fun r s4 ⟨hr, I5⟩ => ?_
    subst hr
    obtain ⟨mC, hnC, _⟩ := I5.loc
    have IX : Inv X pins σ H3 s4 := I2.call' I5.os I5.base I5.hok I5.bare fun b hb => by
     obtain ⟨_, q1, q2, q3, q4, q5⟩ := f2 b hb
     exact ⟨q3, q1, q4, q5⟩
    refine hR _ _ s4 H3 mC hnC IX I5.free ?_ (.inr ?_) (fun x c e z => ?_) (fun p hp z => ?_) (I2.nofs (by rw [hC]; exact Nat.le_succ _)) q
    ·rw [hC]
     exact Nat.ne_of_gt (Nat.lt_succ_of_lt I2.lt)
    ·rw [hC]
     exact Nat.le_succ_of_le I2.sz
    ·obtain ⟨v, q⟩ := I2.cell x c e
     rw [hC] at z
     exact absurd z (Nat.ne_of_lt (Nat.lt_succ_of_lt q.lt))
    ·rw [hC] at z
     exact absurd z (Nat.ne_of_lt (Nat.lt_succ_of_lt (Heap.lt_size (I2.pin p hp).1)))
   ·refine thn (T.item (X.compZ s2 H2 N' scope cl G.objs.size fp z (G.objs.size + 1)) rfl rfl rfl hc i [] s3 _ H3 _ I3 (fpY fr3) st3 go) fun r s4 ⟨u, hr, h4⟩ => ?_
    subst hr
    refine thn h4 fun _ s5 ⟨x, H5, I5, r5, y5, st5, fr5⟩ => ?_
    have I5' := I5.pinned (fpY fr5) (T.obj _ _ st5)
    refine thn (hYg _ s5 _ H5 x u _ I5' r5 (step x H5 y5)) fun _ s6 ⟨σ6, H6, I6, wk, q6⟩ => ?_
    have back : ∀ {H' : Hp} {s' : Shared}, Inv (X.compZ s2 H2 N' scope cl G.objs.size fp z (G.objs.size + 1)) ([] ++ pinsAt fp s5.heap) σ6 H' s' ->
      Inv (X.compZ s2 H2 N' scope cl G.objs.size fp z (G.objs.size + 1)) [] (compSt n ix σ) H' s' /\ tn (i + 1) s'.heap /\ ∀ b ∈ fp, H' b = none := fun {H' s'} I7 => by
     refine ⟨I7.unpinned.weak wk.1 wk.2, T.keep _ _ _ st5 fun b hb o e => (I7.pin (b, o) (List.mem_append_right _ (List.mem_append_right _ (mem_pinsAt hb e)))).1, fun b hb => ?_⟩
     obtain ⟨o, e, d⟩ := T.obj _ _ st5 b hb
     exact (I7.pin (b, o) (List.mem_append_right _ (List.mem_append_right _ (mem_pinsAt hb e)))).2.1
    refine thn (hYt _ s6 σ6 H6 _ I6 q6) fun ok s7 ⟨H7, I7, q7⟩ => ?_
    cases ok with
    | false =>
     rw [if_neg Bool.false_ne_true] at q7 ⊢
     obtain ⟨m', hm, w7⟩ := q7
     obtain ⟨b1, b2, b3⟩ := back I7
     exact ⟨m', hm, i + 1, H7, b1, b2, b3, w7⟩
    | true =>
     rw [if_pos rfl] at q7 ⊢
     refine thn (hYe _ s7 σ6 H7 _ I7 q7) fun xv s8 ⟨v8, H8, I8, r8, ys, ha, hz, m', hm, w8⟩ => ?_
     refine thn (mt_append _ s8 σ6 H8 (.ref s2.heap.objs.size) [v8] (.ref s2.heap.objs.size) [xv] (fun _ H' => H' = upd H8 s2.heap.objs.size (.lst (ys ++ [v8]))) I8 rfl (.cons r8 .nil) ⟨_, ys, v8, rfl, rfl, ha, hz, rfl⟩) fun _ s9 ⟨_, H9, I9, _, e9⟩ => ?_
     subst e9
     obtain ⟨b1, b2, b3⟩ := back I9
     exact ⟨m', hm, i + 1, _, b1, b2, b3, w8⟩
  ·rw [upd_ne (Nat.ne_of_lt (hlt b hb))]
   exact (f2 b hb).1
 exact codeAny_compStart_list (loop _ rfl) (T.self _ 0 _ _ _ (T.keep _ _ _ st2 fun b hb o e => old b o e) (loop _ rfl))
theorem pe_lcZ {z : Str} (hc : X.calm = true) (S : CompScopeZ X scope N' n ix z) (hi : PI X tg iter wi)
  (hY : ∀ s₂ H₂ cl C fp Z, PG (X.compZ s₂ H₂ N' scope cl C fp z Z) tg g /\ PTs (X.compZ s₂ H₂ N' scope cl C fp z Z) ifs tt /\ PE (X.compZ s₂ H₂ N' scope cl C fp z Z) elt te)
  (hs : ∀ x, foldedSetIterable iter X.env x = pure x := by intro _; rfl) : PE X (.ListComp elt [⟨tg, iter, ifs, 0⟩] scope pos) (tLc wi g tt te n ix) := by
 intro pins s σ H Q I h
 obtain ⟨cl, hcl, hcl1, hcl2⟩ := closure_ok (env := X.env) (scope := scope) fun y hy hf => I.ok.has _ (S.free y hy hf)
 rw [eval_ListComp]
 refine wpAny_comprehension_free (use := none) rfl hs hcl S.kind S.names (thn (hi pins s σ H _ I h) fun v s1 h1 => thn h1 fun itv s2 h2 => ?_)
 obtain ⟨it, fp, tn, J, H2, rfl, I2, T, st2, f2, hW⟩ := h2
 refine lc_coreZ (R := fun acc C => compPost (model X.prog X.w) X.A X.xe none (EP X pins σ Q) acc C) hc S hY I2 hcl1 hcl2 T st2 f2 hW ?_
 intro acc C s' H' m hn IX hf hL h1 h2 h3 h4 q
 exact ⟨m, hn, fun h' sb => ⟨.ref acc, H', IX.turned (t' := s'.toks) (fun b o hb e => sb.extBut b o hb e) hf hL h1 h2 h3, rfl, q⟩⟩
end
end L2
namespace L2
open PySem PySem.Spec PyProof.Rows
mutual
inductive IsK (K : PySem.W.Frag) (H : Hp) : V -> PyData -> Prop
 | non : IsK K H .non .none
 | bl (b : Bool) : IsK K H (.bl b) (.bool b)
 | int (i : Int) : IsK K H (.int i) (.int i)
 | str (x : Str) : IsK K H (.str x) (.str x)
 | tup {a : Addr} {vs : List V} {ds : List PyData} : SqT K H a vs -> IsAllK K H vs ds -> IsK K H (.ref a) (.tuple ds)
 | lst {a : Addr} {vs : List V} {ds : List PyData} : H a = some (.lst vs) -> IsAllK K H vs ds -> IsK K H (.ref a) (.list ds)
inductive IsAllK (K : PySem.W.Frag) (H : Hp) : List V -> List PyData -> Prop
 | nil : IsAllK K H [] []
 | cons {v : V} {vs : List V} {d : PyData} {ds : List PyData} : IsK K H v d -> IsAllK K H vs ds -> IsAllK K H (v :: vs) (d :: ds)
end
section
variable {X : Cx} {pins : List (Addr × Obj)} {σ : St} {H : Hp} {s : Shared}
end
end L2
namespace L2
open PySem PySem.Spec PyProof.Rows
end L2
namespace L2
open PySem PySem.Spec PyProof.Rows
end L2
namespace L2
open PySem PySem.Spec PyProof.Rows
end L2
namespace L2
open PySem PySem.Spec PyProof.Rows
section
variable {X : Cx}
end
end L2
namespace L2
open PySem PySem.Spec PyProof.Rows
end L2
namespace L2
open PySem PySem.Spec PyProof.Rows
end L2
namespace L2
end L2
namespace L2
open PySem PySem.Spec PyProof.Rows
end L2
namespace L2
open PySem PySem.Spec PyProof.Rows
end L2
namespace L2
open PySem PySem.Spec PyProof.Rows
end L2
namespace L2
open PySem PySem.Spec PyProof.Rows
structure TopX (mg : Str -> Option Value) : Prop where
 n_str : mg "str" = none
 n_repr : mg "repr" = none
 n_divmod : mg "divmod" = none
structure TopXK (K : PySem.W.Frag) : Prop where
 k_str : PySem.W.nsIn K mainGlobals "str" = some none
 k_repr : PySem.W.nsIn K mainGlobals "repr" = some none
 k_divmod : PySem.W.nsIn K mainGlobals "divmod" = some none
end L2
namespace L2
open PySem PySem.Spec PyProof.Rows
end L2
namespace L2
open PySem PySem.Spec PyProof.Rows
end L2
namespace L2
open PySem PySem.Spec PyProof.Rows
theorem Paired.append {α β : Type} {F : α -> β -> Prop} : ∀ {l1 l2 : List α} {v1 v2 : List β}, Paired F l1 v1 -> Paired F l2 v2 -> Paired F (l1 ++ l2) (v1 ++ v2)
 | _, _, _, _, .nil, h => h
 | _, _, _, _, .cons r t, h => .cons r (Paired.append t h)
end L2
namespace L2
open PySem PySem.Spec PyProof.Rows
end L2
namespace L2
open PySem PySem.Spec PyProof.Rows
end L2
namespace L2
open PySem PySem.Spec PyProof.Rows
section
variable {κ : Type} [DecidableEq κ]
noncomputable def valV (kvs : List (κ × V)) (k : κ) : Option V := (kvs.find? fun kv => decide (kv.1 = k)).map (·.2)
noncomputable def putK (kvs : List (κ × V)) (k : κ) (v : V) : List (κ × V) :=
 if (kvs.any fun kv => decide (kv.1 = k)) = true then kvs.map (fun kv => if kv.1 = k then (kv.1, v) else kv) else kvs ++ [(k, v)]
theorem valV_pos {p : κ × V} {r : List (κ × V)} {k : κ} (e : p.1 = k) : valV (p :: r) k = some p.2 := by simp [valV, List.find?_cons, e]
theorem valV_neg {p : κ × V} {r : List (κ × V)} {k : κ} (e : ¬ p.1 = k) : valV (p :: r) k = valV r k := by simp [valV, List.find?_cons, e]
theorem valV_any (k : κ) : ∀ kvs : List (κ × V), (kvs.any fun kv => decide (kv.1 = k)) = (valV kvs k).isSome
 | [] => rfl
 | p :: r => by
  rw [List.any_cons]
  by_cases e : p.1 = k
  ·simp only [valV_pos e, decide_eq_true e, Bool.true_or, Option.isSome_some]
  ·rw [valV_neg e, decide_eq_false e, Bool.false_or]; exact valV_any k r
theorem length_putK (kvs : List (κ × V)) (k : κ) (v : V) : (putK kvs k v).length <= kvs.length + 1 := by
 unfold putK
 split
 ·rw [List.length_map]; (first | lia | omega)
 ·rw [List.length_append, List.length_cons, List.length_nil]; (first | lia | omega)
theorem putK_new {kvs : List (κ × V)} {k : κ} (v : V) (h : valV kvs k = none) : putK kvs k v = kvs ++ [(k, v)] := by
 unfold putK
 rw [valV_any, h]
 exact if_neg (by decide)
theorem KV.val {kvs : List (κ × V)} {vs : List (κ × Value)} (r : KV kvs vs) (k : κ) : RelO (valV kvs k) (valueAt vs k) := by
 unfold KV at r
 induction r with
 | nil => exact True.intro
 | @cons p q ps qs h t ih =>
  obtain ⟨h1, h2⟩ := h
  by_cases e : p.1 = k
  ·have e' : q.1 = k := h1.symm.trans e
   have b : valueAt (q :: qs) k = some q.2 := by simp [valueAt, List.find?_cons, e']
   rw [valV_pos e, b]; exact h2
  ·have e' : ¬ q.1 = k := fun z => e (h1.trans z)
   have b : valueAt (q :: qs) k = valueAt qs k := by simp [valueAt, List.find?_cons, e']
   rw [valV_neg e, b]; exact ih
theorem KV.any {kvs : List (κ × V)} {vs : List (κ × Value)} (r : KV kvs vs) (k : κ) : (kvs.any fun kv => decide (kv.1 = k)) = vs.any fun kv => decide (kv.1 = k) := by
 unfold KV at r
 induction r with
 | nil => rfl
 | cons h t ih => rw [List.any_cons, List.any_cons, ih, h.1]
theorem KV.repl {kvs : List (κ × V)} {vs : List (κ × Value)} (r : KV kvs vs) (k : κ) {y : V} {u : Value} (ry : RelV y u) :
  KV (kvs.map fun kv => if kv.1 = k then (kv.1, y) else kv) (vs.map fun kv => if kv.1 = k then (kv.1, u) else kv) := by
 unfold KV at r ⊢
 induction r with
 | nil => exact .nil
 | @cons p q ps qs h t ih =>
  rw [List.map_cons, List.map_cons]
  refine .cons ?_ ih
  obtain ⟨h1, h2⟩ := h
  by_cases e : p.1 = k
  ·rw [if_pos e, if_pos (h1.symm.trans e)]; exact ⟨h1, ry⟩
  ·rw [if_neg e, if_neg (fun z => e (h1.trans z))]; exact ⟨h1, h2⟩
theorem KV.put {kvs : List (κ × V)} {vs : List (κ × Value)} (r : KV kvs vs) (k : κ) {y : V} {u : Value} (ry : RelV y u) : KV (putK kvs k y) (stored vs k u) := by
 unfold putK stored
 rw [r.any k]
 by_cases e : (vs.any fun kv => decide (kv.1 = k)) = true
 ·rw [if_pos e, if_pos e]; exact r.repl k ry
 ·rw [if_neg e, if_neg e]; exact Paired.snoc r ⟨rfl, ry⟩
theorem KV.length {kvs : List (κ × V)} {vs : List (κ × Value)} (r : KV kvs vs) : kvs.length = vs.length := Paired.length r
end
theorem kV_is {P : Program} {w : World} {k : Key} {u : Value} (r : RelV (kV k) u) : (mixKind P w).is k u = true := by
 cases k with
 | inl i => obtain ⟨t, e⟩ := (show ∃ t, u = Value.int i t from r); subst e; exact mixKind_int P w i t
 | inr x => obtain ⟨t, e⟩ := (show ∃ t, u = Value.str x t from r); subst e; exact mixKind_str P w x t
theorem items_are {P : Program} {w : World} : ∀ {ks : List Key} {us : List Value}, Vals (ks.map kV) us -> ItemsAre (mixKind P w) ks us
 | [], _, r => by rw [List.map_nil] at r; cases r; exact .nil
 | k :: ks, _, r => by
  rw [List.map_cons] at r
  cases r with
  | cons h t => exact .cons (kV_is h) (items_are t)
noncomputable abbrev KT (H : Hp) : List (List Key × V) -> List (List Key × Addr × Value) -> Prop := Paired fun p q => p.1 = q.1 /\ H q.2.1 = some (.tup (p.1.map kV)) /\ RelV p.2 q.2.2
theorem KT.val {H : Hp} {kvs : List (List Key × V)} {xs : List (List Key × Addr × Value)} (r : KT H kvs xs) (k : List Key) : RelO (valV kvs k) ((atKey xs k).map (·.2)) := by
 induction r with
 | nil => exact True.intro
 | @cons p q ps qs h t ih =>
  obtain ⟨h1, _, h2⟩ := h
  by_cases e : p.1 = k
  ·have e' : q.1 = k := h1.symm.trans e
   have b : atKey (q :: qs) k = some q.2 := by simp [atKey, List.find?_cons, e']
   rw [valV_pos e, b]; exact h2
  ·have e' : ¬ q.1 = k := fun z => e (h1.trans z)
   have b : atKey (q :: qs) k = atKey qs k := by simp [atKey, List.find?_cons, e']
   rw [valV_neg e, b]; exact ih
section
variable {P : Program} {w : World} {H : Hp} {h : Heap} {a : Addr}
theorem rd_of {u : HO} (ok : HOk P w H h) (e : Rd H a u) : ObjOk P w H h a u := e.ok ok
theorem dk_rd {kvs : List (Key × V)} (ok : HOk P w H h) (e : Rd H a (.dK kvs)) : kvs.length <= sizeLine /\ (a == sysModules) = false /\ ∃ vs, KV kvs vs /\ h.DictOf (mixKind P w) a vs :=
 show ObjOk P w H h a (.dK kvs) from rd_of ok e
theorem dk_of {kvs : List (Key × V)} (ok : HOk P w H h) (e : H a = some (.dK kvs)) : kvs.length <= sizeLine /\ (a == sysModules) = false /\ ∃ vs, KV kvs vs /\ h.DictOf (mixKind P w) a vs := dk_rd ok (.inl e)
theorem key_of {ks : List Key} (ok : HOk P w H h) (e : H a = some (.tup (ks.map kV))) : (tupleKind (mixKind P w)).is h ks a := by
 obtain ⟨_, its, r, o, h1, h2, ⟨n, h3⟩, _⟩ := (show ObjOk P w H h a (.tup (ks.map kV)) from ok a _ e)
 exact ⟨o, its.toArray, n, h1, h2, h3, by simpa using items_are r⟩
theorem dt_rd {kvs : List (List Key × V)} (ok : HOk P w H h) (e : Rd H a (.dT kvs)) : kvs.length <= sizeLine /\ (a == sysModules) = false /\
  ∃ xs, KT H kvs xs /\ h.DictOfH (tupleKind (mixKind P w)) a xs := by
 obtain ⟨z, y, xs, r, o, es, ep, h1, h2, h3, h4, h5⟩ := (show ObjOk P w H h a (.dT kvs) from rd_of ok e)
 refine ⟨z, y, xs, r, o, es, ep, h1, h2, h3, h4, fun x hx => ?_, h5⟩
 have all : ∀ {l : List (List Key × V)} {m : List (List Key × Addr × Value)}, KT H l m -> ∀ x ∈ m, (tupleKind (mixKind P w)).is h x.1 x.2.1 := by
  intro l m q
  induction q with
  | nil => intro x hx; exact nomatch hx
  | @cons p q ps qs hq t ih =>
   intro x hx
   rcases List.mem_cons.mp hx with e | hx
   ·subst e
    exact key_of ok (by rw [<- hq.1]; exact hq.2.1)
   ·exact ih x hx
 exact all r x hx
end
noncomputable def DGet (H : Hp) (a : Addr) (y : V) (r : Option V) : Prop :=
 (∃ kvs k, Rd H a (.dK kvs) /\ y = kV k /\ r = valV kvs k) ∨ ∃ kvs k b, Rd H a (.dT kvs) /\ y = .ref b /\ H b = some (.tup (k.map kV)) /\ r = valV kvs k
theorem DGet.k {H : Hp} {a : Addr} {kvs : List (Key × V)} {k : Key} (e : H a = some (.dK kvs)) : DGet H a (kV k) (valV kvs k) := .inl ⟨kvs, k, .inl e, rfl, rfl⟩
section
variable {X : Cx} {pins : List (Addr × Obj)} {σ : St} {H : Hp} {s : Shared} {a : Addr} {y v : V} {u r : Value} {o : Option V} {A : Around} {E : Value -> Shared -> Prop}
theorem Inv.big (I : Inv X pins σ H s) : sysModules < s.heap.objs.size := by
 have h : mainGlobals < s.heap.objs.size := (I.mod.glob.keeps I.bk).lt
 exact Nat.lt_trans (by decide) h
theorem d_getItem {Q : Value -> Shared -> Prop} (hu : A.units + 1 < cLine) (I : Inv X pins σ H s) (g : DGet H a y (some v)) (ry : RelV y u) (h : ∀ w' s', Inv X pins σ H s' -> RelV v w' -> Q w' s') :
  wpAny (model X.prog X.w) A (getItem (.ref a) u) Q E s := by
 rcases g with ⟨kvs, k, e, ey, l⟩ | ⟨kvs, k, b, e, ey, eb, l⟩
 ·subst ey
  obtain ⟨z, hd, vs, rel, dd⟩ := dk_rd I.hok e
  obtain ⟨w', hw, rw'⟩ := RelO.some_of (v := v) (o := valueAt vs k) (by rw [l]; exact rel.val k)
  exact wpAny_getItem_of (kV_is ry) dd.mapOf hw (h w' _ (I.tok _) rw')
 ·subst ey
  cases (show u = Value.ref b from ry)
  obtain ⟨z, hd, xs, rel, dd⟩ := dt_rd I.hok e
  obtain ⟨w', hw, rw'⟩ := RelO.some_of (v := v) (o := (atKey xs k).map (·.2)) (by rw [l]; exact rel.val k)
  obtain ⟨p, hp, hp2⟩ := Option.map_eq_some_iff.mp hw
  refine wpAny_getItem_heap (tupleKind_room_in1 hu) (key_of I.hok eb) dd hp ?_
  rw [hp2]
  exact h w' _ (I.tok _) rw'
theorem d_write {h' : Heap} {t' : Nat} {ob : HO} (I : Inv X pins σ H s) (mu : Mut (H a)) (hs : Heap.SameBut a s.heap h') (he : ∃ q, h'.get? a = some q) (new : ObjOk X.prog X.w (upd H a ob) h' a ob) :
  Inv X pins σ (upd H a ob) { s with heap := h', toks := t' } :=
 I.write (x := a) (e := a) mu (.inl rfl) (fun b q hb z => (hs.2 b hb).trans z) he new
theorem dk_new {P : Program} {w : World} {H' : Hp} {h' : Heap} {kvs : List (Key × V)} {vs : List (Key × Value)} (z : kvs.length <= sizeLine) (hd : (a == sysModules) = false) (rel : KV kvs vs) (dd : h'.DictOf (mixKind P w) a vs) :
  ObjOk P w H' h' a (.dK kvs) := ⟨z, hd, vs, rel, dd⟩
end
section
variable {X : Cx} {pins : List (Addr × Obj)} {σ : St} {H : Hp} {s : Shared} {a : Addr} {kvs : List (Key × V)} {k : Key} {u : Value} {A : Around} {E : Value -> Shared -> Prop}
theorem d_len {Q : Value -> Shared -> Prop} (I : Inv X pins σ H s) (e : Rd H a (.dK kvs)) (h : ∀ t s', Inv X pins σ H s' -> Q (.int kvs.length t) s') : wpAny (model X.prog X.w) A (call (.builtin "len") [.ref a]) Q E s := by
 obtain ⟨z, hd, vs, rel, dd⟩ := dk_rd I.hok e
 refine call_len_dict hd dd (by rw [<- rel.length]; rw [sizeLine_eq] at z; (first | lia | omega)) ?_
 rw [<- rel.length]
 exact h _ _ (I.tok _)
end
noncomputable def NoSl (i : Expr) : Prop := ∀ ov iv, subscripted i false ov iv = operate [ov, iv] (getItem ov iv)
theorem subD_of {prog : Program} {w : World} {A : Around} {E : Value -> Shared -> Prop} {s : Shared} {env : Env} {value slice : Expr} {pos : Pos} {T id : String} {Q : Value -> Shared -> Prop}
  (hl : typeLookup (.type T) "__getitem__" = pure (some (.builtin id))) (hs : NoSl slice)
  (h : wpAny (model prog w) A (eval value env) (fun o s₁ => wpAny (model prog w) A (eval slice env) (fun i s₂ => s₂.TypeIs o T /\ wpAny (model prog w) A (getItem o i) Q E s₂) E s₁) E s) :
  wpAny (model prog w) A (eval (.Subscript value slice pos) env) Q E s := by
 refine Subscript_ (wpAny_mono h (fun o s₁ h₁ => wpAny_mono h₁ (fun i s₂ h₂ => ?_) fun _ _ x => x) fun _ _ x => x)
 obtain ⟨hT, h₂⟩ := h₂
 unfold subscriptTail
 refine wpAny_bind ?_
 rw [getitemInPython_of_ne hT.not_modules]
 refine wpAny_bind (wpAny_specialOf hT hl ?_)
 have fin : wpAny (model prog w) A (subscripted slice false o i) (fun r s₃ => wpAny (model prog w) A (letTemporaryGo value o r >>= fun _ => pure r) Q E s₃) E s₂ := by
  rw [hs o i]
  exact wpAny_operating (wpAny_mono h₂ (fun r s₃ h₃ => wpAny_bind (wpAny_letTemporaryGo (wpAny_pure h₃))) fun _ _ x => x)
 first
  | exact wpAny_pure (wpAny_bind fin)
  | exact wpAny_bind (wpAny_pure (wpAny_bind fin))
  | exact wpAny_bind fin
theorem dict_typeIs {X : Cx} {pins : List (Addr × Obj)} {σ : St} {H : Hp} {s : Shared} {a : Addr} {y : V} {o : Option V} (I : Inv X pins σ H s) (g : DGet H a y o) : s.TypeIs (.ref a) "dict" := by
 rcases g with ⟨kvs, k, e, _, _⟩ | ⟨kvs, k, b, e, _, _, _⟩
 ·obtain ⟨_, _, vs, _, dd⟩ := dk_rd I.hok e
  exact dd.typeIs
 ·obtain ⟨_, _, xs, _, dd⟩ := dt_rd I.hok e
  exact dd.typeIs
noncomputable def tDGet (td ty : TE) : TE := fun σ H Q => td σ H fun x H1 => ty σ H1 fun y H2 => ∃ a v, x = .ref a /\ DGet H2 a y (some v) /\ Q v H2
section
variable {X : Cx} {o i e value : Expr} {pos pos' tpos : Pos} {td ty tv : TE}
theorem pe_dget (hu : X.A.units + 1 < cLine) (ho : PE X o td) (hi : PE X i ty) (hs : NoSl i) : PE X (.Subscript o i pos) (tDGet td ty) := by
 intro pins s σ H Q I h
 refine subD_of PySem.F.slot_dict_getitem.lookup hs (thn (ho pins s σ H _ I h) fun u s1 ⟨x, H1, I1, rx, q1⟩ => thn (hi pins s1 σ H1 _ I1 q1) fun iv s2 ⟨y, H2, I2, ry, a, v, ex, g, q2⟩ => ?_)
 subst ex
 obtain rfl : u = Value.ref a := rx
 exact ⟨dict_typeIs I2 g, d_getItem hu I2 g ry fun w' s3 I3 rw' => ⟨v, H2, I3, rw', q2⟩⟩
end
section
variable {X : Cx} {pos : Pos}
end
structure M1 (X : Cx) (o : Expr) (m : Str) (apos : Pos) (e : Expr) (cpos : Pos) : Prop where
 base : attributeBase o m X.env (eval o X.env) = eval o X.env
 few : ((backTo cpos (starEach [e] X.env)).all (fun x => !x.1) && (backToKw cpos (keywordEach [] X.env)).all (fun x => x.1.isSome)
  && decide (([e] : List Expr).length + ([] : List Keyword).length + (if ([] : List Keyword).isEmpty then 0 else 1) < 30)) = true
 line : (apos.endLine == cpos.line) = true
 trees : backTo cpos (starEach [e] X.env) = [(false, eval e X.env)]
structure M2 (X : Cx) (o : Expr) (m : Str) (apos : Pos) (e f : Expr) (cpos : Pos) : Prop where
 base : attributeBase o m X.env (eval o X.env) = eval o X.env
 few : ((backTo cpos (starEach [e, f] X.env)).all (fun x => !x.1) && (backToKw cpos (keywordEach [] X.env)).all (fun x => x.1.isSome)
  && decide (([e, f] : List Expr).length + ([] : List Keyword).length + (if ([] : List Keyword).isEmpty then 0 else 1) < 30)) = true
 line : (apos.endLine == cpos.line) = true
 trees : backTo cpos (starEach [e, f] X.env) = [(false, eval e X.env), (false, eval f X.env)]
section
variable {X : Cx} {pins : List (Addr × Obj)} {σ : St} {H : Hp} {s : Shared} {a : Addr} {y d : V} {u r : Value} {o : Option V} {A : Around} {E : Value -> Shared -> Prop}
end
section
variable {X : Cx} {o e f : Expr} {apos cpos : Pos} {td ty tx : TE}
end
section
variable {X : Cx} {pins : List (Addr × Obj)} {σ : St} {H : Hp} {s : Shared} {a : Addr} {kvs : List (Key × V)} {A : Around} {E : Value -> Shared -> Prop}
end
section
variable {X : Cx} {pins : List (Addr × Obj)} {σ : St} {H : Hp} {s : Shared} {a : Addr} {y : V} {u : Value} {A : Around} {E : Value -> Shared -> Prop}
end
end L2
namespace L2
open PySem PySem.Spec PyProof.Rows
noncomputable def kD : Key -> PyData
 | .inl i => .int i
 | .inr x => .str x
mutual
inductive IsY (S : Addr -> Prop) (H : Hp) : V -> PyData -> Prop
 | non : IsY S H .non .none
 | bl (b : Bool) : IsY S H (.bl b) (.bool b)
 | int (i : Int) : IsY S H (.int i) (.int i)
 | str (x : Str) : IsY S H (.str x) (.str x)
 | tup {a : Addr} {vs : List V} {ds : List PyData} : H a = some (.tup vs) -> IsAllY S H vs ds -> IsY S H (.ref a) (.tuple ds)
 | lst {a : Addr} {vs : List V} {ds : List PyData} : H a = some (.lst vs) -> S a -> IsAllY S H vs ds -> IsY S H (.ref a) (.list ds)
 | d0 {a : Addr} : H a = some (.dK []) -> IsY S H (.ref a) (.dict [])
 | d1 {a : Addr} {k : Key} {v : V} {d : PyData} : H a = some (.dK [(k, v)]) -> IsY S H v d -> IsY S H (.ref a) (.dict [(kD k, d)])
inductive IsAllY (S : Addr -> Prop) (H : Hp) : List V -> List PyData -> Prop
 | nil : IsAllY S H [] []
 | cons {v : V} {vs : List V} {d : PyData} {ds : List PyData} : IsY S H v d -> IsAllY S H vs ds -> IsAllY S H (v :: vs) (d :: ds)
end
section
variable {X : Cx} {pins : List (Addr × Obj)} {σ : St} {H : Hp} {s : Shared}
end
end L2
namespace L2
open PySem PySem.Spec PyProof.Rows
end L2
namespace L2
open PySem PySem.Spec PyProof.Rows
end L2
namespace L2
open PySem PySem.Spec PyProof.Rows
end L2
namespace L2
open PySem PySem.Spec PyProof.Rows
theorem op_isnot_bl {X : Cx} : OpR X (compareOp .IsNot) (fun x y H Q => ∃ a b, x = .bl a /\ y = .bl b /\ Q (.bl (!(a == b))) H) := by
 intro pins s σ H x y v u Q I rx ry h
 obtain ⟨a, b, rfl, rfl, q⟩ := h
 cases (show v = Value.bool a from rx)
 cases (show u = Value.bool b from ry)
 refine wpAny_pure ⟨.bl (!(a == b)), H, I, ?_, q⟩
 show Value.bool _ = Value.bool _
 cases a <;> cases b <;> rfl
end L2
namespace L2
open PySem PySem.Spec PyProof.Rows
theorem at_list {ns : List Int} {d : Int} (h0 : 0 <= d) (h1 : d < ns.length) : ∃ n ∈ ns, atI (ns.map V.int) d = some (.int n) := by
 have hd : d.toNat < ns.length := by (first | lia | omega)
 refine ⟨ns[d.toNat], List.getElem_mem _, ?_⟩
 have := atI_nat (xs := ns.map V.int) (j := d.toNat) (v := .int ns[d.toNat]) (by rw [List.getElem?_map, List.getElem?_eq_getElem hd]; rfl)
 rwa [show ((d.toNat : Nat) : Int) = d by (first | lia | omega)] at this
end L2
namespace L2
open PySem PySem.Spec PyProof.Rows
end L2
namespace L2
open PySem PySem.Spec PyProof.Rows
open Classical in
theorem mapI_inj : ∀ {ns ms : List Int}, ns.map V.int = ms.map V.int -> ns = ms
 | [], [], _ => rfl
 | [], _ :: _, h => by simp at h
 | _ :: _, [], h => by simp at h
 | n :: ns, m :: ms, h => by
  simp only [List.map_cons, List.cons.injEq, V.int.injEq] at h
  rw [h.1, mapI_inj h.2]
theorem call_list_ofK {X : Cx} (K : PySem.W.Frag) (hK : X.K = K) : CallR X (.type "list") (fun xs H Q => ∃ p ys, xs = [.ref p] /\ (SqL K H p ys ∨ SqT K H p ys) /\ ∀ l, H l = none -> Q (.ref l) (upd H l (.lst ys))) := hK ▸ call_list_of
end L2
namespace L2
open PySem PySem.Spec PyProof.Rows
noncomputable def lit : Nat -> Expr -> Option PyData
 | 0, _ => none
 | _ + 1, .Constant .none _ _ => some .none
 | _ + 1, .Constant (.bool b) _ _ => some (.bool b)
 | _ + 1, .Constant (.int i) _ _ => some (.int i)
 | _ + 1, .Constant (.str x) _ _ => some (.str x)
 | _ + 1, .UnaryOp .USub (.Constant (.int i) _ _) _ => some (.int (-i))
 | n + 1, .Tuple es _ _ => if es.length <= 100 then (es.mapM (lit n)).map PyData.tuple else none
 | n + 1, .List es _ => if es.length <= 100 then (es.mapM (lit n)).map PyData.list else none
 | _ + 1, .Dict [] [] _ => some (.dict [])
 | _ + 1, _ => none
end L2
namespace L2
open PySem PySem.Spec PyProof.Rows
noncomputable def risL : List Int -> Bool
 | a :: b :: r => decide (a < b) && risL (b :: r)
 | _ => true
theorem call_len_seqKY {X : Cx} (K : PySem.W.Frag) (hK : X.K = K) : CallR X (.builtin "len") (fun xs H Q => ∃ p ys, xs = [.ref p] /\ (SqL K H p ys ∨ SqT K H p ys) /\ Q (.int ys.length) H) := hK ▸ call_len_seq
end L2
namespace Srt
open PySem PyProof.Rows
section
variable {M : Model} {A : Around} {E : Value -> Shared -> Prop} {s : Shared}
end
end Srt
namespace Srt
open PySem PyProof.Rows
end Srt
namespace Srt
open PySem PyProof.Rows
section
variable {O : KeyOrd} (kf : Keyed -> O.α)
noncomputable def Up (l : List Keyed) : Prop := l.Pairwise fun p q => O.kle (kf p) (kf q)
structure Way (a b out : Array Keyed) (ia ib : Nat) : Prop where
 perm : out.toList.Perm (a.toList.take ia ++ b.toList.take ib)
 up : Up kf out.toList
 la : ∀ p ∈ out.toList, ∀ q, a[ia]? = some q -> O.kle (kf p) (kf q)
 lb : ∀ p ∈ out.toList, ∀ q, b[ib]? = some q -> O.kle (kf p) (kf q)
variable {kf}
end
end Srt
namespace Srt
open PySem PyProof.Rows
section
variable {M : Model} {A : Around} {E : Value -> Shared -> Prop} {s : Shared}
structure Cmp (M : Model) (A : Around) (E : Value -> Shared -> Prop) (s : Shared) (kd : SortKind) (O : KeyOrd) (kf : Keyed -> O.α) (okk : Keyed -> Prop) : Prop where
 lt : ∀ (x y : Keyed) (st : SortSt) (Q : Option Bool -> SortSt -> Prop), okk x -> okk y -> kindOf st = kd -> Q (some (O.blt (kf x) (kf y))) st -> wpS M A E s (lt' x y) Q st
variable {O : KeyOrd} {kf : Keyed -> O.α} {okk : Keyed -> Prop} {kd : SortKind}
noncomputable def RunUp (kf : Keyed -> O.α) (a : Array Keyed) (lo hi : Nat) : Prop := ∀ (i j : Nat) (p q : Keyed), lo <= i -> i <= j -> j < hi -> a[i]? = some p -> a[j]? = some q -> O.kle (kf p) (kf q)
end
end Srt
namespace Srt
open PySem PyProof.Rows
section
variable {M : Model} {A : Around} {E : Value -> Shared -> Prop} {s : Shared}
variable {O : KeyOrd} {kf : Keyed -> O.α} {okk : Keyed -> Prop} {kd : SortKind}
end
end Srt
namespace Srt
open PySem PyProof.Rows
section
variable {O : KeyOrd} (kf : Keyed -> O.α)
structure WayH (a b out : Array Keyed) (na nb : Nat) : Prop where
 perm : out.toList.reverse.Perm (a.toList.drop na ++ b.toList.drop nb)
 up : Up kf out.toList.reverse
 la : ∀ p ∈ out.toList, ∀ q ∈ a.toList.take na, O.kle (kf q) (kf p)
 lb : ∀ p ∈ out.toList, ∀ q ∈ b.toList.take nb, O.kle (kf q) (kf p)
variable {kf}
end
end Srt
namespace Srt
open PySem PyProof.Rows
section
variable {M : Model} {A : Around} {E : Value -> Shared -> Prop} {s : Shared}
variable {O : KeyOrd} {kf : Keyed -> O.α} {okk : Keyed -> Prop} {kd : SortKind}
end
end Srt
namespace Srt
open PySem PyProof.Rows
noncomputable def put (m : List Keyed) (at_ : Nat) (a : Array Keyed) : Array Keyed := m.zipIdx.foldl (fun a pj => a.setIfInBounds (at_ + pj.2) pj.1) a
end Srt
namespace Srt
open PySem PyProof.Rows
section
variable {O : KeyOrd} {kf : Keyed -> O.α}
end
end Srt
namespace Srt
open PySem PyProof.Rows
section
variable {O : KeyOrd} {kf : Keyed -> O.α}
end
end Srt
namespace Srt
open PySem PyProof.Rows
section
variable {M : Model} {A : Around} {E : Value -> Shared -> Prop} {s : Shared} {O : KeyOrd} {kf : Keyed -> O.α} {okk : Keyed -> Prop} {kd : SortKind}
structure Wk (kd : SortKind) (a0 : Array Keyed) (lo : Nat) (pd : Array (Nat × Nat × Nat)) (st : SortSt) : Prop where
 perm : (arrOf st).Perm a0
 kind : kindOf st = kd
 failed : failedOf st = none
 pend : pendingOf st = pd
 pre : ∀ i, i < lo -> (arrOf st)[i]? = a0[i]?
variable {a0 : Array Keyed} {lo : Nat} {pd : Array (Nat × Nat × Nat)} {st : SortSt}
end
end Srt
namespace Srt
open PySem PyProof.Rows
section
variable {M : Model} {A : Around} {E : Value -> Shared -> Prop} {s : Shared} {O : KeyOrd} {kf : Keyed -> O.α} {okk : Keyed -> Prop} {kd : SortKind} {a0 : Array Keyed} {lo : Nat} {pd : Array (Nat × Nat × Nat)} {st : SortSt}
end
end Srt
namespace Srt
open PySem PyProof.Rows
section
variable {M : Model} {A : Around} {E : Value -> Shared -> Prop} {s : Shared} {O : KeyOrd} {kf : Keyed -> O.α} {okk : Keyed -> Prop} {kd : SortKind} {a0 : Array Keyed} {lo : Nat} {pd : Array (Nat × Nat × Nat)} {st : SortSt}
end
end Srt
namespace Srt
open PySem PyProof.Rows
section
variable {M : Model} {A : Around} {E : Value -> Shared -> Prop} {s : Shared} {O : KeyOrd} {kf : Keyed -> O.α} {okk : Keyed -> Prop} {kd : SortKind} {st : SortSt}
end
end Srt
namespace Srt
open PySem PyProof.Rows
noncomputable def Ch : Nat -> List (Nat × Nat × Nat) -> Nat -> Prop
 | s, [], e => s = e
 | s, x :: r, e => x.1 = s /\ 1 <= x.2.1 /\ Ch (s + x.2.1) r e
section
variable {M : Model} {A : Around} {E : Value -> Shared -> Prop} {s : Shared} {O : KeyOrd} {kf : Keyed -> O.α} {okk : Keyed -> Prop} {kd : SortKind} {a0 : Array Keyed} {lo : Nat} {st : SortSt}
structure Stk (kf : Keyed -> O.α) (kd : SortKind) (a0 : Array Keyed) (lo : Nat) (st : SortSt) : Prop where
 perm : (arrOf st).Perm a0
 kind : kindOf st = kd
 failed : failedOf st = none
 ch : Ch 0 (pendingOf st).toList lo
 runs : ∀ x ∈ (pendingOf st).toList, RunUp kf (arrOf st) x.1 (x.1 + x.2.1)
end
end Srt
namespace Srt
open PySem PyProof.Rows
section
variable {M : Model} {A : Around} {E : Value -> Shared -> Prop} {s : Shared} {O : KeyOrd} {kf : Keyed -> O.α} {okk : Keyed -> Prop} {kd : SortKind} {a0 : Array Keyed} {lo : Nat} {st : SortSt}
end
end Srt
namespace Srt
open PySem PyProof.Rows
noncomputable def hS (h : Heap) (a : Addr) (vs : List Value) : Heap := ((h.update a (Obj.mapSeq fun _ => (#[] : Array Value))).push (seqObj "tuple" vs.toArray 0)).push (seqObj "list" #[] 0)
section
variable {prog : Program} {w : World} {A : Around} {E : Value -> Shared -> Prop} {s : Shared} {O : KeyOrd} {kf : Keyed -> O.α} {okk : Keyed -> Prop} {kd : SortKind}
noncomputable def hC (h : Heap) (vs : List Value) : Heap := ((h.push (seqObj "list" #[] 0)).update h.objs.size (Obj.mapSeq (· ++ vs.toArray))).push (seqObj "list" vs.toArray 0)
end
end Srt
namespace L2
open PySem PySem.Spec PyProof.Rows
section
variable {X : Cx}
end
end L2
namespace L2
open PySem PySem.Spec PyProof.Rows
structure PEw (X : Cx) (e : Expr) (t : TE) : Prop where
 h : PE X e t
structure PAw (X : Cx) (e : List Expr) (t : TA) : Prop where
 h : PA X e t
structure PTw (X : Cx) (e : Expr) (t : TT) : Prop where
 h : PT X e t
structure PWw (X : Cx) (e : Expr) (t : TT) : Prop where
 h : PW X e t
structure PSw (X : Cx) (e : Stmt) (t : TS) : Prop where
 h : PS X e t
structure PSsw (X : Cx) (e : List Stmt) (t : TS) : Prop where
 h : PSs X e t
end L2
namespace Wr
open PySem PySem.Spec PyProof.Rows L2
end Wr
namespace L2
open PySem PySem.Spec PyProof.Rows
end L2
namespace L2
open PySem PySem.Spec PyProof.Rows
noncomputable def ltL : List Int -> List Int -> Bool
 | a :: r, b :: t => decide (a < b) && ltL r t
 | _, _ => true
noncomputable def aboveL (a b : List Int) : Bool := decide (b.length <= a.length) && ltL a b
noncomputable def prsL : List (List Int) -> Bool
 | a :: b :: r => aboveL a b && prsL (b :: r)
 | _ => true
end L2
namespace L2
open PySem PySem.Spec PyProof.Rows
end L2
namespace L2
open PySem PySem.Spec PyProof.Rows
end L2
namespace L2
open PySem PySem.Spec PyProof.Rows
end L2
namespace L2
open PySem PySem.Spec PyProof.Rows
noncomputable def Chn (ns ks : List Int) : Prop := ks.Pairwise (fun a b => b < a /\ atO ns b < atO ns a) /\ ∀ k ∈ ks, 0 <= k /\ k < ns.length
structure Pat (ns L : List Int) : Prop where
 inc : L.Pairwise (· < ·)
 up : ∀ (j : Nat) a, L[j]? = some a -> ∃ k ks, Chn ns (k :: ks) /\ ks.length = j /\ atO ns k = a
 dn : ∀ k ks, Chn ns (k :: ks) -> ∃ a, L[ks.length]? = some a /\ a <= atO ns k
end L2
namespace L2
open PySem PySem.Spec PyProof.Rows
end L2
namespace L2
open PySem PySem.Spec PyProof.Rows
noncomputable def cntL (r : List Int) (x : Int) : Nat := r.countP fun a => decide (a < x)
noncomputable def putR : List (List Int) -> Int -> List (List Int) × Nat
 | [], x => ([[x]], 0)
 | r :: R, x => if cntL r x = r.length then ((r ++ [x]) :: R, 0) else (r.set (cntL r x) x :: (putR R (r.getD (cntL r x) 0)).1, (putR R (r.getD (cntL r x) 0)).2 + 1)
noncomputable def addAt : List (List Int) -> Nat -> Int -> List (List Int)
 | [], _, p => [[p]]
 | s :: Q, 0, p => (s ++ [p]) :: Q
 | s :: Q, k + 1, p => s :: addAt Q k p
noncomputable abbrev Inc (r : List Int) : Prop := r.Pairwise (· < ·)
noncomputable def Ab (r s : List Int) : Prop := s.length <= r.length /\ ∀ j, j < s.length -> r.getD j 0 < s.getD j 0
noncomputable def hdAb (r : List Int) (R : List (List Int)) : Prop := ∀ s, R.head? = some s -> Ab r s
noncomputable def Tab : List (List Int) -> Prop
 | [] => True
 | r :: R => Inc r /\ r ≠ [] /\ hdAb r R /\ Tab R
theorem cntCons (a : Int) (t : List Int) (x : Int) : cntL (a :: t) x = cntL t x + (if a < x then 1 else 0) := by
 unfold cntL
 rw [List.countP_cons]
 simp
theorem cntLe (r : List Int) (x : Int) : cntL r x <= r.length := List.countP_le_length
theorem cntLt {x : Int} : ∀ {r : List Int}, Inc r -> ∀ {j : Nat}, j < r.length -> (r.getD j 0 < x ↔ j < cntL r x)
 | [], _, _, h => by cases h
 | a :: t, hi, j, hj => by
  obtain ⟨h1, h2⟩ := List.pairwise_cons.mp hi
  rw [cntCons]
  by_cases c : a < x
  ·rw [if_pos c]
   cases j with
   | zero => simp; exact c
   | succ j =>
    have := cntLt h2 (x := x) (j := j) (by simpa using hj)
    show t.getD j 0 < x ↔ _
    rw [this]
    (first | lia | omega)
  ·rw [if_neg c]
   have h0 : cntL t x = 0 := by
    unfold cntL
    rw [List.countP_eq_zero]
    intro b hb
    have := h1 b hb
    simp
    (first | lia | omega)
   rw [h0]
   cases j with
   | zero => simp; (first | lia | omega)
   | succ j =>
    have hj' : j < t.length := by simpa using hj
    have := h1 (t.getD j 0) (by rw [List.getD_eq_getElem?_getD, List.getElem?_eq_getElem hj']; exact List.getElem_mem hj')
    show t.getD j 0 < x ↔ _
    (first | lia | omega)
theorem incIff {r : List Int} : Inc r ↔ ∀ i j, i < j -> j < r.length -> r.getD i 0 < r.getD j 0 := by
 unfold Inc
 rw [List.pairwise_iff_getElem]
 constructor
 ·intro h i j hij hj
  have := h i j (by (first | lia | omega)) hj hij
  rw [List.getD_eq_getElem?_getD, List.getD_eq_getElem?_getD, List.getElem?_eq_getElem hj, List.getElem?_eq_getElem (by (first | lia | omega) : i < r.length)]
  exact this
 ·intro h i j hi hj hij
  have := h i j hij hj
  rw [List.getD_eq_getElem?_getD, List.getD_eq_getElem?_getD, List.getElem?_eq_getElem hj, List.getElem?_eq_getElem hi] at this
  exact this
theorem gdSet {r : List Int} {c j : Nat} {x : Int} (hc : c < r.length) : (r.set c x).getD j 0 = if j = c then x else r.getD j 0 := by
 rw [List.getD_eq_getElem?_getD, List.getD_eq_getElem?_getD]
 by_cases e : j = c
 ·rw [if_pos e, e, List.getElem?_set_self hc]
  rfl
 ·rw [if_neg e, List.getElem?_set_ne (Ne.symm e)]
theorem gdApp {r : List Int} {j : Nat} {x : Int} : (r ++ [x]).getD j 0 = if j < r.length then r.getD j 0 else if j = r.length then x else 0 := by
 rw [List.getD_eq_getElem?_getD, List.getD_eq_getElem?_getD]
 split
 ·rw [List.getElem?_append_left (by assumption)]
 ·rw [List.getElem?_append_right (by (first | lia | omega))]
  split
  ·rename_i e
   rw [e, Nat.sub_self]
   rfl
  ·rw [List.getElem?_eq_none (by simp; (first | lia | omega))]
   rfl
theorem memD {r : List Int} {j : Nat} (h : j < r.length) : r.getD j 0 ∈ r := by
 rw [List.getD_eq_getElem?_getD, List.getElem?_eq_getElem h]
 exact List.getElem_mem h
theorem cntGt {r : List Int} {x : Int} (hi : Inc r) (hx : x ∉ r) (hc : cntL r x < r.length) : x < r.getD (cntL r x) 0 := by
 have h1 := cntLt hi (x := x) hc
 have h2 := memD hc
 have h3 : r.getD (cntL r x) 0 ≠ x := fun e => hx (e ▸ h2)
 have h4 : ¬ r.getD (cntL r x) 0 < x := fun z => by have := h1.mp z; (first | lia | omega)
 (first | lia | omega)
theorem incSet {r : List Int} {x : Int} (hi : Inc r) (hx : x ∉ r) (hc : cntL r x < r.length) : Inc (r.set (cntL r x) x) := by
 rw [incIff]
 intro i j hij hj
 rw [List.length_set] at hj
 have h := incIff.mp hi i j hij hj
 rw [gdSet hc, gdSet hc]
 by_cases e1 : i = cntL r x
 ·rw [if_pos e1, if_neg (by (first | lia | omega))]
  have := cntGt hi hx hc
  rw [<- e1] at this
  (first | lia | omega)
 ·rw [if_neg e1]
  by_cases e2 : j = cntL r x
  ·rw [if_pos e2]
   exact (cntLt hi (x := x) (by (first | lia | omega))).mpr (by (first | lia | omega))
  ·rw [if_neg e2]
   exact h
theorem incApp {r : List Int} {x : Int} (hi : Inc r) (hc : cntL r x = r.length) : Inc (r ++ [x]) := by
 refine List.pairwise_append.mpr ⟨hi, List.pairwise_singleton _ _, fun a ha b hb => ?_⟩
 rw [List.mem_singleton.mp hb]
 unfold cntL at hc
 rw [List.countP_eq_length] at hc
 exact of_decide_eq_true (hc a ha)
theorem ab_app {r s : List Int} {x : Int} (h : Ab r s) : Ab (r ++ [x]) s := by
 obtain ⟨h1, h2⟩ := h
 refine ⟨by rw [List.length_append]; (first | lia | omega), fun j hj => ?_⟩
 rw [gdApp, if_pos (by (first | lia | omega))]
 exact h2 j hj
theorem put_ab {r : List Int} {R : List (List Int)} {x : Int} (hi : Inc r) (hx : x ∉ r) (hc : cntL r x < r.length) (hR : hdAb r R) (hT : Tab R) : hdAb (r.set (cntL r x) x) (putR R (r.getD (cntL r x) 0)).1 := by
 have hy := cntGt hi hx hc
 generalize hc' : cntL r x = c at *
 generalize hy' : r.getD c 0 = y at *
 intro s' hs'
 have low : ∀ j, j <= c -> (r.set c x).getD j 0 < y := fun j hj => by
  rw [gdSet hc]
  by_cases e : j = c
  ·rw [if_pos e]; exact hy
  ·rw [if_neg e, <- hy']
   exact incIff.mp hi j c (by (first | lia | omega)) hc
 have leq : ∀ j, (r.set c x).getD j 0 <= r.getD j 0 := fun j => by
  rw [gdSet hc]
  by_cases e : j = c
  ·rw [if_pos e, e, hy']; (first | lia | omega)
  ·rw [if_neg e]; exact Int.le_refl _
 cases R with
 | nil =>
  cases hs'
  refine ⟨by rw [List.length_set]; show 1 <= _; (first | lia | omega), fun j hj => ?_⟩
  have : j = 0 := by simp at hj; exact hj
  subst this
  exact low 0 (Nat.zero_le _)
 | cons s R =>
  obtain ⟨ab1, ab2⟩ := hR s rfl
  have hsI : Inc s := hT.1
  have hle : cntL s y <= c := by
   refine Nat.not_lt.mp fun z => ?_
   have hcs : c < s.length := Nat.lt_of_lt_of_le z (cntLe s y)
   have h1 := (cntLt hsI (x := y) hcs).mpr z
   have h2 := ab2 c hcs
   rw [hy'] at h2
   (first | lia | omega)
  unfold putR at hs'
  by_cases e : cntL s y = s.length
  ·rw [if_pos e] at hs'
   cases hs'
   refine ⟨by rw [List.length_append, List.length_set]; show _ + 1 <= _; (first | lia | omega), fun j hj => ?_⟩
   rw [List.length_append] at hj
   have hj : j < s.length + 1 := hj
   rw [gdApp]
   by_cases e2 : j < s.length
   ·rw [if_pos e2]
    have := leq j
    have := ab2 j e2
    (first | lia | omega)
   ·rw [if_neg e2, if_pos (by (first | lia | omega))]
    exact low j (by (first | lia | omega))
  ·rw [if_neg e] at hs'
   cases hs'
   have hcs : cntL s y < s.length := by have := cntLe s y; (first | lia | omega)
   refine ⟨by rw [List.length_set, List.length_set]; exact ab1, fun j hj => ?_⟩
   rw [List.length_set] at hj
   rw [gdSet (r := s) hcs]
   by_cases e2 : j = cntL s y
   ·rw [if_pos e2]
    exact low j (by (first | lia | omega))
   ·rw [if_neg e2]
    have := leq j
    have := ab2 j hj
    (first | lia | omega)
theorem setPerm {r : List Int} {c : Nat} {x : Int} (hc : c < r.length) : (r.getD c 0 :: r.set c x).Perm (x :: r) := by
 have e : r.getD c 0 = r[c] := by rw [List.getD_eq_getElem?_getD, List.getElem?_eq_getElem hc]; rfl
 rw [e, List.set_eq_take_append_cons_drop, if_pos hc]
 have e2 : r = r.take c ++ r[c] :: r.drop (c + 1) := by
  rw [<- List.drop_eq_getElem_cons hc, List.take_append_drop]
 refine (List.Perm.cons _ List.perm_middle).trans ?_
 refine (List.Perm.swap _ _ _).trans (List.Perm.cons _ ?_)
 conv => rhs; rw [e2]
 exact List.perm_middle.symm
theorem put_tab : ∀ (R : List (List Int)) (x : Int), Tab R -> R.flatten.Nodup -> x ∉ R.flatten -> Tab (putR R x).1 /\ (putR R x).1.flatten.Perm (x :: R.flatten)
 | [], x, _, _, _ => ⟨⟨List.pairwise_singleton _ _, by simp, (fun s h => by cases h), trivial⟩, .refl _⟩
 | r :: R, x, hT, nd, hx => by
  obtain ⟨hi, hne, hA, hTR⟩ := hT
  rw [List.flatten_cons] at nd hx
  have hxr : x ∉ r := fun z => hx (List.mem_append_left _ z)
  have nd' := List.nodup_append.mp nd
  unfold putR
  by_cases e : cntL r x = r.length
  ·rw [if_pos e]
   refine ⟨⟨incApp hi e, by simp, fun s hs => ab_app (hA s hs), hTR⟩, ?_⟩
   rw [List.flatten_cons, List.flatten_cons, List.append_assoc]
   exact List.perm_middle
  ·rw [if_neg e]
   have hc : cntL r x < r.length := by have := cntLe r x; (first | lia | omega)
   have hyr := memD hc
   have hyF : r.getD (cntL r x) 0 ∉ R.flatten := fun z => nd'.2.2 _ hyr _ z rfl
   obtain ⟨i1, i2⟩ := put_tab R (r.getD (cntL r x) 0) hTR nd'.2.1 hyF
   refine ⟨⟨incSet hi hxr hc, ?_, put_ab hi hxr hc hA hTR, i1⟩, ?_⟩
   ·intro z
    have := congrArg List.length z
    rw [List.length_set] at this
    simp at this
    exact hne this
   ·rw [List.flatten_cons, List.flatten_cons]
    refine (List.Perm.append_left _ i2).trans ?_
    refine List.perm_middle.trans ?_
    show ((r.getD (cntL r x) 0 :: r.set (cntL r x) x) ++ R.flatten).Perm ((x :: r) ++ R.flatten)
    exact (setPerm hc).append_right _
theorem put_len : ∀ (R : List (List Int)) (x : Int), (putR R x).1.map List.length = (addAt R (putR R x).2 0).map List.length /\ (putR R x).2 <= R.length
 | [], x => ⟨rfl, Nat.le_refl _⟩
 | r :: R, x => by
  obtain ⟨h1, h2⟩ := put_len R (r.getD (cntL r x) 0)
  unfold putR
  split
  ·exact ⟨by simp [addAt], Nat.zero_le _⟩
  ·refine ⟨?_, by simp only [List.length_cons]; (first | lia | omega)⟩
   show List.map List.length (_ :: _) = List.map List.length (r :: addAt R _ 0)
   rw [List.map_cons, List.map_cons, h1, List.length_set]
theorem add_len : ∀ (Q P : List (List Int)) (k : Nat) (p q : Int), Q.map List.length = P.map List.length -> (addAt Q k p).map List.length = (addAt P k q).map List.length
 | [], [], _, _, _, _ => rfl
 | [], _ :: _, _, _, _, h => by cases h
 | _ :: _, [], _, _, _, h => by cases h
 | s :: Q, r :: P, 0, p, q, h => by
  rw [List.map_cons, List.map_cons] at h
  injection h with h1 h2
  show List.map List.length ((s ++ [p]) :: Q) = List.map List.length ((r ++ [q]) :: P)
  rw [List.map_cons, List.map_cons, h2, List.length_append, List.length_append, h1]
  rfl
 | s :: Q, r :: P, k + 1, p, q, h => by
  rw [List.map_cons, List.map_cons] at h
  injection h with h1 h2
  show List.map List.length (s :: addAt Q k p) = List.map List.length (r :: addAt P k q)
  rw [List.map_cons, List.map_cons, h1, add_len Q P k p q h2]
theorem add_perm : ∀ (Q : List (List Int)) (k : Nat) (p : Int), k <= Q.length -> (addAt Q k p).flatten.Perm (p :: Q.flatten)
 | [], _, p, _ => .refl _
 | s :: Q, 0, p, _ => by
  show ((s ++ [p]) ++ Q.flatten).Perm (p :: (s ++ Q.flatten))
  rw [List.append_assoc]
  exact List.perm_middle
 | s :: Q, k + 1, p, h => by
  show (s ++ (addAt Q k p).flatten).Perm (p :: (s ++ Q.flatten))
  refine (List.Perm.append_left _ (add_perm Q k p (by simpa using h))).trans ?_
  exact List.perm_middle
theorem add_tab : ∀ (Q P : List (List Int)) (k : Nat) (p : Int), Tab Q -> (∀ y ∈ Q.flatten, y < p) -> Tab P -> (addAt Q k p).map List.length = P.map List.length -> Tab (addAt Q k p)
 | [], _, _, p, _, _, _, _ => ⟨List.pairwise_singleton _ _, by simp, (fun s h => by cases h), trivial⟩
 | s :: Q, P, 0, p, hT, hp, _, _ => by
  obtain ⟨hi, hne, hA, hTQ⟩ := hT
  refine ⟨List.pairwise_append.mpr ⟨hi, List.pairwise_singleton _ _, fun a ha b hb => ?_⟩, by simp, fun s hs => ab_app (hA s hs), hTQ⟩
  rw [List.mem_singleton.mp hb]
  exact hp a (by rw [List.flatten_cons]; exact List.mem_append_left _ ha)
 | s :: Q, P, k + 1, p, hT, hp, hP, hl => by
  obtain ⟨hi, hne, hA, hTQ⟩ := hT
  have hpQ : ∀ y ∈ Q.flatten, y < p := fun y hy => hp y (by rw [List.flatten_cons]; exact List.mem_append_right _ hy)
  have hps : ∀ y ∈ s, y < p := fun y hy => hp y (by rw [List.flatten_cons]; exact List.mem_append_left _ hy)
  have hl' : List.map List.length (s :: addAt Q k p) = P.map List.length := hl
  cases P with
  | nil => cases hl'
  | cons r P =>
   rw [List.map_cons, List.map_cons] at hl'
   injection hl' with l1 l2
   obtain ⟨_, _, pA, pT⟩ := hP
   have ih := add_tab Q P k p hTQ hpQ pT l2
   refine ⟨hi, hne, fun s' hs' => ?_, ih⟩
   have hlen : s'.length <= s.length := by
    cases P with
    | nil =>
     rw [List.map_nil] at l2
     have := List.map_eq_nil_iff.mp l2
     rw [this] at hs'
     cases hs'
    | cons r2 P =>
     have h1 := (pA r2 rfl).1
     cases hq : addAt Q k p with
     | nil => rw [hq] at hs'; cases hs'
     | cons a b =>
      rw [hq] at hs' l2
      cases hs'
      rw [List.map_cons, List.map_cons] at l2
      injection l2 with l3 l4
      (first | lia | omega)
   refine ⟨hlen, fun j hj => ?_⟩
   cases Q with
   | nil =>
    cases hs'
    have hj0 : j = 0 := by simp at hj; exact hj
    subst hj0
    exact hps _ (memD (by simp at hlen; (first | lia | omega)))
   | cons s2 Q =>
    cases k with
    | zero =>
     cases hs'
     rw [gdApp]
     by_cases e : j < s2.length
     ·rw [if_pos e]
      exact (hA s2 rfl).2 j e
     ·rw [List.length_append] at hj
      have hj : j < s2.length + 1 := hj
      rw [if_neg e, if_pos (by (first | lia | omega))]
      exact hps _ (memD (by rw [List.length_append] at hlen; have hlen : s2.length + 1 <= s.length := hlen; (first | lia | omega)))
    | succ k =>
     have e : s' = s2 := (Option.some.inj hs').symm
     subst e
     exact (hA _ rfl).2 j hj
end L2
namespace L2
open PySem PySem.Spec PyProof.Rows
noncomputable def Dc (l : List Int) (k : Nat) : Prop := ∃ s : List Int, s.Sublist l /\ s.Pairwise (fun a b => b < a) /\ s.length = k
noncomputable def KE (l l' : List Int) : Prop := ∀ a b k, Dc (a ++ l ++ b) k ↔ Dc (a ++ l' ++ b) k
theorem KE.refl (l : List Int) : KE l l := fun _ _ _ => Iff.rfl
theorem KE.symm {l l' : List Int} (h : KE l l') : KE l' l := fun a b k => (h a b k).symm
theorem KE.trans {l l' l'' : List Int} (h : KE l l') (h' : KE l' l'') : KE l l'' := fun a b k => (h a b k).trans (h' a b k)
theorem KE.ctx {l l' : List Int} (u v : List Int) (h : KE l l') : KE (u ++ l ++ v) (u ++ l' ++ v) := fun a b k => by
 have := h (a ++ u) (v ++ b) k
 simpa [List.append_assoc] using this
theorem KE.cons {l l' : List Int} (x : Int) (h : KE l l') : KE (x :: l) (x :: l') := by
 have := KE.ctx [x] [] h
 simpa using this
theorem KE.app {l l' : List Int} (v : List Int) (h : KE l l') : KE (l ++ v) (l' ++ v) := by
 have := KE.ctx [] v h
 simpa using this
theorem KE.pre {l l' : List Int} (u : List Int) (h : KE l l') : KE (u ++ l) (u ++ l') := by
 have := KE.ctx u [] h
 simpa using this
theorem dc_of {a b l' s1 s2 s3 t2 : List Int} (h1 : s1.Sublist a) (h3 : s3.Sublist b) (hp : (s1 ++ s2 ++ s3).Pairwise fun a b => b < a) (ht : t2.Sublist l') (hpt : t2.Pairwise fun a b => b < a) (hlen : t2.length = s2.length) (hle : ∀ v ∈ t2, (∃ u ∈ s2, v <= u) /\ ∃ u ∈ s2, u <= v) : Dc (a ++ l' ++ b) (s1 ++ s2 ++ s3).length := by
 refine ⟨s1 ++ t2 ++ s3, (h1.append ht).append h3, ?_, by simp [hlen]⟩
 rw [List.append_assoc] at hp ⊢
 obtain ⟨p1, p2, p3⟩ := List.pairwise_append.mp hp
 obtain ⟨q1, q2, q3⟩ := List.pairwise_append.mp p2
 refine List.pairwise_append.mpr ⟨p1, List.pairwise_append.mpr ⟨hpt, q2, fun x hx y hy => ?_⟩, fun x hx y hy => ?_⟩
 ·obtain ⟨_, u, hu, huv⟩ := hle x hx
  have := q3 u hu y hy
  (first | lia | omega)
 ·rcases List.mem_append.mp hy with hy | hy
  ·obtain ⟨⟨u, hu, huv⟩, _⟩ := hle y hy
   have := p3 x hx u (List.mem_append_left _ hu)
   (first | lia | omega)
  ·exact p3 x hx y (List.mem_append_right _ hy)
theorem dc_mid {l l' : List Int} (h : ∀ s2 : List Int, s2.Sublist l -> s2.Pairwise (fun a b => b < a) -> ∃ t2 : List Int, t2.Sublist l' /\ t2.Pairwise (fun a b => b < a) /\ t2.length = s2.length /\ ∀ v ∈ t2, (∃ u ∈ s2, v <= u) /\ ∃ u ∈ s2, u <= v) {a b : List Int} {k : Nat} (hd : Dc (a ++ l ++ b) k) : Dc (a ++ l' ++ b) k := by
 obtain ⟨s, hs, hp, rfl⟩ := hd
 obtain ⟨s12, s3, rfl, h12, h3⟩ := List.sublist_append_iff.mp hs
 obtain ⟨s1, s2, rfl, h1, h2⟩ := List.sublist_append_iff.mp h12
 have hp2 : s2.Pairwise fun a b => b < a := (List.pairwise_append.mp (List.pairwise_append.mp hp).1).2.1
 obtain ⟨t2, ht, hpt, hl, hle⟩ := h s2 h2 hp2
 exact dc_of h1 h3 hp ht hpt hl hle
theorem selfLe (s : List Int) : ∀ v ∈ s, (∃ u ∈ s, v <= u) /\ ∃ u ∈ s, u <= v := fun v hv => ⟨⟨v, hv, Int.le_refl _⟩, ⟨v, hv, Int.le_refl _⟩⟩
theorem subl3 {p q r : Int} {s : List Int} (h : s.Sublist [p, q, r]) : s = [] ∨ s = [p] ∨ s = [q] ∨ s = [r] ∨ s = [p, q] ∨ s = [p, r] ∨ s = [q, r] ∨ s = [p, q, r] := by
 cases h with
 | cons _ h =>
  cases h with
  | cons _ h =>
   cases h with
   | cons _ h => cases h; simp
   | cons_cons _ h => cases h; simp
  | cons_cons _ h =>
   cases h with
   | cons _ h => cases h; simp
   | cons_cons _ h => cases h; simp
 | cons_cons _ h =>
  cases h with
  | cons _ h =>
   cases h with
   | cons _ h => cases h; simp
   | cons_cons _ h => cases h; simp
  | cons_cons _ h =>
   cases h with
   | cons _ h => cases h; simp
   | cons_cons _ h => cases h; simp
theorem knuth1 {x y z : Int} (h1 : x < y) (h2 : y < z) : KE [y, x, z] [y, z, x] := fun a b k => by
 constructor
 ·refine dc_mid fun s hs hp => ?_
  rcases subl3 hs with rfl | rfl | rfl | rfl | rfl | rfl | rfl | rfl
  ·exact ⟨[], by simp, hp, rfl, selfLe _⟩
  ·exact ⟨[y], by simp, hp, rfl, selfLe _⟩
  ·exact ⟨[x], by simp, hp, rfl, selfLe _⟩
  ·exact ⟨[z], by simp, hp, rfl, selfLe _⟩
  ·exact ⟨[y, x], by simp, hp, rfl, selfLe _⟩
  ·simp at hp; (first | lia | omega)
  ·simp at hp; (first | lia | omega)
  ·simp at hp; (first | lia | omega)
 ·refine dc_mid fun s hs hp => ?_
  rcases subl3 hs with rfl | rfl | rfl | rfl | rfl | rfl | rfl | rfl
  ·exact ⟨[], by simp, hp, rfl, selfLe _⟩
  ·exact ⟨[y], by simp, hp, rfl, selfLe _⟩
  ·exact ⟨[z], by simp, hp, rfl, selfLe _⟩
  ·exact ⟨[x], by simp, hp, rfl, selfLe _⟩
  ·simp at hp; (first | lia | omega)
  ·exact ⟨[y, x], by simp, hp, rfl, selfLe _⟩
  ·refine ⟨[y, x], by simp, by simp; (first | lia | omega), rfl, fun v hv => ?_⟩
   rcases List.mem_cons.mp hv with rfl | hv
   ·exact ⟨⟨z, by simp, by (first | lia | omega)⟩, ⟨x, by simp, by (first | lia | omega)⟩⟩
   ·rw [List.mem_singleton.mp hv]
    exact ⟨⟨z, by simp, by (first | lia | omega)⟩, ⟨x, by simp, Int.le_refl _⟩⟩
  ·simp at hp; (first | lia | omega)
theorem knuth2 {x y z : Int} (h1 : x < y) (h2 : y < z) : KE [x, z, y] [z, x, y] := fun a b k => by
 constructor
 ·refine dc_mid fun s hs hp => ?_
  rcases subl3 hs with rfl | rfl | rfl | rfl | rfl | rfl | rfl | rfl
  ·exact ⟨[], by simp, hp, rfl, selfLe _⟩
  ·exact ⟨[x], by simp, hp, rfl, selfLe _⟩
  ·exact ⟨[z], by simp, hp, rfl, selfLe _⟩
  ·exact ⟨[y], by simp, hp, rfl, selfLe _⟩
  ·simp at hp; (first | lia | omega)
  ·simp at hp; (first | lia | omega)
  ·exact ⟨[z, y], by simp, hp, rfl, selfLe _⟩
  ·simp at hp; (first | lia | omega)
 ·refine dc_mid fun s hs hp => ?_
  rcases subl3 hs with rfl | rfl | rfl | rfl | rfl | rfl | rfl | rfl
  ·exact ⟨[], by simp, hp, rfl, selfLe _⟩
  ·exact ⟨[z], by simp, hp, rfl, selfLe _⟩
  ·exact ⟨[x], by simp, hp, rfl, selfLe _⟩
  ·exact ⟨[y], by simp, hp, rfl, selfLe _⟩
  ·refine ⟨[z, y], by simp, by simp; (first | lia | omega), rfl, fun v hv => ?_⟩
   rcases List.mem_cons.mp hv with rfl | hv
   ·exact ⟨⟨v, by simp, Int.le_refl _⟩, ⟨x, by simp, by (first | lia | omega)⟩⟩
   ·rw [List.mem_singleton.mp hv]
    exact ⟨⟨z, by simp, by (first | lia | omega)⟩, ⟨x, by simp, by (first | lia | omega)⟩⟩
  ·exact ⟨[z, y], by simp, hp, rfl, selfLe _⟩
  ·simp at hp; (first | lia | omega)
  ·simp at hp; (first | lia | omega)
theorem ke_right {x : Int} : ∀ (y : Int) (v : List Int), Inc (y :: v) -> x < y -> KE (y :: v ++ [x]) (y :: x :: v)
 | _, [], _, _ => KE.refl _
 | y, z :: v, hi, hx => by
  obtain ⟨h1, h2⟩ := List.pairwise_cons.mp hi
  have hyz := h1 z List.mem_cons_self
  have ih := ke_right (x := x) z v h2 (by (first | lia | omega))
  refine (KE.cons y ih).trans ?_
  have := KE.app v (knuth1 hx hyz)
  exact this.symm
theorem ke_left {x y : Int} : ∀ (u : List Int), Inc (u ++ [x]) -> x < y -> KE (u ++ [y, x]) (y :: (u ++ [x]))
 | [], _, _ => KE.refl _
 | a :: u, hi, hx => by
  obtain ⟨h1, h2⟩ := List.pairwise_cons.mp hi
  have ih := ke_left u h2 hx
  refine (KE.cons a ih).trans ?_
  cases hb : u ++ [x] with
  | nil => simp at hb
  | cons b w =>
   have hab : a < b := h1 b (by show b ∈ u ++ [x]; rw [hb]; exact List.mem_cons_self)
   have hby : b < y := by
    have hbm : b ∈ u ++ [x] := by rw [hb]; exact List.mem_cons_self
    rcases List.mem_append.mp hbm with z | z
    ·have := (List.pairwise_append.mp h2).2.2 b z x (by simp)
     (first | lia | omega)
    ·rw [List.mem_singleton.mp z]
     exact hx
   have := KE.app w (knuth2 hab hby)
   show KE (a :: y :: b :: w) (y :: (a :: u ++ [x]))
   rw [List.cons_append, hb]
   exact this
theorem ke_row {r : List Int} {x : Int} (hi : Inc r) (hx : x ∉ r) (hc : cntL r x < r.length) : KE (r ++ [x]) (r.getD (cntL r x) 0 :: r.set (cntL r x) x) := by
 have hi' := incSet hi hx hc
 have hy := cntGt hi hx hc
 have e : r.getD (cntL r x) 0 = r[cntL r x] := by rw [List.getD_eq_getElem?_getD, List.getElem?_eq_getElem hc]; rfl
 rw [e] at hy ⊢
 rw [List.set_eq_take_append_cons_drop, if_pos hc] at hi' ⊢
 have e2 : r = r.take (cntL r x) ++ r[cntL r x] :: r.drop (cntL r x + 1) := by
  rw [<- List.drop_eq_getElem_cons hc, List.take_append_drop]
 generalize r.take (cntL r x) = u at *
 generalize r.drop (cntL r x + 1) = v at *
 generalize r[cntL r x] = y at *
 rw [e2]
 rw [e2] at hi
 have h1 := ke_right (x := x) y v ((List.pairwise_append.mp hi).2.1) hy
 have h2 : KE (u ++ (y :: v ++ [x])) (u ++ (y :: x :: v)) := KE.pre u h1
 have hux : Inc (u ++ [x]) := hi'.sublist (by
  have : u ++ x :: v = (u ++ [x]) ++ v := by simp
  rw [this]
  exact List.sublist_append_left _ _)
 have h3 := KE.app v (ke_left u hux hy)
 have h2' : KE (u ++ y :: v ++ [x]) (u ++ [y, x] ++ v) := by simpa using h2
 refine h2'.trans ?_
 simpa using h3
noncomputable def rdW : List (List Int) -> List Int
 | [] => []
 | r :: R => rdW R ++ r
theorem ke_put : ∀ (R : List (List Int)) (x : Int), Tab R -> R.flatten.Nodup -> x ∉ R.flatten -> KE (rdW R ++ [x]) (rdW (putR R x).1)
 | [], x, _, _, _ => KE.refl _
 | r :: R, x, hT, nd, hx => by
  obtain ⟨hi, hne, hA, hTR⟩ := hT
  rw [List.flatten_cons] at nd hx
  have hxr : x ∉ r := fun z => hx (List.mem_append_left _ z)
  have nd' := List.nodup_append.mp nd
  unfold putR
  by_cases e : cntL r x = r.length
  ·rw [if_pos e]
   show KE (rdW R ++ r ++ [x]) (rdW R ++ (r ++ [x]))
   rw [List.append_assoc]
   exact KE.refl _
  ·rw [if_neg e]
   have hc : cntL r x < r.length := by have := cntLe r x; (first | lia | omega)
   have hyr := memD hc
   have hyF : r.getD (cntL r x) 0 ∉ R.flatten := fun z => nd'.2.2 _ hyr _ z rfl
   have ih := ke_put R (r.getD (cntL r x) 0) hTR nd'.2.1 hyF
   show KE (rdW R ++ r ++ [x]) (rdW (putR R (r.getD (cntL r x) 0)).1 ++ r.set (cntL r x) x)
   rw [List.append_assoc]
   refine (KE.pre _ (ke_row hi hxr hc)).trans ?_
   have := KE.app (r.set (cntL r x) x) ih
   simpa using this
end L2
namespace L2
open PySem PySem.Spec PyProof.Rows
noncomputable def tabI (ns : List Int) : Nat -> List (List Int) × List (List Int)
 | 0 => ([], [])
 | i + 1 => ((putR (tabI ns i).1 (atO ns i)).1, addAt (tabI ns i).2 (putR (tabI ns i).1 (atO ns i)).2 i)
structure TabsI (ns : List Int) (i : Nat) : Prop where
 tp : Tab (tabI ns i).1
 pp : (tabI ns i).1.flatten.Perm (ns.take i)
 ke : KE (ns.take i) (rdW (tabI ns i).1)
 hd : (tabI ns i).1.headD [] = patsO (ns.take i)
 tq : Tab (tabI ns i).2
 qp : (tabI ns i).2.flatten.Perm (num0 i)
 ln : (tabI ns i).2.map List.length = (tabI ns i).1.map List.length
theorem put_hd (R : List (List Int)) (x : Int) : (putR R x).1.headD [] = patO (R.headD []) x := by
 cases R with
 | nil => rfl
 | cons r R =>
  unfold putR patO
  show (if cntL r x = r.length then _ else _ : List (List Int) × Nat).1.headD [] = if cntL r x = r.length then _ else _
  split <;> rfl
theorem tabs_all {m : Nat} {ns : List Int} (ho : Ord m ns) : ∀ i, i <= m -> TabsI ns i
 | 0, _ => ⟨trivial, .refl _, KE.refl _, rfl, trivial, .refl _, rfl⟩
 | i + 1, hi => by
  have T := tabs_all ho i (by (first | lia | omega))
  have ln := ho.len
  have hil : i < ns.length := by (first | lia | omega)
  have nd := ho.nodup
  have hx : ns[i]? = some (atO ns i) := by rw [List.getElem?_eq_getElem hil, atO_get hil]
  have htk : ns.take (i + 1) = ns.take i ++ [atO ns i] := by rw [List.take_succ, hx]; rfl
  have ndt : (ns.take (i + 1)).Nodup := nd.sublist (List.take_sublist _ _)
  rw [htk, List.nodup_append] at ndt
  have ndF : (tabI ns i).1.flatten.Nodup := T.pp.nodup_iff.mpr ndt.1
  have hxF : atO ns i ∉ (tabI ns i).1.flatten := fun z => ndt.2.2 _ (T.pp.mem_iff.mp z) _ (by simp) rfl
  obtain ⟨t1, t2⟩ := put_tab _ _ T.tp ndF hxF
  obtain ⟨l1, l2⟩ := put_len (tabI ns i).1 (atO ns i)
  have hlen : (tabI ns i).2.length = (tabI ns i).1.length := by
   have := congrArg List.length T.ln
   simpa using this
  have al : (addAt (tabI ns i).2 (putR (tabI ns i).1 (atO ns i)).2 i).map List.length = (putR (tabI ns i).1 (atO ns i)).1.map List.length := by
   rw [l1]
   exact add_len _ _ _ _ _ T.ln
  have hbelow : ∀ y ∈ (tabI ns i).2.flatten, y < (i : Int) := fun y hy => (num0_mem (T.qp.mem_iff.mp hy)).2
  refine ⟨t1, ?_, ?_, ?_, add_tab _ _ _ _ T.tq hbelow t1 al, ?_, al⟩
  ·rw [htk]
   refine t2.trans ?_
   refine (List.Perm.cons _ T.pp).trans ?_
   exact (List.perm_append_comm (l₁ := [atO ns i]) (l₂ := ns.take i))
  ·rw [htk]
   exact (KE.app _ T.ke).trans (ke_put _ _ T.tp ndF hxF)
  ·rw [htk, pats_snoc, <- T.hd]
   exact put_hd _ _
  ·refine (add_perm _ _ _ (by (first | lia | omega))).trans ?_
   refine (List.Perm.cons _ T.qp).trans ?_
   have e : num0 (i + 1) = num0 i ++ [(i : Int)] := by
    unfold num0
    rw [List.range_succ, List.map_append]
    rfl
   rw [e]
   exact (List.perm_append_comm (l₁ := [(i : Int)]) (l₂ := num0 i))
noncomputable def tupI (l : List Int) : PyData := .tuple (l.map PyData.int)
theorem tabRowsI : ∀ {R : List (List Int)}, Tab R -> ∀ r ∈ R, Inc r /\ r ≠ []
 | [], _, _, h => by cases h
 | a :: R, hT, r, hr => by
  obtain ⟨h1, h2, _, h4⟩ := hT
  rcases List.mem_cons.mp hr with rfl | hr
  ·exact ⟨h1, h2⟩
  ·exact tabRowsI h4 r hr
end L2
namespace L2
open PySem PySem.Spec PyProof.Rows
theorem flat_ge : ∀ {R : List (List Int)}, (∀ r ∈ R, r ≠ []) -> R.length <= R.flatten.length
 | [], _ => Nat.le_refl _
 | r :: R, h => by
  have h1 := List.length_pos_iff.mpr (h r List.mem_cons_self)
  have h2 := flat_ge fun r hr => h r (List.mem_cons_of_mem _ hr)
  rw [List.flatten_cons, List.length_append, List.length_cons]
  (first | lia | omega)
theorem tabs_bnd {ns : List Int} {i : Nat} (T : TabsI ns i) (hi : i <= 60) : (tabI ns i).1.length <= 60 /\ (tabI ns i).2.length <= 60 /\ (∀ r ∈ (tabI ns i).1, r.length <= 60) /\ (∀ r ∈ (tabI ns i).2, r.length <= 60) := by
 have f1 : (tabI ns i).1.flatten.length <= 60 := by
  rw [T.pp.length_eq, List.length_take]
  (first | lia | omega)
 have f2 : (tabI ns i).2.flatten.length <= 60 := by
  rw [T.qp.length_eq, num0_len']
  exact hi
 have g1 := flat_ge fun r hr => (tabRowsI T.tp r hr).2
 have g2 := flat_ge fun r hr => (tabRowsI T.tq r hr).2
 exact ⟨by (first | lia | omega), by (first | lia | omega), fun r hr => Nat.le_trans (List.sublist_flatten_of_mem hr).length_le f1, fun r hr => Nat.le_trans (List.sublist_flatten_of_mem hr).length_le f2⟩
end L2
namespace L2
open PySem PySem.Spec PyProof.Rows
theorem call_tupK {X : Cx} (K : PySem.W.Frag) (hK : X.K = K) : CallR X (.type "tuple") (fun xs H Q => ∃ p ys, xs = [.ref p] /\ ((SqL K H p ys /\ ∀ l, H l = none -> Q (.ref l) (upd H l (.tup ys))) ∨ (SqT K H p ys /\ Q (.ref p) H))) := hK ▸ call_tuple_of
noncomputable abbrev LsAt (H : Hp) (zs : List Addr) (F : List (List Int)) : Prop := Paired (fun z (f : List Int) => H z = some (.lst (f.map V.int))) zs F
theorem prd_get {α β : Type} {R : α -> β -> Prop} : ∀ {l : List α} {m : List β}, Paired R l m -> ∀ {i : Nat} {z : α}, l[i]? = some z -> ∃ r, m[i]? = some r /\ R z r
 | _, _, .nil, i, z, h => by simp at h
 | _, _, .cons r t, i, z, h => by
  cases i with
  | zero =>
   cases h
   exact ⟨_, rfl, r⟩
  | succ i => exact prd_get t h
theorem LsAt.setAt {H : Hp} : ∀ {zs : List Addr} {F : List (List Int)} {c : Nat} {z : Addr} {f : List Int}, LsAt H zs F -> zs.Nodup -> zs[c]? = some z -> LsAt (upd H z (.lst (f.map V.int))) zs (F.set c f)
 | _, _, _, _, _, .nil, _, h => by simp at h
 | _ :: zs, _, c, z, f, .cons (a := y) (b := g) r t, nd, h => by
  obtain ⟨n1, n2⟩ := List.nodup_cons.mp nd
  cases c with
  | zero =>
   have : y = z := by simpa using h
   subst this
   refine .cons upd_same ?_
   have : ∀ {ys : List Addr} {G : List (List Int)}, LsAt H ys G -> y ∉ ys -> LsAt (upd H y (.lst (f.map V.int))) ys G := by
    intro ys G hh
    induction hh with
    | nil => exact fun _ => .nil
    | cons r' _ ih =>
     intro hn
     refine .cons ?_ (ih fun z => hn (List.mem_cons_of_mem _ z))
     rw [upd_ne (fun z => hn (by rw [z]; exact List.mem_cons_self))]
     exact r'
   exact this t n1
  | succ c =>
   have hz : zs[c]? = some z := by simpa using h
   refine .cons ?_ (LsAt.setAt t n2 hz)
   rw [upd_ne (fun e => n1 (by rw [e]; exact List.mem_of_getElem? hz))]
   exact r
theorem LsAt.off {H : Hp} {z : Addr} {o : HO} : ∀ {ys : List Addr} {G : List (List Int)}, LsAt H ys G -> z ∉ ys -> LsAt (upd H z o) ys G
 | _, _, .nil, _ => .nil
 | _, _, .cons r t, hn => by
  refine .cons ?_ (LsAt.off t fun h => hn (List.mem_cons_of_mem _ h))
  rw [upd_ne (fun e => hn (by rw [e]; exact List.mem_cons_self))]
  exact r
theorem LsAt.same {H H' : Hp} {zs : List Addr} {F : List (List Int)} (h : LsAt H zs F) (s : Same H H') : LsAt H' zs F := Paired.mapP h fun _ _ e => s _ _ e
noncomputable def RTup (H0 : Hp) (x v : V) (H : Hp) : Prop := ∃ (z t : Addr) (f : List Int), x = .ref z /\ v = .ref t /\ H0 z = some (.lst (f.map V.int)) /\ H t = some (.tup (f.map V.int))
theorem rtup_rows {H0 H : Hp} : ∀ {zs : List Addr} {F : List (List Int)} {ys : List V}, LsAt H0 zs F -> Paired (fun x v => RTup H0 x v H) (zs.map V.ref) ys -> ∃ ts : List Addr, ys = ts.map V.ref /\ RowsAt H ts F
 | _, _, _, .nil, .nil => ⟨[], rfl, .nil⟩
 | _, _, _, .cons r t, .cons q u => by
  obtain ⟨z, t', f, e1, e2, e3, e4⟩ := q
  obtain ⟨ts, g1, g2⟩ := rtup_rows t u
  cases e1
  rw [r] at e3
  have := ints_inj (HO.lst.inj (Option.some.inj e3))
  subst this
  exact ⟨t' :: ts, by rw [e2, g1]; rfl, .cons e4 g2⟩
noncomputable def Bmp (R : List (List Int)) (x : Int) (i : Nat) (R1 : List (List Int)) (y : Int) : Prop := R1.length = i /\ putR R x = (R1 ++ (putR (R.drop i) y).1, i + (putR (R.drop i) y).2)
theorem bmp_0 (R : List (List Int)) (x : Int) : Bmp R x 0 [] x := ⟨rfl, by simp⟩
theorem drop_at {R : List (List Int)} {i : Nat} {r : List Int} (h : R[i]? = some r) : R.drop i = r :: R.drop (i + 1) := by
 obtain ⟨hl, e⟩ := List.getElem?_eq_some_iff.mp h
 rw [List.drop_eq_getElem_cons hl, e]
theorem Bmp.step {R R1 : List (List Int)} {x y : Int} {i : Nat} {r : List Int} (h : Bmp R x i R1 y) (hr : R[i]? = some r) (hc : ¬ cntL r y = r.length) : Bmp R x (i + 1) (R1 ++ [r.set (cntL r y) y]) (r.getD (cntL r y) 0) := by
 obtain ⟨h1, h2⟩ := h
 refine ⟨by rw [List.length_append, h1]; rfl, ?_⟩
 rw [h2, drop_at hr]
 show (R1 ++ (if cntL r y = r.length then _ else _ : List (List Int) × Nat).1, i + (if cntL r y = r.length then _ else _ : List (List Int) × Nat).2) = _
 rw [if_neg hc]
 refine Prod.ext ?_ ?_
 ·simp
 ·show i + (_ + 1) = i + 1 + _
  (first | lia | omega)
theorem Bmp.fin {R R1 : List (List Int)} {x y : Int} {i : Nat} {r : List Int} (h : Bmp R x i R1 y) (hr : R[i]? = some r) (hc : cntL r y = r.length) : putR R x = (R1 ++ (r ++ [y]) :: R.drop (i + 1), i) := by
 obtain ⟨h1, h2⟩ := h
 rw [h2, drop_at hr]
 show (R1 ++ (if cntL r y = r.length then _ else _ : List (List Int) × Nat).1, i + (if cntL r y = r.length then _ else _ : List (List Int) × Nat).2) = _
 rw [if_pos hc]
 rfl
theorem Bmp.last {R R1 : List (List Int)} {x y : Int} (h : Bmp R x R.length R1 y) : putR R x = (R1 ++ [[y]], R.length) := by
 obtain ⟨h1, h2⟩ := h
 rw [h2, List.drop_length]
 rfl
noncomputable def Frm (H G : Hp) (p : Addr) (zs : List Addr) : Prop := ∀ b o, H b = some o -> b ≠ p -> b ∉ zs -> G b = some o
theorem Frm.same {H G G' : Hp} {p : Addr} {zs : List Addr} (h : Frm H G p zs) (s : Same G G') : Frm H G' p zs := fun b o e h1 h2 => s _ _ (h b o e h1 h2)
theorem Frm.upd {H G : Hp} {p z : Addr} {zs : List Addr} {o : HO} (h : Frm H G p zs) (hz : z ∈ zs) : Frm H (upd G z o) p zs := fun b o' e h1 h2 => by
 rw [upd_ne (fun e' => h2 (by rw [e']; exact hz))]
 exact h b o' e h1 h2
theorem Frm.updP {H G : Hp} {p : Addr} {zs : List Addr} {o : HO} (h : Frm H G p zs) : Frm H (L2.upd G p o) p zs := fun b o' e h1 h2 => by
 rw [upd_ne h1]
 exact h b o' e h1 h2
noncomputable def spPutIn : Sp := fun vs H Q _ => ∃ (p : Addr) (zs : List Addr) (R : List (List Int)) (x : Int), vs = [.ref p, .int x] /\ H p = some (.lst (zs.map V.ref)) /\ LsAt H zs R /\ zs.Nodup /\ p ∉ zs /\ R.length <= 100 /\ (∀ r ∈ R, r.length <= 100) /\
 ∀ zs' H', Frm H H' p zs -> H' p = some (.lst (zs'.map V.ref)) -> LsAt H' zs' (putR R x).1 -> zs'.Nodup -> p ∉ zs' -> (∀ z ∈ zs', z ∈ zs ∨ H z = none) -> Q (.int ((putR R x).2 : Nat)) H'
noncomputable def spAsT : Sp := fun vs H Q _ => ∃ (p : Addr) (zs : List Addr) (R : List (List Int)), vs = [.ref p] /\ H p = some (.lst (zs.map V.ref)) /\ LsAt H zs R /\ R.length <= 100 /\ ∀ q ys H', Same H H' -> H' q = some (.tup (ys.map V.ref)) -> RowsAt H' ys R -> Q (.ref q) H'
noncomputable def spTabs : Sp := fun vs H Q _ => ∃ (a : Addr) (ns : List Int) (m : Nat), vs = [.ref a] /\ H a = some (.tup (ns.map V.int)) /\ Ord m ns /\ m <= 60 /\ ∀ t q1 q2 ys1 ys2 H', Same H H' -> H' t = some (.tup [.ref q1, .ref q2]) -> H' q1 = some (.tup (ys1.map V.ref)) -> RowsAt H' ys1 (tabI ns m).1 -> H' q2 = some (.tup (ys2.map V.ref)) -> RowsAt H' ys2 (tabI ns m).2 -> Q (.ref t) H'
theorem set_mid {R1 R2 : List (List Int)} {r f : List Int} {i : Nat} (h : R1.length = i) : (R1 ++ r :: R2).set i f = R1 ++ f :: R2 := by
 subst h
 simp
theorem LsAt.at {H : Hp} {zs : List Addr} {F : List (List Int)} {i : Nat} {f : List Int} (h : LsAt H zs F) (hf : F[i]? = some f) : ∃ z, zs[i]? = some z /\ H z = some (.lst (f.map V.int)) := by
 have hl := Paired.length h
 have hi : i < zs.length := by
  have := (List.getElem?_eq_some_iff.mp hf).1
  (first | lia | omega)
 obtain ⟨f', e1, e2⟩ := prd_get h (List.getElem?_eq_getElem hi)
 rw [hf] at e1
 cases e1
 exact ⟨_, List.getElem?_eq_getElem hi, e2⟩
end L2
namespace Srt
open PySem PyProof.Rows
noncomputable def tupI (h : Heap) : Value -> List Int
 | .ref a => match h.get? a with
  | some o => match o.data with
   | .seq xs _ => xs.toList.map numOf
   | _ => []
  | none => []
 | _ => []
section
variable {prog : Program} {w : World} {A : Around} {E : Value -> Shared -> Prop} {s : Shared}
end
end Srt
namespace L2
open PySem PySem.Spec PyProof.Rows
section
variable {prog : Program} {w : World} {A : Around} {E : Value -> Shared -> Prop} {s : Shared} {d it v : Addr} {es : Array DictEntry} {ep : Nat}
end
end L2
namespace L2
open PySem PySem.Spec PyProof.Rows
section
variable {X : Cx} {pins : List (Addr × Obj)} {σ : St} {H : Hp} {s : Shared} {a : Addr} {kvs : List (List Key × V)} {ob : Obj}
end
section
variable {X : Cx}
end
end L2
namespace L2
open PySem PySem.Spec PyProof.Rows
section
variable {prog : Program} {w : World} {A : Around} {E : Value -> Shared -> Prop} {s : Shared} {d it v : Addr} {es : Array DictEntry} {ep : Nat}
end
end L2
namespace Srt
open PySem PyProof.Rows
end Srt
namespace L2
open PySem PySem.Spec PyProof.Rows
section
variable {X : Cx}
end
end L2
namespace L2
open PySem PySem.Spec PyProof.Rows
end L2
namespace L2
open PySem PySem.Spec PyProof.Rows
structure TopY (mg : Str -> Option Value) : Prop where
 n_any : mg "any" = none
structure TopYK (K : PySem.W.Frag) : Prop where
 k_any : PySem.W.nsIn K mainGlobals "any" = some none
end L2
namespace L2
open PySem PySem.Spec PyProof.Rows
end L2
namespace L2
open PySem PySem.Spec PyProof.Rows
noncomputable def Itd (hi : Int) (n : Nat) : It := ⟨fun i _ => i < n, fun i H x H' => H' = H /\ x = .int (hi - i), fun i _ => n <= i⟩
theorem turn_down {P : Program} {w : World} {K : PySem.W.Frag} {tg : Expr} (it : Addr) (hi : Int) (n : Nat) : Turn P w K tg (Itd hi n) [it] it (fun i h => IsRangeIter h it (hi + (i : Nat) * (-1)) ((n : Int) - (i : Nat)) (-1)) where
 mem := by simp
 obj := fun i h st b hb => by
  have e : b = it := by simpa using hb
  subst e
  exact ⟨_, st, fun v z => by
   have z' : Data.fields _ = Data.cell v := z
   cases z'⟩
 keep := fun i h h' st k => k it (by simp) _ st
 item := by
  intro X hP hw hK hc i pins s σ H E I hf st hg
  subst hP hw hK
  obtain ⟨f0, f1, f2, f3, f4, f5⟩ := hf it (by simp)
  have W := Walks.range (prog := X.prog) (w := X.w) (I.ok.hd hc) it hi (-1) n
  refine W.item i s _ _ hg st fun v h' tk hv st' kk => ?_
  obtain ⟨t, rfl⟩ := hv
  have I1 : Inv X pins σ H { s with heap := h', toks := tk } := I.turned (fun b o hb e => kk b o (by simpa using hb) e) f0 f1 f3 f4 f5
  refine ⟨_, rfl, go_of (s := { s with heap := h', toks := tk }) (n := "range_iterator") st' rfl rfl (by decide) ⟨.int (hi - i), H, I1, ⟨t, ?_⟩, ⟨rfl, rfl⟩, st', fun b hb => (hf b hb).1⟩⟩
  rw [Int.mul_neg, Int.mul_one]
  rfl
 done := by
  intro X hP hw hK hc i pins s σ H E I hf st hg
  subst hP hw hK
  obtain ⟨f0, f1, f2, f3, f4, f5⟩ := hf it (by simp)
  exact wpAny_pyNext_range_end (I.ok.hd hc) st (by have : n <= i := hg; (first | lia | omega)) fun h' eb => ⟨rfl, I.turned (t' := s.toks) (fun b o hb e => eb b o hb e) f0 f1 f3 f4 f5⟩
 self := fun _ _ _ _ _ st h => wpAny_pyIter_rangeiter st h
section
variable {X : Cx} {tg : Expr}
theorem size_down (a b : Int) : Builtin.Range.rangeSize a b (-1) = (((a - b).toNat : Nat) : Int) := by
 unfold Builtin.Range.rangeSize
 rw [if_neg (by decide)]
 split
 ·rw [show (-(-1 : Int)) = 1 from rfl, Int.ediv_one]; (first | lia | omega)
 ·(first | lia | omega)
theorem range_itd {pins : List (Addr × Obj)} {σ : St} {H : Hp} {s : Shared} {R : It -> Hp -> Prop} {E : Value -> Shared -> Prop} {lo hi : Int} {t u v : Tok} {tk : Nat} (I : Inv X pins σ H s) (h1 : -(2 ^ 62) <= lo) (h2 : lo < 2 ^ 62) (h3 : -(2 ^ 62) <= hi) (h4 : hi < 2 ^ 62)
  (q : R (Itd hi (hi - lo).toNat) H) : wpAny (model X.prog X.w) X.A (pyIter (.ref s.heap.objs.size)) (PIE X pins σ tg R) E { s with heap := s.heap.push { cls := .type "range", data := .fields #[.int hi t, .int lo u, .int (-1) v] }, toks := tk } := by
 refine wpAny_pyIter_range (IsRange.new ..) (PySem.W.small_down h3 h4 h1 h2) ?_
 have I1 : Inv X pins σ H { s with heap := s.heap.push { cls := .type "range", data := .fields #[.int hi t, .int lo u, .int (-1) v] }, toks := tk } := I.kept fun b o e => Heap.get?_push_of_some _ e
 refine ⟨(s.heap.push { cls := .type "range", data := .fields #[.int hi t, .int lo u, .int (-1) v] }).objs.size, [(s.heap.push { cls := .type "range", data := .fields #[.int hi t, .int lo u, .int (-1) v] }).objs.size], _, _, H, rfl,
  I1.kept (t' := tk) fun b o e => Heap.get?_push_of_some _ e, turn_down _ hi (hi - lo).toNat, ?_, fun b hb => ?_, q⟩
 ·have e1 : hi + ((0 : Nat) : Int) * (-1) = hi := by simp
  have e2 : (((hi - lo).toNat : Nat) : Int) - ((0 : Nat) : Int) = Builtin.Range.rangeSize hi lo (-1) := by rw [size_down]; (first | lia | omega)
  show IsRangeIter _ _ (hi + ((0 : Nat) : Int) * (-1)) ((((hi - lo).toNat : Nat) : Int) - ((0 : Nat) : Int)) (-1)
  rw [e1, e2]
  exact Heap.get?_push_size _ rfl
 ·have e : b = (s.heap.push { cls := .type "range", data := .fields #[.int hi t, .int lo u, .int (-1) v] }).objs.size := by simpa using hb
  subst e
  exact I1.fpOk (Nat.le_refl _) (I1.hok.fresh (Nat.le_refl _))
noncomputable def iRngD (ta : TA) : TI := fun σ H R => ta σ H fun vs H1 => ∃ i j : Int, vs = [.int i, .int j, .int (-1)] /\ (-(2 ^ 62) <= i /\ i < 2 ^ 62 /\ -(2 ^ 62) <= j /\ j < 2 ^ 62) /\ R (Itd i (i - j).toNat) H1
theorem pi_rangeD {a b c : Expr} {ta : TA} {p pos : Pos} (hg : Gl X "range") (hm : X.mg "range" = none) (ha : PA X [a, b, c] ta) (hs : starEach [a, b, c] X.env = [(false, eval a X.env), (false, eval b X.env), (false, eval c X.env)] := by rfl) (hs2 : starEach [b, c] X.env = [(false, eval b X.env), (false, eval c X.env)] := by rfl) :
  PI X tg (.Call (.Name "range" p) [a, b, c] [] pos) (iRngD ta) := by
 intro pins s σ H R I h
 refine Call_ (ld_blt I hg hm boot_range (PyProof.Rows.callWith_type1 (thn (ha pos pins s σ H _ I h) fun us s1 ⟨vs, H1, I1, r1, q1⟩ => ?_) (by rw [hs, hs2]) (by rw [hs2]; rfl)))
 obtain ⟨i, j, e, ⟨q1, q2, q3, q4⟩, q⟩ := q1
 subst e
 cases r1 with
 | cons r rr =>
  cases rr with
  | cons r' rr =>
   cases rr with
   | cons r'' rr =>
    cases rr
    obtain ⟨t, rfl⟩ := r
    obtain ⟨t', rfl⟩ := r'
    obtain ⟨t'', rfl⟩ := r''
    exact call_range_3 (by decide) (range_itd I1 q3 q4 q1 q2 q) (.inl (PyProof.noPylong_small (by decide)))
end
theorem for_down {hi : Int} {n : Nat} {g : TG} {tb : TS} {D : Ends} {σ : L2.St} {H : Hp} (Pv : Nat -> L2.St -> Hp -> Prop) (h0 : Pv 0 σ H)
  (hs : ∀ i σ H, i < n -> Pv i σ H -> g (.int (hi - i)) σ H fun σ2 H2 => tb { D with nx := Pv (i + 1), ct := Pv (i + 1), bk := D.nx } σ2 H2) (hd : ∀ σ H, Pv n σ H -> D.nx σ H) :
  ∃ W : Nat -> Nat -> L2.St -> Hp -> Prop, (∃ m, W 0 m σ H) /\ ∀ i m σ H, W i m σ H ->
   ((Itd hi n).stop i H /\ D.nx σ H) ∨ ((Itd hi n).go i H /\ ∃ N : L2.St -> Hp -> Prop, (∀ σ' H', N σ' H' -> ∃ m', m' < m /\ W (i + 1) m' σ' H') /\ ∀ x H', (Itd hi n).yld i H x H' -> g x σ H' fun σ2 H2 => tb { D with nx := N, ct := N, bk := D.nx } σ2 H2) := by
 refine ⟨fun i m σ H => m = n - i /\ i <= n /\ Pv i σ H, ⟨n, by simp, Nat.zero_le _, h0⟩, ?_⟩
 rintro i m σ H ⟨rfl, hi', p⟩
 by_cases hlt : i < n
 ·refine .inr ⟨hlt, Pv (i + 1), fun σ' H' p' => ⟨n - (i + 1), by (first | lia | omega), rfl, hlt, p'⟩, fun x H' y => ?_⟩
  obtain ⟨e, y⟩ := y
  subst e y
  exact hs i σ _ hlt p
 ·have e : i = n := by (first | lia | omega)
  subst e
  exact .inl ⟨Nat.le_refl _, hd σ H p⟩
section
variable {X : Cx}
end
end L2
namespace L2
open PySem PySem.Spec PyProof.Rows
section
variable {X : Cx}
end
end L2
namespace L2
open PySem PySem.Spec PyProof.Rows
noncomputable def insW (R : List (List Int)) (w : List Int) : List (List Int) := w.foldl (fun R x => (putR R x).1) R
theorem ins_app (R : List (List Int)) (u v : List Int) : insW R (u ++ v) = insW (insW R u) v := List.foldl_append
noncomputable def nxR (r : List Int) (x : Int) : Option Int := if cntL r x = r.length then none else some (r.getD (cntL r x) 0)
noncomputable def rwR (r : List Int) (x : Int) : List Int := if cntL r x = r.length then r ++ [x] else r.set (cntL r x) x
noncomputable def rowW : List Int -> List Int -> List Int × List Int
 | r, [] => (r, [])
 | r, x :: w => ((rowW (rwR r x) w).1, (nxR r x).toList ++ (rowW (rwR r x) w).2)
theorem put_row (r : List Int) (R : List (List Int)) (x : Int) : (putR (r :: R) x).1 = rwR r x :: insW R (nxR r x).toList := by
 unfold putR rwR nxR
 split <;> rfl
theorem ins_cons : ∀ (w : List Int) (r : List Int) (R : List (List Int)), insW (r :: R) w = (rowW r w).1 :: insW R (rowW r w).2
 | [], _, _ => rfl
 | x :: w, r, R => by
  show insW (putR (r :: R) x).1 w = _
  rw [put_row, ins_cons w]
  show _ = (rowW (rwR r x) w).1 :: insW R ((nxR r x).toList ++ (rowW (rwR r x) w).2)
  rw [ins_app]
theorem ins_nil {w : List Int} (h : w ≠ []) : insW [] w = (rowW [] w).1 :: insW [] (rowW [] w).2 := by
 cases w with
 | nil => exact absurd rfl h
 | cons x w =>
  show insW [[x]] w = _
  rw [ins_cons]
  rfl
theorem nx_none {r : List Int} {x : Int} (h : nxR r x = none) : ∀ a ∈ r, a < x := fun a ha => by
 unfold nxR at h
 split at h
 ·rename_i e
  unfold cntL at e
  rw [List.countP_eq_length] at e
  exact of_decide_eq_true (e a ha)
 ·cases h
theorem nx_some {r : List Int} {x e : Int} (hi : Inc r) (hx : x ∉ r) (h : nxR r x = some e) : e ∈ r /\ x < e /\ ∀ a ∈ r, x < a -> e <= a := by
 unfold nxR at h
 split at h
 ·cases h
 ·rename_i hc
  have hlt : cntL r x < r.length := by have := cntLe r x; (first | lia | omega)
  have e1 := Option.some.inj h
  refine ⟨e1 ▸ memD hlt, e1 ▸ cntGt hi hx hlt, fun a ha hxa => ?_⟩
  obtain ⟨k, hk, ek⟩ := List.getElem_of_mem ha
  have eD : r.getD k 0 = a := by rw [List.getD_eq_getElem?_getD, List.getElem?_eq_getElem hk, ek]; rfl
  have hk2 : cntL r x <= k := Nat.not_lt.mp fun z => by
   have := (cntLt hi (x := x) hk).mpr z
   (first | lia | omega)
  rcases Nat.lt_or_ge (cntL r x) k with z | z
  ·have := incIff.mp hi _ _ z hk
   (first | lia | omega)
  ·have : cntL r x = k := by (first | lia | omega)
   rw [<- e1, this]
   (first | lia | omega)
theorem nx_eq {r : List Int} {x e : Int} (hi : Inc r) (hx : x ∉ r) (h1 : e ∈ r) (h2 : x < e) (h3 : ∀ a ∈ r, x < a -> e <= a) : nxR r x = some e := by
 cases h : nxR r x with
 | none =>
  have := nx_none h e h1
  (first | lia | omega)
 | some f =>
  obtain ⟨g1, g2, g3⟩ := nx_some hi hx h
  have := g3 e h1 h2
  have := h3 f g1 g2
  rw [show f = e by (first | lia | omega)]
theorem nx_no {r : List Int} {x : Int} (hi : Inc r) (hx : x ∉ r) (h : ∀ a ∈ r, a < x) : nxR r x = none := by
 cases e : nxR r x with
 | none => rfl
 | some f =>
  obtain ⟨g1, g2, _⟩ := nx_some hi hx e
  have := h f g1
  (first | lia | omega)
theorem rw_inc {r : List Int} {x : Int} (hi : Inc r) (hx : x ∉ r) : Inc (rwR r x) := by
 unfold rwR
 split
 ·exact incApp hi (by assumption)
 ·exact incSet hi hx (by have := cntLe r x; (first | lia | omega))
theorem rw_mem {r : List Int} {x : Int} (hi : Inc r) {a : Int} : a ∈ rwR r x ↔ a = x ∨ (a ∈ r /\ nxR r x ≠ some a) := by
 unfold rwR nxR
 split
 ·rw [List.mem_append, List.mem_singleton]
  constructor
  ·rintro (h | h)
   ·exact .inr ⟨h, by simp⟩
   ·exact .inl h
  ·rintro (h | h)
   ·exact .inr h
   ·exact .inl h.1
 ·have hlt : cntL r x < r.length := by have := cntLe r x; (first | lia | omega)
  constructor
  ·intro h
   obtain ⟨k, hk, ek⟩ := List.getElem_of_mem h
   rw [List.length_set] at hk
   have eD : (r.set (cntL r x) x).getD k 0 = a := by rw [List.getD_eq_getElem?_getD, List.getElem?_eq_getElem (by rw [List.length_set]; exact hk), ek]; rfl
   rw [gdSet hlt] at eD
   by_cases c : k = cntL r x
   ·rw [if_pos c] at eD
    exact .inl eD.symm
   ·rw [if_neg c] at eD
    refine .inr ⟨eD ▸ memD hk, fun z => ?_⟩
    have z := Option.some.inj z
    rcases Nat.lt_or_ge k (cntL r x) with q | q
    ·have := incIff.mp hi _ _ q hlt
     (first | lia | omega)
    ·have := incIff.mp hi (cntL r x) k (by (first | lia | omega)) hk
     (first | lia | omega)
  ·rintro (h | ⟨h, hne⟩)
   ·rw [h]
    have := memD (r := r.set (cntL r x) x) (j := cntL r x) (by rw [List.length_set]; exact hlt)
    rwa [gdSet hlt, if_pos rfl] at this
   ·obtain ⟨k, hk, ek⟩ := List.getElem_of_mem h
    have eD : r.getD k 0 = a := by rw [List.getD_eq_getElem?_getD, List.getElem?_eq_getElem hk, ek]; rfl
    have hkc : k ≠ cntL r x := fun c => hne (by rw [<- c, eD])
    have := memD (r := r.set (cntL r x) x) (j := k) (by rw [List.length_set]; exact hk)
    rwa [gdSet hlt, if_neg hkc, eD] at this
theorem inc_ext {r s : List Int} (hr : Inc r) (hs : Inc s) (h : ∀ a, a ∈ r ↔ a ∈ s) : r = s := by
 have p : r.Perm s := (List.perm_ext_iff_of_nodup (hr.imp fun h => Int.ne_of_lt h) (hs.imp fun h => Int.ne_of_lt h)).mpr h
 exact p.eq_of_pairwise (fun x y _ _ h1 h2 => absurd h1 (by (first | lia | omega))) hr hs
theorem rw_comm {q : List Int} {x z e : Int} (hi : Inc q) (hx : x ∉ q) (hz : z ∉ q) (hxz : x < z) (he : nxR q x = some e) (hez : e < z) : nxR (rwR q x) z = nxR q z /\ nxR (rwR q z) x = some e /\ rwR (rwR q x) z = rwR (rwR q z) x := by
 obtain ⟨e1, e2, e3⟩ := nx_some hi hx he
 have ix := rw_inc hi hx
 have iz := rw_inc hi hz
 have hz' : z ∉ rwR q x := fun h => by
  rcases (rw_mem hi).mp h with h | h
  ·(first | lia | omega)
  ·exact hz h.1
 have hx' : x ∉ rwR q z := fun h => by
  rcases (rw_mem hi).mp h with h | h
  ·(first | lia | omega)
  ·exact hx h.1
 have n1 : nxR (rwR q x) z = nxR q z := by
  cases hg : nxR q z with
  | none =>
   refine nx_no ix hz' fun a ha => ?_
   rcases (rw_mem hi).mp ha with rfl | h
   ·exact hxz
   ·exact nx_none hg a h.1
  | some g =>
   obtain ⟨g1, g2, g3⟩ := nx_some hi hz hg
   refine nx_eq ix hz' ((rw_mem hi).mpr (.inr ⟨g1, fun c => ?_⟩)) g2 fun a ha hza => ?_
   ·rw [he] at c
    have := Option.some.inj c
    (first | lia | omega)
   ·rcases (rw_mem hi).mp ha with rfl | h
    ·(first | lia | omega)
    ·exact g3 a h.1 hza
 have n2 : nxR (rwR q z) x = some e := by
  refine nx_eq iz hx' ((rw_mem hi).mpr (.inr ⟨e1, fun c => ?_⟩)) e2 fun a ha hxa => ?_
  ·have := (nx_some hi hz c).2.1
   (first | lia | omega)
  ·rcases (rw_mem hi).mp ha with rfl | h
   ·(first | lia | omega)
   ·exact e3 a h.1 hxa
 refine ⟨n1, n2, inc_ext (rw_inc ix hz') (rw_inc iz hx') fun a => ?_⟩
 rw [rw_mem ix, rw_mem hi, n1, rw_mem iz, rw_mem hi, n2, he]
 constructor
 ·rintro (rfl | ⟨rfl | ⟨h1, h2⟩, h3⟩)
  ·exact .inr ⟨.inl rfl, fun c => by have := Option.some.inj c; (first | lia | omega)⟩
  ·exact .inl rfl
  ·exact .inr ⟨.inr ⟨h1, h3⟩, h2⟩
 ·rintro (rfl | ⟨rfl | ⟨h1, h2⟩, h3⟩)
  ·refine .inr ⟨.inl rfl, fun c => ?_⟩
   have := (nx_some hi hz c).2.1
   (first | lia | omega)
  ·exact .inl rfl
  ·exact .inr ⟨.inr ⟨h1, h3⟩, h2⟩
noncomputable def K3 (u v : List Int) : Prop := ∃ p q s : Int, p < q /\ q < s /\ ((u = [q, p, s] /\ v = [q, s, p]) ∨ (u = [p, s, q] /\ v = [s, p, q]))
theorem row_k1 {r : List Int} {x y z : Int} (hi : Inc r) (hx : x ∉ r) (hy : y ∉ r) (hz : z ∉ r) (h1 : x < y) (h2 : y < z) : (rowW r [y, x, z]).1 = (rowW r [y, z, x]).1 /\ ((rowW r [y, x, z]).2 = (rowW r [y, z, x]).2 ∨ (r ≠ [] /\ K3 (rowW r [y, x, z]).2 (rowW r [y, z, x]).2)) /\ (∀ a ∈ (rowW r [y, x, z]).2, a ∈ r ∨ a = y) := by
 have i1 := rw_inc hi hy
 have y1 : y ∈ rwR r y := (rw_mem hi).mpr (.inl rfl)
 have x1 : x ∉ rwR r y := fun h => by
  rcases (rw_mem hi).mp h with h | h
  ·(first | lia | omega)
  ·exact hx h.1
 have z1 : z ∉ rwR r y := fun h => by
  rcases (rw_mem hi).mp h with h | h
  ·(first | lia | omega)
  ·exact hz h.1
 obtain ⟨e, he⟩ : ∃ e, nxR (rwR r y) x = some e := by
  cases h : nxR (rwR r y) x with
  | none =>
   have := nx_none h y y1
   (first | lia | omega)
  | some e => exact ⟨e, rfl⟩
 obtain ⟨e1, e2, e3⟩ := nx_some i1 x1 he
 have ey := e3 y y1 h1
 obtain ⟨n1, n2, n3⟩ := rw_comm i1 x1 z1 (by (first | lia | omega)) he (by (first | lia | omega))
 have ra : rowW r [y, x, z] = (rwR (rwR (rwR r y) x) z, (nxR r y).toList ++ ([e] ++ ((nxR (rwR r y) z).toList ++ []))) := by
  show (_, _ ++ (_ ++ (_ ++ _))) = _
  rw [he, n1]
  rfl
 have rb : rowW r [y, z, x] = (rwR (rwR (rwR r y) x) z, (nxR r y).toList ++ ((nxR (rwR r y) z).toList ++ ([e] ++ []))) := by
  show (_, _ ++ (_ ++ (_ ++ _))) = _
  rw [n2, n3]
  rfl
 have em : e ∈ r ∨ e = y := by
  rcases (rw_mem hi).mp e1 with h | h
  ·exact .inr h
  ·exact .inl h.1
 rw [ra, rb]
 refine ⟨rfl, ?_, ?_⟩
 ·cases hg : nxR (rwR r y) z with
  | none => exact .inl rfl
  | some g =>
   obtain ⟨g1, g2, g3⟩ := nx_some i1 z1 hg
   have gr : g ∈ r /\ nxR r y ≠ some g := by
    rcases (rw_mem hi).mp g1 with h | h
    ·(first | lia | omega)
    ·exact h
   cases hb : nxR r y with
   | none =>
    have := nx_none hb g gr.1
    (first | lia | omega)
   | some b =>
    obtain ⟨b1, b2, b3⟩ := nx_some hi hy hb
    have hbg := b3 g gr.1 (by (first | lia | omega))
    have hbn : b ≠ g := fun c => gr.2 (by rw [hb, c])
    refine .inr ⟨List.ne_nil_of_mem b1, e, b, g, by (first | lia | omega), by (first | lia | omega), .inl ⟨rfl, rfl⟩⟩
 ·intro a ha
  have ha : a ∈ (nxR r y).toList ++ ([e] ++ ((nxR (rwR r y) z).toList ++ [])) := ha
  rcases List.mem_append.mp ha with h | h
  ·cases hb : nxR r y with
   | none => rw [hb] at h; cases h
   | some b =>
    rw [hb] at h
    rw [List.mem_singleton.mp h]
    exact .inl (nx_some hi hy hb).1
  ·rcases List.mem_append.mp h with h | h
   ·rw [List.mem_singleton.mp h]
    exact em
   ·rw [List.append_nil] at h
    cases hg : nxR (rwR r y) z with
    | none => rw [hg] at h; cases h
    | some g =>
     rw [hg] at h
     rw [List.mem_singleton.mp h]
     rcases (rw_mem hi).mp (nx_some i1 z1 hg).1 with h | h
     ·exact .inr h
     ·exact .inl h.1
end L2
namespace L2
open PySem PySem.Spec PyProof.Rows
theorem row_k2 {r : List Int} {x y z : Int} (hi : Inc r) (hx : x ∉ r) (hy : y ∉ r) (hz : z ∉ r) (h1 : x < y) (h2 : y < z) : (rowW r [x, z, y]).1 = (rowW r [z, x, y]).1 /\ ((rowW r [x, z, y]).2 = (rowW r [z, x, y]).2 ∨ (r ≠ [] /\ (K3 (rowW r [x, z, y]).2 (rowW r [z, x, y]).2 ∨ K3 (rowW r [z, x, y]).2 (rowW r [x, z, y]).2))) /\ (∀ a ∈ (rowW r [x, z, y]).2, a ∈ r ∨ a = z) := by
 have ix := rw_inc hi hx
 have iz := rw_inc hi hz
 have hz' : z ∉ rwR r x := fun h => by
  rcases (rw_mem hi).mp h with h | h
  ·(first | lia | omega)
  ·exact hz h.1
 have hx' : x ∉ rwR r z := fun h => by
  rcases (rw_mem hi).mp h with h | h
  ·(first | lia | omega)
  ·exact hx h.1
 have hy' : y ∉ rwR r x := fun h => by
  rcases (rw_mem hi).mp h with h | h
  ·(first | lia | omega)
  ·exact hy h.1
 have hyz : y ∉ rwR r z := fun h => by
  rcases (rw_mem hi).mp h with h | h
  ·(first | lia | omega)
  ·exact hy h.1
 have ixz := rw_inc ix hz'
 have izx := rw_inc iz hx'
 have hyxz : y ∉ rwR (rwR r x) z := fun h => by
  rcases (rw_mem ix).mp h with h | h
  ·(first | lia | omega)
  ·exact hy' h.1
 have hyzx : y ∉ rwR (rwR r z) x := fun h => by
  rcases (rw_mem iz).mp h with h | h
  ·(first | lia | omega)
  ·exact hyz h.1
 have ra : rowW r [x, z, y] = (rwR (rwR (rwR r x) z) y, (nxR r x).toList ++ ((nxR (rwR r x) z).toList ++ ((nxR (rwR (rwR r x) z) y).toList ++ []))) := rfl
 have rb : rowW r [z, x, y] = (rwR (rwR (rwR r z) x) y, (nxR r z).toList ++ ((nxR (rwR r z) x).toList ++ ((nxR (rwR (rwR r z) x) y).toList ++ []))) := rfl
 by_cases hA : ∃ e, nxR r x = some e /\ e < z
 ·obtain ⟨e, he, hez⟩ := hA
  obtain ⟨e1, e2, e3⟩ := nx_some hi hx he
  obtain ⟨n1, n2, n3⟩ := rw_comm hi hx hz (by (first | lia | omega)) he hez
  have zq : z ∈ rwR (rwR r x) z := (rw_mem ix).mpr (.inl rfl)
  obtain ⟨f, hf⟩ : ∃ f, nxR (rwR (rwR r x) z) y = some f := by
   cases h : nxR (rwR (rwR r x) z) y with
   | none =>
    have := nx_none h z zq
    (first | lia | omega)
   | some f => exact ⟨f, rfl⟩
  obtain ⟨f1, f2, f3⟩ := nx_some ixz hyxz hf
  have fz := f3 z zq h2
  have fm : f = z ∨ (f ∈ r /\ f ≠ e) := by
   rcases (rw_mem ix).mp f1 with h | h
   ·exact .inl h
   ·rcases (rw_mem hi).mp h.1 with h' | h'
    ·(first | lia | omega)
    ·exact .inr ⟨h'.1, fun c => h'.2 (by rw [he, c])⟩
  have hef : e < f := by
   rcases fm with h | ⟨h, hn⟩
   ·(first | lia | omega)
   ·have := e3 f h (by (first | lia | omega))
    (first | lia | omega)
  rw [ra, rb, he, n1, n2, <- n3, hf]
  refine ⟨rfl, ?_, ?_⟩
  ·cases hg : nxR r z with
   | none => exact .inl rfl
   | some g =>
    obtain ⟨g1, g2, g3⟩ := nx_some hi hz hg
    exact .inr ⟨List.ne_nil_of_mem e1, .inl ⟨e, f, g, hef, by (first | lia | omega), .inr ⟨rfl, rfl⟩⟩⟩
  ·intro a ha
   have ha : a ∈ [e] ++ ((nxR r z).toList ++ ([f] ++ [])) := ha
   rcases List.mem_append.mp ha with h | h
   ·rw [List.mem_singleton.mp h]
    exact .inl e1
   ·rcases List.mem_append.mp h with h | h
    ·cases hg : nxR r z with
     | none => rw [hg] at h; cases h
     | some g =>
      rw [hg] at h
      rw [List.mem_singleton.mp h]
      exact .inl (nx_some hi hz hg).1
    ·rw [show a = f from List.mem_singleton.mp (by simpa using h)]
     rcases fm with h | h
     ·exact .inr h
     ·exact .inl h.1
 ·have gap : ∀ a ∈ r, x < a -> z < a := fun a ha hxa => by
   cases hn : nxR r x with
   | none =>
    have := nx_none hn a ha
    (first | lia | omega)
   | some e =>
    obtain ⟨e1, e2, e3⟩ := nx_some hi hx hn
    have h3 := e3 a ha hxa
    have h4 : ¬ e < z := fun c => hA ⟨e, hn, c⟩
    have h5 : e ≠ z := fun c => hz (c ▸ e1)
    (first | lia | omega)
  have nz : nxR r z = nxR r x := by
   cases hn : nxR r x with
   | none => exact nx_no hi hz fun a ha => by have := nx_none hn a ha; (first | lia | omega)
   | some e =>
    obtain ⟨e1, e2, e3⟩ := nx_some hi hx hn
    exact nx_eq hi hz e1 (gap e e1 e2) fun a ha hza => e3 a ha (by (first | lia | omega))
  have zz : z ∈ rwR r z := (rw_mem hi).mpr (.inl rfl)
  have n2 : nxR (rwR r z) x = some z := nx_eq iz hx' zz (by (first | lia | omega)) fun a ha hxa => by
   rcases (rw_mem hi).mp ha with h | h
   ·(first | lia | omega)
   ·have := gap a h.1 hxa
    (first | lia | omega)
  have s2 : rwR (rwR r z) x = rwR r x := inc_ext izx ix fun a => by
   rw [rw_mem iz, n2, rw_mem hi, nz, rw_mem hi]
   constructor
   ·rintro (h | ⟨h | h, h3⟩)
    ·exact .inl h
    ·exact absurd (congrArg some h.symm) h3
    ·exact .inr h
   ·rintro (h | h)
    ·exact .inl h
    ·exact .inr ⟨.inr h, fun c => hz (Option.some.inj c ▸ h.1)⟩
  have up : ∀ a ∈ rwR r x, y < a -> z < a := fun a ha hya => by
   rcases (rw_mem hi).mp ha with h | h
   ·(first | lia | omega)
   ·exact gap a h.1 (by (first | lia | omega))
  have n3 : nxR (rwR r x) y = nxR (rwR r x) z := by
   cases hn : nxR (rwR r x) z with
   | none =>
    refine nx_no ix hy' fun a ha => ?_
    have h3 := nx_none hn a ha
    have h4 : ¬ y < a := fun c => by have := up a ha c; (first | lia | omega)
    have h5 : a ≠ y := fun c => hy' (c ▸ ha)
    (first | lia | omega)
   | some g =>
    obtain ⟨g1, g2, g3⟩ := nx_some ix hz' hn
    exact nx_eq ix hy' g1 (by (first | lia | omega)) fun a ha hya => g3 a ha (up a ha hya)
  have zq : z ∈ rwR (rwR r x) z := (rw_mem ix).mpr (.inl rfl)
  have n4 : nxR (rwR (rwR r x) z) y = some z := nx_eq ixz hyxz zq h2 fun a ha hya => by
   rcases (rw_mem ix).mp ha with h | h
   ·(first | lia | omega)
   ·have := up a h.1 hya
    (first | lia | omega)
  have s3 : rwR (rwR (rwR r x) z) y = rwR (rwR r x) y := inc_ext (rw_inc ixz hyxz) (rw_inc ix hy') fun a => by
   rw [rw_mem ixz, n4, rw_mem ix, rw_mem ix, n3]
   constructor
   ·rintro (h | ⟨h | h, h3⟩)
    ·exact .inl h
    ·exact absurd (congrArg some h.symm) h3
    ·exact .inr h
   ·rintro (h | h)
    ·exact .inl h
    ·exact .inr ⟨.inr h, fun c => hz' (Option.some.inj c ▸ h.1)⟩
  rw [ra, rb, n2, s2, nz, n3, n4, s3]
  refine ⟨rfl, ?_, ?_⟩
  ·cases ho : nxR (rwR r x) z with
   | none => exact .inl rfl
   | some g =>
    obtain ⟨g1, g2, g3⟩ := nx_some ix hz' ho
    have gr : g ∈ r /\ nxR r x ≠ some g := by
     rcases (rw_mem hi).mp g1 with h | h
     ·(first | lia | omega)
     ·exact h
    cases hn : nxR r x with
    | none =>
     have := nx_none hn g gr.1
     (first | lia | omega)
    | some e =>
     obtain ⟨e1, e2, e3⟩ := nx_some hi hx hn
     have h3 := e3 g gr.1 (by (first | lia | omega))
     have h4 : e ≠ g := fun c => gr.2 (by rw [hn, c])
     have h5 := gap e e1 e2
     exact .inr ⟨List.ne_nil_of_mem e1, .inr ⟨z, e, g, h5, by (first | lia | omega), .inl ⟨rfl, rfl⟩⟩⟩
  ·intro a ha
   have ha : a ∈ (nxR r x).toList ++ ((nxR (rwR r x) z).toList ++ ([z] ++ [])) := ha
   rcases List.mem_append.mp ha with h | h
   ·cases hn : nxR r x with
    | none => rw [hn] at h; cases h
    | some e =>
     rw [hn] at h
     rw [List.mem_singleton.mp h]
     exact .inl (nx_some hi hx hn).1
   ·rcases List.mem_append.mp h with h | h
    ·cases hn : nxR (rwR r x) z with
     | none => rw [hn] at h; cases h
     | some g =>
      rw [hn] at h
      rw [List.mem_singleton.mp h]
      obtain ⟨g1, g2, g3⟩ := nx_some ix hz' hn
      rcases (rw_mem hi).mp g1 with h | h
      ·(first | lia | omega)
      ·exact .inl h.1
    ·exact .inr (List.mem_singleton.mp (by simpa using h))
theorem k3_ins : ∀ (R : List (List Int)), Tab R -> R.flatten.Nodup -> ∀ (u v : List Int), K3 u v -> (∀ a ∈ u, a ∉ R.flatten) -> insW R u = insW R v
 | [], _, _, u, v, hk, _ => by
  obtain ⟨p, q, s, h1, h2, ⟨rfl, rfl⟩ | ⟨rfl, rfl⟩⟩ := hk
  ·obtain ⟨r1, r2, _⟩ := row_k1 (r := []) .nil (by simp) (by simp) (by simp) h1 h2
   rw [ins_nil (w := [q, p, s]) (by simp), ins_nil (w := [q, s, p]) (by simp), r1]
   rcases r2 with r2 | r2
   ·rw [r2]
   ·exact absurd rfl r2.1
  ·obtain ⟨r1, r2, _⟩ := row_k2 (r := []) .nil (by simp) (by simp) (by simp) h1 h2
   rw [ins_nil (w := [p, s, q]) (by simp), ins_nil (w := [s, p, q]) (by simp), r1]
   rcases r2 with r2 | r2
   ·rw [r2]
   ·exact absurd rfl r2.1
 | r :: R, hT, nd, u, v, hk, hn => by
  obtain ⟨hi, hne, hA, hTR⟩ := hT
  rw [List.flatten_cons] at nd
  have nd' := List.nodup_append.mp nd
  have hn : ∀ a ∈ u, a ∉ r /\ a ∉ R.flatten := fun a ha => by
   have := hn a ha
   rw [List.flatten_cons] at this
   exact ⟨fun z => this (List.mem_append_left _ z), fun z => this (List.mem_append_right _ z)⟩
  rw [ins_cons, ins_cons]
  obtain ⟨p, q, s, h1, h2, ⟨rfl, rfl⟩ | ⟨rfl, rfl⟩⟩ := hk
  ·have f1 := hn q (by simp)
   have f2 := hn p (by simp)
   have f3 := hn s (by simp)
   obtain ⟨r1, r2, r3⟩ := row_k1 hi f2.1 f1.1 f3.1 h1 h2
   rw [r1]
   have hm : ∀ a ∈ (rowW r [q, p, s]).2, a ∉ R.flatten := fun a ha => by
    rcases r3 a ha with h | h
    ·exact fun z => nd'.2.2 a h a z rfl
    ·rw [h]
     exact f1.2
   rcases r2 with r2 | ⟨_, r2⟩
   ·rw [r2]
   ·rw [k3_ins R hTR nd'.2.1 _ _ r2 hm]
  ·have f1 := hn q (by simp)
   have f2 := hn p (by simp)
   have f3 := hn s (by simp)
   obtain ⟨r1, r2, r3⟩ := row_k2 hi f2.1 f1.1 f3.1 h1 h2
   rw [r1]
   have hm : ∀ a ∈ (rowW r [p, s, q]).2, a ∉ R.flatten := fun a ha => by
    rcases r3 a ha with h | h
    ·exact fun z => nd'.2.2 a h a z rfl
    ·rw [h]
     exact f3.2
   rcases r2 with r2 | ⟨_, r2 | r2⟩
   ·rw [r2]
   ·rw [k3_ins R hTR nd'.2.1 _ _ r2 hm]
   ·have hm' : ∀ a ∈ (rowW r [s, p, q]).2, a ∉ R.flatten := fun a ha => by
     refine hm a ?_
     obtain ⟨p', q', s', _, _, ⟨e1, e2⟩ | ⟨e1, e2⟩⟩ := r2
     ·rw [e1] at ha
      rw [e2]
      simp at ha ⊢
      (first | lia | omega)
     ·rw [e1] at ha
      rw [e2]
      simp at ha ⊢
      (first | lia | omega)
    rw [k3_ins R hTR nd'.2.1 _ _ r2 hm']
inductive Knu : List Int -> List Int -> Prop
 | refl (l : List Int) : Knu l l
 | symm {l l' : List Int} : Knu l l' -> Knu l' l
 | trans {l l' l'' : List Int} : Knu l l' -> Knu l' l'' -> Knu l l''
 | k3 (a b : List Int) {u v : List Int} : K3 u v -> Knu (a ++ u ++ b) (a ++ v ++ b)
theorem K3.perm {u v : List Int} (h : K3 u v) : u.Perm v := by
 obtain ⟨p, q, s, _, _, ⟨rfl, rfl⟩ | ⟨rfl, rfl⟩⟩ := h
 ·exact List.Perm.cons _ (List.Perm.swap _ _ _)
 ·exact List.Perm.swap _ _ _
theorem Knu.perm {l l' : List Int} (h : Knu l l') : l.Perm l' := by
 induction h with
 | refl l => exact .refl _
 | symm _ ih => exact ih.symm
 | trans _ _ i1 i2 => exact i1.trans i2
 | k3 a b h => exact (List.Perm.append_left a h.perm).append_right b
theorem Knu.ctx {l l' : List Int} (u v : List Int) (h : Knu l l') : Knu (u ++ l ++ v) (u ++ l' ++ v) := by
 induction h with
 | refl l => exact .refl _
 | symm _ ih => exact ih.symm
 | trans _ _ i1 i2 => exact i1.trans i2
 | k3 a b h =>
  have := Knu.k3 (u ++ a) (b ++ v) h
  simpa [List.append_assoc] using this
theorem Knu.rev {l l' : List Int} (h : Knu l l') : Knu l.reverse l'.reverse := by
 induction h with
 | refl l => exact .refl _
 | symm _ ih => exact ih.symm
 | trans _ _ i1 i2 => exact i1.trans i2
 | k3 a b h =>
  obtain ⟨p, q, s, h1, h2, ⟨rfl, rfl⟩ | ⟨rfl, rfl⟩⟩ := h
  ·have := Knu.k3 b.reverse a.reverse (u := [p, s, q]) (v := [s, p, q]) ⟨p, q, s, h1, h2, .inr ⟨rfl, rfl⟩⟩
   simpa [List.append_assoc] using this.symm
  ·have := Knu.k3 b.reverse a.reverse (u := [q, p, s]) (v := [q, s, p]) ⟨p, q, s, h1, h2, .inl ⟨rfl, rfl⟩⟩
   simpa [List.append_assoc] using this.symm
theorem ins_tab : ∀ (w : List Int) (R : List (List Int)), Tab R -> (R.flatten ++ w).Nodup -> Tab (insW R w) /\ (insW R w).flatten.Perm (R.flatten ++ w)
 | [], R, hT, _ => ⟨hT, by rw [List.append_nil]; exact .refl _⟩
 | x :: w, R, hT, nd => by
  have nd' := List.nodup_append.mp nd
  have nx := List.nodup_cons.mp nd'.2.1
  obtain ⟨t1, t2⟩ := put_tab R x hT nd'.1 fun z => nd'.2.2 x z x List.mem_cons_self rfl
  have p : ((putR R x).1.flatten ++ w).Perm (R.flatten ++ x :: w) := (t2.append_right w).trans List.perm_middle.symm
  obtain ⟨i1, i2⟩ := ins_tab w (putR R x).1 t1 (p.nodup_iff.mpr nd)
  exact ⟨i1, i2.trans p⟩
theorem kn_ins {u v : List Int} (h : Knu u v) : ∀ (R : List (List Int)), Tab R -> (R.flatten ++ u).Nodup -> insW R u = insW R v := by
 induction h with
 | refl l => exact fun _ _ _ => rfl
 | symm h ih => exact fun R hT nd => (ih R hT ((List.Perm.append_left _ h.perm).nodup_iff.mpr nd)).symm
 | trans h _ i1 i2 => exact fun R hT nd => (i1 R hT nd).trans (i2 R hT ((List.Perm.append_left _ h.perm).nodup_iff.mp nd))
 | @k3 a b u v h =>
  intro R hT nd
  rw [ins_app, ins_app, ins_app, ins_app]
  rw [List.append_assoc, <- List.append_assoc] at nd
  have na : (R.flatten ++ a).Nodup := (List.nodup_append.mp nd).1
  obtain ⟨t1, t2⟩ := ins_tab a R hT na
  rw [k3_ins (insW R a) t1 (t2.nodup_iff.mpr na) u v h fun x hx hz => ?_]
  exact (List.nodup_append.mp nd).2.2 x (t2.mem_iff.mp hz) x (List.mem_append_left _ hx) rfl
end L2
namespace L2
open PySem PySem.Spec PyProof.Rows
theorem Knu.app {l l' : List Int} (v : List Int) (h : Knu l l') : Knu (l ++ v) (l' ++ v) := by simpa using h.ctx [] v
theorem Knu.pre {l l' : List Int} (u : List Int) (h : Knu l l') : Knu (u ++ l) (u ++ l') := by simpa using h.ctx u []
theorem Knu.cons {l l' : List Int} (x : Int) (h : Knu l l') : Knu (x :: l) (x :: l') := h.pre [x]
theorem kn1 {x y z : Int} (h1 : x < y) (h2 : y < z) : Knu [y, x, z] [y, z, x] := by
 simpa using Knu.k3 [] [] (u := [y, x, z]) (v := [y, z, x]) ⟨x, y, z, h1, h2, .inl ⟨rfl, rfl⟩⟩
theorem kn2 {x y z : Int} (h1 : x < y) (h2 : y < z) : Knu [x, z, y] [z, x, y] := by
 simpa using Knu.k3 [] [] (u := [x, z, y]) (v := [z, x, y]) ⟨x, y, z, h1, h2, .inr ⟨rfl, rfl⟩⟩
theorem kn_right {x : Int} : ∀ (y : Int) (v : List Int), Inc (y :: v) -> x < y -> Knu (y :: v ++ [x]) (y :: x :: v)
 | _, [], _, _ => .refl _
 | y, z :: v, hi, hx => by
  obtain ⟨h1, h2⟩ := List.pairwise_cons.mp hi
  have hyz := h1 z List.mem_cons_self
  exact (Knu.cons y (kn_right (x := x) z v h2 (by (first | lia | omega)))).trans (Knu.app v (kn1 hx hyz)).symm
theorem kn_left {x y : Int} : ∀ (u : List Int), Inc (u ++ [x]) -> x < y -> Knu (u ++ [y, x]) (y :: (u ++ [x]))
 | [], _, _ => .refl _
 | a :: u, hi, hx => by
  obtain ⟨h1, h2⟩ := List.pairwise_cons.mp hi
  have ih := kn_left u h2 hx
  refine (Knu.cons a ih).trans ?_
  cases hb : u ++ [x] with
  | nil => simp at hb
  | cons b w =>
   have hab : a < b := h1 b (by show b ∈ u ++ [x]; rw [hb]; exact List.mem_cons_self)
   have hby : b < y := by
    have hbm : b ∈ u ++ [x] := by rw [hb]; exact List.mem_cons_self
    rcases List.mem_append.mp hbm with z | z
    ·have := (List.pairwise_append.mp h2).2.2 b z x (by simp)
     (first | lia | omega)
    ·rw [List.mem_singleton.mp z]
     exact hx
   show Knu (a :: y :: b :: w) (y :: (a :: u ++ [x]))
   rw [List.cons_append, hb]
   exact Knu.app w (kn2 hab hby)
theorem kn_row {r : List Int} {x : Int} (hi : Inc r) (hx : x ∉ r) (hc : cntL r x < r.length) : Knu (r ++ [x]) (r.getD (cntL r x) 0 :: r.set (cntL r x) x) := by
 have hi' := incSet hi hx hc
 have hy := cntGt hi hx hc
 have e : r.getD (cntL r x) 0 = r[cntL r x] := by rw [List.getD_eq_getElem?_getD, List.getElem?_eq_getElem hc]; rfl
 rw [e] at hy ⊢
 rw [List.set_eq_take_append_cons_drop, if_pos hc] at hi' ⊢
 have e2 : r = r.take (cntL r x) ++ r[cntL r x] :: r.drop (cntL r x + 1) := by
  rw [<- List.drop_eq_getElem_cons hc, List.take_append_drop]
 generalize r.take (cntL r x) = u at *
 generalize r.drop (cntL r x + 1) = v at *
 generalize r[cntL r x] = y at *
 rw [e2]
 rw [e2] at hi
 have h2 := Knu.pre u (kn_right (x := x) y v ((List.pairwise_append.mp hi).2.1) hy)
 have hux : Inc (u ++ [x]) := hi'.sublist (by
  have : u ++ x :: v = (u ++ [x]) ++ v := by simp
  rw [this]
  exact List.sublist_append_left _ _)
 have h3 := Knu.app v (kn_left u hux hy)
 have h2' : Knu (u ++ y :: v ++ [x]) (u ++ [y, x] ++ v) := by simpa using h2
 refine h2'.trans ?_
 simpa using h3
theorem kn_put : ∀ (R : List (List Int)) (x : Int), Tab R -> R.flatten.Nodup -> x ∉ R.flatten -> Knu (rdW R ++ [x]) (rdW (putR R x).1)
 | [], x, _, _, _ => .refl _
 | r :: R, x, hT, nd, hx => by
  obtain ⟨hi, hne, hA, hTR⟩ := hT
  rw [List.flatten_cons] at nd hx
  have hxr : x ∉ r := fun z => hx (List.mem_append_left _ z)
  have nd' := List.nodup_append.mp nd
  unfold putR
  by_cases e : cntL r x = r.length
  ·rw [if_pos e]
   show Knu (rdW R ++ r ++ [x]) (rdW R ++ (r ++ [x]))
   rw [List.append_assoc]
   exact .refl _
  ·rw [if_neg e]
   have hc : cntL r x < r.length := by have := cntLe r x; (first | lia | omega)
   have hyF : r.getD (cntL r x) 0 ∉ R.flatten := fun z => nd'.2.2 _ (memD hc) _ z rfl
   have ih := kn_put R (r.getD (cntL r x) 0) hTR nd'.2.1 hyF
   show Knu (rdW R ++ r ++ [x]) (rdW (putR R (r.getD (cntL r x) 0)).1 ++ r.set (cntL r x) x)
   rw [List.append_assoc]
   refine (Knu.pre _ (kn_row hi hxr hc)).trans ?_
   have := Knu.app (r.set (cntL r x) x) ih
   simpa using this
theorem kn_word : ∀ (w : List Int) (R : List (List Int)), Tab R -> (R.flatten ++ w).Nodup -> Knu (rdW R ++ w) (rdW (insW R w))
 | [], R, _, _ => by rw [List.append_nil]; exact .refl _
 | x :: w, R, hT, nd => by
  have nd' := List.nodup_append.mp nd
  have hx : x ∉ R.flatten := fun z => nd'.2.2 x z x List.mem_cons_self rfl
  obtain ⟨t1, t2⟩ := put_tab R x hT nd'.1 hx
  have p : ((putR R x).1.flatten ++ w).Perm (R.flatten ++ x :: w) := (t2.append_right w).trans List.perm_middle.symm
  have ih := kn_word w (putR R x).1 t1 (p.nodup_iff.mpr nd)
  have h := Knu.app w (kn_put R x hT nd'.1 hx)
  rw [List.append_assoc] at h
  exact h.trans ih
noncomputable def addCol : List (List Int) -> List Int -> List (List Int)
 | C, [] => C
 | [], b :: bs => [b] :: addCol [] bs
 | c :: C, b :: bs => (c ++ [b]) :: addCol C bs
noncomputable def Cd : List (List Int) -> List Int -> Prop
 | c :: C, b :: bs => (∀ a ∈ c, a < b) /\ Cd C bs
 | _, _ => True
theorem rowW_app : ∀ (u : List Int) (r v : List Int), rowW r (u ++ v) = ((rowW (rowW r u).1 v).1, (rowW r u).2 ++ (rowW (rowW r u).1 v).2)
 | [], r, v => rfl
 | x :: u, r, v => by
  show ((rowW (rwR r x) (u ++ v)).1, (nxR r x).toList ++ (rowW (rwR r x) (u ++ v)).2) = _
  rw [rowW_app u]
  show _ = ((rowW (rowW (rwR r x) u).1 v).1, ((nxR r x).toList ++ (rowW (rwR r x) u).2) ++ (rowW (rowW (rwR r x) u).1 v).2)
  rw [List.append_assoc]
theorem cnt_all {c : List Int} {b : Int} (h : ∀ a ∈ c, a < b) : cntL c b = c.length := by
 unfold cntL
 rw [List.countP_eq_length]
 exact fun a ha => decide_eq_true (h a ha)
theorem row_fall (c : List Int) : ∀ (bs : List Int) (b : Int), Inc (b :: bs) -> (∀ a ∈ c, a < b) -> rowW c (bs.reverse ++ [b]) = (c ++ [b], bs.reverse)
 | [], b, _, h => by
  show ((rwR c b), (nxR c b).toList ++ []) = _
  unfold rwR nxR
  rw [if_pos (cnt_all h), if_pos (cnt_all h)]
  rfl
 | b' :: bs, b, hi, h => by
  obtain ⟨h1, h2⟩ := List.pairwise_cons.mp hi
  have hbb := h1 b' List.mem_cons_self
  have ih := row_fall c bs b' h2 fun a ha => by have := h a ha; (first | lia | omega)
  rw [List.reverse_cons, rowW_app, ih]
  have e : cntL (c ++ [b']) b = c.length := by
   unfold cntL
   rw [List.countP_append]
   have := cnt_all h
   unfold cntL at this
   rw [this]
   simp
   (first | lia | omega)
  show ((rwR (c ++ [b']) b), bs.reverse ++ ((nxR (c ++ [b']) b).toList ++ [])) = _
  unfold rwR nxR
  rw [e, if_neg (by simp), if_neg (by simp)]
  simp
theorem ins_fall : ∀ (b : List Int) (C : List (List Int)), Inc b -> Cd C b -> insW C b.reverse = addCol C b
 | [], C, _, _ => by
  cases C <;> rfl
 | b :: bs, [], hi, _ => by
  rw [List.reverse_cons, ins_nil (by simp), row_fall [] bs b hi (fun a ha => by cases ha)]
  show [b] :: insW [] bs.reverse = [b] :: addCol [] bs
  rw [ins_fall bs [] (List.pairwise_cons.mp hi).2 (by cases bs <;> trivial)]
 | b :: bs, c :: C, hi, hc => by
  rw [List.reverse_cons, ins_cons, row_fall c bs b hi hc.1]
  show (c ++ [b]) :: insW C bs.reverse = (c ++ [b]) :: addCol C bs
  rw [ins_fall bs C (List.pairwise_cons.mp hi).2 hc.2]
theorem cd_next : ∀ (r s : List Int) (C : List (List Int)), Cd C r -> s.length <= r.length -> (∀ j, j < s.length -> r.getD j 0 < s.getD j 0) -> Cd (addCol C r) s
 | r, [], C, _, _, _ => by
  cases addCol C r <;> trivial
 | [], t :: s, C, _, h, _ => by simp at h
 | b :: r, t :: s, [], _, h, h2 => by
  have h0 : b < t := h2 0 (by simp)
  refine ⟨fun a ha => ?_, cd_next r s [] (by cases r <;> trivial) (by simpa using h) fun j hj => h2 (j + 1) (by simpa using hj)⟩
  rw [List.mem_singleton.mp ha]
  exact h0
 | b :: r, t :: s, c :: C, hc, h, h2 => by
  have h0 : b < t := h2 0 (by simp)
  refine ⟨fun a ha => ?_, cd_next r s C hc.2 (by simpa using h) fun j hj => h2 (j + 1) (by simpa using hj)⟩
  rcases List.mem_append.mp ha with z | z
  ·have := hc.1 a z
   (first | lia | omega)
  ·rw [List.mem_singleton.mp z]
   exact h0
theorem ins_cols : ∀ (R C : List (List Int)), Tab R -> (∀ r, R.head? = some r -> Cd C r) -> insW C (R.map List.reverse).flatten = R.foldl addCol C
 | [], C, _, _ => rfl
 | r :: R, C, hT, hc => by
  obtain ⟨hi, hne, hA, hTR⟩ := hT
  rw [List.map_cons, List.flatten_cons, ins_app, ins_fall r C hi (hc r rfl)]
  exact ins_cols R (addCol C r) hTR fun s hs => cd_next r s C (hc r rfl) (hA s hs).1 (hA s hs).2
theorem rd_rev : ∀ R : List (List Int), (rdW R).reverse = (R.map List.reverse).flatten
 | [] => rfl
 | r :: R => by
  rw [show rdW (r :: R) = rdW R ++ r from rfl, List.reverse_append, rd_rev R]
  rfl
theorem mirror_tab {w : List Int} (nd : w.Nodup) : insW [] w.reverse = (insW [] w).foldl addCol [] := by
 have k := (kn_word w [] trivial (by simpa using nd)).rev
 rw [rd_rev] at k
 have k' : Knu w.reverse ((insW [] w).map List.reverse).flatten := by simpa [rdW] using k
 rw [kn_ins k' [] trivial (by simpa using (List.reverse_perm w).nodup_iff.mpr nd)]
 exact ins_cols _ [] (ins_tab w [] trivial (by simpa using nd)).1 fun r _ => by cases r <;> trivial
noncomputable def overZ (R : List (List Int)) : List (List Int) := (List.range (R.headD []).length).map fun k => R.filterMap fun r => r[k]?
theorem addCol_at : ∀ (b : List Int) (C : List (List Int)) (k : Nat), (addCol C b).getD k [] = C.getD k [] ++ (b[k]?).toList
 | [], C, k => by
  have : addCol C [] = C := by cases C <;> rfl
  rw [this]
  simp
 | b :: bs, [], 0 => rfl
 | b :: bs, [], k + 1 => by
  show (addCol [] bs).getD k [] = _
  rw [addCol_at bs [] k]
  simp
 | b :: bs, c :: C, 0 => rfl
 | b :: bs, c :: C, k + 1 => by
  show (addCol C bs).getD k [] = _
  rw [addCol_at bs C k]
  simp
theorem addCol_len : ∀ (b : List Int) (C : List (List Int)), (addCol C b).length = max C.length b.length
 | [], C => by
  have : addCol C [] = C := by cases C <;> rfl
  rw [this]
  simp
 | b :: bs, [] => by
  show (addCol [] bs).length + 1 = _
  rw [addCol_len bs []]
  simp
 | b :: bs, c :: C => by
  show (addCol C bs).length + 1 = _
  rw [addCol_len bs C]
  simp only [List.length_cons]
  (first | lia | omega)
theorem cols_at (k : Nat) : ∀ (R C : List (List Int)), (R.foldl addCol C).getD k [] = C.getD k [] ++ R.filterMap fun r => r[k]?
 | [], C => by simp
 | r :: R, C => by
  show (R.foldl addCol (addCol C r)).getD k [] = _
  rw [cols_at k R, addCol_at, List.filterMap_cons, List.append_assoc]
  cases r[k]? <;> rfl
theorem cols_len : ∀ (R C : List (List Int)) (n : Nat), C.length = n -> (∀ r ∈ R, r.length <= n) -> (R.foldl addCol C).length = n
 | [], C, n, h, _ => h
 | r :: R, C, n, h, h2 => by
  refine cols_len R (addCol C r) n ?_ fun s hs => h2 s (List.mem_cons_of_mem _ hs)
  rw [addCol_len]
  have := h2 r List.mem_cons_self
  (first | lia | omega)
theorem tab_len : ∀ {R : List (List Int)} {r : List Int}, Tab (r :: R) -> ∀ s ∈ R, s.length <= r.length
 | [], _, _, _, h => by cases h
 | t :: R, r, hT, s, hs => by
  obtain ⟨_, _, hA, hTR⟩ := hT
  have h1 := (hA t rfl).1
  rcases List.mem_cons.mp hs with z | z
  ·rw [z]; exact h1
  ·exact Nat.le_trans (tab_len hTR s z) h1
theorem cols_over {R : List (List Int)} (hT : Tab R) : R.foldl addCol [] = overZ R := by
 cases R with
 | nil => rfl
 | cons r R =>
  have hl : ((r :: R).foldl addCol []).length = r.length := by
   refine cols_len R (addCol [] r) r.length ?_ (tab_len hT)
   rw [addCol_len]
   simp
  refine List.ext_getElem? fun k => ?_
  by_cases c : k < r.length
  ·have e := cols_at k (r :: R) []
   rw [List.getD_eq_getElem?_getD, List.getElem?_eq_getElem (by rw [hl]; exact c)] at e
   rw [List.getElem?_eq_getElem (by rw [hl]; exact c)]
   unfold overZ
   rw [List.getElem?_map, List.getElem?_range (by exact c)]
   simpa using e
  ·rw [List.getElem?_eq_none (by rw [hl]; (first | lia | omega))]
   unfold overZ
   rw [List.getElem?_eq_none (by rw [List.length_map, List.length_range]; show r.length <= k; (first | lia | omega))]
theorem mirror_over {w : List Int} (nd : w.Nodup) : insW [] w.reverse = overZ (insW [] w) := by
 rw [mirror_tab nd]
 exact cols_over (ins_tab w [] trivial (by simpa using nd)).1
end L2
namespace L2
open PySem PySem.Spec PyProof.Rows
noncomputable def rwP : List Int -> List Int -> List (Int × Int) -> List Int × List Int × List (Int × Int)
 | r, s, [] => (r, s, [])
 | r, s, p :: A => ((rwP (rwR r p.2) (if cntL r p.2 = r.length then s ++ [p.1] else s) A).1, (rwP (rwR r p.2) (if cntL r p.2 = r.length then s ++ [p.1] else s) A).2.1, ((nxR r p.2).toList.map fun y => (p.1, y)) ++ (rwP (rwR r p.2) (if cntL r p.2 = r.length then s ++ [p.1] else s) A).2.2)
theorem rwP_snoc : ∀ (A : List (Int × Int)) (r s : List Int) (p : Int × Int), rwP r s (A ++ [p]) = (rwR (rwP r s A).1 p.2, (if cntL (rwP r s A).1 p.2 = (rwP r s A).1.length then (rwP r s A).2.1 ++ [p.1] else (rwP r s A).2.1), (rwP r s A).2.2 ++ ((nxR (rwP r s A).1 p.2).toList.map fun y => (p.1, y)))
 | [], r, s, p => by
  simp only [List.nil_append, rwP, List.append_nil]
  try rfl
 | q :: A, r, s, p => by
  simp only [List.cons_append, rwP]
  rw [rwP_snoc A]
  simp only [List.append_assoc]
  try rfl
structure Lv (A : List (Int × Int)) (r s : List Int) (res : List (Int × Int)) (f : Int × Int -> Nat) : Prop where
 inc : Inc r
 len : s.length = r.length
 rb : ∀ p ∈ A, f p < r.length
 rmin : ∀ k, k < r.length -> ∃ p ∈ A, f p = k /\ p.2 = r.getD k 0 /\ ∀ p' ∈ A, f p' = k -> p.2 <= p'.2
 smin : ∀ k, k < r.length -> ∃ p ∈ A, f p = k /\ p.1 = s.getD k 0 /\ ∀ p' ∈ A, f p' = k -> p.1 <= p'.1
 ch : ∀ p ∈ A, ∀ p' ∈ A, p.1 < p'.1 -> p.2 < p'.2 -> f p < f p'
 pr : ∀ p ∈ A, f p = 0 ∨ ∃ p' ∈ A, p'.1 < p.1 /\ p'.2 < p.2 /\ f p' + 1 = f p
 rs : ∀ q, q ∈ res ↔ ∃ p ∈ A, ∃ p' ∈ A, f p = f p' /\ p.1 < p'.1 /\ q = (p'.1, p.2) /\ ∀ p'' ∈ A, f p'' = f p -> ¬ (p.1 < p''.1 /\ p''.1 < p'.1)
 srt : res.Pairwise fun p q => p.1 < q.1
 rx : ∀ x ∈ r, ∃ p ∈ A, p.2 = x
noncomputable def Two (A : List (Int × Int)) : Prop := A.Pairwise (fun p q => p.1 < q.1) /\ A.Pairwise (fun p q => p.2 ≠ q.2)
theorem Two.uniq {A : List (Int × Int)} (h : Two A) {p q : Int × Int} (hp : p ∈ A) (hq : q ∈ A) : (p.1 = q.1 -> p = q) /\ (p.2 = q.2 -> p = q) := by
 obtain ⟨i, hi, rfl⟩ := List.getElem_of_mem hp
 obtain ⟨j, hj, rfl⟩ := List.getElem_of_mem hq
 have h1 := List.pairwise_iff_getElem.mp h.1
 have h2 := List.pairwise_iff_getElem.mp h.2
 rcases Nat.lt_trichotomy i j with c | c | c
 ·exact ⟨fun e => absurd (h1 i j hi hj c) (by (first | lia | omega)), fun e => absurd e (h2 i j hi hj c)⟩
 ·subst c
  exact ⟨fun _ => rfl, fun _ => rfl⟩
 ·exact ⟨fun e => absurd (h1 j i hj hi c) (by (first | lia | omega)), fun e => absurd e.symm (h2 j i hj hi c)⟩
theorem Lv.an {A : List (Int × Int)} {r s : List Int} {res : List (Int × Int)} {f : Int × Int -> Nat} (L : Lv A r s res f) (h : Two A) {p p' : Int × Int} (hp : p ∈ A) (hp' : p' ∈ A) (e : f p = f p') (hl : p.1 < p'.1) : p'.2 < p.2 := by
 rcases Int.lt_trichotomy p.2 p'.2 with c | c | c
 ·have := L.ch p hp p' hp' hl c
  (first | lia | omega)
 ·have := (h.uniq hp hp').2 c
  rw [this] at hl
  (first | lia | omega)
 ·exact c
theorem lv_step {A : List (Int × Int)} {r s : List Int} {res : List (Int × Int)} {f : Int × Int -> Nat} (L : Lv A r s res f) (hA : Two A) (n : Int × Int) (hn : Two (A ++ [n])) : ∃ f', Lv (A ++ [n]) (rwR r n.2) (if cntL r n.2 = r.length then s ++ [n.1] else s) (res ++ ((nxR r n.2).toList.map fun y => (n.1, y))) f' := by
 have t1 : ∀ p ∈ A, p.1 < n.1 := fun p hp => (List.pairwise_append.mp hn.1).2.2 p hp n List.mem_cons_self
 have x1 : ∀ p ∈ A, p.2 ≠ n.2 := fun p hp => (List.pairwise_append.mp hn.2).2.2 p hp n List.mem_cons_self
 have nA : n ∉ A := fun h => by have := t1 n h; (first | lia | omega)
 have hx : n.2 ∉ r := fun h => by
  obtain ⟨p, hp, e⟩ := L.rx _ h
  exact x1 p hp e
 have mm : ∀ {q : Int × Int}, q ∈ A ++ [n] ↔ q ∈ A ∨ q = n := fun {q} => by simp
 have inA : ∀ {q : Int × Int}, q ∈ A -> q ∈ A ++ [n] := fun h => List.mem_append_left _ h
 have inn : n ∈ A ++ [n] := mm.mpr (.inr rfl)
 have fo : ∀ p ∈ A, (if p = n then cntL r n.2 else f p) = f p := fun p hp => if_neg fun e : p = n => nA (by rw [<- e]; exact hp)
 have fn : (if n = n then cntL r n.2 else f n) = cntL r n.2 := if_pos rfl
 have hle := cntLe r n.2
 have low : ∀ p ∈ A, p.2 < n.2 -> f p < cntL r n.2 := fun p hp hl => by
  have hb := L.rb p hp
  obtain ⟨m, hm, m1, m2, m3⟩ := L.rmin (f p) hb
  have := m3 p hp rfl
  exact (cntLt L.inc hb).mp (by (first | lia | omega))
 have prn : cntL r n.2 = 0 ∨ ∃ p' ∈ A, p'.1 < n.1 /\ p'.2 < n.2 /\ f p' + 1 = cntL r n.2 := by
  by_cases c : cntL r n.2 = 0
  ·exact .inl c
  ·obtain ⟨m, hm, m1, m2, m3⟩ := L.rmin (cntL r n.2 - 1) (by (first | lia | omega))
   have := (cntLt L.inc (x := n.2) (j := cntL r n.2 - 1) (by (first | lia | omega))).mpr (by (first | lia | omega))
   exact .inr ⟨m, hm, t1 m hm, by (first | lia | omega), by (first | lia | omega)⟩
 have ch' : ∀ p ∈ A ++ [n], ∀ p' ∈ A ++ [n], p.1 < p'.1 -> p.2 < p'.2 -> (if p = n then cntL r n.2 else f p) < (if p' = n then cntL r n.2 else f p') := fun p hp p' hp' h1 h2 => by
  rcases mm.mp hp with hpA | rfl
  ·rw [fo p hpA]
   rcases mm.mp hp' with hp' | rfl
   ·rw [fo p' hp']
    exact L.ch p hpA p' hp' h1 h2
   ·rw [fn]
    exact low p hpA h2
  ·rcases mm.mp hp' with hp' | rfl
   ·have := t1 p' hp'
    (first | lia | omega)
   ·(first | lia | omega)
 have pr' : ∀ p ∈ A ++ [n], (if p = n then cntL r n.2 else f p) = 0 ∨ ∃ p' ∈ A ++ [n], p'.1 < p.1 /\ p'.2 < p.2 /\ (if p' = n then cntL r n.2 else f p') + 1 = (if p = n then cntL r n.2 else f p) := fun p hp => by
  rcases mm.mp hp with hp | rfl
  ·rw [fo p hp]
   rcases L.pr p hp with h | ⟨p', h1, h2, h3, h4⟩
   ·exact .inl h
   ·exact .inr ⟨p', inA h1, h2, h3, by rw [fo p' h1]; exact h4⟩
  ·rw [fn]
   rcases prn with h | ⟨p', h1, h2, h3, h4⟩
   ·exact .inl h
   ·exact .inr ⟨p', inA h1, h2, h3, by rw [fo p' h1]; exact h4⟩
 have oldres : ∀ {p p' : Int × Int}, p ∈ A -> p' ∈ A -> ((∀ p'' ∈ A, f p'' = f p -> ¬ (p.1 < p''.1 /\ p''.1 < p'.1)) ↔ ∀ p'' ∈ A ++ [n], (if p'' = n then cntL r n.2 else f p'') = (if p = n then cntL r n.2 else f p) -> ¬ (p.1 < p''.1 /\ p''.1 < p'.1)) := fun {p p'} hp hp' => by
  rw [fo p hp]
  constructor
  ·intro h p'' hp'' e
   rcases mm.mp hp'' with z | rfl
   ·rw [fo p'' z] at e
    exact h p'' z e
   ·have := t1 p' hp'
    (first | lia | omega)
  ·intro h p'' hp'' e
   exact h p'' (inA hp'') (by rw [fo p'' hp'']; exact e)
 refine ⟨fun p => if p = n then cntL r n.2 else f p, ?_⟩
 by_cases hc : cntL r n.2 = r.length
 ·have e1 : rwR r n.2 = r ++ [n.2] := if_pos hc
  have e2 : nxR r n.2 = none := if_pos hc
  rw [e1, e2, if_pos hc]
  have emp : ∀ p ∈ A, f p ≠ cntL r n.2 := fun p hp => by have := L.rb p hp; (first | lia | omega)
  refine ⟨e1 ▸ rw_inc L.inc hx, by simp [L.len], fun p hp => ?_, fun k hk => ?_, fun k hk => ?_, ch', pr', fun q => ?_, by simpa using L.srt, fun x hx' => ?_⟩
  ·rw [List.length_append]
   show _ < r.length + 1
   rcases mm.mp hp with hp | rfl
   ·show (if p = n then _ else _) < _
    rw [fo p hp]
    have := L.rb p hp
    (first | lia | omega)
   ·show (if p = p then _ else _) < _
    rw [fn]
    (first | lia | omega)
  ·rw [List.length_append] at hk
   have hk : k < r.length + 1 := hk
   by_cases c : k = r.length
   ·refine ⟨n, inn, by show (if n = n then _ else _) = k; rw [fn]; (first | lia | omega), ?_, fun p' hp' e => ?_⟩
    ·rw [c, List.getD_eq_getElem?_getD, List.getElem?_append_right (Nat.le_refl _), Nat.sub_self]
     rfl
    ·rcases mm.mp hp' with h | rfl
     ·exact absurd (show f p' = cntL r n.2 by have e : (if p' = n then _ else _) = k := e; rw [fo p' h] at e; (first | lia | omega)) (emp p' h)
     ·exact Int.le_refl _
   ·obtain ⟨p, hp, h1, h2, h3⟩ := L.rmin k (by (first | lia | omega))
    refine ⟨p, inA hp, by show (if p = n then _ else _) = k; rw [fo p hp]; exact h1, ?_, fun p' hp' e => ?_⟩
    ·rw [h2, List.getD_eq_getElem?_getD, List.getD_eq_getElem?_getD, List.getElem?_append_left (by (first | lia | omega))]
    ·rcases mm.mp hp' with h | rfl
     ·exact h3 p' h (by have e : (if p' = n then _ else _) = k := e; rwa [fo p' h] at e)
     ·have e : (if p' = p' then _ else _) = k := e
      rw [fn] at e
      (first | lia | omega)
  ·rw [List.length_append] at hk
   have hk : k < r.length + 1 := hk
   by_cases c : k = r.length
   ·refine ⟨n, inn, by show (if n = n then _ else _) = k; rw [fn]; (first | lia | omega), ?_, fun p' hp' e => ?_⟩
    ·rw [c, <- L.len, List.getD_eq_getElem?_getD, List.getElem?_append_right (Nat.le_refl _), Nat.sub_self]
     rfl
    ·rcases mm.mp hp' with h | rfl
     ·exact absurd (show f p' = cntL r n.2 by have e : (if p' = n then _ else _) = k := e; rw [fo p' h] at e; (first | lia | omega)) (emp p' h)
     ·exact Int.le_refl _
   ·obtain ⟨p, hp, h1, h2, h3⟩ := L.smin k (by (first | lia | omega))
    refine ⟨p, inA hp, by show (if p = n then _ else _) = k; rw [fo p hp]; exact h1, ?_, fun p' hp' e => ?_⟩
    ·rw [h2, List.getD_eq_getElem?_getD, List.getD_eq_getElem?_getD, List.getElem?_append_left (by rw [L.len]; (first | lia | omega))]
    ·rcases mm.mp hp' with h | rfl
     ·exact h3 p' h (by have e : (if p' = n then _ else _) = k := e; rwa [fo p' h] at e)
     ·have e : (if p' = p' then _ else _) = k := e
      rw [fn] at e
      (first | lia | omega)
  ·rw [show (Option.none : Option Int).toList.map (fun y => (n.1, y)) = [] from rfl, List.append_nil, L.rs q]
   constructor
   ·rintro ⟨p, hp, p', hp', a1, a2, a3, a4⟩
    exact ⟨p, inA hp, p', inA hp', by show (if p = n then _ else _) = (if p' = n then _ else _); rw [fo p hp, fo p' hp']; exact a1, a2, a3, (oldres hp hp').mp a4⟩
   ·rintro ⟨p, hp, p', hp', a1, a2, a3, a4⟩
    have a1 : (if p = n then _ else _) = (if p' = n then _ else _) := a1
    rcases mm.mp hp with hpA | rfl
    ·rw [fo p hpA] at a1
     rcases mm.mp hp' with hp' | rfl
     ·rw [fo p' hp'] at a1
      exact ⟨p, hpA, p', hp', a1, a2, a3, (oldres hpA hp').mpr a4⟩
     ·rw [fn] at a1
      exact absurd a1 (emp p hpA)
    ·rcases mm.mp hp' with hp' | rfl
     ·have := t1 p' hp'
      (first | lia | omega)
     ·(first | lia | omega)
  ·rcases List.mem_append.mp hx' with h | h
   ·obtain ⟨p, hp, e⟩ := L.rx x h
    exact ⟨p, inA hp, e⟩
   ·exact ⟨n, inn, (List.mem_singleton.mp h).symm⟩
 ·have hlt : cntL r n.2 < r.length := by (first | lia | omega)
  have e1 : rwR r n.2 = r.set (cntL r n.2) n.2 := if_neg hc
  have e2 : nxR r n.2 = some (r.getD (cntL r n.2) 0) := if_neg hc
  rw [e2, if_neg hc, e1]
  have gt := cntGt L.inc hx hlt
  obtain ⟨m, hm, m1, m2, m3⟩ := L.rmin (cntL r n.2) hlt
  refine ⟨e1 ▸ rw_inc L.inc hx, by rw [List.length_set]; exact L.len, fun p hp => ?_, fun k hk => ?_, fun k hk => ?_, ch', pr', fun q => ?_, ?_, fun x hx' => ?_⟩
  ·rw [List.length_set]
   rcases mm.mp hp with hp | rfl
   ·show (if p = n then _ else _) < _
    rw [fo p hp]
    exact L.rb p hp
   ·show (if p = p then _ else _) < _
    rw [fn]
    exact hlt
  ·rw [List.length_set] at hk
   rw [gdSet hlt]
   by_cases c : k = cntL r n.2
   ·rw [if_pos c]
    refine ⟨n, inn, by show (if n = n then _ else _) = k; rw [fn, c], rfl, fun p' hp' e => ?_⟩
    rcases mm.mp hp' with h | rfl
    ·have e : (if p' = n then _ else _) = k := e
     rw [fo p' h] at e
     have := m3 p' h (by (first | lia | omega))
     (first | lia | omega)
    ·exact Int.le_refl _
   ·rw [if_neg c]
    obtain ⟨p, hp, h1, h2, h3⟩ := L.rmin k hk
    refine ⟨p, inA hp, by show (if p = n then _ else _) = k; rw [fo p hp]; exact h1, h2, fun p' hp' e => ?_⟩
    rcases mm.mp hp' with h | rfl
    ·exact h3 p' h (by have e : (if p' = n then _ else _) = k := e; rwa [fo p' h] at e)
    ·have e : (if p' = p' then _ else _) = k := e
     rw [fn] at e
     (first | lia | omega)
  ·rw [List.length_set] at hk
   obtain ⟨p, hp, h1, h2, h3⟩ := L.smin k hk
   refine ⟨p, inA hp, by show (if p = n then _ else _) = k; rw [fo p hp]; exact h1, h2, fun p' hp' e => ?_⟩
   rcases mm.mp hp' with h | rfl
   ·exact h3 p' h (by have e : (if p' = n then _ else _) = k := e; rwa [fo p' h] at e)
   ·have := t1 p hp
    (first | lia | omega)
  ·rw [show (some (r.getD (cntL r n.2) 0)).toList.map (fun y => (n.1, y)) = [(n.1, r.getD (cntL r n.2) 0)] from rfl, List.mem_append, L.rs q, List.mem_singleton]
   constructor
   ·rintro (⟨p, hp, p', hp', a1, a2, a3, a4⟩ | h)
    ·exact ⟨p, inA hp, p', inA hp', by show (if p = n then _ else _) = (if p' = n then _ else _); rw [fo p hp, fo p' hp']; exact a1, a2, a3, (oldres hp hp').mp a4⟩
    ·refine ⟨m, inA hm, n, inn, by show (if m = n then _ else _) = (if n = n then _ else _); rw [fo m hm, fn, m1], t1 m hm, by rw [h, m2], fun p'' hp'' e ⟨b1, b2⟩ => ?_⟩
     have e : (if p'' = n then _ else _) = (if m = n then _ else _) := e
     rw [fo m hm, m1] at e
     rcases mm.mp hp'' with z | rfl
     ·rw [fo p'' z] at e
      have := L.an hA hm z (by (first | lia | omega)) b1
      have := m3 p'' z e
      (first | lia | omega)
     ·(first | lia | omega)
   ·rintro ⟨p, hp, p', hp', a1, a2, a3, a4⟩
    have a1 : (if p = n then _ else _) = (if p' = n then _ else _) := a1
    rcases mm.mp hp with hpA | rfl
    ·rcases mm.mp hp' with hp' | rfl
     ·rw [fo p hpA, fo p' hp'] at a1
      exact .inl ⟨p, hpA, p', hp', a1, a2, a3, (oldres hpA hp').mpr a4⟩
     ·rw [fo p hpA, fn] at a1
      have : p = m := by
       rcases Int.lt_trichotomy p.1 m.1 with c | c | c
       ·have := a4 m (inA hm) (by show (if m = p' then _ else _) = (if p = p' then _ else _); rw [fo m hm, fo p hpA]; (first | lia | omega))
        exact absurd ⟨c, t1 m hm⟩ this
       ·exact (hA.uniq hpA hm).1 c
       ·have := L.an hA hm hpA (by (first | lia | omega)) c
        have := m3 p hpA a1
        (first | lia | omega)
      right
      rw [a3, this, m2]
    ·rcases mm.mp hp' with hp' | rfl
     ·have := t1 p' hp'
      (first | lia | omega)
     ·(first | lia | omega)
  ·refine List.pairwise_append.mpr ⟨L.srt, List.pairwise_singleton _ _, fun q hq q' hq' => ?_⟩
   obtain ⟨p, hp, p', hp', _, _, a3, _⟩ := (L.rs q).mp hq
   have : q' = (n.1, r.getD (cntL r n.2) 0) := List.mem_singleton.mp hq'
   rw [this, a3]
   exact t1 p' hp'
  ·rcases List.mem_or_eq_of_mem_set hx' with h | h
   ·obtain ⟨p, hp, e⟩ := L.rx x h
    exact ⟨p, inA hp, e⟩
   ·exact ⟨n, inn, h.symm⟩
end L2
namespace L2
open PySem PySem.Spec PyProof.Rows
theorem lv_all (A : List (Int × Int)) : ∀ (n : Nat), n <= A.length -> Two A -> ∃ f, Lv (A.take n) (rwP [] [] (A.take n)).1 (rwP [] [] (A.take n)).2.1 (rwP [] [] (A.take n)).2.2 f
 | 0, _, _ => ⟨fun _ => 0, by
   rw [List.take_zero]
   exact ⟨.nil, rfl, fun p hp => (by cases hp), fun k hk => (by cases hk), fun k hk => (by cases hk), fun p hp => (by cases hp), fun p hp => (by cases hp), fun q => ⟨fun h => (by cases h), fun ⟨p, hp, _⟩ => (by cases hp)⟩, .nil, fun x hx => (by cases hx)⟩⟩
 | n + 1, hn, h => by
  obtain ⟨f, L⟩ := lv_all A n (by (first | lia | omega)) h
  have e : A.take (n + 1) = A.take n ++ [A[n]] := by rw [List.take_add_one, List.getElem?_eq_getElem (by (first | lia | omega))]; rfl
  have sub : ∀ k, Two (A.take k) := fun k => ⟨h.1.sublist (List.take_sublist _ _), h.2.sublist (List.take_sublist _ _)⟩
  rw [e, rwP_snoc]
  exact lv_step L (sub n) A[n] (e ▸ sub (n + 1))
theorem lv_of {A : List (Int × Int)} (h : Two A) : ∃ f, Lv A (rwP [] [] A).1 (rwP [] [] A).2.1 (rwP [] [] A).2.2 f := by
 have := lv_all A A.length (Nat.le_refl _) h
 rwa [List.take_length] at this
theorem Lv.two {A : List (Int × Int)} {r s : List Int} {res : List (Int × Int)} {f : Int × Int -> Nat} (L : Lv A r s res f) (h : Two A) : Two res := by
 refine ⟨L.srt, L.srt.imp_of_mem fun {q q'} hq hq' hl e => ?_⟩
 obtain ⟨p, hp, p', hp', a1, a2, a3, a4⟩ := (L.rs q).mp hq
 obtain ⟨u, hu, u', hu', b1, b2, b3, b4⟩ := (L.rs q').mp hq'
 have ep : p = u := (h.uniq hp hu).2 (by rw [a3, b3] at e; exact e)
 subst ep
 have hl : p'.1 < u'.1 := by rw [a3, b3] at hl; exact hl
 exact b4 p' hp' (by (first | lia | omega)) ⟨a2, hl⟩
theorem rwP_len : ∀ (A : List (Int × Int)) (r s : List Int), (rwP r s A).1.length + (rwP r s A).2.2.length = r.length + A.length
 | [], r, s => rfl
 | p :: A, r, s => by
  have ih := rwP_len A (rwR r p.2) (if cntL r p.2 = r.length then s ++ [p.1] else s)
  show (rwP (rwR r p.2) _ A).1.length + (((nxR r p.2).toList.map fun y => (p.1, y)) ++ (rwP (rwR r p.2) _ A).2.2).length = _
  rw [List.length_append, List.length_cons]
  have e : ((nxR r p.2).toList.map fun y => (p.1, y)).length + (rwR r p.2).length = r.length + 1 := by
   unfold nxR rwR
   split
   ·simp
   ·simp
    (first | lia | omega)
  (first | lia | omega)
noncomputable def swp (p : Int × Int) : Int × Int := (p.2, p.1)
noncomputable def Inv2 (A B : List (Int × Int)) : Prop := ∀ p, p ∈ A ↔ swp p ∈ B
theorem Inv2.symm {A B : List (Int × Int)} (h : Inv2 A B) : Inv2 B A := fun p => (h (swp p)).symm
theorem lv_le {A B : List (Int × Int)} {r s r' s' : List Int} {res res' : List (Int × Int)} {f g : Int × Int -> Nat} (L : Lv A r s res f) (M : Lv B r' s' res' g) (i : Inv2 A B) : ∀ (n : Nat) (p : Int × Int), p ∈ A -> f p = n -> n <= g (swp p)
 | 0, _, _, _ => Nat.zero_le _
 | n + 1, p, hp, e => by
  rcases L.pr p hp with h | ⟨p', hp', h1, h2, h3⟩
  ·(first | lia | omega)
  ·have ih := lv_le L M i n p' hp' (by (first | lia | omega))
   have := M.ch (swp p') ((i p').mp hp') (swp p) ((i p).mp hp) h2 h1
   (first | lia | omega)
theorem lv_eq {A B : List (Int × Int)} {r s r' s' : List Int} {res res' : List (Int × Int)} {f g : Int × Int -> Nat} (L : Lv A r s res f) (M : Lv B r' s' res' g) (i : Inv2 A B) {p : Int × Int} (hp : p ∈ A) : f p = g (swp p) := by
 have h1 := lv_le L M i (f p) p hp rfl
 have h2 := lv_le M L i.symm (g (swp p)) (swp p) ((i p).mp hp) rfl
 have : swp (swp p) = p := rfl
 rw [this] at h2
 (first | lia | omega)
theorem lv_len {A B : List (Int × Int)} {r s r' s' : List Int} {res res' : List (Int × Int)} {f g : Int × Int -> Nat} (L : Lv A r s res f) (M : Lv B r' s' res' g) (i : Inv2 A B) : r.length <= r'.length := by
 refine Nat.not_lt.mp fun c => ?_
 obtain ⟨p, hp, h1, _⟩ := L.rmin r'.length c
 have := M.rb (swp p) ((i p).mp hp)
 rw [<- lv_eq L M i hp, h1] at this
 (first | lia | omega)
theorem lv_row {A B : List (Int × Int)} {r s r' s' : List Int} {res res' : List (Int × Int)} {f g : Int × Int -> Nat} (L : Lv A r s res f) (M : Lv B r' s' res' g) (i : Inv2 A B) : r = s' := by
 have hl : r.length = r'.length := Nat.le_antisymm (lv_len L M i) (lv_len M L i.symm)
 refine List.ext_getElem (by rw [hl, M.len]) fun k h1 h2 => ?_
 have e1 : r.getD k 0 = r[k] := by rw [List.getD_eq_getElem?_getD, List.getElem?_eq_getElem h1]; rfl
 have e2 : s'.getD k 0 = s'[k] := by rw [List.getD_eq_getElem?_getD, List.getElem?_eq_getElem h2]; rfl
 rw [<- e1, <- e2]
 obtain ⟨p, hp, a1, a2, a3⟩ := L.rmin k h1
 obtain ⟨q, hq, b1, b2, b3⟩ := M.smin k (by (first | lia | omega))
 have hq' := (i.symm q).mp hq
 have c1 := a3 (swp q) hq' (by rw [lv_eq L M i hq']; exact b1)
 have c2 := b3 (swp p) ((i p).mp hp) (by rw [<- lv_eq L M i hp]; exact a1)
 have c1 : p.2 <= q.1 := c1
 have c2 : q.1 <= p.2 := c2
 (first | lia | omega)
theorem lv_res {A B : List (Int × Int)} {r s r' s' : List Int} {res res' : List (Int × Int)} {f g : Int × Int -> Nat} (L : Lv A r s res f) (M : Lv B r' s' res' g) (hA : Two A) (i : Inv2 A B) {q : Int × Int} (h : q ∈ res) : swp q ∈ res' := by
 obtain ⟨p, hp, p', hp', a1, a2, a3, a4⟩ := (L.rs q).mp h
 have hx := L.an hA hp hp' a1 a2
 refine (M.rs _).mpr ⟨swp p', (i p').mp hp', swp p, (i p).mp hp, by rw [<- lv_eq L M i hp, <- lv_eq L M i hp', a1], hx, by rw [a3]; rfl, fun u hu e ⟨b1, b2⟩ => ?_⟩
 have hu' := (i.symm u).mp hu
 have e' : f (swp u) = f p := by
  rw [lv_eq L M i hu', show swp (swp u) = u from rfl, e, <- lv_eq L M i hp', a1]
 have b1 : p'.2 < (swp u).2 := b1
 have b2 : (swp u).2 < p.2 := b2
 refine a4 (swp u) hu' e' ⟨?_, ?_⟩
 ·rcases Int.lt_trichotomy (swp u).1 p.1 with c | c | c
  ·have := L.an hA hu' hp e' c
   (first | lia | omega)
  ·rw [(hA.uniq hu' hp).1 c] at b2
   (first | lia | omega)
  ·exact c
 ·rcases Int.lt_trichotomy (swp u).1 p'.1 with c | c | c
  ·exact c
  ·rw [(hA.uniq hu' hp').1 c] at b1
   (first | lia | omega)
  ·have := L.an hA hp' hu' (by (first | lia | omega)) c
   (first | lia | omega)
noncomputable def runP (PQ : List (List Int) × List (List Int)) (A : List (Int × Int)) : List (List Int) × List (List Int) := A.foldl (fun PQ p => ((putR PQ.1 p.2).1, addAt PQ.2 (putR PQ.1 p.2).2 p.1)) PQ
theorem run_row : ∀ (A : List (Int × Int)) (r s : List Int) (P Q : List (List Int)), runP (r :: P, s :: Q) A = ((rwP r s A).1 :: (runP (P, Q) (rwP r s A).2.2).1, (rwP r s A).2.1 :: (runP (P, Q) (rwP r s A).2.2).2)
 | [], _, _, _, _ => rfl
 | p :: A, r, s, P, Q => by
  show runP ((putR (r :: P) p.2).1, addAt (s :: Q) (putR (r :: P) p.2).2 p.1) A = _
  by_cases c : cntL r p.2 = r.length
  ·have e1 : putR (r :: P) p.2 = ((r ++ [p.2]) :: P, 0) := if_pos c
   have e2 : rwR r p.2 = r ++ [p.2] := if_pos c
   have e3 : nxR r p.2 = none := if_pos c
   rw [e1]
   show runP ((r ++ [p.2]) :: P, (s ++ [p.1]) :: Q) A = _
   rw [run_row A]
   simp only [rwP, e2, e3, if_pos c]
   rfl
  ·have e1 : putR (r :: P) p.2 = (r.set (cntL r p.2) p.2 :: (putR P (r.getD (cntL r p.2) 0)).1, (putR P (r.getD (cntL r p.2) 0)).2 + 1) := if_neg c
   have e2 : rwR r p.2 = r.set (cntL r p.2) p.2 := if_neg c
   have e3 : nxR r p.2 = some (r.getD (cntL r p.2) 0) := if_neg c
   rw [e1]
   show runP (r.set (cntL r p.2) p.2 :: (putR P (r.getD (cntL r p.2) 0)).1, s :: addAt Q (putR P (r.getD (cntL r p.2) 0)).2 p.1) A = _
   rw [run_row A]
   simp only [rwP, e2, e3, if_neg c]
   rfl
theorem run_nil {A : List (Int × Int)} (h : A ≠ []) : runP ([], []) A = ((rwP [] [] A).1 :: (runP ([], []) (rwP [] [] A).2.2).1, (rwP [] [] A).2.1 :: (runP ([], []) (rwP [] [] A).2.2).2) := by
 cases A with
 | nil => exact absurd rfl h
 | cons p A =>
  show runP ([[p.2]], [[p.1]]) A = _
  rw [run_row]
  rfl
theorem run_sym : ∀ (n : Nat) (A B : List (Int × Int)), A.length <= n -> Two A -> Two B -> Inv2 A B -> runP ([], []) B = ((runP ([], []) A).2, (runP ([], []) A).1)
 | 0, A, B, hn, _, _, i => by
  have : A = [] := List.eq_nil_of_length_eq_zero (by (first | lia | omega))
  subst this
  have : B = [] := List.eq_nil_iff_forall_not_mem.mpr fun q hq => by
   have := (i.symm q).mp hq
   cases this
  subst this
  rfl
 | n + 1, A, B, hn, hA, hB, i => by
  by_cases c : A = []
  ·subst c
   have : B = [] := List.eq_nil_iff_forall_not_mem.mpr fun q hq => by
    have := (i.symm q).mp hq
    cases this
   subst this
   rfl
  ·have c' : B ≠ [] := fun z => c (List.eq_nil_iff_forall_not_mem.mpr fun q hq => by
    have := (i q).mp hq
    rw [z] at this
    cases this)
   obtain ⟨f, L⟩ := lv_of hA
   obtain ⟨g, M⟩ := lv_of hB
   rw [run_nil c, run_nil c', lv_row L M i, lv_row M L i.symm]
   have hl : (rwP [] [] A).2.2.length <= n := by
    have e := rwP_len A [] []
    obtain ⟨p, t, rfl⟩ : ∃ p t, A = p :: t := by
     cases A with
     | nil => exact absurd rfl c
     | cons p t => exact ⟨p, t, rfl⟩
    have := L.rb p List.mem_cons_self
    simp only [List.length_nil] at e
    (first | lia | omega)
   rw [run_sym n _ _ hl (L.two hA) (M.two hB) fun q => ⟨fun h => lv_res L M hA i h, fun h => lv_res M L hB i.symm h⟩]
end L2
namespace L2
open PySem PySem.Spec PyProof.Rows
noncomputable def prsO (ns : List Int) (m : Nat) : List (Int × Int) := (List.range m).map fun (j : Nat) => ((j : Int), atO ns j)
theorem tab_run (ns : List Int) : ∀ i, tabI ns i = runP ([], []) (prsO ns i)
 | 0 => rfl
 | i + 1 => by
  unfold prsO
  rw [List.range_succ, List.map_append]
  unfold runP
  rw [List.foldl_append]
  have ih := tab_run ns i
  unfold runP prsO at ih
  rw [<- ih]
  rfl
theorem atO_rng {m : Nat} {ns : List Int} (h : Ord m ns) {j : Nat} (hj : j < m) : 0 <= atO ns j /\ atO ns j < m := by
 have hl : j < ns.length := by rw [h.len]; exact hj
 have : atO ns j = ns[j] := by
  unfold atO
  rw [Int.toNat_natCast, List.getD_eq_getElem?_getD, List.getElem?_eq_getElem hl]
  rfl
 rw [this]
 exact h.rng _ (List.getElem_mem hl)
theorem prs_two {m : Nat} {ns : List Int} (h : Ord m ns) : Two (prsO ns m) := by
 have sr : (List.range m).Pairwise (· < ·) := List.pairwise_lt_range
 refine ⟨?_, ?_⟩
 ·refine List.pairwise_map.mpr (sr.imp fun {a b} hab => ?_)
  show (a : Int) < (b : Int)
  (first | lia | omega)
 ·refine List.pairwise_map.mpr (sr.imp_of_mem fun {a b} ha hb hab => ?_)
  show atO ns a ≠ atO ns b
  intro e
  have h1 := inv_at h (x := (a : Int)) ⟨by (first | lia | omega), by have := List.mem_range.mp ha; (first | lia | omega)⟩
  have h2 := inv_at h (x := (b : Int)) ⟨by (first | lia | omega), by have := List.mem_range.mp hb; (first | lia | omega)⟩
  rw [e] at h1
  (first | lia | omega)
theorem prs_in {m : Nat} {ns : List Int} (h : Ord m ns) {p : Int × Int} (hp : p ∈ prsO ns m) : swp p ∈ prsO (invO ns) m := by
 obtain ⟨j, hj, rfl⟩ := List.mem_map.mp hp
 have hj := List.mem_range.mp hj
 obtain ⟨a0, a1⟩ := atO_rng h hj
 refine List.mem_map.mpr ⟨(atO ns j).toNat, List.mem_range.mpr (by (first | lia | omega)), ?_⟩
 have e : (((atO ns j).toNat : Nat) : Int) = atO ns j := by (first | lia | omega)
 show ((((atO ns j).toNat : Nat) : Int), atO (invO ns) (((atO ns j).toNat : Nat) : Int)) = (atO ns j, (j : Int))
 rw [e, inv_at h ⟨by (first | lia | omega), by (first | lia | omega)⟩]
theorem prs_inv {m : Nat} {ns : List Int} (h : Ord m ns) : Inv2 (prsO ns m) (prsO (invO ns) m) := fun p => ⟨fun hp => prs_in h hp, fun hp => by
 have := prs_in h.inv hp
 rwa [inv_inv h] at this⟩
theorem tab_undone {m : Nat} {ns : List Int} (h : Ord m ns) : tabI (invO ns) m = ((tabI ns m).2, (tabI ns m).1) := by
 rw [tab_run, tab_run]
 exact run_sym _ _ _ (Nat.le_refl _) (prs_two h) (prs_two h.inv) (prs_inv h)
theorem tab_ins (ns : List Int) : ∀ i, i <= ns.length -> (tabI ns i).1 = insW [] (ns.take i)
 | 0, _ => by rw [List.take_zero]; rfl
 | i + 1, hi => by
  rw [List.take_add_one, List.getElem?_eq_getElem (by (first | lia | omega))]
  show (putR (tabI ns i).1 (atO ns i)).1 = insW [] (ns.take i ++ [ns[i]])
  rw [ins_app, tab_ins ns i (by (first | lia | omega))]
  show _ = (putR (insW [] (ns.take i)) ns[i]).1
  have : atO ns i = ns[i] := by
   unfold atO
   rw [Int.toNat_natCast, List.getD_eq_getElem?_getD, List.getElem?_eq_getElem (by (first | lia | omega))]
   rfl
  rw [this]
theorem tab_mirror {m : Nat} {ns : List Int} (h : Ord m ns) : (tabI ns.reverse m).1 = overZ (tabI ns m).1 := by
 have hl := h.len
 have h1 := tab_ins ns m (by (first | lia | omega))
 have h2 := tab_ins ns.reverse m (by rw [List.length_reverse]; (first | lia | omega))
 rw [List.take_of_length_le (by (first | lia | omega))] at h1
 rw [List.take_of_length_le (by rw [List.length_reverse]; (first | lia | omega))] at h2
 rw [h1, h2]
 exact mirror_over h.nodup
noncomputable def swpR (r : List Int) (y : Int) : List Int × Int := (r.set (cntL r y - 1) y, r.getD (cntL r y - 1) 0)
noncomputable def takeR : List (List Int) -> Nat -> List (List Int) × Int
 | [], _ => ([], 0)
 | r :: R, 0 => (r.dropLast :: R, r.getLastD 0)
 | r :: R, k + 1 => ((swpR r (takeR R k).2).1 :: (takeR R k).1, (swpR r (takeR R k).2).2)
noncomputable def full (R : List (List Int)) : List (List Int) := R.filter fun r => !r.isEmpty
theorem cnt_set {r : List Int} {x : Int} (hi : Inc r) (hx : x ∉ r) (hc : cntL r x < r.length) : cntL (r.set (cntL r x) x) (r.getD (cntL r x) 0) = cntL r x + 1 := by
 have hi' := incSet hi hx hc
 have hg := cntGt hi hx hc
 have hl : (r.set (cntL r x) x).length = r.length := List.length_set
 have a1 := (cntLt hi' (x := r.getD (cntL r x) 0) (j := cntL r x) (by (first | lia | omega))).mp (by rw [gdSet hc, if_pos rfl]; exact hg)
 refine Nat.le_antisymm (Nat.not_lt.mp fun z => ?_) a1
 have hle := cntLe (r.set (cntL r x) x) (r.getD (cntL r x) 0)
 have a2 := (cntLt hi' (x := r.getD (cntL r x) 0) (j := cntL r x + 1) (by (first | lia | omega))).mpr z
 rw [gdSet hc, if_neg (by (first | lia | omega))] at a2
 have := incIff.mp hi (cntL r x) (cntL r x + 1) (by (first | lia | omega)) (by (first | lia | omega))
 (first | lia | omega)
theorem swp_set {r : List Int} {x : Int} (hi : Inc r) (hx : x ∉ r) (hc : cntL r x < r.length) : swpR (r.set (cntL r x) x) (r.getD (cntL r x) 0) = (r, x) := by
 unfold swpR
 rw [cnt_set hi hx hc, Nat.add_sub_cancel, List.set_set, gdSet hc, if_pos rfl]
 have : r.set (cntL r x) (r.getD (cntL r x) 0) = r := by
  rw [List.getD_eq_getElem?_getD, List.getElem?_eq_getElem hc]
  exact List.set_getElem_self hc
 rw [this]
theorem take_put : ∀ (R : List (List Int)) (x : Int), Tab R -> R.flatten.Nodup -> x ∉ R.flatten -> full (takeR (putR R x).1 (putR R x).2).1 = R /\ (takeR (putR R x).1 (putR R x).2).2 = x
 | [], x, _, _, _ => ⟨rfl, rfl⟩
 | r :: R, x, hT, nd, hx => by
  obtain ⟨hi, hne, hA, hTR⟩ := hT
  rw [List.flatten_cons] at nd hx
  have hxr : x ∉ r := fun z => hx (List.mem_append_left _ z)
  have nd' := List.nodup_append.mp nd
  have ne : ∀ {s : List Int}, s ≠ [] -> (!s.isEmpty) = true := fun {s} h => by cases s with | nil => exact absurd rfl h | cons _ _ => rfl
  have fR : full (r :: R) = r :: R := by
   refine List.filter_eq_self.mpr fun s hs => ?_
   exact ne ((tabRowsI (R := r :: R) ⟨hi, hne, hA, hTR⟩ s hs).2)
  by_cases c : cntL r x = r.length
  ·have e1 : putR (r :: R) x = ((r ++ [x]) :: R, 0) := if_pos c
   rw [e1]
   refine ⟨?_, ?_⟩
   ·show full ((r ++ [x]).dropLast :: R) = _
    rw [List.dropLast_concat]
    exact fR
   ·show (r ++ [x]).getLastD 0 = x
    simp
  ·have hc : cntL r x < r.length := by have := cntLe r x; (first | lia | omega)
   have e1 : putR (r :: R) x = (r.set (cntL r x) x :: (putR R (r.getD (cntL r x) 0)).1, (putR R (r.getD (cntL r x) 0)).2 + 1) := if_neg c
   have hyF : r.getD (cntL r x) 0 ∉ R.flatten := fun z => nd'.2.2 _ (memD hc) _ z rfl
   obtain ⟨i1, i2⟩ := take_put R (r.getD (cntL r x) 0) hTR nd'.2.1 hyF
   rw [e1]
   show full ((swpR (r.set (cntL r x) x) (takeR (putR R (r.getD (cntL r x) 0)).1 (putR R (r.getD (cntL r x) 0)).2).2).1 :: (takeR (putR R (r.getD (cntL r x) 0)).1 (putR R (r.getD (cntL r x) 0)).2).1) = _ /\ (swpR (r.set (cntL r x) x) (takeR (putR R (r.getD (cntL r x) 0)).1 (putR R (r.getD (cntL r x) 0)).2).2).2 = x
   rw [i2, swp_set hi hxr hc]
   refine ⟨?_, rfl⟩
   show full (r :: (takeR (putR R (r.getD (cntL r x) 0)).1 (putR R (r.getD (cntL r x) 0)).2).1) = r :: R
   unfold full at i1 ⊢
   rw [List.filter_cons, if_pos (ne hne), i1]
end L2
namespace L2
open PySem PySem.Spec PyProof.Rows
noncomputable def lenAt (R : List (List Int)) (k : Nat) : Nat := (R.getD k []).length
structure TkP (R : List (List Int)) (k : Nat) : Prop where
 tab : Tab (full (takeR R k).1)
 put : putR (full (takeR R k).1) (takeR R k).2 = (R, k)
 hd : ∃ (s : List Int) (R2 : List (List Int)) (s' : List Int) (R2' : List (List Int)) (p : Nat), R = s :: R2 /\ (takeR R k).1 = s' :: R2' /\ p < s.length /\ (takeR R k).2 = s.getD p 0 /\ s'.length <= s.length /\ (∀ j, j < s'.length -> s.getD j 0 <= s'.getD j 0 /\ (p <= j -> s.getD p 0 < s'.getD j 0)) /\ (s' = [] -> R2' = [])
theorem ne_emp {s : List Int} (h : s ≠ []) : (!s.isEmpty) = true := by
 cases s with
 | nil => exact absurd rfl h
 | cons _ _ => rfl
theorem full_tab {R : List (List Int)} (h : Tab R) : full R = R := List.filter_eq_self.mpr fun s hs => ne_emp ((tabRowsI h s hs).2)
theorem full_cons {s : List Int} {R : List (List Int)} (h : s ≠ []) : full (s :: R) = s :: full R := by
 unfold full
 rw [List.filter_cons, if_pos (ne_emp h)]
theorem put_neg {r : List Int} {R : List (List Int)} {x : Int} (c : cntL r x ≠ r.length) : putR (r :: R) x = (r.set (cntL r x) x :: (putR R (r.getD (cntL r x) 0)).1, (putR R (r.getD (cntL r x) 0)).2 + 1) := if_neg c
theorem take_ok : ∀ (k : Nat) (R : List (List Int)), Tab R -> R.flatten.Nodup -> k < R.length -> lenAt R (k + 1) < lenAt R k -> TkP R k
 | _, [], _, _, h, _ => by cases h
 | 0, r :: R, hT, nd, _, hc => by
  obtain ⟨hi, hne, hA, hTR⟩ := hT
  rcases List.eq_nil_or_concat r with e | ⟨q, x, e⟩
  ·exact absurd e hne
  rw [List.concat_eq_append] at e
  subst e
  have t1 : takeR ((q ++ [x]) :: R) 0 = (q :: R, x) := by
   show ((q ++ [x]).dropLast :: R, (q ++ [x]).getLastD 0) = _
   rw [List.dropLast_concat]
   simp
  have hc : (R.getD 0 []).length < q.length + 1 := by simpa [lenAt] using hc
  have ix := (List.pairwise_append.mp hi).2.2
  have gd : ∀ j, j < q.length -> (q ++ [x]).getD j 0 = q.getD j 0 := fun j hj => by
   rw [List.getD_eq_getElem?_getD, List.getD_eq_getElem?_getD, List.getElem?_append_left hj]
  have gx : (q ++ [x]).getD q.length 0 = x := by
   rw [List.getD_eq_getElem?_getD, List.getElem?_append_right (Nat.le_refl _), Nat.sub_self]
   rfl
  have emp : q = [] -> R = [] := fun e => by
   cases R with
   | nil => rfl
   | cons s R =>
    subst e
    have hs := hTR.2.1
    have : s.length < 1 := by simpa using hc
    exact absurd (List.eq_nil_of_length_eq_zero (by (first | lia | omega))) hs
  have hd : ∃ (s : List Int) (R2 : List (List Int)) (s' : List Int) (R2' : List (List Int)) (p : Nat), (q ++ [x]) :: R = s :: R2 /\ (takeR ((q ++ [x]) :: R) 0).1 = s' :: R2' /\ p < s.length /\ (takeR ((q ++ [x]) :: R) 0).2 = s.getD p 0 /\ s'.length <= s.length /\ (∀ j, j < s'.length -> s.getD j 0 <= s'.getD j 0 /\ (p <= j -> s.getD p 0 < s'.getD j 0)) /\ (s' = [] -> R2' = []) := by
   refine ⟨_, _, q, R, q.length, rfl, by rw [t1], by simp, by rw [t1, gx], by simp, fun j hj => ⟨by rw [gd j hj]; exact Int.le_refl _, fun z => absurd z (by (first | lia | omega))⟩, emp⟩
  by_cases cq : q = []
  ·have := emp cq
   subst this
   subst cq
   exact ⟨by rw [t1]; exact trivial, by rw [t1]; rfl, hd⟩
  ·have hT' : Tab (q :: R) := by
    refine ⟨hi.sublist (List.sublist_append_left _ _), cq, fun s hs => ⟨?_, fun j hj => ?_⟩, hTR⟩
    ·cases R with
     | nil => cases hs
     | cons s0 R0 =>
      cases hs
      have : s.length < q.length + 1 := hc
      (first | lia | omega)
    ·have hl : s.length <= q.length := by
      cases R with
      | nil => cases hs
      | cons s0 R0 =>
       cases hs
       have : s.length < q.length + 1 := hc
       (first | lia | omega)
     have := (hA s hs).2 j hj
     rwa [gd j (by (first | lia | omega))] at this
   refine ⟨by rw [t1, full_tab hT']; exact hT', ?_, hd⟩
   rw [t1, full_tab hT']
   exact if_pos (cnt_all fun a ha => ix a ha x List.mem_cons_self)
 | k + 1, r :: R, hT, nd, hk, hc => by
  obtain ⟨hi, hne, hA, hTR⟩ := hT
  rw [List.flatten_cons] at nd
  have nd' := List.nodup_append.mp nd
  obtain ⟨it, ip, s, R2, s', R2', p, e1, e2, e3, e4, e5, e6, e7⟩ := take_ok k R hTR nd'.2.1 (by simpa using hk) hc
  have hAs := hA s (by rw [e1]; rfl)
  have ys : (takeR R k).2 ∈ s := by rw [e4]; exact memD e3
  have hsR : s ∈ R := by rw [e1]; exact List.mem_cons_self
  have hsl := hAs.1
  have yr : (takeR R k).2 ∉ r := fun z => nd'.2.2 _ z _ (List.mem_flatten.mpr ⟨s, hsR, ys⟩) rfl
  have tk : takeR (r :: R) (k + 1) = (r.set (cntL r (takeR R k).2 - 1) (takeR R k).2 :: (takeR R k).1, r.getD (cntL r (takeR R k).2 - 1) 0) := rfl
  have hpc : p < cntL r (takeR R k).2 := (cntLt hi (j := p) (by (first | lia | omega))).mp (by rw [e4]; exact hAs.2 p e3)
  have hcl := cntLe r (takeR R k).2
  generalize hy : (takeR R k).2 = y at *
  generalize hcc : cntL r y = c at *
  have hc1 : c - 1 < r.length := by (first | lia | omega)
  have lo : ∀ {j : Nat}, j < r.length -> (r.getD j 0 < y ↔ j < c) := fun {j} hj => by rw [<- hcc]; exact cntLt hi hj
  have hxy : r.getD (c - 1) 0 < y := (lo hc1).mpr (by (first | lia | omega))
  have hi2 : ∀ {j : Nat}, c <= j -> j < r.length -> y < r.getD j 0 := fun {j} h1 h2 => by
   have a1 : ¬ r.getD j 0 < y := fun z => by have := (lo h2).mp z; (first | lia | omega)
   have a2 : r.getD j 0 ≠ y := fun z => yr (z ▸ memD h2)
   (first | lia | omega)
  have gd : ∀ j, (r.set (c - 1) y).getD j 0 = if j = c - 1 then y else r.getD j 0 := fun j => gdSet hc1
  have hl : (r.set (c - 1) y).length = r.length := List.length_set
  have ne' : r.set (c - 1) y ≠ [] := fun z => by
   rw [z] at hl
   exact hne (List.eq_nil_of_length_eq_zero hl.symm)
  have inc' : Inc (r.set (c - 1) y) := incIff.mpr fun i j hij hj => by
   rw [hl] at hj
   rw [gd, gd]
   have old := incIff.mp hi i j hij hj
   by_cases c1 : i = c - 1
   ·rw [if_pos c1, if_neg (by (first | lia | omega))]
    exact hi2 (by (first | lia | omega)) hj
   ·rw [if_neg c1]
    by_cases c2 : j = c - 1
    ·rw [if_pos c2]
     rw [c2] at old
     (first | lia | omega)
    ·rw [if_neg c2]
     exact old
  have fl : full (takeR (r :: R) (k + 1)).1 = r.set (c - 1) y :: full (takeR R k).1 := by
   rw [tk]
   exact full_cons ne'
  have tab' : Tab (r.set (c - 1) y :: full (takeR R k).1) := by
   refine ⟨inc', ne', fun t ht => ?_, it⟩
   rw [e2] at ht
   by_cases cs : s' = []
   ·rw [cs, e7 cs] at ht
    cases ht
   ·rw [full_cons cs] at ht
    cases ht
    refine ⟨by rw [hl]; have := hAs.1; (first | lia | omega), fun j hj => ?_⟩
    rw [gd]
    have h6 := e6 j hj
    by_cases c1 : j = c - 1
    ·rw [if_pos c1]
     have := h6.2 (by (first | lia | omega))
     (first | lia | omega)
    ·rw [if_neg c1]
     have := hAs.2 j (by (first | lia | omega))
     (first | lia | omega)
  have cn : cntL (r.set (c - 1) y) (r.getD (c - 1) 0) = c - 1 := by
   have lt' : ∀ {j : Nat}, j < r.length -> ((r.set (c - 1) y).getD j 0 < r.getD (c - 1) 0 ↔ j < cntL (r.set (c - 1) y) (r.getD (c - 1) 0)) := fun {j} hj => cntLt inc' (by rw [hl]; exact hj)
   refine Nat.le_antisymm (Nat.not_lt.mp fun z => ?_) (Nat.not_lt.mp fun z => ?_)
   ·have := (lt' hc1).mpr z
    rw [gd, if_pos rfl] at this
    (first | lia | omega)
   ·have a := incIff.mp hi (c - 2) (c - 1) (by (first | lia | omega)) hc1
    have := (lt' (j := c - 2) (by (first | lia | omega))).mp (by rw [gd, if_neg (by (first | lia | omega))]; exact a)
    (first | lia | omega)
  refine ⟨by rw [fl]; exact tab', ?_, ?_⟩
  ·rw [fl, tk]
   show putR (r.set (c - 1) y :: full (takeR R k).1) (r.getD (c - 1) 0) = _
   have this := put_neg (r := r.set (c - 1) y) (R := full (takeR R k).1) (x := r.getD (c - 1) 0) (by rw [cn, hl]; (first | lia | omega))
   rw [cn] at this
   rw [this, gd, if_pos rfl, ip, List.set_set]
   have : r.set (c - 1) (r.getD (c - 1) 0) = r := by
    rw [List.getD_eq_getElem?_getD, List.getElem?_eq_getElem hc1]
    exact List.set_getElem_self hc1
   rw [this]
  ·refine ⟨r, R, r.set (c - 1) y, (takeR R k).1, c - 1, rfl, by rw [tk], hc1, by rw [tk], by rw [hl]; exact Nat.le_refl _, fun j hj => ?_, fun z => absurd z ne'⟩
   rw [hl] at hj
   rw [gd]
   by_cases c1 : j = c - 1
   ·rw [if_pos c1, c1]
    exact ⟨by (first | lia | omega), fun _ => hxy⟩
   ·rw [if_neg c1]
    exact ⟨Int.le_refl _, fun z => incIff.mp hi (c - 1) j (by (first | lia | omega)) hj⟩
end L2
namespace L2
open PySem PySem.Spec PyProof.Rows
noncomputable def dropAt : List (List Int) -> Nat -> List (List Int)
 | [], _ => []
 | s :: Q, 0 => s.dropLast :: Q
 | s :: Q, k + 1 => s :: dropAt Q k
noncomputable def lens (R : List (List Int)) : List Nat := R.map List.length
noncomputable def decL : List Nat -> Nat -> List Nat
 | [], _ => []
 | n :: l, 0 => (n - 1) :: l
 | n :: l, k + 1 => n :: decL l k
theorem lens_take : ∀ (R : List (List Int)) (k : Nat), lens (takeR R k).1 = decL (lens R) k
 | [], _ => rfl
 | r :: R, 0 => by
  show r.dropLast.length :: lens R = _
  rw [List.length_dropLast]
  rfl
 | r :: R, k + 1 => by
  show (r.set _ _).length :: lens (takeR R k).1 = _
  rw [List.length_set, lens_take R k]
  rfl
theorem lens_drop : ∀ (R : List (List Int)) (k : Nat), lens (dropAt R k) = decL (lens R) k
 | [], _ => rfl
 | r :: R, 0 => by
  show r.dropLast.length :: lens R = _
  rw [List.length_dropLast]
  rfl
 | r :: R, k + 1 => by
  show r.length :: lens (dropAt R k) = _
  rw [lens_drop R k]
  rfl
theorem lens_full : ∀ R : List (List Int), lens (full R) = (lens R).filter fun n => n != 0
 | [] => rfl
 | r :: R => by
  have ih := lens_full R
  cases r with
  | nil => exact ih
  | cons a t =>
   rw [full_cons (by simp)]
   show (t.length + 1) :: lens (full R) = ((t.length + 1) :: lens R).filter _
   rw [ih, List.filter_cons, if_pos (by simp)]
theorem lenAt_lens (R : List (List Int)) (k : Nat) : lenAt R k = (lens R).getD k 0 := by
 unfold lenAt lens
 rw [List.getD_eq_getElem?_getD, List.getD_eq_getElem?_getD, List.getElem?_map]
 cases R[k]? <;> rfl
theorem set_perm {r : List Int} {c : Nat} (hc : c < r.length) (x : Int) (l : List Int) : (r.set c x ++ (r.getD c 0 :: l)).Perm (x :: (r ++ l)) := by
 have e : r.getD c 0 = r[c] := by rw [List.getD_eq_getElem?_getD, List.getElem?_eq_getElem hc]; rfl
 have e2 : r = r.take c ++ r[c] :: r.drop (c + 1) := by rw [<- List.drop_eq_getElem_cons hc, List.take_append_drop]
 rw [e, List.set_eq_take_append_cons_drop, if_pos hc]
 generalize r.take c = u at *
 generalize r.drop (c + 1) = v at *
 generalize r[c] = y at *
 rw [e2]
 refine List.perm_iff_count.mpr fun a => ?_
 simp only [List.count_append, List.count_cons]
 (first | lia | omega)
theorem put_perm : ∀ (R : List (List Int)) (x : Int), (putR R x).1.flatten.Perm (x :: R.flatten)
 | [], x => .refl _
 | r :: R, x => by
  by_cases c : cntL r x = r.length
  ·have e : putR (r :: R) x = ((r ++ [x]) :: R, 0) := if_pos c
   rw [e]
   show ((r ++ [x]) ++ R.flatten).Perm (x :: (r ++ R.flatten))
   rw [List.append_assoc]
   exact List.perm_middle
  ·have hc : cntL r x < r.length := by have := cntLe r x; (first | lia | omega)
   rw [put_neg c]
   show (r.set (cntL r x) x ++ (putR R (r.getD (cntL r x) 0)).1.flatten).Perm (x :: (r ++ R.flatten))
   exact (List.Perm.append_left _ (put_perm R _)).trans (set_perm hc x _)
theorem last_of : ∀ (Q : List (List Int)) (n : Int), Tab Q -> n ∈ Q.flatten -> (∀ a ∈ Q.flatten, a <= n) -> ∃ k, k < Q.length /\ lenAt Q (k + 1) < lenAt Q k /\ Tab (full (dropAt Q k)) /\ addAt (full (dropAt Q k)) k n = Q /\ Q.flatten.Perm (n :: (full (dropAt Q k)).flatten) /\ ∀ s, (full (dropAt Q k)).head? = some s -> ∃ s0, Q.head? = some s0 /\ s.length <= s0.length /\ ∀ j, j < s.length -> s.getD j 0 = s0.getD j 0
 | [], _, _, h, _ => by cases h
 | r :: Q, n, hT, hn, hm => by
  obtain ⟨hi, hne, hA, hTR⟩ := hT
  rw [List.flatten_cons] at hn hm
  by_cases c : n ∈ r
  ·rcases List.eq_nil_or_concat r with e | ⟨q, x, e⟩
   ·exact absurd e hne
   rw [List.concat_eq_append] at e
   subst e
   have ix := (List.pairwise_append.mp hi).2.2
   have exn : x = n := by
    rcases List.mem_append.mp c with z | z
    ·have a1 := ix n z x List.mem_cons_self
     have a2 := hm x (List.mem_append_left _ (by simp))
     (first | lia | omega)
    ·exact (List.mem_singleton.mp z).symm
   subst exn
   have gd : ∀ j, j < q.length -> (q ++ [x]).getD j 0 = q.getD j 0 := fun j hj => by
    rw [List.getD_eq_getElem?_getD, List.getD_eq_getElem?_getD, List.getElem?_append_left hj]
   have gx : (q ++ [x]).getD q.length 0 = x := by
    rw [List.getD_eq_getElem?_getD, List.getElem?_append_right (Nat.le_refl _), Nat.sub_self]
    rfl
   have cor : ∀ s, Q.head? = some s -> s.length <= q.length := fun s hs => by
    obtain ⟨a1, a2⟩ := hA s hs
    refine Nat.not_lt.mp fun z => ?_
    have b1 := a2 q.length z
    rw [gx] at b1
    have hsQ : s ∈ Q := by
     cases Q with
     | nil => cases hs
     | cons _ _ => cases hs; exact List.mem_cons_self
    have b2 := hm (s.getD q.length 0) (List.mem_append_right _ (List.mem_flatten.mpr ⟨s, hsQ, memD z⟩))
    (first | lia | omega)
   have d0 : dropAt ((q ++ [x]) :: Q) 0 = q :: Q := by
    show (q ++ [x]).dropLast :: Q = _
    rw [List.dropLast_concat]
   have l1 : lenAt ((q ++ [x]) :: Q) 1 < lenAt ((q ++ [x]) :: Q) 0 := by
    cases Q with
    | nil => simp [lenAt]
    | cons s Q =>
     have := cor s rfl
     simp [lenAt]
     (first | lia | omega)
   by_cases cq : q = []
   ·have : Q = [] := by
     cases Q with
     | nil => rfl
     | cons s Q =>
      have := cor s rfl
      subst cq
      exact absurd (List.eq_nil_of_length_eq_zero (by simpa using this)) hTR.2.1
    subst this
    subst cq
    exact ⟨0, by simp, l1, trivial, rfl, .refl _, fun s hs => by cases hs⟩
   ·have hT' : Tab (q :: Q) := ⟨hi.sublist (List.sublist_append_left _ _), cq, fun s hs => ⟨cor s hs, fun j hj => by
     have := (hA s hs).2 j hj
     rwa [gd j (by have := cor s hs; (first | lia | omega))] at this⟩, hTR⟩
    refine ⟨0, by simp, l1, by rw [d0, full_tab hT']; exact hT', by rw [d0, full_tab hT']; rfl, ?_, fun s hs => ?_⟩
    ·rw [d0, full_tab hT']
     show ((q ++ [x]) ++ Q.flatten).Perm (x :: (q ++ Q.flatten))
     rw [List.append_assoc]
     exact List.perm_middle
    ·rw [d0, full_tab hT'] at hs
     cases hs
     exact ⟨_, rfl, by simp, fun j hj => (gd j hj).symm⟩
  ·have hn' : n ∈ Q.flatten := (List.mem_append.mp hn).resolve_left c
   obtain ⟨k, h1, h2, h3, h4, h5, h6⟩ := last_of Q n hTR hn' fun a ha => hm a (List.mem_append_right _ ha)
   have fl : full (dropAt (r :: Q) (k + 1)) = r :: full (dropAt Q k) := full_cons hne
   refine ⟨k + 1, by simpa using h1, h2, ?_, ?_, ?_, fun s hs => ?_⟩
   ·rw [fl]
    refine ⟨hi, hne, fun s hs => ?_, h3⟩
    obtain ⟨s0, b1, b2, b3⟩ := h6 s hs
    obtain ⟨a1, a2⟩ := hA s0 b1
    exact ⟨Nat.le_trans b2 a1, fun j hj => by rw [b3 j hj]; exact a2 j (by (first | lia | omega))⟩
   ·rw [fl]
    show r :: addAt (full (dropAt Q k)) k n = _
    rw [h4]
   ·rw [fl]
    show (r ++ Q.flatten).Perm (n :: (r ++ (full (dropAt Q k)).flatten))
    exact (List.Perm.append_left r h5).trans List.perm_middle
   ·rw [fl] at hs
    cases hs
    exact ⟨_, rfl, Nat.le_refl _, fun _ _ => rfl⟩
end L2
namespace L2
open PySem PySem.Spec PyProof.Rows
theorem tabI_pre (ns : List Int) (x : Int) : ∀ i, i <= ns.length -> tabI (ns ++ [x]) i = tabI ns i
 | 0, _ => rfl
 | i + 1, hi => by
  have e : atO (ns ++ [x]) i = atO ns i := by
   unfold atO
   rw [Int.toNat_natCast, List.getD_eq_getElem?_getD, List.getD_eq_getElem?_getD, List.getElem?_append_left (by (first | lia | omega))]
  show ((putR (tabI (ns ++ [x]) i).1 (atO (ns ++ [x]) i)).1, addAt (tabI (ns ++ [x]) i).2 (putR (tabI (ns ++ [x]) i).1 (atO (ns ++ [x]) i)).2 i) = _
  rw [tabI_pre ns x i (by (first | lia | omega)), e]
  rfl
theorem atO_endQ (ns : List Int) (x : Int) : atO (ns ++ [x]) ns.length = x := by
 unfold atO
 rw [Int.toNat_natCast, List.getD_eq_getElem?_getD, List.getElem?_append_right (Nat.le_refl _), Nat.sub_self]
 rfl
noncomputable def rowIx (Q : List (List Int)) (p : Int) : Nat := Q.findIdx fun r => decide (p ∈ r)
noncomputable def tkAll : List (List Int) -> List Nat -> List Int
 | _, [] => []
 | R, k :: ks => (takeR R k).2 :: tkAll (takeR R k).1 ks
theorem take_app : ∀ (k : Nat) (F E : List (List Int)), k < F.length -> takeR (F ++ E) k = ((takeR F k).1 ++ E, (takeR F k).2)
 | _, [], _, h => by cases h
 | 0, r :: F, E, _ => rfl
 | k + 1, r :: F, E, h => by
  show ((swpR r (takeR (F ++ E) k).2).1 :: (takeR (F ++ E) k).1, (swpR r (takeR (F ++ E) k).2).2) = _
  rw [take_app k F E (by simpa using h)]
  rfl
theorem num0_snoc (m : Nat) : num0 (m + 1) = num0 m ++ [(m : Int)] := by
 unfold num0
 rw [List.range_succ, List.map_append]
 rfl
theorem tab_of : ∀ (m : Nat) (P Q : List (List Int)), Tab P -> P.flatten.Nodup -> Tab Q -> Q.flatten.Perm (num0 m) -> lens P = lens Q -> ∃ ns, ns.length = m /\ P.flatten.Perm ns /\ tabI ns m = (P, Q)
 | 0, P, Q, hP, _, hQ, hp, hl => by
  have e : Q = [] := by
   cases Q with
   | nil => rfl
   | cons s Q =>
    have := hp.length_eq
    rw [List.flatten_cons, List.length_append] at this
    have h0 : (num0 0).length = 0 := rfl
    exact absurd (List.eq_nil_of_length_eq_zero (by (first | lia | omega))) hQ.2.1
  subst e
  have : P = [] := by
   cases P with
   | nil => rfl
   | cons _ _ => cases hl
  subst this
  exact ⟨[], rfl, .refl _, rfl⟩
 | m + 1, P, Q, hP, nd, hQ, hp, hl => by
  rw [num0_snoc] at hp
  have hmem : ∀ {a : Int}, a ∈ Q.flatten ↔ a ∈ num0 m ∨ a = (m : Int) := fun {a} => by
   rw [hp.mem_iff]
   simp
  obtain ⟨k, h1, h2, h3, h4, h5, _⟩ := last_of Q (m : Int) hQ (hmem.mpr (.inr rfl)) fun a ha => by
   rcases hmem.mp ha with z | z
   ·have := (mem_num0.mp z).2
    (first | lia | omega)
   ·(first | lia | omega)
  have kP : k < P.length := by
   have : (lens P).length = (lens Q).length := by rw [hl]
   unfold lens at this
   rw [List.length_map, List.length_map] at this
   (first | lia | omega)
  have cP : lenAt P (k + 1) < lenAt P k := by
   rw [lenAt_lens, lenAt_lens, hl, <- lenAt_lens, <- lenAt_lens]
   exact h2
  have T := take_ok k P hP nd kP cP
  have pp := put_perm (full (takeR P k).1) (takeR P k).2
  rw [T.put] at pp
  have pp : P.flatten.Perm ((takeR P k).2 :: (full (takeR P k).1).flatten) := pp
  have nd' := (List.nodup_cons.mp (pp.nodup_iff.mp nd)).2
  have hp' : (full (dropAt Q k)).flatten.Perm (num0 m) := by
   have a := h5.symm.trans (hp.trans List.perm_append_comm)
   exact (List.perm_cons (m : Int)).mp a
  have hl' : lens (full (takeR P k).1) = lens (full (dropAt Q k)) := by
   rw [lens_full, lens_full, lens_take, lens_drop, hl]
  obtain ⟨ns, n1, n2, n3⟩ := tab_of m _ _ T.tab nd' h3 hp' hl'
  refine ⟨ns ++ [(takeR P k).2], by rw [List.length_append, n1]; rfl, pp.trans ((List.Perm.cons _ n2).trans (List.perm_append_comm (l₁ := [(takeR P k).2]))), ?_⟩
  show ((putR (tabI (ns ++ [(takeR P k).2]) m).1 (atO (ns ++ [(takeR P k).2]) m)).1, addAt (tabI (ns ++ [(takeR P k).2]) m).2 (putR (tabI (ns ++ [(takeR P k).2]) m).1 (atO (ns ++ [(takeR P k).2]) m)).2 m) = _
  have ex : atO (ns ++ [(takeR P k).2]) m = (takeR P k).2 := by
   have := atO_endQ ns (takeR P k).2
   rwa [n1] at this
  rw [tabI_pre ns _ m (by (first | lia | omega)), n3, ex]
  show ((putR (full (takeR P k).1) (takeR P k).2).1, addAt (full (dropAt Q k)) (putR (full (takeR P k).1) (takeR P k).2).2 (m : Int)) = _
  rw [T.put]
  show (P, addAt (full (dropAt Q k)) k (m : Int)) = _
  rw [h4]
end L2
namespace L2
open PySem PySem.Spec PyProof.Rows
theorem take_putE : ∀ (R : List (List Int)) (x : Int), Tab R -> R.flatten.Nodup -> x ∉ R.flatten -> (putR R x).2 < (putR R x).1.length /\ (putR R x).2 <= R.length /\ ∃ E : List (List Int), (∀ e ∈ E, e = []) /\ takeR (putR R x).1 (putR R x).2 = (R ++ E, x)
 | [], x, _, _, _ => ⟨Nat.zero_lt_one, Nat.le_refl _, [[]], fun e he => List.mem_singleton.mp he, rfl⟩
 | r :: R, x, hT, nd, hx => by
  obtain ⟨hi, hne, hA, hTR⟩ := hT
  rw [List.flatten_cons] at nd hx
  have hxr : x ∉ r := fun z => hx (List.mem_append_left _ z)
  have nd' := List.nodup_append.mp nd
  by_cases c : cntL r x = r.length
  ·have e1 : putR (r :: R) x = ((r ++ [x]) :: R, 0) := if_pos c
   rw [e1]
   refine ⟨Nat.zero_lt_succ _, Nat.zero_le _, [], fun e he => (by cases he), ?_⟩
   show ((r ++ [x]).dropLast :: R, (r ++ [x]).getLastD 0) = _
   rw [List.dropLast_concat, List.append_nil]
   simp
  ·have hc : cntL r x < r.length := by have := cntLe r x; (first | lia | omega)
   have hyF : r.getD (cntL r x) 0 ∉ R.flatten := fun z => nd'.2.2 _ (memD hc) _ z rfl
   obtain ⟨i1, i2, E, i3, i4⟩ := take_putE R (r.getD (cntL r x) 0) hTR nd'.2.1 hyF
   rw [put_neg c]
   refine ⟨Nat.succ_lt_succ i1, Nat.succ_le_succ i2, E, i3, ?_⟩
   show ((swpR (r.set (cntL r x) x) (takeR (putR R (r.getD (cntL r x) 0)).1 (putR R (r.getD (cntL r x) 0)).2).2).1 :: (takeR (putR R (r.getD (cntL r x) 0)).1 (putR R (r.getD (cntL r x) 0)).2).1, (swpR (r.set (cntL r x) x) (takeR (putR R (r.getD (cntL r x) 0)).1 (putR R (r.getD (cntL r x) 0)).2).2).2) = _
   rw [i4]
   show ((swpR (r.set (cntL r x) x) (r.getD (cntL r x) 0)).1 :: (R ++ E), (swpR (r.set (cntL r x) x) (r.getD (cntL r x) 0)).2) = _
   rw [swp_set hi hxr hc]
   rfl
theorem ix_cons (r : List Int) (Q : List (List Int)) (p : Int) : rowIx (r :: Q) p = if p ∈ r then 0 else rowIx Q p + 1 := by
 unfold rowIx
 rw [List.findIdx_cons]
 by_cases c : p ∈ r
 ·rw [if_pos c]
  simp [c]
 ·rw [if_neg c]
  simp [c]
theorem ix_new : ∀ (Q : List (List Int)) (k : Nat) (n : Int), k <= Q.length -> n ∉ Q.flatten -> rowIx (addAt Q k n) n = k
 | [], k, n, hk, _ => by
  have : k = 0 := by simpa using hk
  subst this
  show rowIx [[n]] n = 0
  rw [ix_cons, if_pos (by simp)]
 | s :: Q, 0, n, _, _ => by
  show rowIx ((s ++ [n]) :: Q) n = 0
  rw [ix_cons, if_pos (by simp)]
 | s :: Q, k + 1, n, hk, hn => by
  show rowIx (s :: addAt Q k n) n = k + 1
  rw [List.flatten_cons] at hn
  rw [ix_cons, if_neg fun z => hn (List.mem_append_left _ z), ix_new Q k n (by simpa using hk) fun z => hn (List.mem_append_right _ z)]
theorem ix_old : ∀ (Q : List (List Int)) (k : Nat) (n p : Int), p ≠ n -> p ∈ Q.flatten -> rowIx (addAt Q k n) p = rowIx Q p
 | [], _, _, _, _, h => by cases h
 | s :: Q, 0, n, p, hp, h => by
  show rowIx ((s ++ [n]) :: Q) p = _
  rw [ix_cons, ix_cons]
  have : p ∈ s ++ [n] ↔ p ∈ s := by simp [hp]
  by_cases c : p ∈ s
  ·rw [if_pos (this.mpr c), if_pos c]
  ·rw [if_neg fun z => c (this.mp z), if_neg c]
 | s :: Q, k + 1, n, p, hp, h => by
  show rowIx (s :: addAt Q k n) p = _
  rw [ix_cons, ix_cons]
  by_cases c : p ∈ s
  ·rw [if_pos c, if_pos c]
  ·rw [if_neg c, if_neg c, ix_old Q k n p hp]
   rw [List.flatten_cons] at h
   exact (List.mem_append.mp h).resolve_left c
theorem add_flat : ∀ (Q : List (List Int)) (k : Nat) (n : Int), k <= Q.length -> (addAt Q k n).flatten.Perm (n :: Q.flatten)
 | [], _, _, _ => .refl _
 | s :: Q, 0, n, _ => by
  show ((s ++ [n]) ++ Q.flatten).Perm (n :: (s ++ Q.flatten))
  rw [List.append_assoc]
  exact List.perm_middle
 | s :: Q, k + 1, n, h => by
  show (s ++ (addAt Q k n).flatten).Perm (n :: (s ++ Q.flatten))
  exact (List.Perm.append_left s (add_flat Q k n (by simpa using h))).trans List.perm_middle
theorem add_lenQ : ∀ (Q : List (List Int)) (k : Nat) (n : Int), k <= Q.length -> (addAt Q k n).length = if k = Q.length then Q.length + 1 else Q.length
 | [], k, _, h => by
  have : k = 0 := by simpa using h
  subst this
  rfl
 | s :: Q, 0, n, _ => rfl
 | s :: Q, k + 1, n, h => by
  show (addAt Q k n).length + 1 = _
  rw [add_lenQ Q k n (by simpa using h), List.length_cons]
  split <;> split <;> (first | lia | omega)
theorem put_lenQ : ∀ (R : List (List Int)) (x : Int), (putR R x).1.length = if (putR R x).2 = R.length then R.length + 1 else R.length
 | [], _ => rfl
 | r :: R, x => by
  by_cases c : cntL r x = r.length
  ·have e1 : putR (r :: R) x = ((r ++ [x]) :: R, 0) := if_pos c
   rw [e1]
   rfl
  ·rw [put_neg c]
   show (putR R (r.getD (cntL r x) 0)).1.length + 1 = if (putR R (r.getD (cntL r x) 0)).2 + 1 = R.length + 1 then R.length + 1 + 1 else R.length + 1
   rw [put_lenQ R]
   split <;> split <;> (first | lia | omega)
theorem tk_back : ∀ (m : Nat) (ns : List Int), ns.length = m -> ns.Nodup -> (tabI ns m).1.length = (tabI ns m).2.length /\ (tabI ns m).2.flatten.Perm (num0 m) /\ ∀ E : List (List Int), tkAll ((tabI ns m).1 ++ E) ((List.range m).reverse.map fun (j : Nat) => rowIx (tabI ns m).2 (j : Int)) = ns.reverse
 | 0, ns, h, _ => by
  have : ns = [] := List.eq_nil_of_length_eq_zero h
  subst this
  exact ⟨rfl, .refl _, fun _ => rfl⟩
 | m + 1, ns, h, nd => by
  rcases List.eq_nil_or_concat ns with e | ⟨l, x, e⟩
  ·rw [e] at h
   cases h
  rw [List.concat_eq_append] at e
  subst e
  have hl : l.length = m := by simpa using h
  have ndl := List.nodup_append.mp nd
  obtain ⟨i1, i2, i3⟩ := tk_back m l hl ndl.1
  have hP := tab_ins l m (by (first | lia | omega))
  rw [List.take_of_length_le (by (first | lia | omega))] at hP
  have hI := ins_tab l [] trivial (by simpa using ndl.1)
  have hT : Tab (tabI l m).1 := by rw [hP]; exact hI.1
  have hperm : (tabI l m).1.flatten.Perm l := by rw [hP]; simpa using hI.2
  have ndP : (tabI l m).1.flatten.Nodup := hperm.nodup_iff.mpr ndl.1
  have hx : x ∉ (tabI l m).1.flatten := fun z => ndl.2.2 x (hperm.mem_iff.mp z) x List.mem_cons_self rfl
  have ex : atO (l ++ [x]) m = x := by
   have := atO_endQ l x
   rwa [hl] at this
  have et : tabI (l ++ [x]) (m + 1) = ((putR (tabI l m).1 x).1, addAt (tabI l m).2 (putR (tabI l m).1 x).2 (m : Int)) := by
   show ((putR (tabI (l ++ [x]) m).1 (atO (l ++ [x]) m)).1, addAt (tabI (l ++ [x]) m).2 (putR (tabI (l ++ [x]) m).1 (atO (l ++ [x]) m)).2 m) = _
   rw [tabI_pre l x m (by (first | lia | omega)), ex]
  obtain ⟨k1, k2, E', k3, k4⟩ := take_putE _ x hT ndP hx
  have k2' : (putR (tabI l m).1 x).2 <= (tabI l m).2.length := by (first | lia | omega)
  have mQ : (m : Int) ∉ (tabI l m).2.flatten := fun z => by
   have := (mem_num0.mp (i2.mem_iff.mp z)).2
   (first | lia | omega)
  rw [et]
  refine ⟨?_, ?_, fun E => ?_⟩
  ·show (putR (tabI l m).1 x).1.length = (addAt (tabI l m).2 (putR (tabI l m).1 x).2 (m : Int)).length
   rw [put_lenQ, add_lenQ _ _ _ k2', i1]
  ·show (addAt (tabI l m).2 (putR (tabI l m).1 x).2 (m : Int)).flatten.Perm _
   rw [num0_snoc]
   exact (add_flat _ _ _ k2').trans ((List.Perm.cons _ i2).trans (List.perm_append_comm (l₁ := [(m : Int)])))
  ·rw [List.range_succ, List.reverse_append, List.map_append, List.reverse_append]
   show (takeR ((putR (tabI l m).1 x).1 ++ E) (rowIx (addAt (tabI l m).2 (putR (tabI l m).1 x).2 (m : Int)) (m : Int))).2 :: tkAll (takeR ((putR (tabI l m).1 x).1 ++ E) (rowIx (addAt (tabI l m).2 (putR (tabI l m).1 x).2 (m : Int)) (m : Int))).1 ((List.range m).reverse.map fun (j : Nat) => rowIx (addAt (tabI l m).2 (putR (tabI l m).1 x).2 (m : Int)) (j : Int)) = x :: l.reverse
   rw [ix_new _ _ _ k2' mQ, take_app _ _ _ k1, k4, List.append_assoc]
   have eq : ((List.range m).reverse.map fun (j : Nat) => rowIx (addAt (tabI l m).2 (putR (tabI l m).1 x).2 (m : Int)) (j : Int)) = (List.range m).reverse.map fun (j : Nat) => rowIx (tabI l m).2 (j : Int) := by
    refine List.map_congr_left fun j hj => ix_old _ _ _ _ ?_ ?_
    ·have := List.mem_range.mp (List.mem_reverse.mp hj)
     (first | lia | omega)
    ·have := List.mem_range.mp (List.mem_reverse.mp hj)
     exact i2.mem_iff.mpr (mem_num0.mpr ⟨by (first | lia | omega), by (first | lia | omega)⟩)
   rw [eq, i3 (E' ++ E)]
end L2
namespace K61
open PySem PySem.Spec PyProof.Rows L2
noncomputable def top (i : Nat) : Stmt := PySem.Challenge.pw_shuffletold_k61_whole_tables_undone.main.body.getD i (.Pass ⟨0, 0, 0, 0⟩)
end K61
namespace K61
open PySem PySem.Spec PyProof.Rows L2
noncomputable abbrev s__law_hand : Stmt := top 14
noncomputable abbrev s__law_pick : Stmt := top 15
noncomputable abbrev s__law_size : Stmt := top 17
noncomputable abbrev s__law_any : Stmt := top 18
noncomputable abbrev s__law_order : Stmt := top 19
section
variable {P : Program} {w : World} {K : PySem.W.Frag} {mg : Str -> Option Value} {base : Heap}
theorem sc__law_hand : FnScope ["_law_script", "_law_seed", "_law_cell"] ["_law_script"] (defScope s__law_hand) := ⟨rfl, rfl, rfl, by decide +kernel, rfl, by decide +kernel, by decide +kernel⟩
theorem ok__law_hand {f : Addr} {fd : FuncData} (F : Fun K "_law_hand" "_law_hand" s__law_hand f fd) : FnOk P w K mg base CX0 1 f fd ["_law_script"] (spHand K) := by
 refine F.ok sc__law_hand (fun vs H Q E h => ?_) (fun cdv A outer s H vs Q E hr h => ?_)
 ·obtain ⟨a, ns, rfl, _⟩ := h
  rfl
 ·obtain ⟨a, ns, rfl, hS, hl, k⟩ := h
  refine ⟨_, (pss_cons (ps_set (i := 1) sc__law_hand.nd rfl (Or.inl rfl) pe_int)
   (pss_cons (ps_for PassesOwn.never rfl (pi_list (pe_slice sl_list (pv 0) po_none (po_some pe_int))) (pg_name (i := 2) sc__law_hand.nd rfl (Or.inl rfl))
    (pss_one (ps_set (i := 1) sc__law_hand.nd rfl (Or.inl rfl) (pe_op op_mod (pe_op op_add (pe_op op_add (pe_op op_mul (pv 1) pe_int) (pe_op op_mod (pv 2) pe_int)) pe_int) pe_int))))
   (pss_one (ps_ret (pe_lst (pa_cons (pe_lc (N' := ["_law_cell"]) (n := 1) (ix := []) rfl (CompScope.of (sc := defScope s__law_hand) (N := ["_law_script", "_law_seed", "_law_cell"]) (by decide +kernel) rfl rfl) (pi_list (pe_slice sl_list (pv 0) po_none (po_some pe_int))) (fun _ _ _ _ _ => ⟨(pg_name (i := 0) (show (["_law_cell"] : List Str).Nodup by decide +kernel) rfl (Or.inl rfl)), (pts_one (pt_cmpR op_ge (pv 0) (pe_op op_pow pe_int pe_int) (nomark _))), (pv 0)⟩)) (pa_cons (pv 1) pa_nil))))))), ?_⟩
  have hcut : ∃ ms : List Int, cutV (ns.map V.int) none (some 63) = ms.map V.int /\ ms.length <= 63 := by
   refine ⟨(ns.drop (HT.sIx (ns.map V.int).length 0 none)).take (HT.sIx (ns.map V.int).length (ns.map V.int).length (some 63) - HT.sIx (ns.map V.int).length 0 none), ?_, ?_⟩
   ·unfold cutV
    rw [List.map_take, List.map_drop]
   ·rw [List.length_take, List.length_drop]; (first | lia | omega)
  obtain ⟨ms, ecut, hms⟩ := hcut
  refine ⟨_, rfl, 63, rfl, a, _, rfl, hS, fun p hp => ⟨p, rfl, ⟨_, SqL.of upd_same⟩, ?_⟩⟩
  have sS : ∀ {H' : Hp}, Same H H' -> SqL K H' a (ns.map V.int) := fun s' => s'.seq hS
  refine for_list (K := K) (a := p) (xs := ms.map V.int) (fun i σ H2 => ∃ (seed : Int) (c : Option V), σ = [some (.ref a), some (.int seed), c] /\ H2 = upd H p (.lst (ms.map V.int))) ⟨19, none, rfl, by rw [ecut]⟩ (fun i σ H2 _ h => by obtain ⟨_, _, _, rfl⟩ := h; exact SqL.of upd_same) ?_ ?_
  ·rintro i y σ H2 hi ⟨seed, c, rfl, rfl⟩
   obtain ⟨z, _, rfl⟩ := List.mem_map.mp (List.mem_of_getElem? hi)
   refine ⟨_, rfl, _, _, rfl, rfl, .inr ⟨by decide, by decide⟩, _, rfl, _, _, rfl, rfl, (by show (0 : Int) < 2305843009213693951; decide), _, _, rfl, rfl, _, _, rfl, rfl, _, _, rfl, rfl, (by show (0 : Int) < 2305843009213693951; decide), ?_⟩
   exact ⟨_, _, rfl, rfl⟩
  ·rintro σ H2 ⟨seed, c, rfl, rfl⟩
   refine ⟨_, rfl, 63, rfl, a, _, rfl, sS (same_upd hp), fun p' hp' => ⟨p', rfl, ⟨_, SqL.of upd_same⟩, ?_⟩⟩
   rw [ecut]
   refine lc_pure (yields_list (xs := ms.map V.int)) (small1 (by rw [mapI_len]; (first | lia | omega))) (fun v => match v with | .int n => decide (10 ^ (18 : Int).toNat <= n) | _ => false) id (fun H' s' => SqL.of (s' _ _ upd_same)) (fun x hx H' s' Q' q => ?_) (fun x hx _ H' s' Q' q => ?_) fun acc hacc => ?_
   ·obtain ⟨n, _, rfl⟩ := List.mem_map.mp hx
    exact ⟨_, rfl, _, _, rfl, rfl, ⟨by decide, by decide, by decide⟩, _, _, rfl, rfl, _, rfl, q⟩
   ·exact ⟨_, rfl, q⟩
   ·refine ⟨_, rfl, (by show 2 <= sizeLine; decide), fun r hr' => ?_⟩
    have nacc : r ≠ acc := fun z => by rw [z, upd_same] at hr'; cases hr'
    have hacc1 : H acc = none := by
     rw [upd_ne (fun z => by rw [z, upd_same] at hacc; cases hacc)] at hacc
     rw [upd_ne (fun z => by rw [z, upd_same] at hacc; cases hacc)] at hacc
     exact hacc
    have hr1 : H r = none := by
     rw [upd_ne nacc] at hr'
     rw [upd_ne (fun z => by rw [z, upd_same] at hr'; cases hr')] at hr'
     rw [upd_ne (fun z => by rw [z, upd_same] at hr'; cases hr')] at hr'
     exact hr'
    refine k r acc _ ?_ ?_ hr1 hacc1
    ·exact (((same_upd hp).trans (same_upd hp')).trans (same_upd hacc)).trans (same_upd hr')
    ·refine ⟨(ms.filter fun n => decide (10 ^ (18 : Int).toNat <= n)), seed, upd_same, ?_, fun n hn => ?_, ?_⟩
     ·rw [upd_ne (Ne.symm nacc), upd_same, List.map_id, List.filter_map]
      rfl
     ·have := (List.mem_filter.mp hn).2
      have := of_decide_eq_true this
      have e : (10 : Int) ^ (18 : Int).toNat = 1000000000000000000 := by decide
      (first | lia | omega)
     ·exact Nat.le_trans (List.length_filter_le _ _) hms
end
end K61
namespace K61
open PySem PySem.Spec PyProof.Rows L2
section
variable {P : Program} {w : World} {K : PySem.W.Frag} {mg : Str -> Option Value} {base : Heap}
theorem sc__law_pick : FnScope ["_law_hand_here", "_law_many", "_law_digit", "_law_mixed"] ["_law_hand_here", "_law_many"] (defScope s__law_pick) := ⟨rfl, rfl, rfl, by decide +kernel, rfl, by decide +kernel, by decide +kernel⟩
theorem ixN_nat {n j : Nat} (h : j < n) : ixN n (j : Int) = some j := by
 unfold ixN
 rw [if_pos (by (first | lia | omega)), if_pos (by (first | lia | omega))]
 rfl
theorem neNil {H : Hp} {q e : Addr} {ns : List Int} {Q : VK} (hq : H q = some (.lst (ns.map V.int))) (he : H e = none) (h : Q (.bl (!ns.isEmpty)) (upd H e (.lst []))) : rNeD (.ref q) (.ref e) (upd H e (.lst [])) Q := by
 refine ⟨_, _, .lst (by rw [upd_ne (ne_of_none hq he)]; exact hq) (IsAll.ints ns), .lst upd_same .nil, shaped_lints ns, shaped_lints [], ?_⟩
 have e1 : PyData.eqv (.list (ns.map PyData.int)) (.list []) = ns.isEmpty := by
  show PyData.eqvAll (ns.map PyData.int) [] = _
  cases ns with
  | nil => simp [PyData.eqvAll]
  | cons a r => simp [PyData.eqvAll]
 rw [e1]
 exact h
theorem ok__law_pick {f : Addr} {fd : FuncData} (F : Fun K "_law_pick" "_law_pick" s__law_pick f fd) : FnOk P w K mg base CX0 1 f fd ["_law_hand_here", "_law_many"] spPick := by
 refine F.ok sc__law_pick (fun vs H Q E h => ?_) (fun cdv A outer s H vs Q E hr h => ?_)
 ·obtain ⟨p, q, m, rfl, _⟩ := h
  rfl
 ·obtain ⟨p, q, m, rfl, hm0, hm1, hh, k⟩ := h
  have hu : _ := hr.units
  refine ⟨_, (pss_cons (ps_while PassesOwn.never (PW.pt (pw_and (pt_cmpR (op_neD hu) (pe_ix ix_list (pv 0) pe_int (fun _ _ => rfl)) (pe_lst pa_nil) (nomark _)) (pw_and1 (pt_cmpR op_eq (pe_ix ix_list (pe_ix ix_list (pv 0) pe_int (fun _ _ => rfl)) pe_int (fun _ _ => rfl)) pe_int (nomark _)))))
    (pss_one (ps_expr (pe_bm PySem.F.plainAttrs_list PySem.F.slot_list_pop PySem.F.type_list_pop mt_popAt (pe_ix ix_list (pv 0) pe_int (fun _ _ => rfl)) (pa_cons pe_int pa_nil)))))
   (pss_cons (ps_if (pt_cmpR (op_neD hu) (pe_ix ix_list (pv 0) pe_int (fun _ _ => rfl)) (pe_lst pa_nil) (nomark _))
    (pss_cons (ps_set (i := 2) sc__law_pick.nd rfl (Or.inl rfl) (pe_op op_mod (pe_ix ix_list (pe_ix ix_list (pv 0) pe_int (fun _ _ => rfl)) pe_int (fun _ _ => rfl)) (pv 1)))
    (pss_cons (ps_asg (pe_op op_fdiv (pe_ix ix_list (pe_ix ix_list (pv 0) pe_int (fun _ _ => rfl)) pe_int (fun _ _ => rfl)) (pv 1)) (pg_sub (pe_ix ix_list (pv 0) pe_int (fun _ _ => rfl)) pe_int set_list))
    (pss_one (ps_ret (pv 2)))))
    pss_nil)
   (pss_cons (ps_asg (pe_op op_mod (pe_op op_add (pe_op op_mul (pe_ix ix_list (pv 0) pe_int (fun _ _ => rfl)) pe_int) pe_int) pe_int) (pg_sub (pv 0) pe_int set_list))
   (pss_cons (ps_set (i := 3) sc__law_pick.nd rfl (Or.inl rfl) (pe_op op_fdiv (pe_ix ix_list (pv 0) pe_int (fun _ _ => rfl)) pe_int))
   (pss_one (ps_ret (pe_op op_mod (pe_op op_fdiv (pe_op op_mod (pe_op op_mul (pv 3) (pe_op op_add (pe_op op_mod (pv 3) pe_int) pe_int)) pe_int) pe_int) (pv 1)))))))), ?_⟩
  refine ⟨fun n σ H1 => ∃ (ns : List Int) (seed : Int), n = ns.length /\ σ = [some (.ref p), some (.int m), none, none] /\ H1 p = some (.lst [.ref q, .int seed]) /\ H1 q = some (.lst (ns.map V.int)) /\ (∀ n ∈ ns, 0 <= n) /\ ns.length <= 63 /\ Keep p q H H1, ?_, ?_⟩
  ·obtain ⟨ns, seed, h1, h2, h3, h4⟩ := hh
   exact ⟨_, ns, seed, rfl, rfl, h1, h2, h3, h4, Keep.refl _ _ _⟩
  rintro n σ H1 ⟨ns, seed, rfl, rfl, hp, hq, hn, hlen, kp⟩
  refine ⟨_, rfl, p, _, 0, _, rfl, rfl, SqL.of hp, atI_nat (j := 0) rfl, Nat.zero_le _, fun e he => neNil hq he ⟨_, rfl, ?_⟩⟩
  have hnpq : p ≠ q := Hand.ne ⟨ns, seed, hp, hq, hn, hlen⟩
  have hp1 : (upd H1 e (.lst [])) p = some (.lst [.ref q, .int seed]) := by rw [upd_ne (ne_of_none hp he)]; exact hp
  have hq1 : (upd H1 e (.lst [])) q = some (.lst (ns.map V.int)) := by rw [upd_ne (ne_of_none hq he)]; exact hq
  have kp1 : Keep p q H (upd H1 e (.lst [])) := kp.trans (same_upd he).keep
  cases ns with
  | nil =>
   refine iteF ?_
   refine iteF ?_
   refine ⟨_, rfl, p, _, 0, _, rfl, rfl, SqL.of hp1, atI_nat (j := 0) rfl, Nat.zero_le _, fun e' he' => neNil hq1 he' ⟨_, rfl, ?_⟩⟩
   have hp3 : (upd (upd H1 e (.lst [])) e' (.lst [])) p = some (.lst [.ref q, .int seed]) := by rw [upd_ne (ne_of_none hp1 he')]; exact hp1
   have hq3 : (upd (upd H1 e (.lst [])) e' (.lst [])) q = some (.lst (([] : List Int).map V.int)) := by rw [upd_ne (ne_of_none hq1 he')]; exact hq1
   have kp3 : Keep p q H (upd (upd H1 e (.lst [])) e' (.lst [])) := kp1.trans (same_upd he').keep
   refine iteF ?_
   refine ⟨_, rfl, p, _, 1, _, rfl, rfl, SqL.of hp3, atI_nat (j := 1) rfl, _, _, rfl, rfl, .inr ⟨by decide, by decide⟩, _, _, rfl, rfl, _, _, rfl, rfl, (by show (0 : Int) < 2305843009213693951; decide), _, rfl, p, _, 1, 1, rfl, rfl, hp3, rfl, ?_⟩
   refine ⟨_, rfl, p, _, 1, _, rfl, rfl, SqL.of upd_same, atI_nat (j := 1) rfl, _, _, rfl, rfl, ⟨by decide, by decide⟩, ?_⟩
   refine ⟨_, rfl, _, rfl, _, _, rfl, rfl, (by show (0 : Int) < 8191; decide), _, _, rfl, rfl, _, _, rfl, rfl, .inr ?_, _, _, rfl, rfl, (by show (0 : Int) < 2305843009213693921; decide), _, _, rfl, rfl, ⟨by decide, by decide⟩, _, rfl, _, _, rfl, rfl, hm0, ?_⟩
   ·have h1 := Int.emod_nonneg ((seed * 3935559000370003 + 2691343689449507) % 2305843009213693951 / 65537) (by decide : (8191 : Int) ≠ 0)
    have h2 := Int.emod_lt_of_pos ((seed * 3935559000370003 + 2691343689449507) % 2305843009213693951 / 65537) (by decide : (0 : Int) < 8191)
    exact ⟨by (first | lia | omega), by (first | lia | omega)⟩
   ·refine k _ _ (Int.emod_nonneg _ (by (first | lia | omega))) (Int.emod_lt_of_pos _ hm0) ⟨[], _, upd_same, by rw [upd_ne (Ne.symm hnpq)]; exact hq3, hn, by simp⟩ ?_
    exact kp3.trans fun b o hb h1 _ => by rw [upd_ne h1]; exact hb
  | cons x r =>
   refine iteT ?_
   refine ⟨_, rfl, p, _, 0, _, rfl, rfl, SqL.of hp1, atI_nat (j := 0) rfl, q, _, 0, _, rfl, rfl, SqL.of hq1, atI_nat (j := 0) rfl, rfl, _, rfl, ?_⟩
   refine ite2 (fun hz => ?_) (fun hz => ?_)
   ·refine ⟨fun σ' H' => ∃ (ns : List Int) (seed : Int), ns.length < (x :: r).length /\ σ' = [some (.ref p), some (.int m), none, none] /\ H' p = some (.lst [.ref q, .int seed]) /\ H' q = some (.lst (ns.map V.int)) /\ (∀ n ∈ ns, 0 <= n) /\ ns.length <= 63 /\ Keep p q H H', ?_, ?_⟩
    ·rintro σ' H' ⟨ns', seed', hlt, h1, h2, h3, h4, h5, h6⟩
     exact ⟨_, hlt, ns', seed', rfl, h1, h2, h3, h4, h5, h6⟩
    ·refine ⟨_, rfl, p, _, 0, _, rfl, rfl, SqL.of hp1, atI_nat (j := 0) rfl, .inl ⟨rfl, _, SqL.of hq1⟩, q, _, 0, 0, _, rfl, rfl, hq1, by decide, by decide, (by simp [seqIndex?]), rfl, ?_⟩
     refine ⟨r, seed, by simp, rfl, by rw [upd_ne hnpq]; exact hp1, by rw [upd_same]; rfl, fun y hy => hn y (List.mem_cons_of_mem _ hy), by have : (x :: r).length = r.length + 1 := rfl; (first | lia | omega), ?_⟩
     exact kp1.trans fun b o hb _ h2 => by rw [upd_ne h2]; exact hb
   ·refine ⟨_, rfl, p, _, 0, _, rfl, rfl, SqL.of hp1, atI_nat (j := 0) rfl, Nat.zero_le _, fun e' he' => neNil hq1 he' ⟨_, rfl, ?_⟩⟩
    have hp3 : (upd (upd H1 e (.lst [])) e' (.lst [])) p = some (.lst [.ref q, .int seed]) := by rw [upd_ne (ne_of_none hp1 he')]; exact hp1
    have hq3 : (upd (upd H1 e (.lst [])) e' (.lst [])) q = some (.lst ((x :: r).map V.int)) := by rw [upd_ne (ne_of_none hq1 he')]; exact hq1
    have kp3 : Keep p q H (upd (upd H1 e (.lst [])) e' (.lst [])) := kp1.trans (same_upd he').keep
    refine iteT ?_
    have hx0 : 0 <= x := hn x List.mem_cons_self
    refine ⟨_, rfl, p, _, 0, _, rfl, rfl, SqL.of hp3, atI_nat (j := 0) rfl, q, _, 0, _, rfl, rfl, SqL.of hq3, atI_nat (j := 0) rfl, _, rfl, _, _, rfl, rfl, hm0, ?_⟩
    refine ⟨_, rfl, p, _, 0, _, rfl, rfl, SqL.of hp3, atI_nat (j := 0) rfl, q, _, 0, _, rfl, rfl, SqL.of hq3, atI_nat (j := 0) rfl, _, rfl, _, _, rfl, rfl, ⟨hm0, hm1⟩, _, rfl, p, _, 0, _, rfl, rfl, SqL.of hp3, atI_nat (j := 0) rfl, q, _, 0, 0, rfl, rfl, hq3, ixN_nat (j := 0) (by simp), ?_⟩
    refine ⟨_, rfl, ?_⟩
    refine k _ _ (Int.emod_nonneg _ (by (first | lia | omega))) (Int.emod_lt_of_pos _ hm0) ⟨(x / m) :: r, seed, by rw [upd_ne hnpq]; exact hp3, by rw [upd_same]; rfl, fun y hy => ?_, by simpa using hlen⟩ ?_
    ·rcases List.mem_cons.mp hy with rfl | hy
     ·exact Int.ediv_nonneg hx0 (by (first | lia | omega))
     ·exact hn y (List.mem_cons_of_mem _ hy)
    ·exact kp3.trans fun b o hb _ h2 => by rw [upd_ne h2]; exact hb
end
end K61
namespace L2
open PySem PySem.Spec PyProof.Rows
noncomputable def TkW : List (List Int) -> Nat -> Prop
 | [], _ => False
 | r :: _, 0 => r ≠ []
 | r :: R, k + 1 => TkW R k /\ 1 <= cntL r (takeR R k).2
noncomputable def TkV : List (List Int) -> List Nat -> Prop
 | _, [] => True
 | R, k :: ks => k < R.length /\ TkW R k /\ TkV (takeR R k).1 ks
theorem tkw_put : ∀ (R : List (List Int)) (x : Int), Tab R -> R.flatten.Nodup -> x ∉ R.flatten -> TkW (putR R x).1 (putR R x).2
 | [], x, _, _, _ => by
  show [x] ≠ []
  simp
 | r :: R, x, hT, nd, hx => by
  obtain ⟨hi, hne, hA, hTR⟩ := hT
  rw [List.flatten_cons] at nd hx
  have hxr : x ∉ r := fun z => hx (List.mem_append_left _ z)
  have nd' := List.nodup_append.mp nd
  by_cases c : cntL r x = r.length
  ·have e1 : putR (r :: R) x = ((r ++ [x]) :: R, 0) := if_pos c
   rw [e1]
   show r ++ [x] ≠ []
   simp
  ·have hc : cntL r x < r.length := by have := cntLe r x; (first | lia | omega)
   have hyF : r.getD (cntL r x) 0 ∉ R.flatten := fun z => nd'.2.2 _ (memD hc) _ z rfl
   have ih := tkw_put R (r.getD (cntL r x) 0) hTR nd'.2.1 hyF
   obtain ⟨i1, i2⟩ := take_put R (r.getD (cntL r x) 0) hTR nd'.2.1 hyF
   rw [put_neg c]
   refine ⟨ih, ?_⟩
   rw [i2, cnt_set hi hxr hc]
   (first | lia | omega)
theorem tkw_app : ∀ (k : Nat) (F E : List (List Int)), k < F.length -> TkW F k -> TkW (F ++ E) k
 | _, [], _, h, _ => by cases h
 | 0, _ :: _, _, _, h => h
 | k + 1, r :: F, E, hk, h => by
  have hk' : k < F.length := by simpa using hk
  refine ⟨tkw_app k F E hk' h.1, ?_⟩
  show 1 <= cntL r (takeR (F ++ E) k).2
  rw [take_app k F E hk']
  exact h.2
theorem tkw_drop : ∀ (j i : Nat) (R : List (List Int)), TkW R (j + i) -> TkW (R.drop j) i
 | 0, i, R, h => by rw [Nat.zero_add] at h; exact h
 | j + 1, i, [], h => by
  exact absurd h (by intro h; cases h)
 | j + 1, i, r :: R, h => by
  rw [show j + 1 + i = (j + i) + 1 by (first | lia | omega)] at h
  exact tkw_drop j i R h.1
theorem tk_val : ∀ (m : Nat) (ns : List Int), ns.length = m -> ns.Nodup -> ∀ E : List (List Int), TkV ((tabI ns m).1 ++ E) ((List.range m).reverse.map fun (j : Nat) => rowIx (tabI ns m).2 (j : Int))
 | 0, ns, h, _, E => trivial
 | m + 1, ns, h, nd, E => by
  rcases List.eq_nil_or_concat ns with e | ⟨l, x, e⟩
  ·rw [e] at h
   cases h
  rw [List.concat_eq_append] at e
  subst e
  have hl : l.length = m := by simpa using h
  have ndl := List.nodup_append.mp nd
  obtain ⟨i1, i2, _⟩ := tk_back m l hl ndl.1
  have hP := tab_ins l m (by (first | lia | omega))
  rw [List.take_of_length_le (by (first | lia | omega))] at hP
  have hI := ins_tab l [] trivial (by simpa using ndl.1)
  have hT : Tab (tabI l m).1 := by rw [hP]; exact hI.1
  have hperm : (tabI l m).1.flatten.Perm l := by rw [hP]; simpa using hI.2
  have ndP : (tabI l m).1.flatten.Nodup := hperm.nodup_iff.mpr ndl.1
  have hx : x ∉ (tabI l m).1.flatten := fun z => ndl.2.2 x (hperm.mem_iff.mp z) x List.mem_cons_self rfl
  have ex : atO (l ++ [x]) m = x := by
   have := atO_endQ l x
   rwa [hl] at this
  have et : tabI (l ++ [x]) (m + 1) = ((putR (tabI l m).1 x).1, addAt (tabI l m).2 (putR (tabI l m).1 x).2 (m : Int)) := by
   show ((putR (tabI (l ++ [x]) m).1 (atO (l ++ [x]) m)).1, addAt (tabI (l ++ [x]) m).2 (putR (tabI (l ++ [x]) m).1 (atO (l ++ [x]) m)).2 m) = _
   rw [tabI_pre l x m (by (first | lia | omega)), ex]
  obtain ⟨k1, k2, E', k3, k4⟩ := take_putE _ x hT ndP hx
  have k2' : (putR (tabI l m).1 x).2 <= (tabI l m).2.length := by (first | lia | omega)
  have mQ : (m : Int) ∉ (tabI l m).2.flatten := fun z => by
   have := (mem_num0.mp (i2.mem_iff.mp z)).2
   (first | lia | omega)
  rw [et, List.range_succ, List.reverse_append, List.map_append]
  show rowIx (addAt (tabI l m).2 (putR (tabI l m).1 x).2 (m : Int)) (m : Int) < ((putR (tabI l m).1 x).1 ++ E).length /\ TkW ((putR (tabI l m).1 x).1 ++ E) (rowIx (addAt (tabI l m).2 (putR (tabI l m).1 x).2 (m : Int)) (m : Int)) /\ TkV (takeR ((putR (tabI l m).1 x).1 ++ E) (rowIx (addAt (tabI l m).2 (putR (tabI l m).1 x).2 (m : Int)) (m : Int))).1 ((List.range m).reverse.map fun (j : Nat) => rowIx (addAt (tabI l m).2 (putR (tabI l m).1 x).2 (m : Int)) (j : Int))
  rw [ix_new _ _ _ k2' mQ, take_app _ _ _ k1, k4, List.append_assoc]
  have eq : ((List.range m).reverse.map fun (j : Nat) => rowIx (addAt (tabI l m).2 (putR (tabI l m).1 x).2 (m : Int)) (j : Int)) = (List.range m).reverse.map fun (j : Nat) => rowIx (tabI l m).2 (j : Int) := by
   refine List.map_congr_left fun j hj => ix_old _ _ _ _ ?_ ?_
   ·have := List.mem_range.mp (List.mem_reverse.mp hj)
    (first | lia | omega)
   ·have := List.mem_range.mp (List.mem_reverse.mp hj)
    exact i2.mem_iff.mpr (mem_num0.mpr ⟨by (first | lia | omega), by (first | lia | omega)⟩)
  refine ⟨by rw [List.length_append]; (first | lia | omega), tkw_app _ _ _ k1 (tkw_put _ x hT ndP hx), ?_⟩
  rw [eq]
  exact tk_val m l hl ndl.1 (E' ++ E)
noncomputable def spTakeO : Sp := fun vs H Q _ => ∃ (p : Addr) (zs : List Addr) (R : List (List Int)) (k : Nat), vs = [.ref p, .int (k : Int)] /\ H p = some (.lst (zs.map V.ref)) /\ LsAt H zs R /\ zs.Nodup /\ p ∉ zs /\ R.length <= 100 /\ (∀ r ∈ R, r.length <= 100) /\ k < R.length /\ TkW R k /\
 ∀ H', Frm H H' p zs -> H' p = some (.lst (zs.map V.ref)) -> LsAt H' zs (takeR R k).1 -> Q (.int (takeR R k).2) H'
theorem prd_mk {α β : Type} {R : α -> β -> Prop} {d : β} : ∀ {l : List α} {m : List β}, l.length = m.length -> (∀ (i : Nat) (z : α), l[i]? = some z -> R z (m.getD i d)) -> Paired R l m
 | [], [], _, _ => .nil
 | [], _ :: _, h, _ => by cases h
 | _ :: _, [], h, _ => by cases h
 | a :: l, b :: m, h, g => .cons (g 0 a rfl) (prd_mk (by simpa using h) fun i z e => g (i + 1) z e)
theorem take_bnd (b : Nat) : ∀ (R : List (List Int)) (k : Nat), (takeR R k).1.length = R.length /\ ((∀ r ∈ R, r.length <= b) -> ∀ r ∈ (takeR R k).1, r.length <= b)
 | [], _ => ⟨rfl, fun h => h⟩
 | r :: R, 0 => ⟨rfl, fun h s hs => by
  rcases List.mem_cons.mp hs with rfl | hs
  ·have := h r List.mem_cons_self
   rw [List.length_dropLast]
   (first | lia | omega)
  ·exact h s (List.mem_cons_of_mem _ hs)⟩
 | r :: R, k + 1 => by
  obtain ⟨i1, i2⟩ := take_bnd b R k
  refine ⟨by show (takeR R k).1.length + 1 = R.length + 1; rw [i1], fun h s hs => ?_⟩
  rcases List.mem_cons.mp hs with rfl | hs
  ·have := h r List.mem_cons_self
   show (r.set _ _).length <= b
   rw [List.length_set]
   exact this
  ·exact i2 (fun s hs => h s (List.mem_cons_of_mem _ hs)) s hs
noncomputable def spOot : Sp := fun vs H Q _ => ∃ (q1 q2 : Addr) (ys1 ys2 : List Addr) (ns : List Int) (m : Nat), vs = [.ref q1, .ref q2] /\ H q1 = some (.tup (ys1.map V.ref)) /\ H q2 = some (.tup (ys2.map V.ref)) /\ RowsAt H ys1 (tabI ns m).1 /\ RowsAt H ys2 (tabI ns m).2 /\ Ord m ns /\ m <= 60 /\
 ∀ t H', Same H H' -> H' t = some (.tup (ns.map V.int)) -> Q (.ref t) H'
end L2
namespace L2
open PySem PySem.Spec PyProof.Rows
noncomputable def rEqE : R2 := fun x y H Q => ∃ (a b : Addr) (vs : List V), x = .ref a /\ y = .ref b /\ H a = some (.tup vs) /\ H b = some (.tup []) /\ Q (.bl vs.isEmpty) H
theorem op_eqE {X : Cx} (hu : X.A.units + 64 < cLine) : OpR X (compareOp .Eq) rEqE := by
 intro pins s σ H x y v u Q I rx ry h
 obtain ⟨a, b, vs, rfl, rfl, ha, hb, q⟩ := h
 cases rx
 cases ry
 obtain ⟨its, rv, ⟨o, ho, hc, n, hd⟩, _⟩ := I.tuple (SqT.of (K := X.K) ha)
 obtain ⟨its2, rv2, ⟨o2, ho2, hc2, n2, hd2⟩, _⟩ := I.tuple (SqT.of (K := X.K) hb)
 cases rv2
 have := SeqAt.RcAt.tuples (A := X.A) (e := fun _ => true) ⟨o, ho, hc, n, hd⟩ ⟨o2, ho2, hc2, n2, hd2⟩ (by (first | lia | omega)) (fun j _ j2 => absurd j2 (by simp)) X.prog X.w
 have e : ((List.range (min its.toArray.size ([] : List Value).toArray.size)).all (fun _ => true) && its.toArray.size == ([] : List Value).toArray.size) = vs.isEmpty := by
  have hl : its.length = vs.length := rv.length.symm
  cases vs with
  | nil =>
   have : its = [] := List.eq_nil_of_length_eq_zero (by simpa using hl)
   subst this
   rfl
  | cons v r =>
   have h0 : its.length ≠ 0 := by rw [hl]; simp
   simp [h0]
 rw [e] at this
 exact this _ _ ⟨.bl _, H, I, rfl, q⟩
theorem ris_all {b : List Int} : risL b = true ↔ ∀ j : Nat, 0 < j -> j < b.length -> b.getD (j - 1) 0 < b.getD j 0 := by
 induction b with
 | nil => exact ⟨fun _ j _ h => by simp at h, fun _ => rfl⟩
 | cons x t ih =>
  cases t with
  | nil =>
   refine ⟨fun _ j h1 h2 => ?_, fun _ => rfl⟩
   simp at h2
   (first | lia | omega)
  | cons y r =>
   have e : risL (x :: y :: r) = (decide (x < y) && risL (y :: r)) := rfl
   rw [e, Bool.and_eq_true, decide_eq_true_eq, ih]
   refine ⟨fun ⟨h1, h2⟩ j j1 j2 => ?_, fun h => ⟨?_, fun j j1 j2 => ?_⟩⟩
   ·by_cases c : j = 1
    ·subst c
     exact h1
    ·have := h2 (j - 1) (by (first | lia | omega)) (by simp at j2 ⊢; (first | lia | omega))
     obtain ⟨i, rfl⟩ : ∃ i, j = i + 2 := ⟨j - 2, by (first | lia | omega)⟩
     exact this
   ·exact h 1 (by (first | lia | omega)) (by simp)
   ·have := h (j + 1) (by (first | lia | omega)) (by simp at j2 ⊢; (first | lia | omega))
    obtain ⟨i, rfl⟩ : ∃ i, j = i + 1 := ⟨j - 1, by (first | lia | omega)⟩
    exact this
theorem lt_all : ∀ {a b : List Int}, b.length <= a.length -> (ltL a b = true ↔ ∀ j : Nat, j < b.length -> a.getD j 0 < b.getD j 0)
 | a, [], _ => by
  refine ⟨fun _ j h => by simp at h, fun _ => ?_⟩
  cases a <;> rfl
 | [], _ :: _, h => by simp at h
 | x :: a, y :: b, h => by
  have e : ltL (x :: a) (y :: b) = (decide (x < y) && ltL a b) := rfl
  rw [e, Bool.and_eq_true, decide_eq_true_eq, lt_all (by simp at h; (first | lia | omega))]
  refine ⟨fun ⟨h1, h2⟩ j hj => ?_, fun g => ⟨g 0 (by simp), fun j hj => g (j + 1) (by simp; (first | lia | omega))⟩⟩
  cases j with
  | zero => exact h1
  | succ j => exact h2 j (by simp at hj; (first | lia | omega))
theorem prs_all : ∀ {l : List (List Int)}, prsL l = true ↔ ∀ (i : Nat) (a b : List Int), l[i]? = some a -> l[i + 1]? = some b -> aboveL a b = true
 | [] => ⟨fun _ i a b h => by simp at h, fun _ => rfl⟩
 | [_] => ⟨fun _ i a b _ h => by simp at h, fun _ => rfl⟩
 | x :: y :: r => by
  have e : prsL (x :: y :: r) = (aboveL x y && prsL (y :: r)) := rfl
  rw [e, Bool.and_eq_true, prs_all (l := y :: r)]
  refine ⟨fun ⟨h1, h2⟩ i a b ha hb => ?_, fun h => ⟨h 0 x y rfl rfl, fun i a b ha hb => h (i + 1) a b ha hb⟩⟩
  cases i with
  | zero =>
   cases ha
   cases hb
   exact h1
  | succ i => exact h2 i a b ha hb
theorem above_iff {a b : List Int} : aboveL a b = true ↔ b.length <= a.length /\ ∀ j : Nat, j < b.length -> a.getD j 0 < b.getD j 0 := by
 unfold aboveL
 rw [Bool.and_eq_true, decide_eq_true_eq]
 exact ⟨fun ⟨h1, h2⟩ => ⟨h1, (lt_all h1).mp h2⟩, fun ⟨h1, h2⟩ => ⟨h1, (lt_all h1).mpr h2⟩⟩
structure TabZ (n : Nat) (R : List (List Int)) : Prop where
 ne : ∀ r ∈ R, r ≠ []
 ris : ∀ r ∈ R, risL r = true
 prs : prsL R = true
 perm : R.flatten.Perm (num0 n)
theorem TabZ.lt {n : Nat} {R : List (List Int)} (h : TabZ n R) {r : List Int} (hr : r ∈ R) {x : Int} (hx : x ∈ r) : 0 <= x /\ x < (n : Int) := by
 have : x ∈ num0 n := h.perm.mem_iff.mp (List.mem_flatten.mpr ⟨r, hr, hx⟩)
 obtain ⟨j, hj, rfl⟩ := List.mem_map.mp this
 have := List.mem_range.mp hj
 (first | lia | omega)
theorem TabZ.len {n : Nat} {R : List (List Int)} (h : TabZ n R) : R.flatten.length = n := by
 rw [h.perm.length_eq]
 unfold num0
 rw [List.length_map, List.length_range]
theorem getD_mem0 {r : List Int} {j : Nat} (h : j < r.length) : r.getD j 0 ∈ r := by
 rw [List.getD_eq_getElem?_getD, List.getElem?_eq_getElem h]
 exact List.getElem_mem h
theorem gd_left {r t : List Int} {j : Nat} (h : j < r.length) : (r ++ t).getD j 0 = r.getD j 0 := by
 rw [List.getD_eq_getElem?_getD, List.getElem?_append_left h, <- List.getD_eq_getElem?_getD]
theorem gd_right {r : List Int} {n : Int} : (r ++ [n]).getD r.length 0 = n := by
 rw [List.getD_eq_getElem?_getD, List.getElem?_append_right (Nat.le_refl _), Nat.sub_self]
 rfl
theorem ris_snoc {r : List Int} {n : Int} (h : risL r = true) (hl : ∀ x ∈ r, x < n) : risL (r ++ [n]) = true := by
 refine ris_all.mpr fun j j1 j2 => ?_
 rw [List.length_append, List.length_singleton] at j2
 by_cases c : j < r.length
 ·have := ris_all.mp h j j1 c
  rw [gd_left (by (first | lia | omega)), gd_left c]
  exact this
 ·have e : j = r.length := by (first | lia | omega)
  subst e
  rw [gd_left (by (first | lia | omega)), gd_right]
  exact hl _ (getD_mem0 (by (first | lia | omega)))
theorem flat_set {R : List (List Int)} {k : Nat} {r : List Int} (h : R[k]? = some r) (n : Int) : (R.set k (r ++ [n])).flatten.Perm (R.flatten ++ [n]) := by
 obtain ⟨hk, e⟩ := List.getElem?_eq_some_iff.mp h
 have s1 : R = R.take k ++ r :: R.drop (k + 1) := by
  rw [<- e, List.getElem_cons_drop, List.take_append_drop]
 have lk : (R.take k).length = k := by rw [List.length_take]; (first | lia | omega)
 have s2 : R.set k (r ++ [n]) = R.take k ++ (r ++ [n]) :: R.drop (k + 1) := by
  conv => lhs; rw [s1]
  rw [List.set_append_right _ _ (by (first | lia | omega)), lk, Nat.sub_self, List.set_cons_zero]
 rw [s2]
 conv => rhs; rw [s1]
 rw [List.flatten_append, List.flatten_cons, List.flatten_append, List.flatten_cons]
 rw [List.append_assoc, List.append_assoc, List.append_assoc]
 exact List.Perm.append_left _ (List.Perm.append_left _ List.perm_append_comm)
theorem num0_succT (m : Nat) : num0 (m + 1) = num0 m ++ [(m : Int)] := by
 unfold num0
 rw [List.range_succ, List.map_append]
 rfl
theorem TabZ.grow {n : Nat} {R : List (List Int)} (h : TabZ n R) {k : Nat} {r : List Int} (hr : R[k]? = some r) (hk : k = 0 ∨ ∃ a, R[k - 1]? = some a /\ r.length < a.length) : TabZ (n + 1) (R.set k (r ++ [(n : Int)])) := by
 have hrm : r ∈ R := List.mem_of_getElem? hr
 have hkl := (List.getElem?_eq_some_iff.mp hr).1
 refine ⟨fun x hx => ?_, fun x hx => ?_, prs_all.mpr fun i a b ha hb => ?_, ?_⟩
 ·rcases List.mem_or_eq_of_mem_set hx with hx | rfl
  ·exact h.ne x hx
  ·simp
 ·rcases List.mem_or_eq_of_mem_set hx with hx | rfl
  ·exact h.ris x hx
  ·exact ris_snoc (h.ris r hrm) fun y hy => (h.lt hrm hy).2
 ·by_cases c1 : k = i
  ·subst c1
   rw [List.getElem?_set_self hkl] at ha
   cases ha
   rw [List.getElem?_set_ne (by (first | lia | omega))] at hb
   have g := above_iff.mp (prs_all.mp h.prs k r b hr hb)
   refine above_iff.mpr ⟨by rw [List.length_append]; (first | lia | omega), fun j hj => ?_⟩
   rw [gd_left (by (first | lia | omega))]
   exact g.2 j hj
  ·rw [List.getElem?_set_ne c1] at ha
   by_cases c2 : k = i + 1
   ·subst c2
    rw [List.getElem?_set_self hkl] at hb
    cases hb
    have g := above_iff.mp (prs_all.mp h.prs i a r ha hr)
    rcases hk with hk | ⟨a', ha', hl⟩
    ·(first | lia | omega)
    ·rw [show i + 1 - 1 = i by (first | lia | omega), ha] at ha'
     cases ha'
     refine above_iff.mpr ⟨by rw [List.length_append, List.length_singleton]; (first | lia | omega), fun j hj => ?_⟩
     rw [List.length_append, List.length_singleton] at hj
     by_cases c : j < r.length
     ·rw [gd_left c]
      exact g.2 j c
     ·have e : j = r.length := by (first | lia | omega)
      subst e
      rw [gd_right]
      exact (h.lt (List.mem_of_getElem? ha) (getD_mem0 hl)).2
   ·rw [List.getElem?_set_ne c2] at hb
    exact prs_all.mp h.prs i a b ha hb
 ·rw [num0_succT]
  exact (flat_set hr _).trans (h.perm.append_right _)
theorem TabZ.new {n : Nat} {R : List (List Int)} (h : TabZ n R) : TabZ (n + 1) (R ++ [[(n : Int)]]) := by
 refine ⟨fun x hx => ?_, fun x hx => ?_, prs_all.mpr fun i a b ha hb => ?_, ?_⟩
 ·rcases List.mem_append.mp hx with hx | hx
  ·exact h.ne x hx
  ·rw [List.mem_singleton.mp hx]
   simp
 ·rcases List.mem_append.mp hx with hx | hx
  ·exact h.ris x hx
  ·rw [List.mem_singleton.mp hx]
   rfl
 ·by_cases c : i + 1 < R.length
  ·rw [List.getElem?_append_left (by (first | lia | omega))] at ha
   rw [List.getElem?_append_left c] at hb
   exact prs_all.mp h.prs i a b ha hb
  ·have hl := (List.getElem?_eq_some_iff.mp hb).1
   rw [List.length_append, List.length_singleton] at hl
   have e : i + 1 = R.length := by (first | lia | omega)
   rw [List.getElem?_append_left (by (first | lia | omega))] at ha
   rw [List.getElem?_append_right (by (first | lia | omega)), e, Nat.sub_self] at hb
   cases hb
   have hm := List.mem_of_getElem? ha
   have ha0 : 0 < a.length := List.length_pos_iff.mpr (h.ne a hm)
   refine above_iff.mpr ⟨ha0, fun j hj => ?_⟩
   have : j = 0 := by
    have : j < 1 := hj
    (first | lia | omega)
   subst this
   exact (h.lt hm (getD_mem0 ha0)).2
 ·rw [List.flatten_append, num0_succT]
  exact h.perm.append_right _
theorem TabZ.nil : TabZ 0 [] := ⟨(fun _ h => by cases h), (fun _ h => by cases h), rfl, List.Perm.refl _⟩
structure LsZ (H : Hp) (zs : List Addr) (R : List (List Int)) : Prop where
 nd : zs.Nodup
 len : zs.length = R.length
 at_ : ∀ (i : Nat) (z : Addr), zs[i]? = some z -> ∃ r, R[i]? = some r /\ H z = some (.lst (r.map V.int))
theorem LsZ.keep {H H' : Hp} {zs : List Addr} {R : List (List Int)} (h : LsZ H zs R) {p q : Addr} (k : Keep p q H H') (hp : p ∉ zs) (hq : q ∉ zs) : LsZ H' zs R := ⟨h.nd, h.len, fun i z e => let ⟨r, h1, h2⟩ := h.at_ i z e; ⟨r, h1, k _ _ h2 (fun z' => hp (z' ▸ List.mem_of_getElem? e)) (fun z' => hq (z' ▸ List.mem_of_getElem? e))⟩⟩
theorem LsZ.put {H : Hp} {zs : List Addr} {R : List (List Int)} (h : LsZ H zs R) {k : Nat} {z : Addr} {r : List Int} (hz : zs[k]? = some z) (r' : List Int) : LsZ (upd H z (.lst (r'.map V.int))) zs (R.set k r') := by
 have hk := (List.getElem?_eq_some_iff.mp hz).1
 refine ⟨h.nd, by rw [List.length_set]; exact h.len, fun i y hy => ?_⟩
 by_cases e : k = i
 ·subst e
  rw [hz] at hy
  cases hy
  exact ⟨r', List.getElem?_set_self (by rw [<- h.len]; exact hk), upd_same⟩
 ·have hne : y ≠ z := fun z' => by
   obtain ⟨h1, e1⟩ := List.getElem?_eq_some_iff.mp hz
   obtain ⟨h2, e2⟩ := List.getElem?_eq_some_iff.mp hy
   exact e ((List.getElem_inj h.nd).mp (e1.trans (z'.symm.trans e2.symm)))
  obtain ⟨s, h1, h2⟩ := h.at_ i y hy
  exact ⟨s, by rw [List.getElem?_set_ne e]; exact h1, by rw [upd_ne hne]; exact h2⟩
theorem LsZ.snoc {H : Hp} {zs : List Addr} {R : List (List Int)} (h : LsZ H zs R) {z : Addr} {r : List Int} (hn : z ∉ zs) (hz : H z = some (.lst (r.map V.int))) : LsZ H (zs ++ [z]) (R ++ [r]) := by
 refine ⟨List.nodup_append.mpr ⟨h.nd, by simp, fun u hu c hc e => ?_⟩, by simp [h.len], fun i y hy => ?_⟩
 ·rw [List.mem_singleton.mp hc] at e
  exact hn (e ▸ hu)
 ·by_cases c : i < zs.length
  ·rw [List.getElem?_append_left c] at hy
   obtain ⟨s, h1, h2⟩ := h.at_ i y hy
   exact ⟨s, by rw [List.getElem?_append_left (by rw [<- h.len]; exact c)]; exact h1, h2⟩
  ·have hl := (List.getElem?_eq_some_iff.mp hy).1
   rw [List.length_append, List.length_singleton] at hl
   have e : i = zs.length := by (first | lia | omega)
   subst e
   rw [List.getElem?_append_right (Nat.le_refl _), Nat.sub_self] at hy
   cases hy
   exact ⟨r, by rw [h.len, List.getElem?_append_right (Nat.le_refl _), Nat.sub_self]; rfl, hz⟩
end L2
namespace L2
open PySem PySem.Spec PyProof.Rows
noncomputable def spOfI : Sp := fun vs H Q _ => ∃ (p q l : Addr) (ns : List Int), vs = [.ref p, .ref l] /\ Hand H p q /\ H l = some (.lst (ns.map V.int)) /\ l ≠ p /\ l ≠ q /\ 0 < ns.length /\ ns.length < 1000 /\ ∀ n H', n ∈ ns -> Hand H' p q -> Keep p q H H' -> Q (.int n) H'
theorem call_tupKT {X : Cx} (K : PySem.W.Frag) (hK : X.K = K) : CallR X (.type "tuple") (fun xs H Q => ∃ p ys, xs = [.ref p] /\ ((SqL K H p ys /\ ∀ l, H l = none -> Q (.ref l) (upd H l (.tup ys))) ∨ (SqT K H p ys /\ Q (.ref p) H))) := hK ▸ call_tuple_of
theorem hand_newT {p q a : Addr} {H : Hp} (h : Hand H p q) (e : H a = none) : a ≠ p /\ a ≠ q := by
 obtain ⟨ns, seed, h1, h2, _⟩ := h
 exact ⟨(fun z => by rw [z, h1] at e; cases e), (fun z => by rw [z, h2] at e; cases e)⟩
noncomputable def TabAt (H : Hp) (z : Addr) (R : List (List Int)) : Prop := ∃ ts : List Addr, H z = some (.tup (ts.map V.ref)) /\ RowsAt H ts R
noncomputable def spDrawT : Sp := fun vs H Q _ => ∃ (p q : Addr) (m : Nat), vs = [.ref p, .int m] /\ m <= 130 /\ Hand H p q /\ ∀ z R H', TabZ m R -> TabAt H' z R -> Hand H' p q -> Keep p q H H' -> Q (.ref z) H'
noncomputable def endP (R : List (List Int)) (k : Nat) : Bool := decide (k = 0) || decide ((R.getD k []).length < (R.getD (k - 1) []).length)
theorem Hand.lset {H : Hp} {p q l : Addr} {o : HO} (h : Hand H p q) (h1 : l ≠ p) (h2 : l ≠ q) : Hand (upd H l o) p q := by
 obtain ⟨ns, seed, e1, e2, r⟩ := h
 exact ⟨ns, seed, by rw [upd_ne (Ne.symm h1)]; exact e1, by rw [upd_ne (Ne.symm h2)]; exact e2, r⟩
theorem rows_tup {G G' : Hp} : ∀ {zs : List Addr} {R : List (List Int)} {ys : List V}, zs.length = R.length -> (∀ (i : Nat) (z : Addr), zs[i]? = some z -> ∃ r : List Int, R[i]? = some r /\ G z = some (.lst (r.map V.int))) -> Paired (fun x v => ∃ (z t : Addr) (r : List Int), x = V.ref z /\ G z = some (.lst (r.map V.int)) /\ v = V.ref t /\ G' t = some (.tup (r.map V.int))) (zs.map V.ref) ys -> ∃ ts : List Addr, ys = ts.map V.ref /\ RowsAt G' ts R
 | [], [], _, _, _, .nil => ⟨[], rfl, .nil⟩
 | [], _ :: _, _, e, _, _ => by cases e
 | _ :: _, [], _, e, _, _ => by cases e
 | z :: zs, r :: R, _, e, h, .cons ⟨z', t, r', e1, e2, e3, e4⟩ pr => by
  cases e1
  subst e3
  obtain ⟨r2, h1, h2⟩ := h 0 z rfl
  cases h1
  have : r' = r := by
   rw [h2] at e2
   injection e2 with e2
   injection e2 with e2
   exact (mapI_inj e2).symm
  subst this
  obtain ⟨ts, g1, g2⟩ := rows_tup (by simpa using e) (fun i z hz => h (i + 1) z hz) pr
  exact ⟨t :: ts, by rw [g1]; rfl, .cons e4 g2⟩
theorem ne_len {l : List (List Int)} : (∀ r ∈ l, r ≠ []) -> l.length <= l.flatten.length := by
 induction l with
 | nil => exact fun _ => Nat.zero_le _
 | cons r t ih =>
  intro hr
  have a1 := ih fun r hr' => hr r (List.mem_cons_of_mem _ hr')
  have a2 := List.length_pos_iff.mpr (hr r List.mem_cons_self)
  rw [List.flatten_cons, List.length_append, List.length_cons]
  (first | lia | omega)
end L2
namespace K61
open PySem PySem.Spec PyProof.Rows L2
noncomputable abbrev s__law_of : Stmt := top 16
noncomputable abbrev s__law_drawn_table : Stmt := top 21
section
variable {P : Program} {w : World} {K : PySem.W.Frag} {mg : Str -> Option Value} {base : Heap}
theorem sc__law_of : FnScope ["_law_hand_here", "_law_some"] ["_law_hand_here", "_law_some"] (defScope s__law_of) := ⟨rfl, rfl, rfl, by decide +kernel, rfl, by decide +kernel, by decide +kernel⟩
theorem ok__law_of {f : Addr} {fd : FuncData} (F : Fun K "_law_of" "_law_of" s__law_of f fd) (T : Top mg) (C_law_pick : Cal P w K mg base 1 "_law_pick" ["_law_hand_here", "_law_many"] spPick) : FnOk P w K mg base CX0 2 f fd ["_law_hand_here", "_law_some"] spOfI := by
 refine F.ok sc__law_of (fun vs H Q E h => ?_) (fun cdv A outer s H vs Q E hr h => ?_)
 ·obtain ⟨p, q, l, ns, rfl, _⟩ := h
  rfl
 ·obtain ⟨p, q, l, ns, rfl, hh, hl, hlp, hlq, n0, n1, k⟩ := h
  refine ⟨_, (pss_one (ps_ret (pe_ix ix_list (pv 1) (pe_cal C_law_pick (hr.mono (by decide)) rfl (pa_cons (pv 0) (pa_cons (pe_callB call_len_seq (by rfl) T.n_len PySem.boot_len (pa_cons (pv 1) pa_nil)) pa_nil))) (fun _ _ => rfl)))), ?_⟩
  refine ⟨_, rfl, _, rfl, _, rfl, l, _, rfl, .inl (SqL.of hl), ?_⟩
  rw [mapI_len]
  refine ⟨p, q, _, rfl, by (first | lia | omega), by (first | lia | omega), hh, fun d H1 a1 b1 hh1 kp1 => ?_⟩
  obtain ⟨n, hn, en⟩ := at_list (ns := ns) (d := d) a1 b1
  exact ⟨l, _, d, .int n, rfl, rfl, SqL.of (kp1 _ _ hl hlp hlq), en, k n H1 hn hh1 kp1⟩
theorem sc__law_drawn_table : FnScope ["_law_hand_here", "_law_many", "_law_rows", "_law_number", "_law_ends", "_law_at"] ["_law_hand_here", "_law_many"] (defScope s__law_drawn_table) := ⟨rfl, rfl, rfl, by decide +kernel, rfl, by decide +kernel, by decide +kernel⟩
set_option maxHeartbeats 8000000 in
theorem ok__law_drawn_table {f : Addr} {fd : FuncData} (F : Fun K "_law_drawn_table" "_law_drawn_table" s__law_drawn_table f fd) (T : Top mg) (C_law_of : Cal P w K mg base 2 "_law_of" ["_law_hand_here", "_law_some"] spOfI) : FnOk P w K mg base CX0 3 f fd ["_law_hand_here", "_law_many"] spDrawT := by
 refine F.ok sc__law_drawn_table (fun vs H Q E h => ?_) (fun cdv A outer s H vs Q E hr h => ?_)
 ·obtain ⟨p, q, m, rfl, _⟩ := h
  rfl
 ·obtain ⟨p, q, m, rfl, hm, hh, k⟩ := h
  refine ⟨_, (pss_cons (ps_set (i := 2) sc__law_drawn_table.nd rfl (Or.inr rfl) (pe_lst pa_nil))
   (pss_cons (ps_for PassesOwn.never rfl (pi_range1 rfl T.n_range (pa_cons (pv 1) pa_nil)) (pg_name (i := 3) sc__law_drawn_table.nd rfl (Or.inl rfl))
    (pss_cons (ps_set (i := 4) sc__law_drawn_table.nd rfl (Or.inl rfl) (pe_op op_cat (pe_lc (N' := ["_law_k", "_law_rows"]) (n := 1) (ix := [2]) rfl (CompScope.of (sc := defScope s__law_drawn_table) (N := ["_law_hand_here", "_law_many", "_law_rows", "_law_number", "_law_ends", "_law_at"]) (by decide +kernel) rfl rfl) (pi_range1 rfl T.n_range (pa_cons (pe_callB call_len_seq (by rfl) T.n_len PySem.boot_len (pa_cons (pv 2) pa_nil)) pa_nil)) (fun _ _ _ _ _ => ⟨(pg_name (i := 0) (show (["_law_k", "_law_rows"] : List Str).Nodup by decide +kernel) rfl (Or.inl rfl)), (pts_one (PW.pt (pw_or (pt_cmpR op_eq (pv 0) pe_int (nomark _)) (pw_or1 (pt_cmpR op_lt (pe_callB (call_len_seqKY K rfl) (by rfl) T.n_len PySem.boot_len (pa_cons (pe_ix (ix_listK K rfl) (pv 1) (pv 0) (fun _ _ => rfl)) pa_nil)) (pe_callB (call_len_seqKY K rfl) (by rfl) T.n_len PySem.boot_len (pa_cons (pe_ix (ix_listK K rfl) (pv 1) (pe_op op_sub (pv 0) pe_int) (fun _ _ => rfl)) pa_nil)) (nomark _)))))), (pv 0)⟩)) (pe_lst (pa_cons (pe_callB call_len_seq (by rfl) T.n_len PySem.boot_len (pa_cons (pv 2) pa_nil)) pa_nil))))
    (pss_cons (ps_set (i := 5) sc__law_drawn_table.nd rfl (Or.inl rfl) (pe_cal C_law_of (hr.mono (by decide)) rfl (pa_cons (pv 0) (pa_cons (pv 4) pa_nil))))
    (pss_cons (ps_if (pt_cmpR op_eq (pv 5) (pe_callB call_len_seq (by rfl) T.n_len PySem.boot_len (pa_cons (pv 2) pa_nil)) (nomark _))
     (pss_one (ps_expr (pe_bm PySem.F.plainAttrs_list PySem.F.slot_list_append PySem.F.type_list_append mt_append (pv 2) (pa_cons (pe_lst pa_nil) pa_nil))))
     pss_nil)
    (pss_one (ps_expr (pe_bm PySem.F.plainAttrs_list PySem.F.slot_list_append PySem.F.type_list_append mt_append (pe_ix ix_list (pv 2) (pv 5) (fun _ _ => rfl)) (pa_cons (pv 3) pa_nil))))))))
   (pss_one (ps_ret (pe_callTy call_tuple_of (by rfl) T.n_tuple boot_tuple (pa_cons (pe_lc (N' := ["_law_row"]) (n := 1) (ix := []) rfl (CompScope.of (sc := defScope s__law_drawn_table) (N := ["_law_hand_here", "_law_many", "_law_rows", "_law_number", "_law_ends", "_law_at"]) (by decide +kernel) rfl rfl) (pi_list (pv 2)) (fun _ _ _ _ _ => ⟨(pg_name (i := 0) (show (["_law_row"] : List Str).Nodup by decide +kernel) rfl (Or.inl rfl)), pts_nil, (pe_callTy (call_tupKT K rfl) (by rfl) T.n_tuple boot_tuple (pa_cons (pv 0) pa_nil))⟩)) pa_nil)))))), ?_⟩
  refine ⟨Nat.zero_le _, fun Rl hRl => ?_⟩
  have s1 := same_upd (o := .lst []) hRl
  have nR := hand_newT hh hRl
  refine ⟨_, rfl, (m : Int), rfl, by (first | lia | omega), by (first | lia | omega), ?_⟩
  rw [Int.toNat_natCast]
  refine for_range (n := m) (fun i σ G => ∃ (zs : List Addr) (R : List (List Int)) (c3 c4 c5 : Option V), σ = [some (.ref p), some (.int m), some (.ref Rl), c3, c4, c5] /\ G Rl = some (.lst (zs.map V.ref)) /\ LsZ G zs R /\ TabZ i R /\ Hand G p q /\ Keep p q H G /\ (∀ z ∈ zs, H z = none /\ z ≠ Rl)) ⟨[], [], _, _, _, rfl, upd_same, ⟨List.nodup_nil, rfl, fun i z e => by simp at e⟩, TabZ.nil, hh.same s1, s1.keep, fun _ h => by cases h⟩ ?_ ?_
  ·rintro i σ G hi ⟨zs, R, c3, c4, c5, rfl, hGR, hL, hT, hG, kG, hzs⟩
   have lz : zs.length = R.length := hL.len
   have lR : R.length <= i := by
    have h1 := hT.len
    have h2 : ∀ {l : List (List Int)}, (∀ r ∈ l, r ≠ []) -> l.length <= l.flatten.length := fun {l} => by
     induction l with
     | nil => exact fun _ => Nat.zero_le _
     | cons r t ih =>
      intro hr
      have a1 := ih fun r hr' => hr r (List.mem_cons_of_mem _ hr')
      have a2 := List.length_pos_iff.mpr (hr r List.mem_cons_self)
      rw [List.flatten_cons, List.length_append, List.length_cons]
      (first | lia | omega)
    have := h2 hT.ne
    (first | lia | omega)
   refine ⟨_, rfl, Rl, _, rfl, .inl (SqL.of hGR), _, rfl, by (first | lia | omega), by rw [List.length_map]; (first | lia | omega), ?_⟩
   rw [List.length_map, Int.toNat_natCast, lz]
   have len_at : ∀ {k : Nat}, k < R.length -> ∃ z, zs[k]? = some z /\ G z = some (.lst ((R.getD k []).map V.int)) := fun {k} hk => by
    obtain ⟨z, hz⟩ : ∃ z, zs[k]? = some z := ⟨_, List.getElem?_eq_getElem (by (first | lia | omega))⟩
    obtain ⟨r, hr1, hr2⟩ := hL.at_ k z hz
    refine ⟨z, hz, ?_⟩
    rw [List.getD_eq_getElem?_getD, hr1]
    exact hr2
   have atz : ∀ {k : Nat} {z : Addr}, zs[k]? = some z -> atI (zs.map V.ref) (k : Int) = some (.ref z) := fun {k z} h => atI_nat (by rw [List.getElem?_map, h]; rfl)
   refine lc_pure (yields_range (lo := 0) (n := R.length)) (small1 (by rw [rangeV_len]; (first | lia | omega))) (fun v => match v with | .int n => endP R n.toNat | _ => false) id (fun _ _ => trivial) (fun x hx G' s' Q' q' => ?_) (fun x hx _ G' s' Q' q' => ⟨_, rfl, q'⟩) fun acc hacc => ?_
   ·obtain ⟨n, rfl, n0, n1⟩ := mem_rangeV hx
    obtain ⟨j, rfl⟩ : ∃ j : Nat, n = (j : Int) := ⟨n.toNat, by (first | lia | omega)⟩
    have hq : Q' (endP R j) G' := q'
    have ee : endP R j = (decide (j = 0) || decide ((R.getD j []).length < (R.getD (j - 1) []).length)) := rfl
    refine ⟨_, rfl, rfl, _, rfl, ?_⟩
    by_cases hj : j = 0
    ·rw [ee, decide_eq_true hj, Bool.true_or] at hq
     subst hj
     exact iteT hq
    ·rw [ee, decide_eq_false hj, Bool.false_or] at hq
     rw [dec_int, show ((j : Int) == 0) = false from beq_eq_false_iff_ne.mpr (by (first | lia | omega))]
     obtain ⟨z1, hz1, hz2⟩ := len_at (k := j) (by (first | lia | omega))
     obtain ⟨y1, hy1, hy2⟩ := len_at (k := j - 1) (by (first | lia | omega))
     refine iteF ⟨_, rfl, _, rfl, Rl, _, _, _, rfl, rfl, SqL.of (s' _ _ hGR), atz hz1, z1, _, rfl, .inl (SqL.of (s' _ _ hz2)), _, rfl, _, rfl, _, _, rfl, rfl, Rl, _, _, _, rfl, rfl, SqL.of (s' _ _ hGR), ?_, y1, _, rfl, .inl (SqL.of (s' _ _ hy2)), _, _, rfl, rfl, _, rfl, ?_⟩
     ·rw [show (j : Int) - 1 = ((j - 1 : Nat) : Int) by (first | lia | omega)]
      exact atz hy1
     rw [mapI_len, mapI_len]
     have e2 : decide (((R.getD j []).length : Int) < ((R.getD (j - 1) []).length : Int)) = decide ((R.getD j []).length < (R.getD (j - 1) []).length) := decide_eq_decide.mpr (by (first | lia | omega))
     rw [e2]
     exact hq
   have e1 : ((rangeV 0 R.length).filter fun v => match v with | .int n => endP R n.toNat | _ => false).map id = ((num0 R.length).filter fun n => endP R n.toNat).map V.int := by
    rw [List.map_id, rangeV_num0, List.filter_map]
    rfl
   rw [e1]
   have t1 := same_upd (o := .lst (((num0 R.length).filter fun n => endP R n.toNat).map V.int)) hacc
   have lf : ((num0 R.length).filter fun n => endP R n.toNat).length <= R.length := by
    refine Nat.le_trans (List.length_filter_le _ _) ?_
    unfold num0
    rw [List.length_map, List.length_range]
    exact Nat.le_refl _
   refine ⟨_, rfl, Rl, _, rfl, .inl (SqL.of (t1 _ _ hGR)), by show 1 <= sizeLine; decide, fun l2 hl2 => ?_⟩
   rw [List.length_map, lz]
   have t2 := same_upd (o := .lst [.int (R.length : Int)]) hl2
   refine ⟨acc, l2, _, _, rfl, rfl, t2 _ _ upd_same, upd_same, by rw [mapI_len, sizeLine_eq]; show _ + 1 <= _; (first | lia | omega), fun l3 hl3 => ?_⟩
   have t3 := same_upd (o := .lst (((num0 R.length).filter fun n => endP R n.toNat).map V.int ++ [.int (R.length : Int)])) hl3
   have T3 := t1.trans (t2.trans t3)
   have e3 : ((num0 R.length).filter fun n => endP R n.toNat).map V.int ++ [.int (R.length : Int)] = (((num0 R.length).filter fun n => endP R n.toNat) ++ [(R.length : Int)]).map V.int := by
    rw [List.map_append]
    rfl
   have n3 := hand_newT (hG.same (t1.trans t2)) hl3
   have hl33 := @upd_same (upd (upd G acc (.lst (((num0 R.length).filter fun n => endP R n.toNat).map V.int))) l2 (.lst [.int (R.length : Int)])) l3 (.lst (((num0 R.length).filter fun n => endP R n.toNat).map V.int ++ [.int (R.length : Int)]))
   rw [e3] at hl33
   rw [e3] at T3 ⊢
   refine ⟨_, rfl, _, rfl, p, q, l3, _, rfl, hG.same T3, hl33, n3.1, n3.2, by rw [List.length_append]; show 0 < _ + 1; (first | lia | omega), by rw [List.length_append]; show _ + 1 < 1000; (first | lia | omega), fun at_ G4 hat hG4 k4 => ?_⟩
   have K4 : Keep p q G G4 := T3.keep.trans k4
   have pz : p ∉ zs /\ q ∉ zs := by
    obtain ⟨ns0, seed0, g1, g2, _⟩ := id hh
    refine ⟨fun z => ?_, fun z => ?_⟩
    ·have := (hzs p z).1
     rw [g1] at this
     cases this
    ·have := (hzs q z).1
     rw [g2] at this
     cases this
   have hGR4 := K4 _ _ hGR nR.1 nR.2
   have hL4 := hL.keep K4 pz.1 pz.2
   have kH4 := kG.trans K4
   have hge : 0 <= at_ /\ ((∃ kk : Nat, at_ = (kk : Int) /\ kk < R.length /\ endP R kk = true) ∨ at_ = (R.length : Int)) := by
    rcases List.mem_append.mp hat with h | h
    ·obtain ⟨h1, h2⟩ := List.mem_filter.mp h
     obtain ⟨kk, hkk, rfl⟩ := List.mem_map.mp h1
     have := List.mem_range.mp hkk
     exact ⟨by (first | lia | omega), .inl ⟨kk, rfl, this, by simpa using h2⟩⟩
    ·rw [List.mem_singleton.mp h]
     exact ⟨by (first | lia | omega), .inr rfl⟩
   generalize upd (upd (upd G acc (.lst (((num0 R.length).filter fun n => endP R n.toNat).map V.int))) l2 (.lst [.int (R.length : Int)])) l3 (.lst ((((num0 R.length).filter fun n => endP R n.toNat) ++ [(R.length : Int)]).map V.int)) = Gx at *
   refine ⟨_, rfl, _, rfl, Rl, _, rfl, .inl (SqL.of hGR4), rfl, _, rfl, ?_⟩
   rw [List.length_map, lz]
   rcases hge.2 with ⟨kk, rfl, hkk, hend⟩ | rfl
   ·-- a row that is there
    rw [dec_int, show (((kk : Int)) == (R.length : Int)) = false from beq_eq_false_iff_ne.mpr (by (first | lia | omega))]
    refine iteF ?_
    obtain ⟨z, hz⟩ : ∃ z, zs[kk]? = some z := ⟨_, List.getElem?_eq_getElem (by (first | lia | omega))⟩
    obtain ⟨r, hr1, hr2⟩ := hL4.at_ kk z hz
    have lr : r.length <= i := by
     have h1 := hT.len
     have h2 : r.length <= R.flatten.length := by
      obtain ⟨l1, l2', e⟩ := List.append_of_mem (List.mem_of_getElem? hr1)
      rw [e, List.flatten_append, List.flatten_cons, List.length_append, List.length_append]
      (first | lia | omega)
     (first | lia | omega)
    refine ⟨_, rfl, _, rfl, Rl, _, _, _, rfl, rfl, SqL.of hGR4, atz hz, .inl ⟨rfl, _, SqL.of hr2⟩, _, rfl, z, _, _, rfl, rfl, hr2, small1 (by rw [mapI_len]; (first | lia | omega)), ?_⟩
    have hzR := hzs z (List.mem_of_getElem? hz)
    have nz := hand_newT hh hzR.1
    have ez : r.map V.int ++ [.int (0 + (i : Int))] = (r ++ [(i : Int)]).map V.int := by
     rw [List.map_append, Int.zero_add]
     rfl
    rw [ez]
    refine ⟨zs, R.set kk (r ++ [(i : Int)]), _, _, _, rfl, by rw [upd_ne (Ne.symm hzR.2)]; exact hGR4, hL4.put (r := r) hz _, hT.grow hr1 ?_, hG4.lset nz.1 nz.2, fun b o hb h1 h2 => by rw [upd_ne (fun z' => by rw [z', hzR.1] at hb; cases hb)]; exact kH4 b o hb h1 h2, hzs⟩
    have he : endP R kk = (decide (kk = 0) || decide ((R.getD kk []).length < (R.getD (kk - 1) []).length)) := rfl
    rw [he, Bool.or_eq_true, decide_eq_true_eq, decide_eq_true_eq] at hend
    rcases hend with h | h
    ·exact .inl h
    ·by_cases k0 : kk = 0
     ·exact .inl k0
     ·obtain ⟨a', ha'⟩ : ∃ a', R[kk - 1]? = some a' := ⟨_, List.getElem?_eq_getElem (by (first | lia | omega))⟩
      rw [List.getD_eq_getElem?_getD, hr1, List.getD_eq_getElem?_getD, ha'] at h
      exact .inr ⟨a', ha', h⟩
   ·-- a new row
    rw [dec_int, show (((R.length : Int)) == (R.length : Int)) = true from beq_iff_eq.mpr rfl]
    refine iteT ⟨_, rfl, .inl ⟨rfl, _, SqL.of hGR4⟩, Nat.zero_le _, fun z hz => ?_⟩
    have u1 := same_upd (o := .lst []) hz
    have hz0 : H z = none := by
     cases e : H z with
     | none => rfl
     | some o =>
      obtain ⟨ns0, seed0, g1, g2, _⟩ := id hG4
      by_cases zp : z = p
      ·rw [zp, g1] at hz; cases hz
      ·by_cases zq : z = q
       ·rw [zq, g2] at hz; cases hz
       ·rw [kH4 z o e zp zq] at hz
        cases hz
    have hzR : z ≠ Rl := fun e => by rw [e, hGR4] at hz; cases hz
    have hzn : z ∉ zs := fun hm => by
     obtain ⟨j, hj⟩ := List.getElem?_of_mem hm
     obtain ⟨r, _, hr⟩ := hL4.at_ j z hj
     rw [hr] at hz
     cases hz
    have nz := hand_newT hh hz0
    refine ⟨Rl, _, _, rfl, rfl, u1 _ _ hGR4, small1 (by rw [List.length_map]; (first | lia | omega)), ?_⟩
    have eR : zs.map V.ref ++ [.ref z] = (zs ++ [z]).map V.ref := by
     rw [List.map_append]
     rfl
    rw [eR]
    have hzz : (upd (upd G4 z (.lst [])) Rl (.lst ((zs ++ [z]).map V.ref))) z = some (.lst []) := by rw [upd_ne hzR, upd_same]
    refine ⟨_, rfl, _, rfl, Rl, _, _, .ref z, rfl, rfl, SqL.of upd_same, ?_, .inl ⟨rfl, _, SqL.of hzz⟩, _, rfl, z, _, _, rfl, rfl, hzz, by show 0 < sizeLine; decide, ?_⟩
    ·refine atI_nat ?_
     rw [List.map_append, List.getElem?_append_right (by rw [List.length_map]; (first | lia | omega)), List.length_map, lz, Nat.sub_self]
     rfl
    have hL5 : LsZ (upd (upd (upd G4 z (.lst [])) Rl (.lst ((zs ++ [z]).map V.ref))) z (.lst ([] ++ [.int (0 + (i : Int))]))) (zs ++ [z]) (R ++ [[(i : Int)]]) := by
     refine LsZ.snoc ⟨hL4.nd, hL4.len, fun j y hy => ?_⟩ hzn ?_
     ·obtain ⟨r, h1, h2⟩ := hL4.at_ j y hy
      have hyz : y ≠ z := fun e => hzn (e ▸ List.mem_of_getElem? hy)
      have hyR : y ≠ Rl := (hzs y (List.mem_of_getElem? hy)).2
      exact ⟨r, h1, by rw [upd_ne hyz, upd_ne hyR, upd_ne hyz]; exact h2⟩
     ·rw [upd_same, Int.zero_add]
      rfl
    refine ⟨zs ++ [z], R ++ [[(i : Int)]], _, _, _, rfl, by rw [upd_ne (Ne.symm hzR), upd_same], hL5, hT.new, ((hG4.same u1).lset nR.1 nR.2).lset nz.1 nz.2, fun b o hb h1 h2 => ?_, fun y hy => ?_⟩
    ·have hbz : b ≠ z := fun e => by rw [e, hz0] at hb; cases hb
     have hbR : b ≠ Rl := fun e => by rw [e, hRl] at hb; cases hb
     rw [upd_ne hbz, upd_ne hbR, upd_ne hbz]
     exact kH4 b o hb h1 h2
    ·rcases List.mem_append.mp hy with hy | hy
     ·exact hzs y hy
     ·rw [List.mem_singleton.mp hy]
      exact ⟨hz0, hzR⟩
  ·rintro σ G ⟨zs, R, c3, c4, c5, rfl, hGR, hL, hT, hG, kG, hzs⟩
   have lz : zs.length = R.length := hL.len
   have lR : R.length <= m := by
    have h1 := hT.len
    have := ne_len hT.ne
    (first | lia | omega)
   refine ⟨_, rfl, Rl, rfl, ⟨_, SqL.of hGR⟩, ?_⟩
   refine lc_grow (yields_list (xs := zs.map V.ref)) (small1 (by rw [mapR_len]; (first | lia | omega))) (fun x v H' => ∃ (z t : Addr) (r : List Int), x = V.ref z /\ G z = some (.lst (r.map V.int)) /\ v = V.ref t /\ H' t = some (.tup (r.map V.int))) (fun x v G1 G' st hR => ?_) (fun G' s' => SqL.of (s' _ _ hGR)) (fun x hx G' s' Q' q' => ?_) fun acc ys G' hacc s' hys pr => ?_
   ·obtain ⟨z, t, r, e1, h1, e2, h2⟩ := hR
    exact ⟨z, t, r, e1, h1, e2, st _ _ h2⟩
   ·obtain ⟨z, hz, rfl⟩ := List.mem_map.mp hx
    obtain ⟨j, hj⟩ := List.getElem?_of_mem hz
    obtain ⟨r, _, hr2⟩ := hL.at_ j z hj
    refine ⟨_, rfl, z, _, rfl, .inl ⟨SqL.of (s' _ _ hr2), fun t ht => q' _ _ (same_upd ht) ⟨z, t, r, rfl, hr2, rfl, upd_same⟩⟩⟩
   ·refine ⟨acc, _, rfl, .inl ⟨SqL.of hys, fun z hz => ?_⟩⟩
    have u := same_upd (o := .tup ys) hz
    obtain ⟨ts, rfl, RT⟩ := rows_tup lz hL.at_ pr
    exact k z R _ hT ⟨ts, upd_same, RT.same u⟩ (hG.same (s'.trans u)) (kG.trans (s'.trans u).keep)
end
end K61
namespace L2
open PySem PySem.Spec PyProof.Rows
theorem ris_inc : ∀ {r : List Int}, risL r = true -> Inc r
 | [], _ => .nil
 | [_], _ => List.pairwise_singleton _ _
 | a :: b :: r, h => by
  have h' : (decide (a < b) && risL (b :: r)) = true := h
  rw [Bool.and_eq_true, decide_eq_true_eq] at h'
  have ih := ris_inc h'.2
  refine List.pairwise_cons.mpr ⟨fun c hc => ?_, ih⟩
  rcases List.mem_cons.mp hc with rfl | hc
  ·exact h'.1
  ·exact Int.lt_trans h'.1 ((List.pairwise_cons.mp ih).1 c hc)
theorem tab_mk : ∀ (R : List (List Int)), (∀ r ∈ R, Inc r /\ r ≠ []) -> (∀ (i : Nat) (a b : List Int), R[i]? = some a -> R[i + 1]? = some b -> Ab a b) -> Tab R
 | [], _, _ => trivial
 | r :: R, h1, h2 => by
  refine ⟨(h1 r List.mem_cons_self).1, (h1 r List.mem_cons_self).2, fun s hs => h2 0 r s rfl ?_, tab_mk R (fun s hs => h1 s (List.mem_cons_of_mem _ hs)) fun i a b ha hb => h2 (i + 1) a b ha hb⟩
  cases R with
  | nil => cases hs
  | cons t R => exact hs
theorem TabZ.tab' {n : Nat} {R : List (List Int)} (h : TabZ n R) : Tab R :=
 tab_mk R (fun r hr => ⟨ris_inc (h.ris r hr), h.ne r hr⟩) fun i a b ha hb => above_iff.mp (prs_all.mp h.prs i a b ha hb)
structure TabE (n : Nat) (R : List (List Int)) : Prop where
 ris : ∀ r ∈ R, Inc r
 prs : ∀ (i : Nat) (a b : List Int), R[i]? = some a -> R[i + 1]? = some b -> Ab a b
 perm : R.flatten.Perm (num0 n)
theorem TabE.lt {n : Nat} {R : List (List Int)} (h : TabE n R) {r : List Int} (hr : r ∈ R) {x : Int} (hx : x ∈ r) : x < (n : Int) := by
 have : x ∈ num0 n := h.perm.mem_iff.mp (List.mem_flatten.mpr ⟨r, hr, hx⟩)
 obtain ⟨j, hj, rfl⟩ := List.mem_map.mp this
 have := List.mem_range.mp hj
 (first | lia | omega)
theorem TabE.len {n : Nat} {R : List (List Int)} (h : TabE n R) : R.flatten.length = n := by
 rw [h.perm.length_eq]
 unfold num0
 rw [List.length_map, List.length_range]
theorem TabE.nil (m : Nat) : TabE 0 (List.replicate m []) := by
 refine ⟨fun r hr => ?_, fun i a b ha hb => ?_, ?_⟩
 ·rw [List.eq_of_mem_replicate hr]
  exact .nil
 ·have := List.eq_of_mem_replicate (List.mem_of_getElem? hb)
  subst this
  exact ⟨Nat.zero_le _, fun j hj => by cases hj⟩
 ·have : (List.replicate m ([] : List Int)).flatten = [] := by
   refine List.flatten_eq_nil_iff.mpr fun l hl => List.eq_of_mem_replicate hl
  rw [this]
  exact .refl _
theorem TabE.grow {n : Nat} {R : List (List Int)} (h : TabE n R) {k : Nat} {r : List Int} (hr : R[k]? = some r) (hk : k = 0 ∨ ∃ a, R[k - 1]? = some a /\ r.length < a.length) : TabE (n + 1) (R.set k (r ++ [(n : Int)])) := by
 have hrm : r ∈ R := List.mem_of_getElem? hr
 have hkl := (List.getElem?_eq_some_iff.mp hr).1
 refine ⟨fun x hx => ?_, fun i a b ha hb => ?_, ?_⟩
 ·rcases List.mem_or_eq_of_mem_set hx with hx | rfl
  ·exact h.ris x hx
  ·refine List.pairwise_append.mpr ⟨h.ris r hrm, List.pairwise_singleton _ _, fun a ha b hb => ?_⟩
   rw [List.mem_singleton.mp hb]
   exact h.lt hrm ha
 ·by_cases c1 : k = i
  ·subst c1
   rw [List.getElem?_set_self hkl] at ha
   cases ha
   rw [List.getElem?_set_ne (by (first | lia | omega))] at hb
   have g := h.prs k r b hr hb
   refine ⟨by have := g.1; rw [List.length_append]; (first | lia | omega), fun j hj => ?_⟩
   rw [gd_left (by have := g.1; (first | lia | omega))]
   exact g.2 j hj
  ·rw [List.getElem?_set_ne c1] at ha
   by_cases c2 : k = i + 1
   ·subst c2
    rw [List.getElem?_set_self hkl] at hb
    cases hb
    have g := h.prs i a r ha hr
    rcases hk with hk | ⟨a', ha', hl⟩
    ·(first | lia | omega)
    ·rw [show i + 1 - 1 = i by (first | lia | omega), ha] at ha'
     cases ha'
     refine ⟨by rw [List.length_append, List.length_singleton]; (first | lia | omega), fun j hj => ?_⟩
     rw [List.length_append, List.length_singleton] at hj
     by_cases c : j < r.length
     ·rw [gd_left c]
      exact g.2 j c
     ·have e : j = r.length := by (first | lia | omega)
      subst e
      rw [gd_right]
      exact h.lt (List.mem_of_getElem? ha) (getD_mem0 hl)
   ·rw [List.getElem?_set_ne c2] at hb
    exact h.prs i a b ha hb
 ·rw [num0_succT]
  exact (flat_set hr _).trans (h.perm.append_right _)
theorem sum_lt : ∀ (a b : List Nat), a.length = b.length -> (∀ i, a.getD i 0 <= b.getD i 0) -> a.sum < b.sum -> ∃ k, k < b.length /\ a.getD k 0 < b.getD k 0 /\ ∀ j, j < k -> a.getD j 0 = b.getD j 0
 | [], [], _, _, h => by cases h
 | [], _ :: _, e, _, _ => by cases e
 | _ :: _, [], e, _, _ => by cases e
 | x :: a, y :: b, e, h, hs => by
  have h0 : x <= y := h 0
  by_cases c : x < y
  ·exact ⟨0, by simp, c, fun j hj => by (first | lia | omega)⟩
  ·obtain ⟨k, k1, k2, k3⟩ := sum_lt a b (by simpa using e) (fun i => h (i + 1)) (by rw [List.sum_cons, List.sum_cons] at hs; (first | lia | omega))
   refine ⟨k + 1, by simpa using k1, k2, fun j hj => ?_⟩
   cases j with
   | zero => show x = y; (first | lia | omega)
   | succ j => exact k3 j (by (first | lia | omega))
theorem sum_le : ∀ (a b : List Nat), a.length = b.length -> (∀ i, a.getD i 0 <= b.getD i 0) -> a.sum <= b.sum
 | [], [], _, _ => Nat.le_refl _
 | [], _ :: _, e, _ => by cases e
 | _ :: _, [], e, _ => by cases e
 | x :: a, y :: b, e, h => by
  have h0 : x <= y := h 0
  have := sum_le a b (by simpa using e) fun i => h (i + 1)
  rw [List.sum_cons, List.sum_cons]
  (first | lia | omega)
theorem sum_eq : ∀ (a b : List Nat), a.length = b.length -> (∀ i, a.getD i 0 <= b.getD i 0) -> a.sum = b.sum -> a = b
 | [], [], _, _, _ => rfl
 | [], _ :: _, e, _, _ => by cases e
 | _ :: _, [], e, _, _ => by cases e
 | x :: a, y :: b, e, h, hs => by
  have h0 : x <= y := h 0
  have h1 := sum_le a b (by simpa using e) fun i => h (i + 1)
  rw [List.sum_cons, List.sum_cons] at hs
  rw [sum_eq a b (by simpa using e) (fun i => h (i + 1)) (by (first | lia | omega)), show x = y by (first | lia | omega)]
theorem sum_cast : ∀ (l : List Nat), (l.map fun (n : Nat) => (n : Int)).sum = ((l.sum : Nat) : Int)
 | [] => rfl
 | a :: l => by
  rw [List.map_cons, List.sum_cons, List.sum_cons, sum_cast l]
  push_cast
  rfl
theorem filt_succ (p : Nat -> Bool) (j : Nat) : ((List.range (j + 1)).filter p).map (fun (k : Nat) => (k : Int)) = ((List.range j).filter p).map (fun (k : Nat) => (k : Int)) ++ (if p j = true then [(j : Int)] else []) := by
 rw [List.range_succ, List.filter_append, List.map_append]
 cases h : p j <;> simp [h]
theorem lens_sum (R : List (List Int)) : (lens R).sum = R.flatten.length := by
 unfold lens
 rw [List.length_flatten]
theorem lens_at (R : List (List Int)) (k : Nat) : (lens R).getD k 0 = (R.getD k []).length := by
 unfold lens
 rw [List.getD_eq_getElem?_getD, List.getD_eq_getElem?_getD, List.getElem?_map]
 cases R[k]? <;> rfl
theorem lens_setA {R : List (List Int)} {k : Nat} {r : List Int} (hr : R[k]? = some r) (n : Int) (j : Nat) : (lens (R.set k (r ++ [n]))).getD j 0 = if j = k then r.length + 1 else (lens R).getD j 0 := by
 rw [lens_at, lens_at, List.getD_eq_getElem?_getD]
 by_cases c : j = k
 ·subst c
  rw [if_pos rfl, List.getElem?_set_self (List.getElem?_eq_some_iff.mp hr).1]
  show (r ++ [n]).length = _
  rw [List.length_append]
  rfl
 ·rw [if_neg c, List.getElem?_set_ne (by (first | lia | omega)), <- List.getD_eq_getElem?_getD]
noncomputable def endF (R : List (List Int)) (S : List Nat) (k : Nat) : Bool := decide ((R.getD k []).length < S.getD k 0) && (decide (k = 0) || decide ((R.getD k []).length < (R.getD (k - 1) []).length))
theorem endF_some {R : List (List Int)} {S : List Nat} (hl : R.length = S.length) (hle : ∀ i, (lens R).getD i 0 <= S.getD i 0) (hd : ∀ i, S.getD (i + 1) 0 <= S.getD i 0) (hs : R.flatten.length < S.sum) : ∃ k, k < S.length /\ endF R S k = true := by
 have hl' : (lens R).length = S.length := by unfold lens; rw [List.length_map, hl]
 obtain ⟨k, k1, k2, k3⟩ := sum_lt (lens R) S hl' hle (by rw [lens_sum]; exact hs)
 refine ⟨k, k1, ?_⟩
 unfold endF
 rw [lens_at] at k2
 rw [decide_eq_true k2, Bool.true_and, Bool.or_eq_true, decide_eq_true_eq, decide_eq_true_eq]
 by_cases c : k = 0
 ·exact .inl c
 ·refine .inr ?_
  have h1 := k3 (k - 1) (by (first | lia | omega))
  rw [lens_at] at h1
  have h2 := hd (k - 1)
  rw [show k - 1 + 1 = k by (first | lia | omega)] at h2
  (first | lia | omega)
theorem tab_dec : ∀ (P : List (List Int)), Tab P -> ∀ i, (lens P).getD (i + 1) 0 <= (lens P).getD i 0
 | [], _, i => by simp [lens]
 | r :: P, h, i => by
  cases i with
  | zero =>
   cases P with
   | nil => simp [lens]
   | cons s P =>
    have := (h.2.2.1 s rfl).1
    exact this
  | succ i => exact tab_dec P h.2.2.2 i
noncomputable def spFill : Sp := fun vs H Q _ => ∃ (p q l : Addr) (P : List (List Int)), vs = [.ref p, .ref l] /\ Hand H p q /\ H l = some (.lst (((lens P).map fun (n : Nat) => (n : Int)).map V.int)) /\ l ≠ p /\ l ≠ q /\ Tab P /\ P.flatten.length <= 100 /\
 ∀ z (ts : List Addr) R H', Tab R -> R.flatten.Perm (num0 P.flatten.length) -> lens P = lens R -> H' z = some (.tup (ts.map V.ref)) -> RowsAt H' ts R -> Hand H' p q -> Keep p q H H' -> Q (.ref z) H'
end L2
namespace L2
open PySem PySem.Spec PyProof.Rows
theorem lc_listsN {J : It} {Ok : Hp -> Prop} {xs : List V} {te : TE} {ix : List Nat} {σ : L2.St} {H1 : Hp} {Q : VK} (Y : Yields J Ok xs) (small : xs.length < sizeLine) (f : Nat -> List V) (hok : ∀ H, Same H1 H -> Ok H)
  (he : ∀ (i : Nat) (x : V) (H : Hp), xs[i]? = some x -> Same H1 H -> ∀ (QT : VK), (∀ (a : Addr) (H' : Hp), H a = none -> H' a = some (.lst (f i)) -> Same H H' -> QT (.ref a) H') -> te (some x :: ix.map fun i => σ.getD i none) H QT)
  (fin : ∀ acc (zs : List Addr) H', H1 acc = none -> Same H1 H' -> H' acc = some (.lst (zs.map V.ref)) -> zs.length = xs.length -> zs.Nodup -> (∀ (i : Nat) (z : Addr), zs[i]? = some z -> H' z = some (.lst (f i)) /\ H1 z = none /\ z ≠ acc) -> Q (.ref acc) H') :
  LcW J H1 (gName 0) tNoTest te 1 ix σ Q := by
 intro acc ha
 refine ⟨fun i m H => m = xs.length - i /\ i <= xs.length /\ Same H1 H /\ ∃ (zs : List Addr), H acc = some (.lst (zs.map V.ref)) /\ zs.length = i /\ zs.Nodup /\ ∀ (j : Nat) (z : Addr), zs[j]? = some z -> H z = some (.lst (f j)) /\ H1 z = none /\ z ≠ acc, ⟨xs.length, by simp, Nat.zero_le _, same_upd ha, [], upd_same, rfl, List.nodup_nil, fun _ _ h => by cases h⟩, ?_⟩
 rintro i m H ⟨rfl, hi, kp, zs, hacc, hl, hnd, hD⟩
 have o := hok _ kp
 by_cases hlt : i < xs.length
 ·refine .inr ⟨Y.go i _ o hlt, fun x H' y => ?_⟩
  obtain ⟨rfl, hx⟩ := Y.yld i _ x H' o hlt y
  refine ⟨⟨rfl, fun j v e => ?_⟩, ?_⟩
  ·cases j with
   | zero => cases e
   | succ j => exact e
  ·unfold tNoTest
   dsimp only
   rw [if_pos rfl]
   refine he i x H' hx kp _ (fun a H4 a0 a4 k4 => ?_)
   have h4 := k4 _ _ hacc
   have haa : a ≠ acc := fun e => by rw [e, hacc] at a0; cases a0
   have hnot : a ∉ zs := fun hm => by
    obtain ⟨j, hj⟩ := List.getElem?_of_mem hm
    rw [(hD j a hj).1] at a0
    cases a0
   refine ⟨_, h4, by rw [List.length_map]; (first | lia | omega), xs.length - (i + 1), by (first | lia | omega), rfl, hlt, same_updR (kp.trans k4) ha, zs ++ [a], by rw [upd_same, List.map_append]; rfl, by simp; (first | lia | omega), List.nodup_append.mpr ⟨hnd, by simp, fun u hu c hc e => ?_⟩, fun j z hj => ?_⟩
   ·rw [List.mem_singleton] at hc
    subst hc e
    exact hnot hu
   by_cases c : j < zs.length
   ·rw [List.getElem?_append_left c] at hj
    obtain ⟨q1, q2, q3⟩ := hD j z hj
    exact ⟨by rw [upd_ne q3]; exact k4 _ _ q1, q2, q3⟩
   ·rw [List.getElem?_append_right (by (first | lia | omega))] at hj
    have hj0 : j - zs.length = 0 := by
     have := (List.getElem?_eq_some_iff.mp hj).1
     simp at this
     (first | lia | omega)
    rw [hj0] at hj
    simp at hj
    subst hj
    have : j = i := by (first | lia | omega)
    subst this
    exact ⟨by rw [upd_ne haa]; exact a4, kp.free a0, haa⟩
 ·have e : i = xs.length := by (first | lia | omega)
  subst e
  exact .inl ⟨Y.stop _ o, fin acc zs H ha kp hacc hl hnd hD⟩
end L2
namespace K61
open PySem PySem.Spec PyProof.Rows L2
noncomputable abbrev s__law_filled : Stmt := top 22
section
variable {P : Program} {w : World} {K : PySem.W.Frag} {mg : Str -> Option Value} {base : Heap}
theorem sc__law_filled : FnScope ["_law_hand_here", "_law_shape", "_law_rows", "_law_number", "_law_ends", "_law_k", "_law_wide"] ["_law_hand_here", "_law_shape"] (defScope s__law_filled) := ⟨rfl, rfl, rfl, by decide +kernel, rfl, by decide +kernel, by decide +kernel⟩
set_option maxHeartbeats 8000000 in
theorem ok__law_filled {f : Addr} {fd : FuncData} (F : Fun K "_law_filled" "_law_filled" s__law_filled f fd) (T : Top mg) (C_law_of : Cal P w K mg base 2 "_law_of" ["_law_hand_here", "_law_some"] spOfI) : FnOk P w K mg base CX0 3 f fd ["_law_hand_here", "_law_shape"] spFill := by
 refine F.ok sc__law_filled (fun vs H Q E h => ?_) (fun cdv A outer s H vs Q E hr h => ?_)
 ·obtain ⟨p, q, l, Z, rfl, _⟩ := h
  rfl
 ·obtain ⟨p, q, l, Z, rfl, hh, hl, hlp, hlq, hT0, hm, k⟩ := h
  have hSl : (((lens Z).map fun (n : Nat) => (n : Int)).map V.int).length = Z.length := by rw [List.length_map, List.length_map]; unfold lens; rw [List.length_map]
  have hZl : Z.length <= Z.flatten.length := ne_len fun r hr => (tabRowsI hT0 r hr).2
  refine ⟨_, (pss_cons (ps_lcset (i := 2) rfl sc__law_filled.nd rfl rfl (N' := ["_law_wide"]) (n := 1) (ix := []) rfl (CompScope.of (sc := defScope s__law_filled) (N := ["_law_hand_here", "_law_shape", "_law_rows", "_law_number", "_law_ends", "_law_k", "_law_wide"]) (by decide +kernel) rfl rfl) (pi_list (pv 1)) (fun _ _ _ _ _ => ⟨(pg_name (i := 0) (show (["_law_wide"] : List Str).Nodup by decide +kernel) rfl (Or.inl rfl)), pts_nil, (pe_lst pa_nil)⟩))
   (pss_cons (ps_for PassesOwn.never rfl (pi_range1 rfl T.n_range (pa_cons (pe_callB (call_sumL rfl) (by rfl) T.n_sum boot_sum (pa_cons (pv 1) pa_nil)) pa_nil)) (pg_name (i := 3) sc__law_filled.nd rfl (Or.inl rfl))
    (pss_cons (ps_set (i := 4) sc__law_filled.nd rfl (Or.inl rfl) (pe_lst pa_nil))
    (pss_cons (ps_for PassesOwn.never rfl (pi_enumL rfl T.n_enumerate (pa_cons (pv 1) pa_nil)) (pg_pair (i := 5) (j := 6) rfl sc__law_filled.nd rfl rfl (Or.inl rfl) (Or.inl rfl) (Or.inl rfl) (Or.inl rfl))
     (pss_one (ps_if (PW.pt (pw_and (pt_cmpR op_lt (pe_callB call_len_seq (by rfl) T.n_len PySem.boot_len (pa_cons (pe_ix ix_list (pv 2) (pv 5) (fun _ _ => rfl)) pa_nil)) (pv 6) (nomark _)) (pw_and1 (PW.pt (pw_or (pt_cmpR op_eq (pv 5) pe_int (nomark _)) (pw_or1 (pt_cmpR op_lt (pe_callB call_len_seq (by rfl) T.n_len PySem.boot_len (pa_cons (pe_ix ix_list (pv 2) (pv 5) (fun _ _ => rfl)) pa_nil)) (pe_callB call_len_seq (by rfl) T.n_len PySem.boot_len (pa_cons (pe_ix ix_list (pv 2) (pe_op op_sub (pv 5) pe_int) (fun _ _ => rfl)) pa_nil)) (nomark _))))))))
      (pss_one (ps_expr (pe_bm PySem.F.plainAttrs_list PySem.F.slot_list_append PySem.F.type_list_append mt_append (pv 4) (pa_cons (pv 5) pa_nil))))
      pss_nil)))
    (pss_one (ps_expr (pe_bm PySem.F.plainAttrs_list PySem.F.slot_list_append PySem.F.type_list_append mt_append (pe_ix ix_list (pv 2) (pe_cal C_law_of (hr.mono (by decide)) rfl (pa_cons (pv 0) (pa_cons (pv 4) pa_nil))) (fun _ _ => rfl)) (pa_cons (pv 3) pa_nil)))))))
   (pss_one (ps_ret (pe_callTy call_tuple_of (by rfl) T.n_tuple boot_tuple (pa_cons (pe_lc (N' := ["_law_row"]) (n := 1) (ix := []) rfl (CompScope.of (sc := defScope s__law_filled) (N := ["_law_hand_here", "_law_shape", "_law_rows", "_law_number", "_law_ends", "_law_k", "_law_wide"]) (by decide +kernel) rfl rfl) (pi_list (pv 2)) (fun _ _ _ _ _ => ⟨(pg_name (i := 0) (show (["_law_row"] : List Str).Nodup by decide +kernel) rfl (Or.inl rfl)), pts_nil, (pe_callTy (call_tupKT K rfl) (by rfl) T.n_tuple boot_tuple (pa_cons (pv 0) pa_nil))⟩)) pa_nil)))))), ?_⟩
  refine ⟨_, rfl, l, rfl, ⟨_, SqL.of hl⟩, ?_⟩
  refine lc_listsN (yields_list (xs := ((lens Z).map fun (n : Nat) => (n : Int)).map V.int)) (small1 (by rw [hSl]; (first | lia | omega))) (fun i => []) (fun G s' => SqL.of (s' _ _ hl)) (fun i x G hx s' QT q' => ⟨Nat.zero_le _, fun a ha => q' a _ ha upd_same (same_upd ha)⟩) fun Rl zs G hRl sG hG hzl hzn hz => ?_
  rw [hSl] at hzl
  have hZs : (((lens Z).map fun (n : Nat) => (n : Int)).sum) = ((Z.flatten.length : Nat) : Int) := by
   rw [<- lens_sum]
   exact sum_cast (lens Z)
  refine ⟨_, rfl, l, _, rfl, sG _ _ hl, _, rfl, by (first | lia | omega), by (first | lia | omega), ?_⟩
  rw [hZs, Int.toNat_natCast]
  have nR := hand_newT hh hRl
  have nl : ∀ {z}, z ∈ zs -> H z = none /\ z ≠ Rl := fun {z} h => by
   obtain ⟨j, hj⟩ := List.getElem?_of_mem h
   exact (hz j z hj).2
  have pz : p ∉ zs /\ q ∉ zs := by
   obtain ⟨ns0, seed0, g1, g2, _⟩ := id hh
   refine ⟨fun z => ?_, fun z => ?_⟩
   ·have := (nl z).1
    rw [g1] at this
    cases this
   ·have := (nl z).1
    rw [g2] at this
    cases this
  refine for_range (n := Z.flatten.length) (fun i σ G' => ∃ (R : List (List Int)) (c3 c4 c5 c6 : Option V), σ = [some (.ref p), some (.ref l), some (.ref Rl), c3, c4, c5, c6] /\ G' Rl = some (.lst (zs.map V.ref)) /\ LsZ G' zs R /\ TabE i R /\ R.length = Z.length /\ (∀ j, (lens R).getD j 0 <= (lens Z).getD j 0) /\ Hand G' p q /\ Keep p q H G')
   ⟨List.replicate Z.length [], _, _, _, _, rfl, hG, ⟨hzn, by rw [List.length_replicate]; exact hzl, fun i z e => ⟨[], by rw [List.getElem?_replicate, if_pos (by have := (List.getElem?_eq_some_iff.mp e).1; (first | lia | omega))], (hz i z e).1⟩⟩, TabE.nil _, List.length_replicate, fun j => by rw [lens_at, List.getD_eq_getElem?_getD, List.getElem?_replicate]; split <;> exact Nat.zero_le _, hh.same sG, sG.keep⟩ ?_ ?_
  ·rintro i σ G1 hi ⟨R, c3, c4, c5, c6, rfl, hGR, hL, hT, hRZ, hle, hG1, kG⟩
   have lz : zs.length = R.length := hL.len
   have hl1 := kG _ _ hl hlp hlq
   have len_at : ∀ {k : Nat}, k < R.length -> ∃ z, zs[k]? = some z /\ G1 z = some (.lst ((R.getD k []).map V.int)) := fun {k} hk => by
    obtain ⟨z, hz⟩ : ∃ z, zs[k]? = some z := ⟨_, List.getElem?_eq_getElem (by (first | lia | omega))⟩
    obtain ⟨r, hr1, hr2⟩ := hL.at_ k z hz
    refine ⟨z, hz, ?_⟩
    rw [List.getD_eq_getElem?_getD, hr1]
    exact hr2
   have atz : ∀ {k : Nat} {z : Addr}, zs[k]? = some z -> atI (zs.map V.ref) (k : Int) = some (.ref z) := fun {k z} h => atI_nat (by rw [List.getElem?_map, h]; rfl)
   refine ⟨Nat.zero_le _, fun en hen => ?_⟩
   have s1 := same_upd (o := .lst []) hen
   refine ⟨_, rfl, l, rfl, ⟨_, SqL.of (s1 _ _ hl1)⟩, ?_⟩
   refine for_enumL (K := K) (xs := ((lens Z).map fun (n : Nat) => (n : Int)).map V.int) (fun j σ G' => ∃ (c5 c6 : Option V), σ = [some (.ref p), some (.ref l), some (.ref Rl), some (.int (0 + (i : Int))), some (.ref en), c5, c6] /\ Same G1 G' /\ G' en = some (.lst ((((List.range j).filter (endF R (lens Z))).map fun (k : Nat) => (k : Int)).map V.int))) ⟨_, _, rfl, s1, upd_same⟩ ?_ ?_ ?_
   ·rintro j σ G' _ ⟨c5, c6, rfl, sm, _⟩
    exact SqL.of (sm _ _ hl1)
   ·rintro j v t σ G' hj ⟨c5, c6, rfl, sm, hen'⟩ ht
    obtain ⟨wd, hwd, rfl⟩ : ∃ wd : Nat, (lens Z)[j]? = some wd /\ V.int (wd : Int) = v := by
     rw [List.getElem?_map, List.getElem?_map] at hj
     cases e : (lens Z)[j]? with
     | none => rw [e] at hj; cases hj
     | some z => rw [e] at hj; exact ⟨z, rfl, Option.some.inj hj⟩
    have hjZ : j < Z.length := by
     have := (List.getElem?_eq_some_iff.mp hwd).1
     unfold lens at this
     rw [List.length_map] at this
     exact this
    have ewd : (lens Z).getD j 0 = wd := by rw [List.getD_eq_getElem?_getD, hwd]; rfl
    have st := same_upd (o := .tup [.int (j : Int), .int (wd : Int)]) ht
    refine ⟨t, _, rfl, SqT.of upd_same, rfl, _, _, rfl, _, _, rfl, rfl, ?_⟩
    have sm4 := sm.trans st
    have hen4 := st _ _ hen'
    clear st
    generalize upd G' t (.tup [.int (j : Int), .int (wd : Int)]) = G4 at sm4 hen4 ⊢
    obtain ⟨z1, hz1, hz2⟩ := len_at (k := j) (by (first | lia | omega))
    have hz4 := sm4 _ _ hz2
    have hR4 := sm4 _ _ hGR
    have ee : endF R (lens Z) j = (decide ((R.getD j []).length < wd) && (decide (j = 0) || decide ((R.getD j []).length < (R.getD (j - 1) []).length))) := by unfold endF; rw [ewd]
    have hrs : ((List.range (j + 1)).filter (endF R (lens Z))).map (fun (k : Nat) => (k : Int)) = ((List.range j).filter (endF R (lens Z))).map (fun (k : Nat) => (k : Int)) ++ (if endF R (lens Z) j = true then [(j : Int)] else []) := filt_succ _ j
    have hlen : ((((List.range j).filter (endF R (lens Z))).map fun (k : Nat) => (k : Int)).map V.int).length <= j := by
     rw [List.length_map, List.length_map]
     refine Nat.le_trans (List.length_filter_le _ _) ?_
     rw [List.length_range]
     exact Nat.le_refl _
    refine ⟨_, rfl, _, rfl, Rl, _, _, _, rfl, rfl, SqL.of hR4, atz hz1, z1, _, rfl, .inl (SqL.of hz4), _, rfl, _, _, rfl, rfl, _, rfl, ?_⟩
    rw [mapI_len]
    by_cases hA : (R.getD j []).length < wd
    ·rw [show decide ((((R.getD j []).length : Nat) : Int) < (wd : Int)) = true from decide_eq_true (by (first | lia | omega))]
     rw [decide_eq_true hA, Bool.true_and] at ee
     have app : endF R (lens Z) j = true -> (upd G4 en (.lst (((((List.range j).filter (endF R (lens Z))).map fun (k : Nat) => (k : Int)).map V.int) ++ [.int (j : Int)]))) en = some (.lst ((((List.range (j + 1)).filter (endF R (lens Z))).map fun (k : Nat) => (k : Int)).map V.int)) := fun h => by
      rw [upd_same, hrs, if_pos h, List.map_append]
      rfl
     refine iteT ⟨_, rfl, rfl, _, rfl, ?_⟩
     rw [dec_int]
     by_cases hj0 : j = 0
     ·rw [decide_eq_true hj0, Bool.true_or] at ee
      rw [show ((j : Int) == 0) = true from beq_iff_eq.mpr (by (first | lia | omega))]
      exact iteT (iteT ⟨_, rfl, .inl ⟨rfl, _, SqL.of hen4⟩, _, rfl, en, _, _, rfl, rfl, hen4, small1 (by (first | lia | omega)), _, _, rfl, same_updR sm4 hen, app ee⟩)
     ·rw [decide_eq_false hj0, Bool.false_or] at ee
      rw [show ((j : Int) == 0) = false from beq_eq_false_iff_ne.mpr (by (first | lia | omega))]
      obtain ⟨y1, hy1, hy2⟩ := len_at (k := j - 1) (by (first | lia | omega))
      refine iteF ⟨_, rfl, _, rfl, Rl, _, _, _, rfl, rfl, SqL.of hR4, atz hz1, z1, _, rfl, .inl (SqL.of hz4), _, rfl, _, rfl, _, _, rfl, rfl, Rl, _, _, _, rfl, rfl, SqL.of hR4, ?_, y1, _, rfl, .inl (SqL.of (sm4 _ _ hy2)), _, _, rfl, rfl, _, rfl, ?_⟩
      ·rw [show (j : Int) - 1 = ((j - 1 : Nat) : Int) by (first | lia | omega)]
       exact atz hy1
      rw [mapI_len, mapI_len]
      by_cases hB : (R.getD j []).length < (R.getD (j - 1) []).length
      ·rw [decide_eq_true hB] at ee
       rw [show decide ((((R.getD j []).length : Nat) : Int) < (((R.getD (j - 1) []).length : Nat) : Int)) = true from decide_eq_true (by (first | lia | omega))]
       exact iteT ⟨_, rfl, .inl ⟨rfl, _, SqL.of hen4⟩, _, rfl, en, _, _, rfl, rfl, hen4, small1 (by (first | lia | omega)), _, _, rfl, same_updR sm4 hen, app ee⟩
      ·rw [decide_eq_false hB] at ee
       rw [show decide ((((R.getD j []).length : Nat) : Int) < (((R.getD (j - 1) []).length : Nat) : Int)) = false from decide_eq_false (by (first | lia | omega))]
       refine iteF ⟨_, _, rfl, sm4, ?_⟩
       rw [hrs, ee, if_neg Bool.false_ne_true, List.append_nil]
       exact hen4
    ·rw [show decide ((((R.getD j []).length : Nat) : Int) < (wd : Int)) = false from decide_eq_false (by (first | lia | omega))]
     rw [decide_eq_false hA, Bool.false_and] at ee
     refine iteF (iteF ⟨_, _, rfl, sm4, ?_⟩)
     rw [hrs, ee, if_neg Bool.false_ne_true, List.append_nil]
     exact hen4
   ·rintro σ G' ⟨c5, c6, rfl, sm, hen'⟩
    rw [hSl] at hen'
    have hG' := hG1.same sm
    have nE := hand_newT hG1 hen
    obtain ⟨k0, k1, k2⟩ := endF_some (R := R) (S := lens Z) (by unfold lens; rw [List.length_map, hRZ]) hle (tab_dec Z hT0) (by rw [hT.len, lens_sum]; exact hi)
    have hk0 : k0 < Z.length := by unfold lens at k1; rwa [List.length_map] at k1
    have hpos : 0 < (((List.range Z.length).filter (endF R (lens Z))).map fun (k : Nat) => (k : Int)).length := List.length_pos_iff_exists_mem.mpr ⟨(k0 : Int), List.mem_map.mpr ⟨k0, List.mem_filter.mpr ⟨List.mem_range.mpr hk0, k2⟩, rfl⟩⟩
    have hle2 : (((List.range Z.length).filter (endF R (lens Z))).map fun (k : Nat) => (k : Int)).length <= Z.length := by
     rw [List.length_map]
     refine Nat.le_trans (List.length_filter_le _ _) ?_
     rw [List.length_range]
     exact Nat.le_refl _
    refine ⟨_, rfl, _, rfl, _, rfl, p, q, en, _, rfl, hG', hen', nE.1, nE.2, hpos, by (first | lia | omega), fun n G5 hn hG5 k5 => ?_⟩
    obtain ⟨kk, hkk, rfl⟩ := List.mem_map.mp hn
    obtain ⟨hk1, hk2⟩ := List.mem_filter.mp hkk
    have hk1 := List.mem_range.mp hk1
    have K5 : Keep p q G1 G5 := sm.keep.trans k5
    have hGR5 := K5 _ _ hGR nR.1 nR.2
    have hL5 := hL.keep K5 pz.1 pz.2
    have kH5 := kG.trans K5
    obtain ⟨z, hz'⟩ : ∃ z, zs[kk]? = some z := ⟨_, List.getElem?_eq_getElem (by (first | lia | omega))⟩
    obtain ⟨r, hr1, hr2⟩ := hL5.at_ kk z hz'
    have eR : R.getD kk [] = r := by rw [List.getD_eq_getElem?_getD, hr1]; rfl
    have hzR := nl (List.mem_of_getElem? hz')
    have nz := hand_newT hh hzR.1
    have lr : r.length <= i := by
     have h1 := hT.len
     have h2 : r.length <= R.flatten.length := by
      obtain ⟨l1, l2', e⟩ := List.append_of_mem (List.mem_of_getElem? hr1)
      rw [e, List.flatten_append, List.flatten_cons, List.length_append, List.length_append]
      (first | lia | omega)
     (first | lia | omega)
    refine ⟨Rl, _, _, _, rfl, rfl, SqL.of hGR5, atz hz', .inl ⟨rfl, _, SqL.of hr2⟩, _, rfl, z, _, _, rfl, rfl, hr2, small1 (by rw [mapI_len]; (first | lia | omega)), ?_⟩
    have ez : r.map V.int ++ [.int (0 + (i : Int))] = (r ++ [(i : Int)]).map V.int := by
     rw [List.map_append, Int.zero_add]
     rfl
    rw [ez]
    have he : endF R (lens Z) kk = (decide (r.length < (lens Z).getD kk 0) && (decide (kk = 0) || decide (r.length < (R.getD (kk - 1) []).length))) := by unfold endF; rw [eR]
    rw [he, Bool.and_eq_true, Bool.or_eq_true, decide_eq_true_eq, decide_eq_true_eq, decide_eq_true_eq] at hk2
    refine ⟨R.set kk (r ++ [(i : Int)]), _, _, _, _, rfl, by rw [upd_ne (Ne.symm hzR.2)]; exact hGR5, hL5.put (r := r) hz' _, hT.grow hr1 ?_, by rw [List.length_set]; exact hRZ, fun j => ?_, hG5.lset nz.1 nz.2, fun b o hb h1 h2 => by rw [upd_ne (fun z' => by rw [z', hzR.1] at hb; cases hb)]; exact kH5 b o hb h1 h2⟩
    ·rcases hk2.2 with h | h
     ·exact .inl h
     ·by_cases k0 : kk = 0
      ·exact .inl k0
      ·obtain ⟨a', ha'⟩ : ∃ a', R[kk - 1]? = some a' := ⟨_, List.getElem?_eq_getElem (by (first | lia | omega))⟩
       rw [List.getD_eq_getElem?_getD (i := kk - 1), ha'] at h
       exact .inr ⟨a', ha', h⟩
    ·rw [lens_setA hr1]
     by_cases c : j = kk
     ·subst c
      rw [if_pos rfl]
      have := hk2.1
      (first | lia | omega)
     ·rw [if_neg c]
      exact hle j
  ·rintro σ G1 ⟨R, c3, c4, c5, c6, rfl, hGR, hL, hT, hRZ, hle, hG1, kG⟩
   have lz : zs.length = R.length := hL.len
   refine ⟨_, rfl, Rl, rfl, ⟨_, SqL.of hGR⟩, ?_⟩
   refine lc_grow (yields_list (xs := zs.map V.ref)) (small1 (by rw [mapR_len]; (first | lia | omega))) (fun x v H' => ∃ (z t : Addr) (r : List Int), x = V.ref z /\ G1 z = some (.lst (r.map V.int)) /\ v = V.ref t /\ H' t = some (.tup (r.map V.int))) (fun x v G2 G' st hR => ?_) (fun G' s' => SqL.of (s' _ _ hGR)) (fun x hx G' s' Q' q' => ?_) fun acc ys G' hacc s' hys pr => ?_
   ·obtain ⟨z, t, r, e1, h1, e2, h2⟩ := hR
    exact ⟨z, t, r, e1, h1, e2, st _ _ h2⟩
   ·obtain ⟨z, hz, rfl⟩ := List.mem_map.mp hx
    obtain ⟨j, hj⟩ := List.getElem?_of_mem hz
    obtain ⟨r, _, hr2⟩ := hL.at_ j z hj
    refine ⟨_, rfl, z, _, rfl, .inl ⟨SqL.of (s' _ _ hr2), fun t ht => q' _ _ (same_upd ht) ⟨z, t, r, rfl, hr2, rfl, upd_same⟩⟩⟩
   ·refine ⟨acc, _, rfl, .inl ⟨SqL.of hys, fun z hz => ?_⟩⟩
    have u := same_upd (o := .tup ys) hz
    obtain ⟨ts, rfl, RT⟩ := rows_tup lz hL.at_ pr
    have el : lens R = lens Z := sum_eq (lens R) (lens Z) (by unfold lens; rw [List.length_map, List.length_map, hRZ]) hle (by rw [lens_sum, lens_sum, hT.len])
    have ne : ∀ r ∈ R, r ≠ [] := fun r hr e => by
     have h1 : r.length ∈ lens R := List.mem_map.mpr ⟨r, hr, rfl⟩
     rw [el] at h1
     obtain ⟨s, hs1, hs2⟩ := List.mem_map.mp h1
     have h2 := List.length_pos_iff.mpr (tabRowsI hT0 s hs1).2
     have h3 : r.length = 0 := by rw [e]; rfl
     (first | lia | omega)
    exact k z ts R _ (tab_mk R (fun r hr => ⟨hT.ris r hr, ne r hr⟩) hT.prs) hT.perm el.symm upd_same (RT.same u) (hG1.same (s'.trans u)) (kG.trans (s'.trans u).keep)
end
end K61
namespace L2
open PySem PySem.Spec PyProof.Rows
noncomputable def zscopeC (sc : Scope) (N : List Str) (scope : Scope) (N' : List Str) (n : Nat) (ix : List Nat) (z : Str) : Bool :=
 scope.kind == .function && scope.names.all (fun y => y.2 != .cell || y.1 == z) && scope.names.all (fun y => y.2 != .free || y.1 != z) && scope.names.all (fun y => y.2 != .local || scope.names.lookup y.1 == some .local) &&
 scope.names.all (fun y => y.2 != .free || (sc.names.lookup y.1 == some .cell || sc.names.lookup y.1 == some .free)) && scope.names.all (fun y => y.2 != .free || scope.names.lookup y.1 != some .local) &&
 N'.length == n + ix.length && (List.range ix.length).all fun j => match ix[j]?, N'[n + j]? with
  | some i, some x => N[i]? == some x && scope.names.contains (x, .free)
  | _, _ => false
theorem CompScopeZ.ofC {X : Cx} {sc : Scope} {N : List Str} {scope : Scope} {N' : List Str} {n : Nat} {ix : List Nat} {z : Str} (h : zscopeC sc N scope N' n ix z = true) (hs : X.env.scope = sc) (hN : X.N = N) (hcf : ∀ (a : Addr) (cl : List (Str × Addr)), cellsFrom a scope.names cl = (z, a) :: cl)
  (hpc : ∀ h : Heap, pushCells h scope.names = h.push { cls := .type "cell", data := .cell none }) : CompScopeZ X scope N' n ix z := by
 unfold zscopeC at h
 simp only [Bool.and_eq_true, List.all_eq_true] at h
 obtain ⟨⟨⟨⟨⟨⟨⟨h1, h2⟩, h2'⟩, h3⟩, h4⟩, h5⟩, h6⟩, h7⟩ := h
 subst hs hN
 refine ⟨eq_of_beq h1, fun y hy hc => ?_, fun y hy => ?_, hcf, hpc, fun y hy hl => ?_, fun y hy hf => ?_, fun y hy hl => ?_, eq_of_beq h6, fun j i e => ?_⟩
 ·have := h2 y hy
  rw [hc] at this
  simpa using this
 ·have := h2' _ hy
  simpa using this
 ·have := h3 y hy
  rw [hl] at this
  simpa using this
 ·have := h4 y hy
  rw [hf] at this
  simpa using this
 ·have := h5 _ hy
  rw [hl] at this
  simp at this
 ·have hj : j < ix.length := (List.getElem?_eq_some_iff.mp e).1
  have := h7 j (List.mem_range.mpr hj)
  rw [e] at this
  cases hx : N'[n + j]? with
  | none => rw [hx] at this; simp at this
  | some x =>
   rw [hx] at this
   simp only [Bool.and_eq_true] at this
   exact ⟨x, rfl, eq_of_beq this.1, by simpa using this.2⟩
end L2
namespace L2
open PySem PySem.Spec PyProof.Rows
section
variable {X : Cx} {pins : List (Addr × Obj)} {σ : St} {H : Hp} {s : Shared}
theorem inv_compO {o : HO} {scope : Scope} {N' : List Str} {n : Nat} {ix : List Nat} {cl : List (Str × Addr)} {fp : List Addr} {h₁ : Heap} {acc C : Addr} {m : Str -> Option Value} {tk : Nat}
  (I : Inv X pins σ H s) (S : CompScope X scope N' n ix) (hcl1 : ∀ x c, cl.lookup x = some c -> X.env.cells.lookup x = some c) (hcl2 : ∀ y ∈ scope.names, y.2 = .free -> cl.lookup y.1 = X.env.cells.lookup y.1)
  (hf : ∀ b ∈ fp, FpOk X pins H b) (hlt : ∀ b ∈ fp, b < s.heap.objs.size) (ha : s.heap.objs.size <= acc) (hC : s.heap.objs.size <= C) (hne : C ≠ acc)
  (k : ∀ b u, s.heap.get? b = some u -> h₁.get? b = some u) (hacc : ObjOk X.prog X.w (upd H acc o) h₁ acc o) (hns : h₁.Ns C m) :
  Inv (X.comp s H N' scope cl C fp) [] (compSt n ix σ) (upd H acc o) { s with heap := h₁, toks := tk } := by
 have fr : ∀ b : Addr, s.heap.objs.size <= b -> H b = none := fun b hb => I.hok.fresh hb
 have cellLt : ∀ x c, cl.lookup x = some c -> c < s.heap.objs.size := fun x c e => by
  obtain ⟨v, q⟩ := I.cell x c (hcl1 x c e)
  exact q.lt
 refine ⟨⟨I.ok.mod, S.kind, I.ok.glob, I.ok.blt, hC, fun x y c e1 e2 => I.ok.inj x y c (hcl1 x c e1) (hcl1 y c e2), fun x hx => ?_, fun x c e _ => absurd e Bool.false_ne_true, I.ok.hd, I.ok.frames, .inl rfl, fun b hb => ⟨Nat.ne_of_lt (Nat.lt_of_lt_of_le (hlt b hb) hC), fun x c e => (hf b hb).2.2.2.2.1 x c (hcl1 x c e)⟩,
   I.bs, Nat.le_trans I.ok.bsz I.sz, fun b o e hb => ?_, fun b hb hs => ?_, I.stack, I.stkFree⟩,
  rfl, I.bare, Un.laid k ha (fr acc ha), ⟨m, hns, fun i x v e1 e2 e3 => ?_⟩, fun x c e => ?_, ?_, fun x c e => ?_, fun p hp => absurd (show p ∈ ([] : List (Addr × Obj)) from hp) (by simp), I.hok.laid k ha hacc, ?_⟩
 ·have hx' : scope.names.lookup x = some .free := of_relabel (env := X.env) S.nocell hx
  have hm := PySem.mem_of_lookup hx'
  obtain ⟨c, e⟩ := I.ok.has x (S.free _ hm rfl)
  exact ⟨c, (hcl2 _ hm rfl).trans e⟩
 ·rcases (hf b hb).2.2.2.1 with z | z
  ·exact I.ok.noex b o e z
  ·exact absurd (Nat.lt_of_lt_of_le (Heap.lt_size e) (Nat.le_trans I.ok.bsz z)) (Nat.lt_irrefl _)
 ·rcases List.mem_cons.mp (I.stkSub b hs) with z | z
  ·exact (hf b hb).2.1 z
  ·exact (hf b hb).2.2.1 z
 ·-- a name of the frame, seen through its cell
  have hi : n <= i := by
   by_cases hi : n <= i
   ·exact hi
   ·unfold compSt at e2
    rw [List.getElem?_append_left (by simp; (first | lia | omega)), List.getElem?_replicate] at e2
    split at e2 <;> cases e2
  obtain ⟨j, rfl⟩ : ∃ j, i = n + j := ⟨i - n, by (first | lia | omega)⟩
  unfold compSt at e2
  rw [List.getElem?_append_right (by simp), List.length_replicate, Nat.add_sub_cancel_left, List.getElem?_map] at e2
  cases ej : ix[j]? with
  | none => rw [ej] at e2; cases e2
  | some q =>
   rw [ej] at e2
   have e2' : σ.getD q none = some v := Option.some.inj e2
   have e2'' : σ[q]? = some (some v) := by
    rw [List.getD_eq_getElem?_getD] at e2'
    cases eq : σ[q]? with
    | none => rw [eq] at e2'; cases e2'
    | some z => rw [eq] at e2'; exact congrArg some e2'
   obtain ⟨y, h1, h2, h3⟩ := S.at_ j q ej
   have ey : y = x := Option.some.inj (h1.symm.trans e1)
   subst ey
   have hk := S.free _ h3 rfl
   obtain ⟨mX, _, hl⟩ := I.loc
   obtain ⟨u, r, l⟩ := hl q y v h2 e2'' (.inr hk)
   refine ⟨u, r, .inr ?_⟩
   have hkc : X.env.kindOf y = some .cell ∨ X.env.kindOf y = some .free := hk
   have l' : ∃ c, X.env.cells.lookup y = some c /\ s.heap.IsCell c (some u) := by
    rcases l with ⟨z, _⟩ | ⟨_, c, ec, hc⟩
    ·rcases hkc with q | q <;> (rw [q] at z; cases z)
    ·exact ⟨c, ec, hc⟩
   obtain ⟨c, ec, o, ho, hd⟩ := l'
   have e3' : Vis (relabel scope X.env) y := e3
   refine ⟨?_, c, (hcl2 _ h3 rfl).trans ec, o, k _ _ ho, hd⟩
   have nl : scope.names.lookup y ≠ some .local := fun z => ?_
   ·cases el : scope.names.lookup y with
    | none =>
     have : (relabel scope X.env).names.lookup y = none := by rw [relabel_lookup, el]; rfl
     rcases e3' with z | z | z <;> (rw [this] at z; cases z)
    | some kk =>
     have hmem := PySem.mem_of_lookup el
     have ncell := S.nocell _ hmem
     have hr : (relabel scope X.env).names.lookup y = some (if (kk == NameKind.free && X.env.scope.kind == .function && X.env.kindOf y == some .cell) = true then .cell else kk) := by rw [relabel_lookup, el]; rfl
     by_cases hkf : kk = .free
     ·subst hkf
      exact relabel_free (env := X.env) el
     ·have hb : (kk == NameKind.free) = false := by simpa using hkf
      have hr' : (relabel scope X.env).names.lookup y = some kk := by rw [hr, hb]; rfl
      rcases e3' with z | z | z
      ·rw [hr'] at z; cases z; exact absurd el nl
      ·rw [hr'] at z; cases z; exact absurd rfl ncell
      ·rw [hr'] at z; cases z; exact absurd rfl hkf
   ·exact S.nodup _ h3 z
 ·obtain ⟨v, o, ho, hd⟩ := I.cell x c (hcl1 x c e)
  exact ⟨v, o, k _ _ ho, hd⟩
 ·show upd H acc o C = none
  rw [upd_ne hne]; exact fr C hC
 ·show upd H acc o c = none
  have := cellLt x c e
  rw [upd_ne (Nat.ne_of_lt (Nat.lt_of_lt_of_le this ha))]
  exact I.freeC x c (hcl1 x c e)
 ·show (compSt n ix σ).length = N'.length
  unfold compSt
  rw [List.length_append, List.length_replicate, List.length_map, S.len]
end
theorem dcE {P : Program} {w : World} {h : Heap} {a : Addr} (e : h.get? a = some { cls := .type "dict", dict := none, data := .dict #[] }) : h.DictOf (mixKind P w) a [] := by
 obtain ⟨o, es, ep, e1, r⟩ := Heap.DictOf.new (knd := mixKind P w) h
 rw [Heap.get?_push_size _ rfl] at e1
 cases e1
 exact ⟨_, es, ep, e, r⟩
theorem d_dictSet {X : Cx} {pins : List (Addr × Obj)} {σ : St} {H : Hp} {s : Shared} {a : Addr} {kvs : List (Key × V)} {k : Key} {v : V} {u r : Value} {A : Around} {E : Value -> Shared -> Prop} {Q : Unit -> Shared -> Prop} (I : Inv X pins σ H s) (e : H a = some (.dK kvs)) (l : kvs.length < sizeLine) (ry : RelV (kV k) u) (rv : RelV v r) (h : ∀ s', Inv X pins σ (upd H a (.dK (putK kvs k v))) s' -> Q () s') :
  wpAny (model X.prog X.w) A (dictSet a u r) Q E s := by
 obtain ⟨z, hd, vs, rel, dd⟩ := dk_of I.hok e
 have hz : vs.length <= sizeLine := by rw [<- rel.length]; exact z
 have hl : (putK kvs k v).length <= sizeLine := by have := length_putK kvs k v; (first | lia | omega)
 refine wpAny_dictSet_pairs (hsz := hz) (kV_is ry) dd fun h' dd' hs => h _ ?_
 have he : ∃ q, h'.get? a = some q := let ⟨q, _, _, hq, _⟩ := dd'; ⟨q, hq⟩
 exact d_write I (by rw [e]; exact True.intro) hs he (dk_new hl hd (rel.put k rv) dd')
noncomputable abbrev dc2 (kx vx tg iter : Expr) (ifs : List Expr) (tg2 iter2 : Expr) (ifs2 : List Expr) (scope : Scope) (pos : Pos) : Expr := .DictComp kx vx [⟨tg, iter, ifs, 0⟩, ⟨tg2, iter2, ifs2, 0⟩] scope pos
theorem compTurnD_in (kx vx tg iter : Expr) (ifs : List Expr) (tg2 iter2 : Expr) (ifs2 : List Expr) (scope : Scope) (pos : Pos) (it : Value) (D : Addr) (env : Env) :
  compTurn (dc2 kx vx tg iter ifs tg2 iter2 ifs2 scope pos) 1 it (.ref D) env = (do
   standAt iter2.pos
   match <- pyNext it with
   | none => pure (.done .next)
   | some v =>
    letOwnedTupleGo tg2 it v
    assign tg2 env v
    let mut ok := true
    for c in ifs2 do
     if ok then ok <- isTrue c env (eval c env)
    if ok then
     (do
      let u <- eval kx env
      let r <- holding [u] (eval vx env)
      standAt { kx.pos with endLine := vx.pos.endLine, endCol := vx.pos.endCol }
      holding [u, r] (dictSet D u r))
    again (.compLoop (dc2 kx vx tg iter ifs tg2 iter2 ifs2 scope pos) 1 it (.ref D) env)) := by rfl
theorem compTurnD_out (kx vx tg iter : Expr) (ifs : List Expr) (tg2 iter2 : Expr) (ifs2 : List Expr) (scope : Scope) (pos : Pos) (it acc : Value) (env : Env) :
  compTurn (dc2 kx vx tg iter ifs tg2 iter2 ifs2 scope pos) 0 it acc env = (do
   standAt iter.pos
   match <- pyNext it with
   | none => pure (.done .next)
   | some v =>
    letOwnedTupleGo tg it v
    assign tg env v
    let mut ok := true
    for c in ifs do
     if ok then ok <- isTrue c env (eval c env)
    if ok then
     let x <- eval iter2 env
     standAt iter2.pos
     let x <- foldedSetIterable iter2 env x
     let _ <- runOwn (.compStart (dc2 kx vx tg iter ifs tg2 iter2 ifs2 scope pos) 1 (<- holding [x] (pyIter x)) acc env) env
    again (.compLoop (dc2 kx vx tg iter ifs tg2 iter2 ifs2 scope pos) 0 it acc env)) := by rfl
section
variable {prog : Program} {w : World} {A : Around} {R : Result -> Shared -> Prop} {s : Shared} {kx vx tg iter tg2 iter2 : Expr} {ifs ifs2 : List Expr} {scope : Scope} {pos : Pos} {it acc : Value} {env : Env}
theorem compLoopD_in {D : Addr} (I : Nat -> Shared -> Prop)
  (turn : ∀ n s, I n s -> wpAny (model prog w) A (pyNext it) (fun r s₁ => match r with
   | none => R (.ok .next) s₁
   | some v => wpAny (model prog w) A (letOwnedTupleGo tg2 it v) (fun _ s₂ => wpAny (model prog w) A (assign tg2 env v) (fun _ s₃ =>
     wpAny (model prog w) A (forIn ifs2 true fun c r => if r = true then do let ok <- isTrue c env (eval c env); pure (ForInStep.yield ok) else pure (ForInStep.yield r)) (fun ok s₄ =>
      if ok = true then wpAny (model prog w) A (eval kx env) (fun u s₅ => wpAny (model prog w) A (eval vx env) (fun x s₅ =>
       wpAny (model prog w) A (dictSet D u x) (fun _ s₆ => ∃ m, m < n /\ I m s₆) (fun _ _ => False) s₅) (fun _ _ => False) s₅) (fun _ _ => False) s₄
      else ∃ m, m < n /\ I m s₄) (fun _ _ => False) s₃) (fun _ _ => False) s₂) (fun _ _ => False) s₁) (fun _ _ => False) s)
  (n : Nat) (h : I n s) :
  codeAny (model prog w) A (.compLoop (dc2 kx vx tg iter ifs tg2 iter2 ifs2 scope pos) 1 it (.ref D) env) R s := by
 refine codeAny_loop rfl I (fun n s hI => ?_) n h
 show wpAny _ A ((compTurn (dc2 kx vx tg iter ifs tg2 iter2 ifs2 scope pos) 1 it (.ref D) env).onRaise (fun x => do noteFrame x env; theTreesLotGoes x)) _ _ s
 refine wpAny_noted (wpAny_noRaise ?_)
 rw [compTurnD_in]
 refine wpAny_bind (wpAny_standAt (wpAny_bind (thn (turn n s hI) fun r s₁ h₁ => ?_)))
 cases r with
 | none => exact wpAny_pure h₁
 | some v =>
  refine wpAny_bind (thn h₁ fun _ s₂ h₂ => wpAny_bind (thn h₂ fun _ s₃ h₃ => wpAny_bind (thn h₃ fun ok s₄ h₄ => ?_)))
  cases ok with
  | false => exact wpAny_pure ⟨rfl, h₄⟩
  | true => exact wpAny_bind (wpAny_bind (thn h₄ fun u s₅ h₅ => wpAny_bind (wpAny_holding (thn h₅ fun x s₆ h₆ => wpAny_bind (wpAny_standAt (wpAny_holding (thn h₆ fun _ s₇ h₇ => wpAny_pure ⟨rfl, h₇⟩)))))))
theorem compLoopD_out (hs2 : ∀ x, foldedSetIterable iter2 env x = pure x) (I : Nat -> Shared -> Prop)
  (turn : ∀ n s, I n s -> wpAny (model prog w) A (pyNext it) (fun r s₁ => match r with
   | none => R (.ok .next) s₁
   | some v => wpAny (model prog w) A (letOwnedTupleGo tg it v) (fun _ s₂ => wpAny (model prog w) A (assign tg env v) (fun _ s₃ =>
     wpAny (model prog w) A (forIn ifs true fun c r => if r = true then do let ok <- isTrue c env (eval c env); pure (ForInStep.yield ok) else pure (ForInStep.yield r)) (fun ok s₄ =>
      if ok = true then wpAny (model prog w) A (eval iter2 env) (fun x s₅ => wpAny (model prog w) A (pyIter x) (fun it2 s₆ =>
       codeAny (model prog w) A (.compStart (dc2 kx vx tg iter ifs tg2 iter2 ifs2 scope pos) 1 it2 acc env) (fun r s₇ => r = .ok .next /\ ∃ m, m < n /\ I m s₇) s₆) (fun _ _ => False) s₅) (fun _ _ => False) s₄
      else ∃ m, m < n /\ I m s₄) (fun _ _ => False) s₃) (fun _ _ => False) s₂) (fun _ _ => False) s₁) (fun _ _ => False) s)
  (n : Nat) (h : I n s) :
  codeAny (model prog w) A (.compLoop (dc2 kx vx tg iter ifs tg2 iter2 ifs2 scope pos) 0 it acc env) R s := by
 refine codeAny_loop rfl I (fun n s hI => ?_) n h
 show wpAny _ A ((compTurn (dc2 kx vx tg iter ifs tg2 iter2 ifs2 scope pos) 0 it acc env).onRaise (fun x => do noteFrame x env; theTreesLotGoes x)) _ _ s
 refine wpAny_noted (wpAny_noRaise ?_)
 rw [compTurnD_out]
 refine wpAny_bind (wpAny_standAt (wpAny_bind (thn (turn n s hI) fun r s₁ h₁ => ?_)))
 cases r with
 | none => exact wpAny_pure h₁
 | some v =>
  refine wpAny_bind (thn h₁ fun _ s₂ h₂ => wpAny_bind (thn h₂ fun _ s₃ h₃ => wpAny_bind (thn h₃ fun ok s₄ h₄ => ?_)))
  cases ok with
  | false => exact wpAny_pure ⟨rfl, h₄⟩
  | true =>
   refine wpAny_bind (thn h₄ fun x s₅ h₅ => wpAny_bind (wpAny_standAt (wpAny_bind (wpAny_of_eq (hs2 x) (wpAny_bind (wpAny_holding (thn h₅ fun it2 s₆ h₆ => ?_)))))))
   refine wpAny_bind (wpAny_runOwn (codeAny_mono h₆ fun r s₇ hr => ?_))
   obtain ⟨rfl, hr⟩ := hr
   exact wpAny_pure ⟨rfl, hr⟩
theorem codeAny_compStartD_in
  (h0 : codeAny (model prog w) A (.compLoop (dc2 kx vx tg iter ifs tg2 iter2 ifs2 scope pos) 1 it acc env) R s)
  (h : wpAny (model prog w) A (pyIter it) (fun it' s' => codeAny (model prog w) A (.compLoop (dc2 kx vx tg iter ifs tg2 iter2 ifs2 scope pos) 1 it' acc env) R s')
   (notedBy (model prog w) A env fun x s' => R (.error x) s') s) :
  codeAny (model prog w) A (.compStart (dc2 kx vx tg iter ifs tg2 iter2 ifs2 scope pos) 1 it acc env) R s := by
 refine codeAny_of_tree ?_
 show wpAny _ _ ((compStart (dc2 kx vx tg iter ifs tg2 iter2 ifs2 scope pos) 1 it acc env).onRaise (fun x => do noteFrame x env; standAt theWindowsPlace)) _ _ s
 refine wpAny_notedAt ?_
 unfold compStart
 show wpAny _ _ (ask >>= _) _ _ s
 refine wpAny_bind (wpAny_askSetting (wpAny_ite ?_))
 split
 ·first
   | exact wpAny_bind (wpAny_pure (wpAny_pure (And.intro rfl h0)))
   | exact wpAny_pure (And.intro rfl h0)
 ·refine wpAny_bind (wpAny_rule (wpAny_bind (wpAny_standAt (wpAny_bind (wpAny_mono h (fun it' s' h' => wpAny_pure (And.intro rfl h')) fun _ _ e => e)))))
end
noncomputable def InWD (J : It) (H1 : Hp) (g : TG) (tt : TT) (tk te : TE) (acc : Addr) (σ : St) (Kt : Hp -> Prop) : Prop :=
 ∃ V : Nat -> Nat -> Hp -> Prop, (∃ m, V 0 m H1) /\ ∀ i m H, V i m H ->
  (J.stop i H /\ Kt H) ∨ (J.go i H /\ ∀ x H', J.yld i H x H' -> g x σ H' fun σ2 H2 => Wk σ σ2 /\ tt σ2 H2 fun b H3 =>
   if b = true then tk σ2 H3 fun u H4 => te σ2 H4 fun v H5 => ∃ kvs k, H5 acc = some (.dK kvs) /\ u = kV k /\ kvs.length < sizeLine /\ ∃ m', m' < m /\ V (i + 1) m' (upd H5 acc (.dK (putK kvs k v)))
   else ∃ m', m' < m /\ V (i + 1) m' H3)
noncomputable def DcW2 (J : It) (H1 : Hp) (g : TG) (tt : TT) (wi2 : TI) (g2 : TG) (tt2 : TT) (tk te : TE) (n : Nat) (ix : List Nat) (σ : St) (Q : VK) : Prop := ∀ acc, H1 acc = none ->
 ∃ W : Nat -> Nat -> Hp -> Prop, (∃ m, W 0 m (upd H1 acc (.dK []))) /\ ∀ i m H, W i m H ->
  (J.stop i H /\ Q (.ref acc) H) ∨ (J.go i H /\ ∀ x H', J.yld i H x H' -> g x (compSt n ix σ) H' fun σ2 H2 => Wk (compSt n ix σ) σ2 /\ tt σ2 H2 fun b H3 =>
   if b = true then wi2 σ2 H3 fun J2 H4 => InWD J2 H4 g2 tt2 tk te acc σ2 fun H5 => ∃ m', m' < m /\ W (i + 1) m' H5
   else ∃ m', m' < m /\ W (i + 1) m' H3)
noncomputable def tDc2 (wi : TI) (g : TG) (tt : TT) (wi2 : TI) (g2 : TG) (tt2 : TT) (tk te : TE) (n : Nat) (ix : List Nat) : TE := fun σ H Q => wi σ H fun J H1 => DcW2 J H1 g tt wi2 g2 tt2 tk te n ix σ Q
section
variable {X : Cx} {kx vx tg iter tg2 iter2 : Expr} {ifs ifs2 : List Expr} {scope : Scope} {pos : Pos} {wi wi2 : TI} {g g2 : TG} {tt tt2 : TT} {tk te : TE} {N' : List Str} {n : Nat} {ix : List Nat}
theorem dc_core2 {pins : List (Addr × Obj)} {σ : St} {H2 : Hp} {s2 : Shared} {cl : List (Str × Addr)} {it : Addr} {fp : List Addr} {tn : Nat -> Heap -> Prop} {J : It} {Q : VK} {R : Value -> Addr -> Result -> Shared -> Prop}
  (hc : X.calm = true) (S : CompScope X scope N' n ix)
  (hY : ∀ s₂ H₂ cl C fp, PG (X.comp s₂ H₂ N' scope cl C fp) tg g /\ PTs (X.comp s₂ H₂ N' scope cl C fp) ifs tt /\ PI (X.comp s₂ H₂ N' scope cl C fp) tg2 iter2 wi2 /\ PG (X.comp s₂ H₂ N' scope cl C fp) tg2 g2 /\ PTs (X.comp s₂ H₂ N' scope cl C fp) ifs2 tt2 /\
   PE (X.comp s₂ H₂ N' scope cl C fp) kx tk /\ PE (X.comp s₂ H₂ N' scope cl C fp) vx te)
  (hs2 : ∀ env x, foldedSetIterable iter2 env x = pure x)
  (I2 : Inv X pins σ H2 s2) (hcl1 : ∀ x c, cl.lookup x = some c -> X.env.cells.lookup x = some c) (hcl2 : ∀ y ∈ scope.names, y.2 = .free -> cl.lookup y.1 = X.env.cells.lookup y.1)
  (T : Turn X.prog X.w X.K tg J fp it tn) (st2 : tn 0 s2.heap) (f2 : ∀ b ∈ fp, FpOk X pins H2 b)
  (hW : DcW2 J H2 g tt wi2 g2 tt2 tk te n ix σ Q)
  (hR : ∀ acc C s' H' m, s'.heap.Ns C m -> Inv X pins σ H' s' -> H' C = none -> C ≠ X.env.locals -> (C ∈ X.ex ∨ X.s₀.heap.objs.size <= C) -> (∀ x c, X.env.cells.lookup x = some c -> c ≠ C) -> (∀ p ∈ X.pn ++ pins, p.1 ≠ C) -> C ∉ X.fs -> Q (.ref acc) H' -> R (.ref acc) C (.ok .next) s') :
  wpAny (model X.prog X.w) X.A newDict (fun acc s₃ => wpAny (model X.prog X.w) X.A (newFunctionEnv scope X.env.globals cl [] X.env.qual none .none (some X.env)) (fun cenv s₄ =>
   codeAny (model X.prog X.w) X.A (.compStart (dc2 kx vx tg iter ifs tg2 iter2 ifs2 scope pos) 0 (.ref it) acc { cenv with scope := relabel scope X.env }) (R acc cenv.locals) s₄) X.xe s₃) X.xe s2 := by
 refine wpAny_newObj_type (wpAny_newFunctionEnv S.nocell (by intro y hy; simp at hy) (fun h₁ hns₁ hsb₁ => ?_) S.kind)
 dsimp only at hns₁ hsb₁ ⊢
 generalize hH2 : s2.heap.push { cls := .type "dict", dict := none, data := .dict #[] } = G at hns₁ hsb₁ ⊢
 have hC : G.objs.size = s2.heap.objs.size + 1 := by rw [<- hH2, Heap.size_push]
 have hlt : ∀ b ∈ fp, b < s2.heap.objs.size := fun b hb => by
  obtain ⟨o, e, _⟩ := T.obj _ _ st2 b hb
  exact Heap.lt_size e
 have old : ∀ b o, s2.heap.get? b = some o -> h₁.get? b = some o := fun b o e => hsb₁.extBut b o (by rw [hC]; exact Nat.ne_of_lt (Nat.lt_succ_of_lt (Heap.lt_size e))) (Heap.get?_push_of_some _ (hH2 ▸ Heap.get?_push_of_some _ e))
 have hacc : h₁.get? s2.heap.objs.size = some { cls := .type "dict", dict := none, data := .dict #[] } := hsb₁.extBut _ _ (by rw [hC]; exact Nat.ne_of_lt (Nat.lt_succ_self _)) (Heap.get?_push_of_some _ (hH2 ▸ Heap.get?_push_size _ rfl))
 obtain ⟨W, ⟨m0, w0⟩, turn⟩ := hW s2.heap.objs.size (I2.hok.fresh (Nat.le_refl _))
 obtain ⟨hYg, hYt, hYi, hYg2, hYt2, hYk, hYe⟩ := hY s2 H2 cl G.objs.size fp
 have fpY : ∀ {H' : Hp}, (∀ b ∈ fp, H' b = none) -> ∀ b ∈ fp, FpOk (X.comp s2 H2 N' scope cl G.objs.size fp) [] H' b := fun {H'} hn b hb => by
  obtain ⟨_, q1, q2, q3, q4, q5⟩ := f2 b hb
  refine ⟨hn b hb, ?_, fun z => ?_, .inl hb, fun x c e => q4 x c (hcl1 x c e), fun p hp => absurd (show p ∈ ([] : List (Addr × Obj)) from hp) (by simp)⟩
  ·show b ≠ G.objs.size
   rw [hC]
   exact Nat.ne_of_lt (Nat.lt_succ_of_lt (hlt b hb))
  ·rcases List.mem_cons.mp (I2.stkSub b z) with y | y
   ·exact q1 y
   ·exact q2 y
 have loop : ∀ s₃ : Shared, s₃ = { s2 with heap := h₁, toks := s2.toks + ([] : List (Str × Value)).length } ->
   codeAny (model X.prog X.w) X.A (.compLoop (dc2 kx vx tg iter ifs tg2 iter2 ifs2 scope pos) 0 (.ref it) (.ref s2.heap.objs.size) (compEnvC scope cl G.objs.size X.env)) (R (.ref s2.heap.objs.size) G.objs.size) s₃ := by
  rintro s₃ rfl
  have I4 := inv_compO (o := .dK []) (tk := s2.toks + ([] : List (Str × Value)).length) I2 S hcl1 hcl2 f2 hlt (Nat.le_refl _) (by rw [hC]; exact Nat.le_succ _) (by rw [hC]; exact Nat.ne_of_gt (Nat.lt_succ_self _)) old ⟨Nat.zero_le _, beq_eq_false_iff_ne.mpr (Ne.symm (Nat.ne_of_lt I2.big)), [], .nil, dcE hacc⟩ hns₁
  refine compLoopD_out (fun x => hs2 _ x) (fun n' s' => ∃ i H', Inv (X.comp s2 H2 N' scope cl G.objs.size fp) [] (compSt n ix σ) H' s' /\ tn i s'.heap /\ (∀ b ∈ fp, H' b = none) /\ W i n' H') ?_ m0
   ⟨0, _, I4, T.keep _ _ _ st2 fun b hb o e => old b o e, fun b hb => ?_, w0⟩
  ·rintro n' s3 ⟨i, H3, I3, st3, fr3, w3⟩
   rcases turn i n' H3 w3 with ⟨stop, q⟩ | ⟨go, step⟩
   ·refine thn (T.done (X.comp s2 H2 N' scope cl G.objs.size fp) rfl rfl rfl hc i [] s3 _ H3 _ I3 (fpY fr3) st3 stop) fun r s4 ⟨hr, I5⟩ => ?_
    subst hr
    obtain ⟨mC, hnC, _⟩ := I5.loc
    have IX : Inv X pins σ H3 s4 := I2.call' I5.os I5.base I5.hok I5.bare fun b hb => by
     obtain ⟨_, q1, q2, q3, q4, q5⟩ := f2 b hb
     exact ⟨q3, q1, q4, q5⟩
    refine hR _ _ s4 H3 mC hnC IX I5.free ?_ (.inr ?_) (fun x c e z => ?_) (fun p hp z => ?_) (I2.nofs (by rw [hC]; exact Nat.le_succ _)) q
    ·rw [hC]
     exact Nat.ne_of_gt (Nat.lt_succ_of_lt I2.lt)
    ·rw [hC]
     exact Nat.le_succ_of_le I2.sz
    ·obtain ⟨v, q⟩ := I2.cell x c e
     rw [hC] at z
     exact absurd z (Nat.ne_of_lt (Nat.lt_succ_of_lt q.lt))
    ·rw [hC] at z
     exact absurd z (Nat.ne_of_lt (Nat.lt_succ_of_lt (Heap.lt_size (I2.pin p hp).1)))
   ·refine thn (T.item (X.comp s2 H2 N' scope cl G.objs.size fp) rfl rfl rfl hc i [] s3 _ H3 _ I3 (fpY fr3) st3 go) fun r s4 ⟨u, hr, h4⟩ => ?_
    subst hr
    refine thn h4 fun _ s5 ⟨x, H5, I5, r5, y5, st5, fr5⟩ => ?_
    have I5' := I5.pinned (fpY fr5) (T.obj _ _ st5)
    refine thn (hYg _ s5 _ H5 x u _ I5' r5 (step x H5 y5)) fun _ s6 ⟨σ6, H6, I6, wk, q6⟩ => ?_
    have back : ∀ {H' : Hp} {s' : Shared}, Inv (X.comp s2 H2 N' scope cl G.objs.size fp) ([] ++ pinsAt fp s5.heap) σ6 H' s' ->
      Inv (X.comp s2 H2 N' scope cl G.objs.size fp) [] (compSt n ix σ) H' s' /\ tn (i + 1) s'.heap /\ ∀ b ∈ fp, H' b = none := fun {H' s'} I7 => by
     refine ⟨I7.unpinned.weak wk.1 wk.2, T.keep _ _ _ st5 fun b hb o e => (I7.pin (b, o) (List.mem_append_right _ (List.mem_append_right _ (mem_pinsAt hb e)))).1, fun b hb => ?_⟩
     obtain ⟨o, e, d⟩ := T.obj _ _ st5 b hb
     exact (I7.pin (b, o) (List.mem_append_right _ (List.mem_append_right _ (mem_pinsAt hb e)))).2.1
    refine thn (hYt _ s6 σ6 H6 _ I6 q6) fun ok s7 ⟨H7, I7, q7⟩ => ?_
    cases ok with
    | false =>
     rw [if_neg Bool.false_ne_true] at q7 ⊢
     obtain ⟨m', hm, w7⟩ := q7
     obtain ⟨b1, b2, b3⟩ := back I7
     exact ⟨m', hm, i + 1, H7, b1, b2, b3, w7⟩
    | true =>
     rw [if_pos rfl] at q7 ⊢
     refine thn (hYi _ s7 σ6 H7 _ I7 q7) fun xv s8 h8 => thn h8 fun itv s9 h9 => ?_
     obtain ⟨it2, fp2, tn2, J2, H9, rfl, I9, T2, st9, f9, V, ⟨m1, v0⟩, turn2⟩ := h9
     have stat2 : ∀ {H' : Hp}, (∀ b ∈ fp2, H' b = none) -> ∀ b ∈ fp2, FpOk (X.comp s2 H2 N' scope cl G.objs.size fp) ([] ++ pinsAt fp s5.heap) H' b := fun hn b hb => ⟨hn b hb, (f9 b hb).2⟩
     have loop2 : codeAny (model X.prog X.w) X.A (.compLoop (dc2 kx vx tg iter ifs tg2 iter2 ifs2 scope pos) 1 (.ref it2) (.ref s2.heap.objs.size) (compEnvC scope cl G.objs.size X.env))
       (fun r s₇ => r = .ok .next /\ ∃ m, m < n' /\ ∃ i H', Inv (X.comp s2 H2 N' scope cl G.objs.size fp) [] (compSt n ix σ) H' s₇ /\ tn i s₇.heap /\ (∀ b ∈ fp, H' b = none) /\ W i m H') s9 := by
      refine compLoopD_in (fun n'' s' => ∃ j H', Inv (X.comp s2 H2 N' scope cl G.objs.size fp) ([] ++ pinsAt fp s5.heap) σ6 H' s' /\ tn2 j s'.heap /\ (∀ b ∈ fp2, H' b = none) /\ V j n'' H') ?_ m1 ⟨0, H9, I9, st9, fun b hb => (f9 b hb).1, v0⟩
      rintro n'' s10 ⟨j, H10, I10, st10, fr10, v10⟩
      rcases turn2 j n'' H10 v10 with ⟨stop2, q10⟩ | ⟨go2, step2⟩
      ·refine thn (T2.done (X.comp s2 H2 N' scope cl G.objs.size fp) rfl rfl rfl hc j _ s10 _ H10 _ I10 (stat2 fr10) st10 stop2) fun r s11 ⟨hr, I11⟩ => ?_
       subst hr
       obtain ⟨m', hm, w10⟩ := q10
       obtain ⟨b1, b2, b3⟩ := back I11
       exact ⟨rfl, m', hm, i + 1, H10, b1, b2, b3, w10⟩
      ·refine thn (T2.item (X.comp s2 H2 N' scope cl G.objs.size fp) rfl rfl rfl hc j _ s10 _ H10 _ I10 (stat2 fr10) st10 go2) fun r s11 ⟨u2, hr, h11⟩ => ?_
       subst hr
       refine thn h11 fun _ s12 ⟨y, H12, I12, r12, y12, st12, fr12⟩ => ?_
       have I12' := I12.pinned (stat2 fr12) (T2.obj _ _ st12)
       refine thn (hYg2 _ s12 _ H12 y u2 _ I12' r12 (step2 y H12 y12)) fun _ s13 ⟨σ13, H13, I13, wk2, q13⟩ => ?_
       have back2 : ∀ {H' : Hp} {s' : Shared}, Inv (X.comp s2 H2 N' scope cl G.objs.size fp) (([] ++ pinsAt fp s5.heap) ++ pinsAt fp2 s12.heap) σ13 H' s' ->
         Inv (X.comp s2 H2 N' scope cl G.objs.size fp) ([] ++ pinsAt fp s5.heap) σ6 H' s' /\ tn2 (j + 1) s'.heap /\ ∀ b ∈ fp2, H' b = none := fun {H' s'} I7 => by
        refine ⟨I7.unpinned.weak wk2.1 wk2.2, T2.keep _ _ _ st12 fun b hb o e => (I7.pin (b, o) (List.mem_append_right _ (List.mem_append_right _ (mem_pinsAt hb e)))).1, fun b hb => ?_⟩
        obtain ⟨o, e, d⟩ := T2.obj _ _ st12 b hb
        exact (I7.pin (b, o) (List.mem_append_right _ (List.mem_append_right _ (mem_pinsAt hb e)))).2.1
       refine thn (hYt2 _ s13 σ13 H13 _ I13 q13) fun ok2 s14 ⟨H14, I14, q14⟩ => ?_
       cases ok2 with
       | false =>
        rw [if_neg Bool.false_ne_true] at q14 ⊢
        obtain ⟨m', hm, v14⟩ := q14
        obtain ⟨b1, b2, b3⟩ := back2 I14
        exact ⟨m', hm, j + 1, H14, b1, b2, b3, v14⟩
       | true =>
        rw [if_pos rfl] at q14 ⊢
        refine thn (hYk _ s14 σ13 H14 _ I14 q14) fun uv s15 ⟨u15, H15, I15, r15, q15⟩ => ?_
        refine thn (hYe _ s15 σ13 H15 _ I15 q15) fun xv s16 ⟨v16, H16, I16, r16, kvs, kk, ha, hk, hz, m', hm, w16⟩ => ?_
        subst hk
        refine d_dictSet (X := X.comp s2 H2 N' scope cl G.objs.size fp) I16 ha hz r15 r16 fun s17 I17 => ?_
        obtain ⟨b1, b2, b3⟩ := back2 I17
        exact ⟨m', hm, j + 1, _, b1, b2, b3, w16⟩
     exact codeAny_compStartD_in loop2 (T2.self _ 0 _ _ _ st9 loop2)
  ·rw [upd_ne (Nat.ne_of_lt (hlt b hb))]
   exact (f2 b hb).1
 exact codeAny_compStart_dict (loop _ rfl) (T.self _ 0 _ _ _ (T.keep _ _ _ st2 fun b hb o e => old b o e) (loop _ rfl))
theorem pe_dc2 (hc : X.calm = true) (S : CompScope X scope N' n ix) (hi : PI X tg iter wi)
  (hY : ∀ s₂ H₂ cl C fp, PG (X.comp s₂ H₂ N' scope cl C fp) tg g /\ PTs (X.comp s₂ H₂ N' scope cl C fp) ifs tt /\ PI (X.comp s₂ H₂ N' scope cl C fp) tg2 iter2 wi2 /\ PG (X.comp s₂ H₂ N' scope cl C fp) tg2 g2 /\ PTs (X.comp s₂ H₂ N' scope cl C fp) ifs2 tt2 /\
   PE (X.comp s₂ H₂ N' scope cl C fp) kx tk /\ PE (X.comp s₂ H₂ N' scope cl C fp) vx te)
  (hs : ∀ x, foldedSetIterable iter X.env x = pure x := by intro _; rfl) (hs2 : ∀ env x, foldedSetIterable iter2 env x = pure x := by intro _ _; rfl) :
  PE X (.DictComp kx vx [⟨tg, iter, ifs, 0⟩, ⟨tg2, iter2, ifs2, 0⟩] scope pos) (tDc2 wi g tt wi2 g2 tt2 tk te n ix) := by
 intro pins s σ H Q I h
 obtain ⟨cl, hcl, hcl1, hcl2⟩ := closure_ok (env := X.env) (scope := scope) fun y hy hf => I.ok.has _ (S.free y hy hf)
 show wpAny _ _ (comprehension (dc2 kx vx tg iter ifs tg2 iter2 ifs2 scope pos) scope X.env _ newDict _ _) _ _ s
 refine wpAny_comprehension_free (use := none) rfl hs hcl S.kind S.names (thn (hi pins s σ H _ I h) fun v s1 h1 => thn h1 fun itv s2 h2 => ?_)
 obtain ⟨it, fp, tn, J, H2, rfl, I2, T, st2, f2, hW⟩ := h2
 refine dc_core2 (R := fun acc C => compPost (model X.prog X.w) X.A X.xe none (EP X pins σ Q) acc C) hc S hY hs2 I2 hcl1 hcl2 T st2 f2 hW ?_
 intro acc C s' H' m hn IX hf hL h1 h2 h3 h4 q
 exact ⟨m, hn, fun h' sb => ⟨.ref acc, H', IX.turned (t' := s'.toks) (fun b o hb e => sb.extBut b o hb e) hf hL h1 h2 h3, rfl, q⟩⟩
end
end L2
namespace L2
open PySem PySem.Spec PyProof.Rows
noncomputable def dnV (hi : Int) (n : Nat) : List V := (List.range n).map fun (k : Nat) => V.int (hi - (k : Int))
theorem yields_down {hi : Int} {n : Nat} : Yields (Itd hi n) (fun _ => True) (dnV hi n) := by
 have hl : (dnV hi n).length = n := by unfold dnV; rw [List.length_map, List.length_range]
 refine ⟨fun i H _ h => ?_, fun i H x H' _ h y => ⟨y.1, ?_⟩, fun H _ => ?_⟩
 ·show i < n
  (first | lia | omega)
 ·unfold dnV
  rw [List.getElem?_map, List.getElem?_range (by (first | lia | omega)), y.2]
  rfl
 ·show n <= (dnV hi n).length
  (first | lia | omega)
theorem call_lenDK {X : Cx} : CallR X (.builtin "len") (fun xs H Q => ∃ a kvs, xs = [.ref a] /\ H a = some (.dK kvs) /\ Q (.int (kvs.length : Nat)) H) := by
 intro pins s σ H xs us Q I rs h
 obtain ⟨a, kvs, rfl, e, q⟩ := h
 obtain ⟨u, rfl, ru⟩ := vals1 rs
 cases (show u = Value.ref a from ru)
 exact d_len I (.inl e) fun t s' I' => ⟨.int (kvs.length : Nat), H, I', ⟨t, rfl⟩, q⟩
noncomputable def dkE : Nat -> List (List Int) -> List (Key × V)
 | _, [] => []
 | i, r :: t => r.map (fun p => ((.inl p : Key), V.int (i : Int))) ++ dkE (i + 1) t
theorem dkE_app : ∀ (i : Nat) (a b : List (List Int)), dkE i (a ++ b) = dkE i a ++ dkE (i + a.length) b
 | _, [], _ => by simp [dkE]
 | i, r :: t, b => by
  show _ ++ dkE (i + 1) (t ++ b) = (_ ++ dkE (i + 1) t) ++ _
  rw [dkE_app (i + 1) t b, List.append_assoc, List.length_cons, show i + 1 + t.length = i + (t.length + 1) by (first | lia | omega)]
theorem dkE_keys : ∀ (i : Nat) (R : List (List Int)), (dkE i R).map (·.1) = R.flatten.map (fun p => (.inl p : Key))
 | _, [] => rfl
 | i, r :: t => by
  show (_ ++ dkE (i + 1) t).map _ = _
  rw [List.map_append, dkE_keys (i + 1) t, List.flatten_cons, List.map_append, List.map_map]
  rfl
theorem dkE_len (i : Nat) (R : List (List Int)) : (dkE i R).length = R.flatten.length := by
 have := congrArg List.length (dkE_keys i R)
 rw [List.length_map, List.length_map] at this
 exact this
theorem valV_out {kvs : List (Key × V)} {k : Key} (h : k ∉ kvs.map (·.1)) : valV kvs k = none := by
 unfold valV
 rw [List.find?_eq_none.mpr fun x hx => ?_]
 ·rfl
 ·simpa using fun e => h (List.mem_map.mpr ⟨x, hx, e⟩)
theorem valV_app {a b : List (Key × V)} {k : Key} : valV (a ++ b) k = (valV a k).or (valV b k) := by
 unfold valV
 rw [List.find?_append]
 cases a.find? fun kv => decide (kv.1 = k) <;> rfl
theorem valV_row {r : List Int} {i p : Int} (h : p ∈ r) : valV (r.map (fun p => ((.inl p : Key), V.int i))) (.inl p) = some (.int i) := by
 induction r with
 | nil => cases h
 | cons a t ih =>
  by_cases c : a = p
  ·subst c
   exact valV_pos rfl
  ·rw [List.map_cons, valV_neg (fun e => c (Sum.inl.inj e))]
   exact ih (by rcases List.mem_cons.mp h with rfl | h; exact absurd rfl c; exact h)
theorem dkE_val : ∀ (i : Nat) (R : List (List Int)) (p : Int), p ∈ R.flatten -> valV (dkE i R) (.inl p) = some (.int ((i + rowIx R p : Nat) : Int))
 | _, [], _, h => by cases h
 | i, r :: t, p, h => by
  show valV (_ ++ dkE (i + 1) t) _ = _
  rw [valV_app, ix_cons]
  by_cases c : p ∈ r
  ·rw [valV_row c, if_pos c]
   rfl
  ·rw [valV_out (k := .inl p), if_neg c, dkE_val (i + 1) t p (by rw [List.flatten_cons] at h; rcases List.mem_append.mp h with h | h; exact absurd h c; exact h)]
   ·show some _ = some _
    congr 2
    push_cast
    (first | lia | omega)
   ·rw [List.map_map]
    intro z
    obtain ⟨q, hq, e⟩ := List.mem_map.mp z
    cases e
    exact c hq
theorem dc_enum {K : PySem.W.Frag} {a : Addr} {ys : List Addr} {R : List (List Int)} {wi2 : TI} {tk te : TE} {σ : L2.St} {H1 : Hp} {Q : VK} (ha : H1 a = some (.tup (ys.map V.ref))) (hR : RowsAt H1 ys R) (nd : R.flatten.Nodup) (small : R.flatten.length < sizeLine)
  (hin : ∀ (i : Int) (y : Addr) (r : List V) H, H y = some (.tup r) -> ∀ Rr : It -> Hp -> Prop, Rr (Itt K y) H -> wi2 [some (.int i), some (.ref y), none] H Rr)
  (hk : ∀ (i : Int) (y : Addr) (p : Int) H (Q' : VK), Q' (.int p) H -> tk [some (.int i), some (.ref y), some (.int p)] H Q')
  (he : ∀ (i : Int) (y : Addr) (p : Int) H (Q' : VK), Q' (.int i) H -> te [some (.int i), some (.ref y), some (.int p)] H Q')
  (fin : ∀ acc H', H1 acc = none -> Same H1 H' -> H' acc = some (.dK (dkE 0 R)) -> Q (.ref acc) H') :
  DcW2 (Ite K a) H1 (gTup K 2 (gCons (gName 0) (gCons (gName 1) gNil))) tNoTest wi2 (gName 2) tNoTest tk te 3 [] σ Q := by
 intro acc hn
 have hl := Paired.length hR
 refine ⟨fun i m H => m = R.length - i /\ i <= R.length /\ Same H1 H /\ H acc = some (.dK (dkE 0 (R.take i))), ⟨R.length, by simp, Nat.zero_le _, same_upd hn, upd_same⟩, ?_⟩
 rintro i m H ⟨rfl, hi, sm, hacc⟩
 by_cases hlt : i < R.length
 ·have hy : ∃ y, ys[i]? = some y := ⟨_, List.getElem?_eq_getElem (by (first | lia | omega))⟩
  obtain ⟨y, hy⟩ := hy
  have e1 : (ys.map V.ref)[i]? = some (.ref y) := by rw [List.getElem?_map, hy]; rfl
  refine .inr ⟨⟨_, .ref y, SqT.of (sm _ _ ha), e1⟩, fun v H' yl => ?_⟩
  obtain ⟨t, x, hn', rfl, rfl, hv⟩ := yl
  have e2 := hv _ (SqT.of (sm _ _ ha))
  rw [e1] at e2
  cases e2
  obtain ⟨r, hr, hyr⟩ := prd_get hR hy
  have s1 : R = R.take i ++ r :: R.drop (i + 1) := by
   rw [<- (List.getElem?_eq_some_iff.mp hr).2, List.getElem_cons_drop, List.take_append_drop]
  have tl : (R.take i).length = i := by rw [List.length_take]; (first | lia | omega)
  have htk : dkE 0 (R.take (i + 1)) = dkE 0 (R.take i) ++ r.map (fun p => ((.inl p : Key), V.int (i : Int))) := by
   rw [List.take_succ, hr, dkE_app, tl, Nat.zero_add]
   simp [dkE]
  have ndr : ((R.take i).flatten ++ r).Nodup := by
   rw [s1, List.flatten_append, List.flatten_cons, <- List.append_assoc] at nd
   exact (List.nodup_append.mp nd).1
  have lnr : ((R.take i).flatten ++ r).length <= R.flatten.length := by
   conv => rhs; rw [s1, List.flatten_append, List.flatten_cons, <- List.append_assoc, List.length_append]
   (first | lia | omega)
  refine ⟨t, _, rfl, SqT.of upd_same, rfl, _, _, rfl, _, _, rfl, rfl, ⟨rfl, fun j v e => ?_⟩, ?_⟩
  ·match j, e with
   | 0, e => cases e
   | 1, e => cases e
   | j + 2, e => exact e
  ·unfold tNoTest
   dsimp only
   rw [if_pos rfl]
   have sm2 := sm.trans (same_upd (o := .tup [.int i, .ref y]) hn')
   have hacc2 : (upd H t (.tup [.int i, .ref y])) acc = some (.dK (dkE 0 (R.take i))) := same_upd hn' _ _ hacc
   refine hin i y (r.map V.int) _ (sm2 _ _ hyr) _ ?_
   refine ⟨fun j m2 G => m2 = r.length - j /\ j <= r.length /\ Same H1 G /\ G acc = some (.dK (dkE 0 (R.take i) ++ (r.take j).map (fun p => ((.inl p : Key), V.int (i : Int))))),
    ⟨r.length, by simp, Nat.zero_le _, sm2, by simpa using hacc2⟩, ?_⟩
   rintro j m2 G ⟨rfl, hj, sm5, hus⟩
   have Y2 := yields_tup (K := K) (a := y) (xs := r.map V.int)
   have o2 : SqT K G y (r.map V.int) := SqT.of (sm5 _ _ hyr)
   by_cases hjl : j < r.length
   ·refine .inr ⟨Y2.go j _ o2 (by rw [List.length_map]; exact hjl), fun w G' yy => ?_⟩
    obtain ⟨rfl, hw⟩ := Y2.yld j _ w G' o2 (by rw [List.length_map]; exact hjl) yy
    rw [List.getElem?_map, List.getElem?_eq_getElem hjl] at hw
    cases hw
    refine ⟨⟨rfl, fun k v e => ?_⟩, ?_⟩
    ·match k, e with
     | 0, e => exact e
     | 1, e => exact e
     | 2, e => cases e
     | k + 3, e => exact e
    ·dsimp only
     rw [if_pos rfl]
     have tk2 : r.take (j + 1) = r.take j ++ [r[j]] := by rw [List.take_succ, List.getElem?_eq_getElem hjl]; rfl
     refine hk i y r[j] _ _ (he i y r[j] _ _ ⟨_, (.inl r[j] : Key), hus, rfl, ?_, r.length - (j + 1), by (first | lia | omega), rfl, hjl, same_updR sm5 hn, ?_⟩)
     ·rw [List.length_append, dkE_len, List.length_map, List.length_take]
      rw [List.length_append] at lnr
      (first | lia | omega)
     ·rw [upd_same, putK_new _ (valV_out ?_), tk2, List.map_append, <- List.append_assoc]
      ·rfl
      ·rw [List.map_append, dkE_keys, List.map_map]
       intro z
       rcases List.mem_append.mp z with z | z
       ·obtain ⟨q, hq, e⟩ := List.mem_map.mp z
        cases e
        exact (List.nodup_append.mp ndr).2.2 _ hq _ (List.getElem_mem hjl) rfl
       ·obtain ⟨q, hq, e⟩ := List.mem_map.mp z
        cases e
        have n2 := (List.nodup_append.mp ndr).2.1
        have s3 : r = r.take j ++ r[j] :: r.drop (j + 1) := by rw [List.getElem_cons_drop, List.take_append_drop]
        rw [s3] at n2
        exact (List.nodup_append.mp n2).2.2 _ hq _ List.mem_cons_self rfl
   ·have e : j = r.length := by (first | lia | omega)
    subst e
    rw [List.take_length] at hus
    refine .inl ⟨by have := Y2.stop _ o2; rw [List.length_map] at this; exact this, R.length - (i + 1), by (first | lia | omega), rfl, hlt, sm5, ?_⟩
    rw [htk]
    exact hus
 ·have e : i = R.length := by (first | lia | omega)
  subst e
  rw [List.take_length] at hacc
  refine .inl ⟨⟨_, SqT.of (sm _ _ ha), by rw [List.length_map]; exact hl⟩, fin acc H hn sm hacc⟩
theorem pi_tupS {X : Cx} {tg l : Expr} {tl : TE} (K : PySem.W.Frag) (hK : X.K = K) (hl : PE X l tl) : PI X tg l (iTup K tl) := hK ▸ pi_tup hl
noncomputable def spRfl : Sp := fun vs H Q _ => ∃ (q : Addr) (ys : List Addr) (R : List (List Int)) (m : Nat), vs = [.ref q] /\ H q = some (.tup (ys.map V.ref)) /\ RowsAt H ys R /\ R.flatten.Perm (num0 m) /\ m <= 100 /\
 ∀ l H', Same H H' -> H l = none -> H' l = some (.lst (((List.range m).reverse.map fun (j : Nat) => ((rowIx R (j : Int) : Nat) : Int)).map V.int)) -> Q (.ref l) H'
end L2
namespace L2
open PySem PySem.Spec PyProof.Rows
noncomputable def colP (H : Hp) (k : Nat) : V -> Bool
 | .ref y => (match H y with | some (.tup vs) => decide (k < vs.length) | _ => false)
 | _ => false
noncomputable def colV (H : Hp) (k : Nat) : V -> V
 | .ref y => (match H y with | some (.tup vs) => vs.getD k .non | _ => .non)
 | _ => .non
theorem col_is {H : Hp} {k : Nat} : ∀ {ys : List Addr} {R : List (List Int)}, RowsAt H ys R -> ((ys.map V.ref).filter (colP H k)).map (colV H k) = (R.filterMap fun r => r[k]?).map V.int
 | _, _, .nil => rfl
 | y :: ys, r :: R, .cons h t => by
  have ih := col_is (k := k) t
  have h : H y = some (.tup (r.map V.int)) := h
  have e1 : colP H k (.ref y) = decide (k < r.length) := by
   show (match H y with | some (.tup vs) => decide (k < vs.length) | _ => false) = _
   rw [h]
   show decide (k < (r.map V.int).length) = _
   rw [List.length_map]
  by_cases c : k < r.length
  ·have e2 : colV H k (.ref y) = .int r[k] := by
    show (match H y with | some (.tup vs) => vs.getD k .non | _ => .non) = _
    rw [h]
    show (r.map V.int).getD k .non = _
    rw [List.getD_eq_getElem?_getD, List.getElem?_map, List.getElem?_eq_getElem c]
    rfl
   rw [List.map_cons, List.filter_cons, e1, decide_eq_true c, if_pos rfl, List.map_cons, e2, ih, List.filterMap_cons, List.getElem?_eq_getElem c]
   rfl
  ·rw [List.map_cons, List.filter_cons, e1, decide_eq_false c, if_neg Bool.false_ne_true, ih, List.filterMap_cons, List.getElem?_eq_none (by (first | lia | omega))]
noncomputable def RCol (C : Nat -> List Int) (x v : V) (H : Hp) : Prop := ∃ (k : Nat) (t : Addr), x = .int (k : Int) /\ v = .ref t /\ H t = some (.tup ((C k).map V.int))
theorem rcol_rows {H : Hp} {C : Nat -> List Int} : ∀ (n : Nat) (a : Nat) {ys : List V}, Paired (fun x v => RCol C x v H) (rangeV (a : Int) n) ys -> ∃ ts : List Addr, ys = ts.map V.ref /\ RowsAt H ts ((List.range n).map fun k => C (a + k))
 | 0, _, _, .nil => ⟨[], rfl, .nil⟩
 | n + 1, a, ys, p => by
  have e : rangeV (a : Int) (n + 1) = .int (a : Int) :: rangeV ((a + 1 : Nat) : Int) n := by
   unfold rangeV
   rw [List.range_succ_eq_map, List.map_cons, List.map_map]
   refine List.cons_eq_cons.mpr ⟨by simp, List.map_congr_left fun i _ => ?_⟩
   show V.int _ = V.int _
   congr 1
   push_cast
   (first | lia | omega)
  rw [e] at p
  cases p with
  | cons h t =>
   obtain ⟨k, u, e1, e2, e3⟩ := h
   have : k = a := by
    have := V.int.inj e1
    (first | lia | omega)
   subst this
   obtain ⟨ts, g1, g2⟩ := rcol_rows n (k + 1) t
   refine ⟨u :: ts, by rw [e2, g1]; rfl, ?_⟩
   rw [List.range_succ_eq_map, List.map_cons, List.map_map]
   refine .cons e3 ?_
   have : (List.range n).map ((fun j => C (k + j)) ∘ Nat.succ) = (List.range n).map fun j => C (k + 1 + j) := List.map_congr_left fun i _ => by
    show C (k + (i + 1)) = C (k + 1 + i)
    congr 1
    (first | lia | omega)
   rw [this]
   exact g2
noncomputable def spOver : Sp := fun vs H Q _ => ∃ (q : Addr) (ys : List Addr) (R : List (List Int)), vs = [.ref q] /\ H q = some (.tup (ys.map V.ref)) /\ RowsAt H ys R /\ R.length <= 100 /\ (∀ r ∈ R, r.length <= 100) /\
 ∀ t (ts : List Addr) H', Same H H' -> H' t = some (.tup (ts.map V.ref)) -> RowsAt H' ts (overZ R) -> Q (.ref t) H'
end L2
namespace K61
open PySem PySem.Spec PyProof.Rows L2
noncomputable abbrev s__law_over : Stmt := top 23
section
variable {P : Program} {w : World} {K : PySem.W.Frag} {mg : Str -> Option Value} {base : Heap}
theorem sc__law_over : FnScope ["_law_grid"] ["_law_grid"] (defScope s__law_over) := ⟨rfl, rfl, rfl, by decide +kernel, rfl, by decide +kernel, by decide +kernel⟩
set_option maxHeartbeats 4000000 in
theorem ok__law_over {f : Addr} {fd : FuncData} (F : Fun K "_law_over" "_law_over" s__law_over f fd) (T : Top mg) : FnOk P w K mg base CX0 1 f fd ["_law_grid"] spOver := by
 refine F.ok sc__law_over (fun vs H Q E h => ?_) (fun cdv A outer s H vs Q E hr h => ?_)
 ·obtain ⟨q, ys, R, rfl, _⟩ := h
  rfl
 ·obtain ⟨q, ys, R, rfl, hq, RA, hl, hrl, k⟩ := h
  have hu : _ := hr.units
  have hyl := Paired.length RA
  refine ⟨_, (pss_cons (ps_if (pt_cmpR (op_eqE hu) (pv 0) (pe_tup pa_nil) (nomark _))
    (pss_one (ps_ret (pe_tup pa_nil)))
    pss_nil)
   (pss_one (ps_ret (pe_callTy call_tuple_of (by rfl) T.n_tuple boot_tuple (pa_cons (pe_lcZ (z := "_law_k") (N' := ["_law_k", "_law_grid"]) (n := 1) (ix := [0]) rfl (CompScopeZ.ofC (sc := defScope s__law_over) (N := ["_law_grid"]) (by decide +kernel) rfl rfl (fun _ _ => rfl) (fun _ => rfl)) (pi_range1 rfl T.n_range (pa_cons (pe_callB call_len_seq (by rfl) T.n_len PySem.boot_len (pa_cons (pe_ix ix_tup (pv 0) pe_int (fun _ _ => rfl)) pa_nil)) pa_nil)) (fun _ _ _ _ _ _ => ⟨(pg_name (i := 0) (show (["_law_k", "_law_grid"] : List Str).Nodup by decide +kernel) rfl (Or.inr rfl) (Or.inl rfl)), pts_nil, (pe_callTy (call_tupKT K rfl) (by rfl) T.n_tuple boot_tuple (pa_cons (pe_lc (N' := ["_law_row", "_law_k"]) (n := 1) (ix := [0]) rfl (CompScope.of (N := ["_law_k", "_law_grid"]) rfl rfl rfl) (pi_tupS K rfl (pv 1)) (fun _ _ _ _ _ => ⟨(pg_name (i := 0) (show (["_law_row", "_law_k"] : List Str).Nodup by decide +kernel) rfl (Or.inl rfl)), (pts_one (pt_cmpR op_gt (pe_callB (call_len_seqKY K rfl) (by rfl) T.n_len PySem.boot_len (pa_cons (pv 0) pa_nil)) (pv 1) (nomark _))), (pe_ix (ix_tupK K rfl) (pv 0) (pv 1) (fun _ _ => rfl))⟩)) pa_nil))⟩)) pa_nil))))), ?_⟩
  refine ⟨_, rfl, Nat.zero_le _, fun b hb => ?_⟩
  have s1 := same_upd (o := .tup []) hb
  refine ⟨q, b, _, rfl, rfl, s1 _ _ hq, upd_same, _, rfl, ?_⟩
  cases R with
  | nil =>
   cases RA
   exact iteT ⟨Nat.zero_le _, fun t ht => k t [] _ (s1.trans (same_upd ht)) upd_same .nil⟩
  | cons r0 R' =>
   cases ys with
   | nil => cases RA
   | cons y0 ys' =>
    have h0 : H y0 = some (.tup (r0.map V.int)) := by cases RA with | cons h _ => exact h
    have hr0 := hrl r0 List.mem_cons_self
    refine iteF ?_
    have hq1 := s1 _ _ hq
    have RA1 := RA.same s1
    refine ⟨_, rfl, q, _, _, .ref y0, rfl, rfl, SqT.of hq1, atI_nat (j := 0) rfl, y0, _, rfl, .inr (SqT.of (s1 _ _ h0)), _, rfl, by (first | lia | omega), by rw [mapI_len]; (first | lia | omega), ?_⟩
    rw [mapI_len, Int.toNat_natCast]
    clear h0
    generalize upd H b (.tup []) = G at s1 hq1 RA1
    refine lc_grow (yields_range (lo := 0) (n := r0.length)) (small1 (by rw [rangeV_len]; (first | lia | omega))) (RCol (fun k => (r0 :: R').filterMap fun r => r[k]?)) (fun x v G1 G' st hR => ?_) (fun _ _ => trivial) (fun x hx G' s' Q' q' => ?_) fun acc vs G' hacc s' hvs pr => ?_
    ·obtain ⟨k, t, e1, e2, e3⟩ := hR
     exact ⟨k, t, e1, e2, st _ _ e3⟩
    ·obtain ⟨n, rfl, n0, n1⟩ := mem_rangeV hx
     obtain ⟨j, rfl⟩ : ∃ j : Nat, n = (j : Int) := ⟨n.toNat, by (first | lia | omega)⟩
     have hq2 := s' _ _ hq1
     have RA2 := RA1.same s'
     refine ⟨_, rfl, q, rfl, ⟨_, SqT.of hq2⟩, ?_⟩
     refine lc_pure (yields_tup (xs := (y0 :: ys').map V.ref)) (small1 (by rw [List.length_map]; (first | lia | omega))) (colP G' j) (colV G' j) (fun H' s2 => SqT.of (s2 _ _ hq2)) (fun x hx H' s2 Q2 q2 => ?_) (fun x hx hp H' s2 Q2 q2 => ?_) fun acc hacc => ?_
     ·obtain ⟨y, hy, rfl⟩ := List.mem_map.mp hx
      obtain ⟨i, hi⟩ := List.getElem?_of_mem hy
      obtain ⟨r, hr1, hr2⟩ := prd_get RA2 hi
      have hr2 : G' y = some (.tup (r.map V.int)) := hr2
      refine ⟨_, rfl, y, _, rfl, .inr (SqT.of (s2 _ _ hr2)), _, rfl, _, _, rfl, rfl, _, rfl, ?_⟩
      have e : colP G' j (.ref y) = decide ((((r.map V.int).length : Nat) : Int) > (j : Int)) := by
       show (match G' y with | some (.tup vs) => decide (j < vs.length) | _ => false) = _
       rw [hr2]
       exact decide_eq_decide.mpr (by (first | lia | omega))
      rw [<- e]
      exact q2
     ·obtain ⟨y, hy, rfl⟩ := List.mem_map.mp hx
      obtain ⟨i, hi⟩ := List.getElem?_of_mem hy
      obtain ⟨r, hr1, hr2⟩ := prd_get RA2 hi
      have hr2 : G' y = some (.tup (r.map V.int)) := hr2
      have hp : (match G' y with | some (.tup vs) => decide (j < vs.length) | _ => false) = true := hp
      rw [hr2] at hp
      have hp := of_decide_eq_true hp
      have e : colV G' j (.ref y) = (r.map V.int)[j] := by
       show (match G' y with | some (.tup vs) => vs.getD j .non | _ => .non) = _
       rw [hr2]
       show (r.map V.int).getD j .non = _
       rw [List.getD_eq_getElem?_getD, List.getElem?_eq_getElem hp]
       rfl
      rw [e] at q2
      exact ⟨_, rfl, _, rfl, y, _, _, _, rfl, rfl, SqT.of (s2 _ _ hr2), atI_nat (List.getElem?_eq_getElem hp), q2⟩
     ·refine ⟨acc, _, rfl, .inl ⟨SqL.of upd_same, fun t ht => ?_⟩⟩
      rw [col_is RA2] at ht ⊢
      exact q' _ _ ((same_upd hacc).trans (same_upd ht)) ⟨j, t, rfl, rfl, upd_same⟩
    ·obtain ⟨ts, rfl, RT⟩ := rcol_rows (C := fun k => (r0 :: R').filterMap fun r => r[k]?) r0.length 0 pr
     refine ⟨acc, _, rfl, .inl ⟨SqL.of hvs, fun t ht => ?_⟩⟩
     have u := same_upd (o := .tup (ts.map V.ref)) ht
     refine k t ts _ (s1.trans (s'.trans u)) upd_same ?_
     have e : overZ (r0 :: R') = (List.range r0.length).map fun k => (r0 :: R').filterMap fun r => r[0 + k]? := by
      unfold overZ
      refine List.map_congr_left fun k _ => ?_
      rw [Nat.zero_add]
     rw [e]
     exact RT.same u
end
end K61
namespace K61
open PySem PySem.Spec PyProof.Rows L2
noncomputable abbrev s_rows_from_last : Stmt := top 7
section
variable {P : Program} {w : World} {K : PySem.W.Frag} {mg : Str -> Option Value} {base : Heap}
theorem sc_rows_from_last : FnScope ["other", "found"] ["other"] (defScope s_rows_from_last) := ⟨rfl, rfl, rfl, by decide +kernel, rfl, by decide +kernel, by decide +kernel⟩
theorem ok_rows_from_last {f : Addr} {fd : FuncData} (F : Fun K "rows_from_last" "rows_from_last" s_rows_from_last f fd) (T : Top mg) : FnOk P w K mg base CX0 1 f fd ["other"] spRfl := by
 refine F.ok sc_rows_from_last (fun vs H Q E h => ?_) (fun cdv A outer s H vs Q E hr h => ?_)
 ·obtain ⟨q, ys, R, m, rfl, _⟩ := h
  rfl
 ·obtain ⟨q, ys, R, m, rfl, hq, RA, pm, hm, k⟩ := h
  have hu1 := hu_of hr
  have nd0 : (num0 m).Nodup := num0_nodup' m
  have nd := pm.nodup_iff.mpr nd0
  have ln : R.flatten.length = m := by rw [pm.length_eq]; unfold num0; rw [List.length_map, List.length_range]
  refine ⟨_, (pss_cons (ps_set (i := 1) sc_rows_from_last.nd rfl (Or.inr rfl) (pe_dc2 (N' := ["at", "row", "place"]) (n := 3) (ix := []) rfl (CompScope.of (sc := defScope s_rows_from_last) (N := ["other", "found"]) (by decide +kernel) rfl rfl) (pi_enumT rfl T.n_enumerate (pa_cons (pv 0) pa_nil)) (fun _ _ _ _ _ => ⟨(pg_pairK K (i := 0) (j := 1) rfl rfl (show (["at", "row", "place"] : List Str).Nodup by decide +kernel) rfl rfl (Or.inl rfl) (Or.inl rfl) (Or.inr rfl) (Or.inr rfl)), pts_nil, pi_tupS K rfl (pv 1), (pg_name (i := 2) (show (["at", "row", "place"] : List Str).Nodup by decide +kernel) rfl (Or.inl rfl)), pts_nil, (pv 2), (pv 0)⟩)))
   (pss_one (ps_ret (pe_lc (N' := ["place", "found"]) (n := 1) (ix := [1]) rfl (CompScope.of (sc := defScope s_rows_from_last) (N := ["other", "found"]) (by decide +kernel) rfl rfl) (pi_rangeD rfl T.n_range (pa_cons (pe_op op_sub (pe_callB call_lenDK (by rfl) T.n_len PySem.boot_len (pa_cons (pv 1) pa_nil)) pe_int) (pa_cons (pe_un un_neg pe_int) (pa_cons (pe_un un_neg pe_int) pa_nil)))) (fun _ _ _ _ _ => ⟨(pg_name (i := 0) (show (["place", "found"] : List Str).Nodup by decide +kernel) rfl (Or.inl rfl)), pts_nil, (pe_dget hu1 (pv 1) (pv 0) (fun _ _ => rfl))⟩))))), ?_⟩
  refine ⟨_, rfl, q, rfl, ⟨_, SqT.of hq⟩, ?_⟩
  refine dc_enum hq RA nd (small1 (by (first | lia | omega))) (fun i y r G hy Rr hR => ⟨_, rfl, y, rfl, ⟨_, SqT.of hy⟩, hR⟩) (fun i y p G Q' q' => ⟨_, rfl, q'⟩) (fun i y p G Q' q' => ⟨_, rfl, q'⟩) fun acc G hacc sG hG => ?_
  refine ⟨_, rfl, acc, _, rfl, hG, _, _, rfl, rfl, _, rfl, _, rfl, _, _, rfl, ?_, ?_⟩
  ·rw [dkE_len, ln]
   (first | lia | omega)
  rw [dkE_len, ln]
  have hl : (dnV ((m : Int) - 1) ((m : Int) - 1 - -1).toNat).length = m := by unfold dnV; rw [List.length_map, List.length_range]; (first | lia | omega)
  refine lc_pure yields_down (small1 (by rw [hl]; (first | lia | omega))) (fun _ => true) (fun v => match v with | .int p => .int ((rowIx R p : Nat) : Int) | _ => .non) (fun _ _ => True.intro) (fun x hx G' s' Q' q' => by exact q') (fun x hx _ G' s' Q' q' => ?_) fun acc2 hacc2 => ?_
  ·obtain ⟨j, hj, rfl⟩ := List.mem_map.mp hx
   have hj := List.mem_range.mp hj
   have hmem : ((m : Int) - 1 - (j : Int)) ∈ R.flatten := pm.mem_iff.mpr (List.mem_map.mpr ⟨m - 1 - j, List.mem_range.mpr (by (first | lia | omega)), by (first | lia | omega)⟩)
   refine ⟨_, rfl, _, rfl, acc, _, rfl, ?_, q'⟩
   have := DGet.k (k := .inl ((m : Int) - 1 - (j : Int))) (s' _ _ hG)
   rw [dkE_val 0 R _ hmem, Nat.zero_add] at this
   exact this
  ·refine k acc2 _ (sG.trans (same_upd hacc2)) (sG.free hacc2) ?_
   rw [upd_same]
   congr 2
   rw [List.filter_eq_self.mpr (fun _ _ => rfl)]
   unfold dnV
   rw [List.map_map, List.map_map]
   refine List.ext_getElem (by simp) fun i h1 h2 => ?_
   rw [List.length_map, List.length_range] at h1
   simp only [List.getElem_map, List.getElem_range, List.getElem_reverse, List.length_range, Function.comp]
   congr 3
   (first | lia | omega)
end
end K61
namespace K61
open PySem PySem.Spec PyProof.Rows L2
noncomputable abbrev s_take_out : Stmt := top 8
section
variable {P : Program} {w : World} {K : PySem.W.Frag} {mg : Str -> Option Value} {base : Heap}
theorem sc_take_out : FnScope ["rows", "at", "going", "higher", "row", "column"] ["rows", "at"] (defScope s_take_out) := ⟨rfl, rfl, rfl, by decide +kernel, rfl, by decide +kernel, by decide +kernel⟩
set_option maxHeartbeats 4000000 in
theorem ok_take_out {f : Addr} {fd : FuncData} (F : Fun K "take_out" "take_out" s_take_out f fd) (T : Top mg) : FnOk P w K mg base CX0 1 f fd ["rows", "at"] spTakeO := by
 refine F.ok sc_take_out (fun vs H Q E h => ?_) (fun cdv A outer s H vs Q E hr h => ?_)
 ·obtain ⟨p, zs, R, k, rfl, _⟩ := h
  rfl
 ·obtain ⟨p, zs, R, k, rfl, hp, LA, nd, hpz, hl, hrl, hk, hw, fin⟩ := h
  have hzl := Paired.length LA
  refine ⟨_, (pss_cons (ps_set (i := 2) sc_take_out.nd rfl (Or.inr rfl) (pe_bm0 PySem.F.plainAttrs_list PySem.F.slot_list_pop PySem.F.type_list_pop mt_pop (pe_ix ix_list (pv 0) (pv 1) (fun _ _ => rfl))))
   (pss_cons (ps_for PassesOwn.never rfl (pi_rangeD rfl T.n_range (pa_cons (pe_op op_sub (pv 1) pe_int) (pa_cons (pe_un un_neg pe_int) (pa_cons (pe_un un_neg pe_int) pa_nil)))) (pg_name (i := 3) sc_take_out.nd rfl (Or.inl rfl))
    (pss_cons (ps_set (i := 4) sc_take_out.nd rfl (Or.inl rfl) (pe_ix ix_list (pv 0) (pv 3) (fun _ _ => rfl)))
    (pss_cons (ps_set (i := 5) sc_take_out.nd rfl (Or.inl rfl) (pe_op op_sub (pe_callB (call_sumL rfl) (by rfl) T.n_sum boot_sum (pa_cons (pe_lc (N' := ["standing", "going"]) (n := 1) (ix := [2]) rfl (CompScope.of (sc := defScope s_take_out) (N := ["rows", "at", "going", "higher", "row", "column"]) (by decide +kernel) rfl rfl) (pi_list (pv 4)) (fun _ _ _ _ _ => ⟨(pg_name (i := 0) (show (["standing", "going"] : List Str).Nodup by decide +kernel) rfl (Or.inl rfl)), (pts_one (pt_cmpR op_lt (pv 0) (pv 1) (nomark _))), pe_int⟩)) pa_nil)) pe_int))
    (pss_one (ps_asg (pe_tup (pa_cons (pv 2) (pa_cons (pe_ix ix_list (pv 4) (pv 5) (fun _ _ => rfl)) pa_nil))) (pg_tup rfl (pgs_cons (pg_sub (pv 4) (pv 5) set_list) (pgs_cons (pg_name (i := 2) sc_take_out.nd rfl (Or.inr rfl) (Or.inl rfl)) pgs_nil))))))))
   (pss_one (ps_ret (pv 2))))), ?_⟩
  obtain ⟨r, hr1⟩ : ∃ r, R[k]? = some r := ⟨_, List.getElem?_eq_getElem hk⟩
  obtain ⟨z, hz, hzr⟩ := LA.at hr1
  have hdr : R.drop k = r :: R.drop (k + 1) := drop_at hr1
  have hw0 := tkw_drop k 0 R (by rw [Nat.add_zero]; exact hw)
  rw [hdr] at hw0
  have hne : r ≠ [] := hw0
  have hrp : 0 < r.length := List.length_pos_iff.mpr hne
  have hlast : (r.map V.int)[(r.map V.int).length - 1]? = some (.int (r.getLastD 0)) := by
   rw [List.length_map, List.getElem?_map, List.getElem?_eq_getElem (by (first | lia | omega)), List.getLastD_eq_getLast?, List.getLast?_eq_getElem?, List.getElem?_eq_getElem (by (first | lia | omega))]
   rfl
  refine ⟨_, rfl, _, rfl, p, _, _, .ref z, rfl, rfl, SqL.of hp, atI_nat (by rw [List.getElem?_map, hz]; rfl), .inl ⟨rfl, _, SqL.of hzr⟩, z, _, _, rfl, rfl, hzr, hlast, ?_⟩
  have hzm : z ∈ zs := List.mem_of_getElem? hz
  have pz : ∀ {y}, y ∈ zs -> p ≠ y := fun h e => hpz (by rw [e]; exact h)
  have e0 : (r.map V.int).dropLast = r.dropLast.map V.int := List.map_dropLast.symm
  rw [e0]
  have fr0 : Frm H (upd H z (.lst (r.dropLast.map V.int))) p zs := Frm.upd (fun b o e _ _ => e) hzm
  have hp0 : (upd H z (.lst (r.dropLast.map V.int))) p = some (.lst (zs.map V.ref)) := by rw [upd_ne (pz hzm)]; exact hp
  have L0 : LsAt (upd H z (.lst (r.dropLast.map V.int))) zs (R.take (k - 0) ++ (takeR (R.drop (k - 0)) 0).1) := by
   have := LsAt.setAt (f := r.dropLast) LA nd hz
   have eR : R = R.take k ++ r :: R.drop (k + 1) := by rw [<- hdr, List.take_append_drop]
   rw [Nat.sub_zero, hdr]
   rw [eR, set_mid (by rw [List.length_take]; (first | lia | omega))] at this
   exact this
  have y0 : (takeR (R.drop (k - 0)) 0).2 = r.getLastD 0 := by rw [Nat.sub_zero, hdr]; rfl
  generalize upd H z (.lst (r.dropLast.map V.int)) = G0 at fr0 hp0 L0 ⊢
  refine ⟨_, rfl, _, _, rfl, rfl, _, rfl, _, rfl, _, _, rfl, ⟨by (first | lia | omega), by (first | lia | omega), by (first | lia | omega), by (first | lia | omega)⟩, ?_⟩
  have ek : ((k : Int) - 1 - -1).toNat = k := by (first | lia | omega)
  rw [ek]
  refine for_down (fun i σ G => ∃ (c3 c4 c5 : Option V), i <= k /\ σ = [some (.ref p), some (.int (k : Int)), some (.int (takeR (R.drop (k - i)) i).2), c3, c4, c5] /\ Frm H G p zs /\ G p = some (.lst (zs.map V.ref)) /\ LsAt G zs (R.take (k - i) ++ (takeR (R.drop (k - i)) i).1)) ⟨_, _, _, Nat.zero_le _, by rw [y0]; rfl, fr0, hp0, L0⟩ ?_ ?_
  ·rintro i σ G hi ⟨c3, c4, c5, _, rfl, fr, hG, LG⟩
   have hh : ((k : Int) - 1 - (i : Int)) = ((k - (i + 1) : Nat) : Int) := by (first | lia | omega)
   rw [hh]
   obtain ⟨r', hr'⟩ : ∃ r', R[k - (i + 1)]? = some r' := ⟨_, List.getElem?_eq_getElem (by (first | lia | omega))⟩
   have hd' : R.drop (k - (i + 1)) = r' :: R.drop (k - i) := by
    have := drop_at hr'
    rw [show k - (i + 1) + 1 = k - i by (first | lia | omega)] at this
    exact this
   have ht' : R.take (k - i) = R.take (k - (i + 1)) ++ [r'] := by
    rw [show k - i = (k - (i + 1)) + 1 by (first | lia | omega), List.take_succ, hr']
    rfl
   have hlt : (R.take (k - (i + 1))).length = k - (i + 1) := by rw [List.length_take]; (first | lia | omega)
   have hw' := tkw_drop (k - (i + 1)) (i + 1) R (by rw [show k - (i + 1) + (i + 1) = k by (first | lia | omega)]; exact hw)
   rw [hd'] at hw'
   have hc1 : 1 <= cntL r' (takeR (R.drop (k - i)) i).2 := hw'.2
   have hrle := hrl r' (List.mem_of_getElem? hr')
   have etk : takeR (R.drop (k - (i + 1))) (i + 1) = ((swpR r' (takeR (R.drop (k - i)) i).2).1 :: (takeR (R.drop (k - i)) i).1, (swpR r' (takeR (R.drop (k - i)) i).2).2) := by rw [hd']; rfl
   rw [ht', List.append_assoc] at LG
   generalize (takeR (R.drop (k - i)) i).2 = y at hc1 etk ⊢
   generalize (takeR (R.drop (k - i)) i).1 = D at LG etk ⊢
   have hF : (R.take (k - (i + 1)) ++ ([r'] ++ D))[k - (i + 1)]? = some r' := by
    rw [List.getElem?_append_right (by (first | lia | omega)), hlt, Nat.sub_self]
    rfl
   obtain ⟨z, hz, hzG⟩ := LG.at hF
   have hzm : z ∈ zs := List.mem_of_getElem? hz
   refine ⟨_, rfl, _, rfl, p, _, _, .ref z, rfl, rfl, SqL.of hG, atI_nat (by rw [List.getElem?_map, hz]; rfl), _, rfl, z, rfl, ⟨_, SqL.of hzG⟩, ?_⟩
   refine lc_pure (yields_list (xs := r'.map V.int)) (small1 (by rw [mapI_len]; (first | lia | omega))) (fun v => match v with | .int b => decide (b < y) | _ => false) (fun _ => .int 1) (fun H' s' => SqL.of (s' _ _ hzG)) (fun x hx H' s' Q' q => ?_) (fun x hx _ H' s' Q' q => by exact q) fun acc hacc => ?_
   ·obtain ⟨b, _, rfl⟩ := List.mem_map.mp hx
    exact ⟨_, rfl, _, rfl, _, _, rfl, rfl, _, rfl, q⟩
   ·have e1 : ((r'.map V.int).filter fun v => match v with | .int b => decide (b < y) | _ => false).map (fun _ => V.int 1) = (List.replicate (cntL r' y) (1 : Int)).map V.int := by
     rw [List.map_replicate, List.eq_replicate_iff]
     refine ⟨?_, fun b hb => by obtain ⟨c, _, rfl⟩ := List.mem_map.mp hb; rfl⟩
     unfold cntL
     rw [List.length_map, List.filter_map, List.length_map, List.countP_eq_length_filter]
     rfl
    refine ⟨acc, _, rfl, by rw [upd_same, e1], ?_⟩
    rw [ones_sum]
    have s2 := same_upd (o := .lst (((r'.map V.int).filter fun v => match v with | .int b => decide (b < y) | _ => false).map fun _ => V.int 1)) hacc
    have fr2 := fr.same s2
    have hG2 := s2 _ _ hG
    have LG2 := LG.same s2
    have hz2 := s2 _ _ hzG
    clear s2
    generalize upd G acc (.lst (((r'.map V.int).filter fun v => match v with | .int b => decide (b < y) | _ => false).map fun _ => V.int 1)) = G2 at fr2 hG2 LG2 hz2 ⊢
    have hcl := cntLe r' y
    have ec : ((cntL r' y : Nat) : Int) - 1 = ((cntL r' y - 1 : Nat) : Int) := by (first | lia | omega)
    have hlt2 : cntL r' y - 1 < r'.length := by (first | lia | omega)
    have hat : atI (r'.map V.int) ((cntL r' y - 1 : Nat) : Int) = some (.int (r'.getD (cntL r' y - 1) 0)) := by
     refine atI_nat ?_
     rw [List.getElem?_map, List.getElem?_eq_getElem hlt2, List.getD_eq_getElem?_getD, List.getElem?_eq_getElem hlt2]
     rfl
    refine ⟨_, _, rfl, rfl, _, rfl, _, rfl, _, rfl, z, _, ((cntL r' y : Nat) : Int) - 1, _, rfl, rfl, SqL.of hz2, ec ▸ hat, by show 2 <= sizeLine; decide, fun t2 ht2 => ?_⟩
    have s3 := same_upd (o := .tup [.int y, .int (r'.getD (cntL r' y - 1) 0)]) ht2
    have fr3 := fr2.same s3
    have hG3 := s3 _ _ hG2
    have LG3 := LG2.same s3
    have hz3 := s3 _ _ hz2
    refine ⟨t2, _, rfl, SqT.of upd_same, rfl, ?_⟩
    clear s3
    generalize upd G2 t2 (.tup [.int y, .int (r'.getD (cntL r' y - 1) 0)]) = G3 at fr3 hG3 LG3 hz3 ⊢
    refine ⟨_, _, rfl, _, rfl, _, rfl, z, _, _, _, rfl, rfl, hz3, ixN_of (by (first | lia | omega)) (by (first | lia | omega)), _, _, rfl, rfl, ?_⟩
    rw [show (((cntL r' y : Nat) : Int) - 1).toNat = cntL r' y - 1 by (first | lia | omega), <- List.map_set]
    refine ⟨_, _, _, hi, by rw [etk]; rfl, fr3.upd hzm, by rw [upd_ne (pz hzm)]; exact hG3, ?_⟩
    have := LsAt.setAt (f := r'.set (cntL r' y - 1) y) LG3 nd hz
    rw [show [r'] ++ D = r' :: D from rfl, set_mid hlt] at this
    rw [etk]
    exact this
  ·rintro σ G ⟨c3, c4, c5, _, rfl, fr, hG, LG⟩
   rw [Nat.sub_self] at LG ⊢
   exact ⟨_, rfl, fin G fr hG LG⟩
end
end K61
namespace K61
open PySem PySem.Spec PyProof.Rows L2
noncomputable abbrev s_order_of_tables : Stmt := top 6
section
variable {P : Program} {w : World} {K : PySem.W.Frag} {mg : Str -> Option Value} {base : Heap}
theorem sc_order_of_tables : FnScope ["one", "other", "rows", "numbers", "at"] ["one", "other"] (defScope s_order_of_tables) := ⟨rfl, rfl, rfl, by decide +kernel, rfl, by decide +kernel, by decide +kernel⟩
set_option maxHeartbeats 4000000 in
theorem ok_order_of_tables {f : Addr} {fd : FuncData} (F : Fun K "order_of_tables" "order_of_tables" s_order_of_tables f fd) (T : Top mg) (Crows_from_last : Cal P w K mg base 1 "rows_from_last" ["other"] spRfl) (Ctake_out : Cal P w K mg base 1 "take_out" ["rows", "at"] spTakeO) : FnOk P w K mg base CX0 2 f fd ["one", "other"] spOot := by
 refine F.ok sc_order_of_tables (fun vs H Q E h => ?_) (fun cdv A outer s H vs Q E hr h => ?_)
 ·obtain ⟨q1, q2, ys1, ys2, ns, m, rfl, _⟩ := h
  rfl
 ·obtain ⟨q1, q2, ys1, ys2, ns, m, rfl, hq1, hq2, R1, R2, ho, hm, k⟩ := h
  have ln := ho.len
  have ndn : ns.Nodup := ho.nodup
  obtain ⟨b1, b2, b3, b4⟩ := tabs_bnd (tabs_all ho m (Nat.le_refl _)) (by (first | lia | omega))
  obtain ⟨_, pm, tb⟩ := tk_back m ns ln ndn
  have tb := tb []
  have tv := tk_val m ns ln ndn []
  rw [List.append_nil] at tb tv
  have hl1 := Paired.length R1
  refine ⟨_, (pss_cons (ps_lcset (i := 2) rfl sc_order_of_tables.nd rfl rfl (N' := ["row"]) (n := 1) (ix := []) rfl (CompScope.of (sc := defScope s_order_of_tables) (N := ["one", "other", "rows", "numbers", "at"]) (by decide +kernel) rfl rfl) (pi_tup (pv 0)) (fun _ _ _ _ _ => ⟨(pg_name (i := 0) (show (["row"] : List Str).Nodup by decide +kernel) rfl (Or.inl rfl)), pts_nil, (pe_callTy (call_list_ofK K rfl) (by rfl) T.n_list boot_list (pa_cons (pv 0) pa_nil))⟩))
   (pss_cons (ps_set (i := 3) sc_order_of_tables.nd rfl (Or.inl rfl) (pe_lst pa_nil))
   (pss_cons (ps_for PassesOwn.never rfl (pi_list (pe_cal Crows_from_last (hr.mono (by decide)) rfl (pa_cons (pv 1) pa_nil))) (pg_name (i := 4) sc_order_of_tables.nd rfl (Or.inl rfl))
    (pss_one (ps_expr (pe_bm PySem.F.plainAttrs_list PySem.F.slot_list_append PySem.F.type_list_append mt_append (pv 3) (pa_cons (pe_cal Ctake_out (hr.mono (by decide)) rfl (pa_cons (pv 2) (pa_cons (pv 4) pa_nil))) pa_nil)))))
   (pss_one (ps_ret (pe_callTy call_tuple_of (by rfl) T.n_tuple boot_tuple (pa_cons (pe_rev rv_list (pv 3)) pa_nil))))))), ?_⟩
  refine ⟨_, rfl, q1, rfl, ⟨_, SqT.of hq1⟩, ?_⟩
  refine lc_listsN (yields_tup (xs := ys1.map V.ref)) (small1 (by rw [List.length_map]; (first | lia | omega))) (fun i => ((tabI ns m).1.getD i []).map V.int) (fun G s' => SqT.of (s' _ _ hq1)) (fun i x G hx s' QT q' => ?_) fun p zs G hp sG hG hzl hzn hz => ?_
  ·rw [List.getElem?_map] at hx
   cases ey : ys1[i]? with
   | none => rw [ey] at hx; cases hx
   | some y =>
    rw [ey] at hx
    cases hx
    obtain ⟨r, hr1, hr2⟩ := prd_get R1 ey
    refine ⟨_, rfl, y, _, rfl, .inr (SqT.of (s' _ _ hr2)), fun l hl => q' l _ hl ?_ (same_upd hl)⟩
    rw [upd_same, List.getD_eq_getElem?_getD, hr1]
    rfl
  rw [List.length_map] at hzl
  have LG : LsAt G zs (tabI ns m).1 := prd_mk (d := []) (by (first | lia | omega)) fun i z e => (hz i z e).1
  have hpz : p ∉ zs := fun h => by
   obtain ⟨j, hj⟩ := List.getElem?_of_mem h
   exact (hz j p hj).2.2 rfl
  have hzH : ∀ z ∈ zs, H z = none := fun z h => by
   obtain ⟨j, hj⟩ := List.getElem?_of_mem h
   exact (hz j z hj).2.1
  have hzG : ∀ z ∈ zs, ∃ o, G z = some o := fun z h => by
   obtain ⟨j, hj⟩ := List.getElem?_of_mem h
   exact ⟨_, (hz j z hj).1⟩
  refine ⟨Nat.zero_le _, fun nb hnb => ?_⟩
  have s1 := same_upd (o := .lst []) hnb
  have sG1 := sG.trans s1
  have hG1 := s1 _ _ hG
  have LG1 := LG.same s1
  have hnb1 : (upd G nb (.lst [])) nb = some (.lst (([] : List Int).map V.int)) := upd_same
  have nbp : nb ≠ p := fun e => by rw [e, hG] at hnb; cases hnb
  have nbz : nb ∉ zs := fun h => by obtain ⟨o, e⟩ := hzG nb h; rw [e] at hnb; cases hnb
  have nbH : H nb = none := sG.free hnb
  have hzG1 : ∀ z ∈ zs, ∃ o, (upd G nb (.lst [])) z = some o := fun z h => by obtain ⟨o, e⟩ := hzG z h; exact ⟨o, s1 _ _ e⟩
  clear s1
  generalize upd G nb (.lst []) = G1 at sG1 hG1 LG1 hnb1 hzG1 ⊢
  refine ⟨_, rfl, q2, ys2, (tabI ns m).2, m, rfl, sG1 _ _ hq2, R2.same sG1, pm, by (first | lia | omega), fun l G2 s2 hl hG2 => ?_⟩
  have lp : l ≠ p := fun e => by rw [e, hG1] at hl; cases hl
  have lnb : l ≠ nb := fun e => by rw [e, hnb1] at hl; cases hl
  have lz : l ∉ zs := fun h => by obtain ⟨o, e⟩ := hzG1 l h; rw [e] at hl; cases hl
  refine ⟨l, rfl, ⟨_, SqL.of hG2⟩, ?_⟩
  generalize hks : ((List.range m).reverse.map fun (j : Nat) => rowIx (tabI ns m).2 (j : Int)) = ks at tb tv
  have ek : ((List.range m).reverse.map fun (j : Nat) => ((rowIx (tabI ns m).2 (j : Int) : Nat) : Int)) = ks.map fun (k : Nat) => (k : Int) := by
   rw [<- hks, List.map_map]
   rfl
  rw [ek] at hG2
  have kl : ks.length = m := by rw [<- hks]; simp
  refine for_list (K := K) (xs := (ks.map fun (k : Nat) => (k : Int)).map V.int) (fun i σ G' => ∃ (c4 : Option V) (done : List Int) (R : List (List Int)), σ = [some (.ref q1), some (.ref q2), some (.ref p), some (.ref nb), c4] /\ Same H G' /\ G' l = some (.lst ((ks.map fun (k : Nat) => (k : Int)).map V.int)) /\ G' nb = some (.lst (done.map V.int)) /\ G' p = some (.lst (zs.map V.ref)) /\ LsAt G' zs R /\ done.length = i /\ R.length <= 60 /\ (∀ r ∈ R, r.length <= 60) /\ TkV R (ks.drop i) /\ done ++ tkAll R (ks.drop i) = ns.reverse)
   ⟨_, [], (tabI ns m).1, rfl, sG1.trans s2, hG2, s2 _ _ hnb1, s2 _ _ hG1, LG1.same s2, rfl, b1, b3, tv, by rw [List.drop_zero]; exact tb⟩ ?_ ?_ ?_
  ·rintro i σ G' _ ⟨c4, done, R, rfl, sm, hl', _⟩
   exact SqL.of hl'
  ·rintro i x σ G' hi ⟨c4, done, R, rfl, sm, hl', hnb', hp', LR, dl, rb1, rb2, vR, eR⟩
   obtain ⟨kk, hkk, rfl⟩ : ∃ kk : Nat, ks[i]? = some kk /\ V.int (kk : Int) = x := by
    rw [List.getElem?_map, List.getElem?_map] at hi
    cases e : ks[i]? with
    | none => rw [e] at hi; cases hi
    | some z => rw [e] at hi; exact ⟨z, rfl, Option.some.inj hi⟩
   have hdr : ks.drop i = kk :: ks.drop (i + 1) := by
    obtain ⟨hl, e⟩ := List.getElem?_eq_some_iff.mp hkk
    rw [List.drop_eq_getElem_cons hl, e]
   have hil := (List.getElem?_eq_some_iff.mp hkk).1
   rw [hdr] at vR eR
   obtain ⟨v1, v2, v3⟩ := vR
   obtain ⟨t1, t2⟩ := take_bnd 60 R kk
   refine ⟨_, rfl, .inl ⟨rfl, _, SqL.of hnb'⟩, _, rfl, _, rfl, p, zs, R, kk, rfl, hp', LR, hzn, hpz, by (first | lia | omega), fun r hr => by have := rb2 r hr; (first | lia | omega), v1, v2, fun G3 fr hp3 L3 => ?_⟩
   have sm3 : Same H G3 := fun b o e => fr b o (sm b o e) (fun z => by rw [z, hp] at e; cases e) (fun z => by rw [hzH b z] at e; cases e)
   have hnb3 := fr _ _ hnb' nbp nbz
   have hl3 := fr _ _ hl' lp lz
   refine ⟨nb, _, _, rfl, rfl, hnb3, small1 (by rw [mapI_len]; (first | lia | omega)), ?_⟩
   have ez : done.map V.int ++ [V.int (takeR R kk).2] = (done ++ [(takeR R kk).2]).map V.int := by rw [List.map_append]; rfl
   rw [ez]
   refine ⟨_, done ++ [(takeR R kk).2], (takeR R kk).1, rfl, same_updR sm3 nbH, ?_, upd_same, ?_, LsAt.off L3 nbz, by rw [List.length_append, dl]; rfl, by (first | lia | omega), t2 rb2, v3, ?_⟩
   ·rw [upd_ne lnb]
    exact hl3
   ·rw [upd_ne nbp.symm]
    exact hp3
   ·rw [List.append_assoc]
    exact eR
  ·rintro σ G' ⟨c4, done, R, rfl, sm, hl', hnb', hp', LR, dl, rb1, rb2, vR, eR⟩
   rw [List.length_map, List.length_map, List.drop_length] at eR
   have ed : done = ns.reverse := by
    rw [<- eR]
    show done = done ++ []
    rw [List.append_nil]
   subst ed
   refine ⟨_, rfl, nb, _, rfl, SqL.of hnb', fun p2 hp2 => ⟨p2, _, rfl, .inl ⟨SqL.of upd_same, fun t ht => ?_⟩⟩⟩
   have s4 := (same_upd (o := .lst (ns.reverse.map V.int).reverse) hp2).trans (same_upd (o := .tup (ns.reverse.map V.int).reverse) ht)
   refine k t _ (sm.trans s4) ?_
   rw [upd_same, <- List.map_reverse, List.reverse_reverse]
end
end K61
namespace L2
open PySem PySem.Spec PyProof.Rows
end L2
namespace K61
open PySem PySem.Spec PyProof.Rows L2
section
variable {P : Program} {w : World} {K : PySem.W.Frag} {mg : Str -> Option Value} {base : Heap}
end
end K61
namespace K61
open PySem PySem.Spec PyProof.Rows L2
noncomputable abbrev s_as_table : Stmt := top 4
noncomputable abbrev s_put_in : Stmt := top 5
section
variable {P : Program} {w : World} {K : PySem.W.Frag} {mg : Str -> Option Value} {base : Heap}
theorem sc_as_table : FnScope ["rows"] ["rows"] (defScope s_as_table) := ⟨rfl, rfl, rfl, by decide +kernel, rfl, by decide +kernel, by decide +kernel⟩
theorem ok_as_table {f : Addr} {fd : FuncData} (F : Fun K "as_table" "as_table" s_as_table f fd) (T : Top mg) : FnOk P w K mg base CX0 1 f fd ["rows"] spAsT := by
 refine F.ok sc_as_table (fun vs H Q E h => ?_) (fun cdv A outer s H vs Q E hr h => ?_)
 ·obtain ⟨p, zs, R, rfl, _⟩ := h
  rfl
 ·obtain ⟨p, zs, R, rfl, hp, LA, hl, k⟩ := h
  have hzl := Paired.length LA
  refine ⟨_, (pss_one (ps_ret (pe_callTy call_tuple_of (by rfl) T.n_tuple boot_tuple (pa_cons (pe_lc (N' := ["row"]) (n := 1) (ix := []) rfl (CompScope.of (sc := defScope s_as_table) (N := ["rows"]) (by decide +kernel) rfl rfl) (pi_list (pv 0)) (fun _ _ _ _ _ => ⟨(pg_name (i := 0) (show (["row"] : List Str).Nodup by decide +kernel) rfl (Or.inl rfl)), pts_nil, (pe_callTy (call_tupK K rfl) (by rfl) T.n_tuple boot_tuple (pa_cons (pv 0) pa_nil))⟩)) pa_nil)))), ?_⟩
  refine ⟨_, rfl, p, rfl, ⟨_, SqL.of hp⟩, ?_⟩
  refine lc_grow (yields_list (xs := zs.map V.ref)) (small1 (by rw [List.length_map]; (first | lia | omega))) (fun x v G => RTup H x v G) (fun x v G G' st h => ?_) (fun G s' => SqL.of (s' _ _ hp)) (fun x hx G s' Q' q' => ?_) fun acc vs G hacc sG hG PV => ?_
  ·obtain ⟨z, t, f, e1, e2, e3, e4⟩ := h
   exact ⟨z, t, f, e1, e2, e3, st _ _ e4⟩
  ·obtain ⟨z, hz, rfl⟩ := List.mem_map.mp hx
   obtain ⟨j, hj⟩ := List.getElem?_of_mem hz
   obtain ⟨r, hr1, hr2⟩ := prd_get LA hj
   refine ⟨_, rfl, z, _, rfl, .inl ⟨SqL.of (s' _ _ hr2), fun l hl' => ?_⟩⟩
   exact q' _ _ (same_upd hl') ⟨z, l, r, rfl, rfl, hr2, upd_same⟩
  ·obtain ⟨ts, rfl, RT⟩ := rtup_rows LA PV
   refine ⟨acc, _, rfl, .inl ⟨SqL.of hG, fun l hl' => ?_⟩⟩
   exact k l ts _ (sG.trans (same_upd hl')) upd_same (RT.same (same_upd hl'))
theorem sc_put_in : FnScope ["rows", "number", "going", "at", "row", "column"] ["rows", "number"] (defScope s_put_in) := ⟨rfl, rfl, rfl, by decide +kernel, rfl, by decide +kernel, by decide +kernel⟩
set_option maxHeartbeats 4000000 in
theorem ok_put_in {f : Addr} {fd : FuncData} (F : Fun K "put_in" "put_in" s_put_in f fd) (T : Top mg) : FnOk P w K mg base CX0 1 f fd ["rows", "number"] spPutIn := by
 refine F.ok sc_put_in (fun vs H Q E h => ?_) (fun cdv A outer s H vs Q E hr h => ?_)
 ·obtain ⟨p, zs, R, x, rfl, _⟩ := h
  rfl
 ·obtain ⟨p, zs, R, x, rfl, hp, LA, nd, hpz, hl, hrl, k⟩ := h
  have hzl := Paired.length LA
  refine ⟨_, (pss_cons (ps_set (i := 2) sc_put_in.nd rfl (Or.inr rfl) (pv 1))
   (pss_cons (ps_for PassesOwn.never rfl (pi_enumL rfl T.n_enumerate (pa_cons (pv 0) pa_nil)) (pg_pair (i := 3) (j := 4) rfl sc_put_in.nd rfl rfl (Or.inl rfl) (Or.inl rfl) (Or.inl rfl) (Or.inl rfl))
    (pss_cons (ps_set (i := 5) sc_put_in.nd rfl (Or.inl rfl) (pe_callB (call_sumL rfl) (by rfl) T.n_sum boot_sum (pa_cons (pe_lc (N' := ["standing", "going"]) (n := 1) (ix := [2]) rfl (CompScope.of (sc := defScope s_put_in) (N := ["rows", "number", "going", "at", "row", "column"]) (by decide +kernel) rfl rfl) (pi_list (pv 4)) (fun _ _ _ _ _ => ⟨(pg_name (i := 0) (show (["standing", "going"] : List Str).Nodup by decide +kernel) rfl (Or.inl rfl)), (pts_one (pt_cmpR op_lt (pv 0) (pv 1) (nomark _))), pe_int⟩)) pa_nil)))
    (pss_cons (ps_if (pt_cmpR op_eq (pv 5) (pe_callB call_len_seq (by rfl) T.n_len PySem.boot_len (pa_cons (pv 4) pa_nil)) (nomark _))
     (pss_cons (ps_expr (pe_bm PySem.F.plainAttrs_list PySem.F.slot_list_append PySem.F.type_list_append mt_append (pv 4) (pa_cons (pv 2) pa_nil)))
     (pss_one (ps_ret (pv 3))))
     pss_nil)
    (pss_one (ps_asg (pe_tup (pa_cons (pv 2) (pa_cons (pe_ix ix_list (pv 4) (pv 5) (fun _ _ => rfl)) pa_nil))) (pg_tup rfl (pgs_cons (pg_sub (pv 4) (pv 5) set_list) (pgs_cons (pg_name (i := 2) sc_put_in.nd rfl (Or.inr rfl) (Or.inl rfl)) pgs_nil))))))))
   (pss_cons (ps_expr (pe_bm PySem.F.plainAttrs_list PySem.F.slot_list_append PySem.F.type_list_append mt_append (pv 0) (pa_cons (pe_lst (pa_cons (pv 2) pa_nil)) pa_nil)))
   (pss_one (ps_ret (pe_op op_sub (pe_callB call_len_seq (by rfl) T.n_len PySem.boot_len (pa_cons (pv 0) pa_nil)) pe_int)))))), ?_⟩
  refine ⟨_, rfl, _, rfl, p, rfl, ⟨_, SqL.of hp⟩, ?_⟩
  refine for_enumL (K := K) (xs := zs.map V.ref) (fun i σ G => ∃ (R1 : List (List Int)) (y : Int) (c3 c4 c5 : Option V), σ = [some (.ref p), some (.int x), some (.int y), c3, c4, c5] /\ Frm H G p zs /\ G p = some (.lst (zs.map V.ref)) /\ LsAt G zs (R1 ++ R.drop i) /\ Bmp R x i R1 y) ⟨[], x, _, _, _, rfl, (fun b o e _ _ => e), hp, LA, bmp_0 R x⟩ ?_ ?_ ?_
  ·rintro i σ G _ ⟨R1, y, c3, c4, c5, rfl, _, hG, _⟩
   exact SqL.of hG
  ·rintro i v t σ G hi ⟨R1, y, c3, c4, c5, rfl, fr, hG, LG, bm⟩ ht
   obtain ⟨z, hz, rfl⟩ : ∃ z, zs[i]? = some z /\ V.ref z = v := by
    rw [List.getElem?_map] at hi
    cases e : zs[i]? with
    | none => rw [e] at hi; cases hi
    | some z => rw [e] at hi; exact ⟨z, rfl, Option.some.inj hi⟩
   obtain ⟨r, hr1, _⟩ := prd_get LA hz
   have hrle := hrl r (List.mem_of_getElem? hr1)
   have hb1 := bm.1
   have hRi : (R1 ++ R.drop i)[i]? = some r := by
    rw [List.getElem?_append_right (by (first | lia | omega)), hb1, Nat.sub_self, drop_at hr1]
    rfl
   obtain ⟨r', e1, hzG⟩ := prd_get LG hz
   rw [hRi] at e1
   cases e1
   have st := same_upd (o := .tup [.int (i : Int), .ref z]) ht
   refine ⟨t, _, rfl, SqT.of upd_same, rfl, _, _, rfl, _, _, rfl, rfl, ?_⟩
   have fr1 := fr.same st
   have hG1 := st _ _ hG
   have LG1 := LG.same st
   have hz1 := st _ _ hzG
   have ln1 : ∀ b, upd G t (.tup [.int (i : Int), .ref z]) b = none -> G b = none := fun b hb => st.free hb
   clear st
   generalize upd G t (.tup [.int (i : Int), .ref z]) = G1 at fr1 hG1 LG1 hz1 ⊢
   refine ⟨_, rfl, z, rfl, ⟨_, SqL.of hz1⟩, ?_⟩
   refine lc_pure (yields_list (xs := r.map V.int)) (small1 (by rw [mapI_len]; (first | lia | omega))) (fun v => match v with | .int b => decide (b < y) | _ => false) (fun _ => .int 1) (fun H' s' => SqL.of (s' _ _ hz1)) (fun x hx H' s' Q' q => ?_) (fun x hx _ H' s' Q' q => by exact q) fun acc hacc => ?_
   ·obtain ⟨b, _, rfl⟩ := List.mem_map.mp hx
    exact ⟨_, rfl, _, rfl, _, _, rfl, rfl, _, rfl, q⟩
   ·have e1 : ((r.map V.int).filter fun v => match v with | .int b => decide (b < y) | _ => false).map (fun _ => V.int 1) = (List.replicate (cntL r y) (1 : Int)).map V.int := by
     rw [List.map_replicate, List.eq_replicate_iff]
     refine ⟨?_, fun b hb => by obtain ⟨c, _, rfl⟩ := List.mem_map.mp hb; rfl⟩
     unfold cntL
     rw [List.length_map, List.filter_map, List.length_map, List.countP_eq_length_filter]
     rfl
    refine ⟨acc, _, rfl, by rw [upd_same, e1], ?_⟩
    rw [ones_sum]
    have s2 := same_upd (o := .lst (((r.map V.int).filter fun v => match v with | .int b => decide (b < y) | _ => false).map fun _ => V.int 1)) hacc
    have fr2 := fr1.same s2
    have hG2 := s2 _ _ hG1
    have LG2 := LG1.same s2
    have hz2 := s2 _ _ hz1
    clear s2
    generalize upd G1 acc (.lst (((r.map V.int).filter fun v => match v with | .int b => decide (b < y) | _ => false).map fun _ => V.int 1)) = G2 at fr2 hG2 LG2 hz2 ⊢
    refine ⟨_, rfl, _, rfl, z, _, rfl, .inl (SqL.of hz2), rfl, _, rfl, ite2 (fun hc => ?_) (fun hc => ?_)⟩
    ·have hc' : cntL r y = r.length := by
      rw [mapI_len, dec_int] at hc
      have := eq_of_beq hc
      (first | lia | omega)
     refine ⟨_, rfl, .inl ⟨rfl, _, SqL.of hz2⟩, _, rfl, z, _, _, rfl, rfl, hz2, small1 (by rw [mapI_len]; (first | lia | omega)), ?_⟩
     have hf := bm.fin hr1 hc'
     have hzm : z ∈ zs := List.mem_of_getElem? hz
     have ez : r.map V.int ++ [V.int y] = (r ++ [y]).map V.int := by rw [List.map_append]; rfl
     rw [ez]
     refine ⟨_, rfl, ?_⟩
     have hk := k zs (upd G2 z (.lst ((r ++ [y]).map V.int))) (fr2.upd hzm) (by rw [upd_ne (show p ≠ z from fun e => hpz (by rw [e]; exact hzm))]; exact hG2) ?_ nd hpz (fun z hz => .inl hz)
     ·rw [hf] at hk
      exact hk
     ·rw [hf]
      have := LsAt.setAt (f := r ++ [y]) LG2 nd hz
      rw [drop_at hr1, set_mid hb1] at this
      exact this
    ·have hc' : ¬ cntL r y = r.length := fun z => hc (by rw [mapI_len, dec_int, z]; simp)
     have hlt : cntL r y < r.length := by
      have := cntLe r y
      (first | lia | omega)
     have hzm : z ∈ zs := List.mem_of_getElem? hz
     have hat : atI (r.map V.int) ((cntL r y : Nat) : Int) = some (.int (r.getD (cntL r y) 0)) := by
      refine atI_nat ?_
      rw [List.getElem?_map, List.getElem?_eq_getElem hlt, List.getD_eq_getElem?_getD, List.getElem?_eq_getElem hlt]
      rfl
     refine ⟨_, rfl, _, rfl, _, rfl, z, _, _, _, rfl, rfl, SqL.of hz2, hat, by show 2 <= sizeLine; decide, fun t2 ht2 => ?_⟩
     have s3 := same_upd (o := .tup [.int y, .int (r.getD (cntL r y) 0)]) ht2
     have fr3 := fr2.same s3
     have hG3 := s3 _ _ hG2
     have LG3 := LG2.same s3
     have hz3 := s3 _ _ hz2
     refine ⟨t2, _, rfl, SqT.of upd_same, rfl, ?_⟩
     clear s3
     generalize upd G2 t2 (.tup [.int y, .int (r.getD (cntL r y) 0)]) = G3 at fr3 hG3 LG3 hz3 ⊢
     refine ⟨_, _, rfl, _, rfl, _, rfl, z, _, _, _, rfl, rfl, hz3, ixN_of (by (first | lia | omega)) (by (first | lia | omega)), _, _, rfl, rfl, ?_⟩
     rw [Int.toNat_natCast, <- List.map_set]
     refine ⟨R1 ++ [r.set (cntL r y) y], r.getD (cntL r y) 0, _, _, _, rfl, fr3.upd hzm, by rw [upd_ne (show p ≠ z from fun e => hpz (by rw [e]; exact hzm))]; exact hG3, ?_, bm.step hr1 hc'⟩
     have := LsAt.setAt (f := r.set (cntL r y) y) LG3 nd hz
     rw [drop_at hr1, set_mid hb1] at this
     rw [List.append_assoc]
     exact this
  ·rintro σ G ⟨R1, y, c3, c4, c5, rfl, fr, hG, LG, bm⟩
   rw [List.length_map, hzl] at bm LG
   have hf := bm.last
   rw [List.drop_length, List.append_nil] at LG
   refine ⟨_, rfl, .inl ⟨rfl, _, SqL.of hG⟩, _, rfl, by show 1 <= sizeLine; decide, fun l hl' => ?_⟩
   have u1 := same_upd (o := .lst [.int y]) hl'
   have pl : p ≠ l := ne_of_none hG hl'
   have lz : l ∉ zs := fun hm => by
    obtain ⟨j, hj⟩ := List.getElem?_of_mem hm
    obtain ⟨r', _, e2⟩ := prd_get LG hj
    rw [hl'] at e2
    cases e2
   have hl0 : H l = none := by
    cases e : H l with
    | none => rfl
    | some o =>
     rw [fr l o e (Ne.symm pl) lz] at hl'
     cases hl'
   refine ⟨p, _, _, rfl, rfl, u1 _ _ hG, small1 (by rw [List.length_map]; (first | lia | omega)), ?_⟩
   have hG2 := @upd_same (upd G l (.lst [.int y])) p (.lst (zs.map V.ref ++ [.ref l]))
   have ez : zs.map V.ref ++ [V.ref l] = (zs ++ [l]).map V.ref := by rw [List.map_append]; rfl
   rw [ez] at hG2 ⊢
   refine ⟨_, rfl, p, _, rfl, .inl (SqL.of hG2), _, _, rfl, rfl, ?_⟩
   have hk := k (zs ++ [l]) (upd (upd G l (.lst [.int y])) p (.lst ((zs ++ [l]).map V.ref))) ((fr.same u1).updP) hG2 ?_ (List.nodup_append.mpr ⟨nd, by simp, fun a h1 b h2 e => lz (by rw [<- List.mem_singleton.mp h2, <- e]; exact h1)⟩) (fun h => ?_) (fun z hz => ?_)
   ·rw [hf] at hk
    have e2 : ((((zs ++ [l]).map V.ref).length : Int) - 1) = ((R.length : Nat) : Int) := by
     rw [List.length_map, List.length_append, hzl]
     show ((R.length + 1 : Nat) : Int) - 1 = _
     (first | lia | omega)
    show Q (V.int ((((zs ++ [l]).map V.ref).length : Int) - 1)) _
    rw [e2]
    exact hk
   ·rw [hf]
    exact Paired.append (LsAt.off (LG.same u1) hpz) (.cons (by rw [upd_ne (Ne.symm pl), upd_same]; rfl) .nil)
   ·rcases List.mem_append.mp h with h | h
    ·exact hpz h
    ·exact pl (List.mem_singleton.mp h)
   ·rcases List.mem_append.mp hz with h | h
    ·exact .inl h
    ·rw [List.mem_singleton.mp h]
     exact .inr hl0
end
end K61
namespace L2
open PySem PySem.Spec PyProof.Rows
structure TwoT (H G : Hp) (p1 p2 : Addr) (zs1 zs2 : List Addr) (P Q : List (List Int)) : Prop where
 sm : Same H G
 h1 : G p1 = some (.lst (zs1.map V.ref))
 h2 : G p2 = some (.lst (zs2.map V.ref))
 l1 : LsAt G zs1 P
 l2 : LsAt G zs2 Q
 n1 : zs1.Nodup
 n2 : zs2.Nodup
 d : ∀ z ∈ zs1, z ∉ zs2
 p11 : p1 ∉ zs1
 p12 : p1 ∉ zs2
 p21 : p2 ∉ zs1
 p22 : p2 ∉ zs2
 pp : p1 ≠ p2
 q1 : H p1 = none
 q2 : H p2 = none
 z1 : ∀ z ∈ zs1, H z = none
 z2 : ∀ z ∈ zs2, H z = none
theorem TwoT.swap {H G : Hp} {p1 p2 : Addr} {zs1 zs2 : List Addr} {P Q : List (List Int)} (t : TwoT H G p1 p2 zs1 zs2 P Q) : TwoT H G p2 p1 zs2 zs1 Q P :=
 ⟨t.sm, t.h2, t.h1, t.l2, t.l1, t.n2, t.n1, fun z h2 h1 => t.d z h1 h2, t.p22, t.p21, t.p12, t.p11, Ne.symm t.pp, t.q2, t.q1, t.z2, t.z1⟩
theorem TwoT.same {H G G' : Hp} {p1 p2 : Addr} {zs1 zs2 : List Addr} {P Q : List (List Int)} (t : TwoT H G p1 p2 zs1 zs2 P Q) (s : Same G G') : TwoT H G' p1 p2 zs1 zs2 P Q :=
 ⟨t.sm.trans s, s _ _ t.h1, s _ _ t.h2, t.l1.same s, t.l2.same s, t.n1, t.n2, t.d, t.p11, t.p12, t.p21, t.p22, t.pp, t.q1, t.q2, t.z1, t.z2⟩
theorem LsAt.there {H : Hp} {zs : List Addr} {F : List (List Int)} (h : LsAt H zs F) {z : Addr} (hz : z ∈ zs) : ∃ f : List Int, H z = some (.lst (f.map V.int)) := by
 obtain ⟨j, hj⟩ := List.getElem?_of_mem hz
 obtain ⟨f, _, e⟩ := prd_get h hj
 exact ⟨f, e⟩
theorem LsAt.frm {H G : Hp} {zs : List Addr} {F : List (List Int)} (h : LsAt H zs F) (k : ∀ z ∈ zs, ∀ o, H z = some o -> G z = some o) : LsAt G zs F := by
 induction h with
 | nil => exact .nil
 | cons h1 h2 ih => exact .cons (k _ List.mem_cons_self _ h1) (ih fun z hz => k z (List.mem_cons_of_mem _ hz))
theorem TwoT.put {H G G' : Hp} {p1 p2 : Addr} {zs1 zs2 zs' : List Addr} {P Q P' : List (List Int)} (t : TwoT H G p1 p2 zs1 zs2 P Q) (fr : Frm G G' p1 zs1) (h1 : G' p1 = some (.lst (zs'.map V.ref))) (l1 : LsAt G' zs' P') (nd : zs'.Nodup) (hp : p1 ∉ zs') (hz : ∀ z ∈ zs', z ∈ zs1 ∨ G z = none) : TwoT H G' p1 p2 zs' zs2 P' Q := by
 have sm : Same H G' := fun b o e => fr b o (t.sm b o e) (fun z => by rw [z, t.q1] at e; cases e) fun z => by rw [t.z1 b z] at e; cases e
 refine ⟨sm, h1, fr _ _ t.h2 (Ne.symm t.pp) t.p21, l1, t.l2.frm fun z hz2 o e => fr z o e (fun e' => t.p12 (e' ▸ hz2)) fun h => t.d z h hz2, nd, t.n2, fun z hz1 hz2 => ?_, hp, t.p12, fun h => ?_, t.p22, t.pp, t.q1, t.q2, fun z h => ?_, t.z2⟩
 ·rcases hz z hz1 with h | h
  ·exact t.d z h hz2
  ·obtain ⟨f, e⟩ := t.l2.there hz2
   rw [h] at e
   cases e
 ·rcases hz p2 h with h | h
  ·exact t.p21 h
  ·rw [t.h2] at h
   cases h
 ·rcases hz z h with h | h
  ·exact t.z1 z h
  ·exact t.sm.free h
theorem TwoT.set1 {H G : Hp} {p1 p2 : Addr} {zs1 zs2 : List Addr} {P Q : List (List Int)} {i : Nat} {z : Addr} {f : List Int} (t : TwoT H G p1 p2 zs1 zs2 P Q) (hz : zs1[i]? = some z) : TwoT H (upd G z (.lst (f.map V.int))) p1 p2 zs1 zs2 (P.set i f) Q := by
 have hm : z ∈ zs1 := List.mem_of_getElem? hz
 have e1 : p1 ≠ z := fun e => t.p11 (by rw [e]; exact hm)
 have e2 : p2 ≠ z := fun e => t.p21 (by rw [e]; exact hm)
 exact ⟨same_updR t.sm (t.z1 z hm), by rw [upd_ne e1]; exact t.h1, by rw [upd_ne e2]; exact t.h2, LsAt.setAt t.l1 t.n1 hz, LsAt.off t.l2 (t.d z hm), t.n1, t.n2, t.d, t.p11, t.p12, t.p21, t.p22, t.pp, t.q1, t.q2, t.z1, t.z2⟩
theorem TwoT.app1 {H G : Hp} {p1 p2 : Addr} {zs1 zs2 : List Addr} {P Q : List (List Int)} {l : Addr} {f : List Int} (t : TwoT H G p1 p2 zs1 zs2 P Q) (hl : G l = none) : TwoT H (upd (upd G l (.lst (f.map V.int))) p1 (.lst ((zs1 ++ [l]).map V.ref))) p1 p2 (zs1 ++ [l]) zs2 (P ++ [f]) Q := by
 have u := same_upd (o := .lst (f.map V.int)) hl
 have pl : p1 ≠ l := ne_of_none t.h1 hl
 have pl2 : p2 ≠ l := ne_of_none t.h2 hl
 have lz1 : l ∉ zs1 := fun h => by
  obtain ⟨f, e⟩ := t.l1.there h
  rw [hl] at e
  cases e
 have lz2 : l ∉ zs2 := fun h => by
  obtain ⟨f, e⟩ := t.l2.there h
  rw [hl] at e
  cases e
 refine ⟨same_updR (t.sm.trans u) t.q1, upd_same, by rw [upd_ne (Ne.symm t.pp)]; exact u _ _ t.h2, Paired.append (LsAt.off (t.l1.same u) t.p11) (.cons (by rw [upd_ne (Ne.symm pl), upd_same]) .nil), LsAt.off (t.l2.same u) t.p12, List.nodup_append.mpr ⟨t.n1, by simp, fun a h1 b h2 e => lz1 (by rw [<- List.mem_singleton.mp h2, <- e]; exact h1)⟩, t.n2, fun z h => ?_, fun h => ?_, t.p12, fun h => ?_, t.p22, t.pp, t.q1, t.q2, fun z h => ?_, t.z2⟩
 ·rcases List.mem_append.mp h with h | h
  ·exact t.d z h
  ·rw [List.mem_singleton.mp h]
   exact lz2
 ·rcases List.mem_append.mp h with h | h
  ·exact t.p11 h
  ·exact pl (List.mem_singleton.mp h)
 ·rcases List.mem_append.mp h with h | h
  ·exact t.p21 h
  ·exact pl2 (List.mem_singleton.mp h)
 ·rcases List.mem_append.mp h with h | h
  ·exact t.z1 z h
  ·rw [List.mem_singleton.mp h]
   exact t.sm.free hl
theorem add_last : ∀ (Q : List (List Int)) (p : Int), addAt Q Q.length p = Q ++ [[p]]
 | [], _ => rfl
 | s :: Q, p => by
  show s :: addAt Q Q.length p = _
  rw [add_last Q p]
  rfl
theorem add_set : ∀ (Q : List (List Int)) (k : Nat) (p : Int) {q : List Int}, Q[k]? = some q -> addAt Q k p = Q.set k (q ++ [p])
 | [], _, _, _, h => by cases h
 | s :: Q, 0, p, q, h => by cases h; rfl
 | s :: Q, k + 1, p, q, h => by
  show s :: addAt Q k p = s :: Q.set k (q ++ [p])
  rw [add_set Q k p h]
end L2
namespace K61
open PySem PySem.Spec PyProof.Rows L2
noncomputable abbrev s_tables : Stmt := top 3
section
variable {P : Program} {w : World} {K : PySem.W.Frag} {mg : Str -> Option Value} {base : Heap}
theorem sc_tables : FnScope ["order", "one", "other", "place", "number", "at"] ["order"] (defScope s_tables) := ⟨rfl, rfl, rfl, by decide +kernel, rfl, by decide +kernel, by decide +kernel⟩
set_option maxHeartbeats 4000000 in
theorem ok_tables {f : Addr} {fd : FuncData} (F : Fun K "tables" "tables" s_tables f fd) (T : Top mg) (Cput_in : Cal P w K mg base 1 "put_in" ["rows", "number"] spPutIn) (Cas_table : Cal P w K mg base 1 "as_table" ["rows"] spAsT) : FnOk P w K mg base CX0 2 f fd ["order"] spTabs := by
 refine F.ok sc_tables (fun vs H Q E h => ?_) (fun cdv A outer s H vs Q E hr h => ?_)
 ·obtain ⟨a, ns, m, rfl, _⟩ := h
  rfl
 ·obtain ⟨a, ns, m, rfl, ha, ho, hm, k⟩ := h
  have ln := ho.len
  have bnd : ∀ i, i <= m -> (tabI ns i).1.length <= 60 /\ (tabI ns i).2.length <= 60 /\ (∀ r ∈ (tabI ns i).1, r.length <= 60) /\ (∀ r ∈ (tabI ns i).2, r.length <= 60) := fun i hi => tabs_bnd (tabs_all ho i hi) (by (first | lia | omega))
  refine ⟨_, (pss_cons (ps_set (i := 1) sc_tables.nd rfl (Or.inl rfl) (pe_lst pa_nil))
   (pss_cons (ps_set (i := 2) sc_tables.nd rfl (Or.inl rfl) (pe_lst pa_nil))
   (pss_cons (ps_for PassesOwn.never rfl (pi_enumT rfl T.n_enumerate (pa_cons (pv 0) pa_nil)) (pg_pair (i := 3) (j := 4) rfl sc_tables.nd rfl rfl (Or.inl rfl) (Or.inl rfl) (Or.inl rfl) (Or.inl rfl))
    (pss_cons (ps_set (i := 5) sc_tables.nd rfl (Or.inl rfl) (pe_cal Cput_in (hr.mono (by decide)) rfl (pa_cons (pv 1) (pa_cons (pv 4) pa_nil))))
    (pss_cons (ps_if (pt_cmpR op_eq (pv 5) (pe_callB call_len_seq (by rfl) T.n_len PySem.boot_len (pa_cons (pv 2) pa_nil)) (nomark _))
     (pss_one (ps_expr (pe_bm PySem.F.plainAttrs_list PySem.F.slot_list_append PySem.F.type_list_append mt_append (pv 2) (pa_cons (pe_lst pa_nil) pa_nil))))
     pss_nil)
    (pss_one (ps_expr (pe_bm PySem.F.plainAttrs_list PySem.F.slot_list_append PySem.F.type_list_append mt_append (pe_ix ix_list (pv 2) (pv 5) (fun _ _ => rfl)) (pa_cons (pv 3) pa_nil)))))))
   (pss_one (ps_ret (pe_tup (pa_cons (pe_cal Cas_table (hr.mono (by decide)) rfl (pa_cons (pv 1) pa_nil)) (pa_cons (pe_cal Cas_table (hr.mono (by decide)) rfl (pa_cons (pv 2) pa_nil)) pa_nil)))))))), ?_⟩
  refine ⟨Nat.zero_le _, fun p1 hp1 => ?_⟩
  have s1 := same_upd (o := .lst []) hp1
  refine ⟨Nat.zero_le _, fun p2 hp2 => ?_⟩
  have s2 := same_upd (o := .lst []) hp2
  have S := s1.trans s2
  have p12 : p1 ≠ p2 := fun e => by
   rw [<- e, upd_same] at hp2
   cases hp2
  have T0 : TwoT H (upd (upd H p1 (.lst [])) p2 (.lst [])) p1 p2 [] [] [] [] :=
   ⟨S, by rw [upd_ne p12, upd_same]; rfl, by rw [upd_same]; rfl, .nil, .nil, .nil, .nil, (fun _ h => by cases h), (fun h => by cases h), (fun h => by cases h), (fun h => by cases h), (fun h => by cases h), p12, hp1, s1.free hp2, (fun _ h => by cases h), (fun _ h => by cases h)⟩
  refine ⟨_, rfl, a, rfl, ⟨_, SqT.of (S _ _ ha)⟩, ?_⟩
  refine for_enum (K := K) (xs := ns.map V.int) (fun i σ G => ∃ (zs1 zs2 : List Addr) (c3 c4 c5 : Option V), σ = [some (.ref a), some (.ref p1), some (.ref p2), c3, c4, c5] /\ TwoT H G p1 p2 zs1 zs2 (tabI ns i).1 (tabI ns i).2) ⟨[], [], _, _, _, rfl, T0⟩ ?_ ?_ ?_
  ·rintro i σ G _ ⟨zs1, zs2, c3, c4, c5, rfl, t⟩
   exact SqT.of (t.sm _ _ ha)
  ·rintro i x t0 σ G hi ⟨zs1, zs2, c3, c4, c5, rfl, t⟩ ht0
   obtain ⟨n, hn, rfl⟩ : ∃ n, ns[i]? = some n /\ V.int n = x := by
    rw [List.getElem?_map] at hi
    cases e : ns[i]? with
    | none => rw [e] at hi; cases hi
    | some z => rw [e] at hi; exact ⟨z, rfl, Option.some.inj hi⟩
   have hil : i < ns.length := (List.getElem?_eq_some_iff.mp hn).1
   have hat : atO ns i = n := by
    rw [atO_get hil]
    exact (List.getElem?_eq_some_iff.mp hn).2
   obtain ⟨b1, b2, b3, b4⟩ := bnd i (by (first | lia | omega))
   have hk2 := (put_len (tabI ns i).1 n).2
   have hlen : (tabI ns i).2.length = (tabI ns i).1.length := by
    have := congrArg List.length (tabs_all ho i (by (first | lia | omega))).ln
    simpa using this
   have t := t.same (same_upd (o := .tup [.int (i : Int), .int n]) ht0)
   refine ⟨t0, _, rfl, SqT.of upd_same, rfl, _, _, rfl, _, _, rfl, rfl, ?_⟩
   generalize upd G t0 (.tup [.int (i : Int), .int n]) = G1 at t ⊢
   refine ⟨_, rfl, _, rfl, p1, zs1, (tabI ns i).1, n, rfl, t.h1, t.l1, t.n1, t.p11, by (first | lia | omega), fun r hr => by have := b3 r hr; (first | lia | omega), fun zs' G2 fr h1 l1 nd hp hz => ?_⟩
   have t2 := t.put fr h1 l1 nd hp hz
   have hzl := Paired.length t2.l2
   refine ⟨_, rfl, _, rfl, p2, _, rfl, .inl (SqL.of t2.h2), rfl, _, rfl, ite2 (fun hc => ?_) (fun hc => ?_)⟩
   ·have hc' : (putR (tabI ns i).1 n).2 = (tabI ns i).2.length := by
     rw [List.length_map, dec_int] at hc
     have := eq_of_beq hc
     (first | lia | omega)
    refine ⟨_, rfl, .inl ⟨rfl, _, SqL.of t2.h2⟩, Nat.zero_le _, fun l hl => ?_⟩
    refine ⟨p2, _, _, rfl, rfl, same_upd hl _ _ t2.h2, small1 (by rw [List.length_map]; (first | lia | omega)), ?_⟩
    have t3 := (t2.swap.app1 (f := []) hl).swap
    have ez : zs2.map V.ref ++ [V.ref l] = (zs2 ++ [l]).map V.ref := by rw [List.map_append]; rfl
    rw [ez]
    have hzi : (zs2 ++ [l])[(putR (tabI ns i).1 n).2]? = some l := by rw [hc', <- hzl]; simp
    have t3 : TwoT H (upd (upd G2 l (.lst [])) p2 (.lst ((zs2 ++ [l]).map V.ref))) p1 p2 zs' (zs2 ++ [l]) (putR (tabI ns i).1 n).1 ((tabI ns i).2 ++ [[]]) := t3
    have hlG : (upd (upd G2 l (.lst [])) p2 (.lst ((zs2 ++ [l]).map V.ref))) l = some (.lst []) := by
     rw [upd_ne (ne_of_none t2.h2 hl).symm, upd_same]
    generalize upd (upd G2 l (.lst [])) p2 (.lst ((zs2 ++ [l]).map V.ref)) = G3 at t3 hlG ⊢
    refine ⟨_, rfl, _, rfl, p2, _, _, .ref l, rfl, rfl, SqL.of t3.h2, atI_nat (by rw [List.getElem?_map, hzi]; rfl), .inl ⟨rfl, _, SqL.of hlG⟩, _, rfl, l, _, _, rfl, rfl, hlG, by show 0 < sizeLine; decide, ?_⟩
    have t4 := (t3.swap.set1 (f := [(i : Int)]) hzi).swap
    refine ⟨zs', zs2 ++ [l], _, _, _, rfl, ?_⟩
    have e2 : ((tabI ns i).2 ++ [[]]).set (putR (tabI ns i).1 n).2 [(i : Int)] = addAt (tabI ns i).2 (putR (tabI ns i).1 n).2 i := by
     rw [hc', add_last]
     simp
    rw [e2] at t4
    show TwoT H _ p1 p2 zs' (zs2 ++ [l]) (putR (tabI ns i).1 (atO ns i)).1 (addAt (tabI ns i).2 (putR (tabI ns i).1 (atO ns i)).2 i)
    rw [hat]
    exact t4
   ·have hc' : ¬ (putR (tabI ns i).1 n).2 = (tabI ns i).2.length := fun z => hc (by rw [List.length_map, hzl, dec_int, z]; simp)
    have hlt : (putR (tabI ns i).1 n).2 < (tabI ns i).2.length := by (first | lia | omega)
    obtain ⟨q, hq⟩ : ∃ q, (tabI ns i).2[(putR (tabI ns i).1 n).2]? = some q := ⟨_, List.getElem?_eq_getElem hlt⟩
    obtain ⟨z, hz1, hz2⟩ := t2.l2.at hq
    have hql := b4 q (List.mem_of_getElem? hq)
    refine ⟨_, rfl, _, rfl, p2, _, _, .ref z, rfl, rfl, SqL.of t2.h2, atI_nat (by rw [List.getElem?_map, hz1]; rfl), .inl ⟨rfl, _, SqL.of hz2⟩, _, rfl, z, _, _, rfl, rfl, hz2, small1 (by rw [mapI_len]; (first | lia | omega)), ?_⟩
    have ez : q.map V.int ++ [V.int (i : Int)] = (q ++ [(i : Int)]).map V.int := by rw [List.map_append]; rfl
    rw [ez]
    have t4 := (t2.swap.set1 (f := q ++ [(i : Int)]) hz1).swap
    refine ⟨zs', zs2, _, _, _, rfl, ?_⟩
    rw [<- add_set _ _ _ hq] at t4
    show TwoT H _ p1 p2 zs' zs2 (putR (tabI ns i).1 (atO ns i)).1 (addAt (tabI ns i).2 (putR (tabI ns i).1 (atO ns i)).2 i)
    rw [hat]
    exact t4
  ·rintro σ G ⟨zs1, zs2, c3, c4, c5, rfl, t⟩
   rw [mapI_len, ln] at t
   obtain ⟨b1, b2, _⟩ := bnd m (Nat.le_refl _)
   refine ⟨_, rfl, p1, zs1, _, rfl, t.h1, t.l1, by (first | lia | omega), fun q1 ys1 G1 u1 hq1 R1 => ?_⟩
   refine ⟨_, rfl, p2, zs2, _, rfl, u1 _ _ t.h2, t.l2.same u1, by (first | lia | omega), fun q2 ys2 G2 u2 hq2 R2 => ?_⟩
   refine ⟨by show 2 <= sizeLine; decide, fun tt htt => ?_⟩
   have u3 := same_upd (o := .tup [.ref q1, .ref q2]) htt
   exact k tt q1 q2 ys1 ys2 _ (((t.sm.trans u1).trans u2).trans u3) upd_same (u3 _ _ (u2 _ _ hq1)) ((R1.same u2).same u3) (u3 _ _ hq2) (R2.same u3)
end
end K61
namespace K61
open PySem PySem.Spec PyProof.Rows L2
noncomputable abbrev s__law_same : Stmt := top 20
section
variable {P : Program} {w : World} {K : PySem.W.Frag} {mg : Str -> Option Value} {base : Heap}
theorem sc__law_same : FnScope ["_law_found", "_law_due"] ["_law_found", "_law_due"] (defScope s__law_same) := ⟨rfl, rfl, rfl, by decide +kernel, rfl, by decide +kernel, by decide +kernel⟩
theorem ok__law_same {f : Addr} {fd : FuncData} (F : Fun K "_law_same" "_law_same" s__law_same f fd) (T : Top mg) (hm : mg "_law_same" = some (.ref f)) (hb : Binds K fd ["_law_found", "_law_due"] []) :
  ∀ n, FnOk P w K mg base CX0 (n + 1) f fd ["_law_found", "_law_due"] (spSame n)
 | 0 => by
  refine F.ok sc__law_same (fun vs H Q E h => ?_) (fun cdv A outer s H vs Q E hr h => ?_)
  ·obtain ⟨x, y, rfl, _⟩ := h
   rfl
  ·obtain ⟨x, y, rfl, ⟨a, rfl, rfl⟩, k⟩ := h
   have hu : _ := hr.units
   refine ⟨_, (pss_cons (ps_if (pt_val (pe_callB call_isi (by rfl) T.n_isinstance boot_isinstance (pa_cons (pv 1) (pa_cons (pe_bltn (v := .ty "tuple") rfl T.n_tuple boot_tuple rfl) pa_nil))))
    pss_never
    pss_nil)
   (pss_cons (ps_if (pt_val (pe_callB call_isi (by rfl) T.n_isinstance boot_isinstance (pa_cons (pv 1) (pa_cons (pe_bltn (v := .ty "bool") rfl T.n_bool boot_bool rfl) pa_nil))))
    pss_never
    pss_nil)
   (pss_one (ps_ret (pe_and (pe_callB call_isi (by rfl) T.n_isinstance boot_isinstance (pa_cons (pv 0) (pa_cons (pe_bltn (v := .ty "int") rfl T.n_int boot_int rfl) pa_nil))) (pe_and (pe_not (pe_callB call_isi (by rfl) T.n_isinstance boot_isinstance (pa_cons (pv 0) (pa_cons (pe_bltn (v := .ty "bool") rfl T.n_bool boot_bool rfl) pa_nil)))) (pe_one (pe_cmpR op_eq (pv 0) (pv 1) (nomark _))))))))), ?_⟩
   refine ⟨_, rfl, _, _, _, _, rfl, .int _, kit_int_tuple, _, rfl, iteF ?_⟩
   refine ⟨_, rfl, _, _, _, _, rfl, .int _, kit_int_bool, _, rfl, iteF ?_⟩
   refine ⟨_, rfl, _, _, _, _, rfl, .int _, kit_int_int, _, rfl, iteT ?_⟩
   refine ⟨_, rfl, _, _, _, _, rfl, .int _, kit_int_bool, _, rfl, _, rfl, iteT ?_⟩
   refine ⟨_, rfl, _, rfl, rfl, ?_⟩
   rw [decide_eq_true rfl]
   exact k H (Same.refl H)
 | n + 1 => by
  have ih : Cal P w K mg base (n + 1) "_law_same" ["_law_found", "_law_due"] (spSame n) := ⟨f, fd, ok__law_same F T hm hb n, hm, F.kp, hb⟩
  refine F.ok sc__law_same (fun vs H Q E h => ?_) (fun cdv A outer s H vs Q E hr h => ?_)
  ·obtain ⟨x, y, rfl, _⟩ := h
   rfl
  ·obtain ⟨x, y, rfl, al, k⟩ := h
   have hu : _ := hr.units
   refine ⟨_, (pss_cons (ps_if (pt_val (pe_callB call_isi (by rfl) T.n_isinstance boot_isinstance (pa_cons (pv 1) (pa_cons (pe_bltn (v := .ty "tuple") rfl T.n_tuple boot_tuple rfl) pa_nil))))
    (pss_cons (ps_if (PW.pt (pw_or (pt_not (pt_val (pe_callB call_isi (by rfl) T.n_isinstance boot_isinstance (pa_cons (pv 0) (pa_cons (pe_bltn (v := .ty "tuple") rfl T.n_tuple boot_tuple rfl) pa_nil))))) (pw_or1 (pt_cmpR op_ne (pe_callB call_len_seq (by rfl) T.n_len PySem.boot_len (pa_cons (pv 0) pa_nil)) (pe_callB call_len_seq (by rfl) T.n_len PySem.boot_len (pa_cons (pv 1) pa_nil)) (nomark _)))))
     (pss_one (ps_ret pe_bl))
     pss_nil)
    (pss_one (ps_ret (pe_callB (call_all rfl) (by rfl) T.n_all boot_all (pa_cons (pe_lc (N' := ["_law_one", "_law_other"]) (n := 2) (ix := []) rfl (CompScope.of (sc := defScope s__law_same) (N := ["_law_found", "_law_due"]) (by decide +kernel) rfl rfl) (pi_zipT rfl T.n_zip (pa_cons (pv 0) (pa_cons (pv 1) pa_nil))) (fun _ _ _ _ _ => ⟨(pg_pairK K (i := 0) (j := 1) rfl rfl (show (["_law_one", "_law_other"] : List Str).Nodup by decide +kernel) rfl rfl (Or.inl rfl) (Or.inl rfl) (Or.inr rfl) (Or.inr rfl)), pts_nil, (pe_cal ih hr rfl (pa_cons (pv 0) (pa_cons (pv 1) pa_nil)))⟩)) pa_nil)))))
    pss_nil)
   (pss_cons (ps_if (pt_val (pe_callB call_isi (by rfl) T.n_isinstance boot_isinstance (pa_cons (pv 1) (pa_cons (pe_bltn (v := .ty "bool") rfl T.n_bool boot_bool rfl) pa_nil))))
    pss_never
    pss_nil)
   (pss_one (ps_ret (pe_and (pe_callB call_isi (by rfl) T.n_isinstance boot_isinstance (pa_cons (pv 0) (pa_cons (pe_bltn (v := .ty "int") rfl T.n_int boot_int rfl) pa_nil))) (pe_and (pe_not (pe_callB call_isi (by rfl) T.n_isinstance boot_isinstance (pa_cons (pv 0) (pa_cons (pe_bltn (v := .ty "bool") rfl T.n_bool boot_bool rfl) pa_nil)))) (pe_one (pe_cmpR op_eq (pv 0) (pv 1) (nomark _))))))))), ?_⟩
   rcases al with ⟨a, rfl, rfl⟩ | ⟨a, b, xs, ys, rfl, rfl, ha, hbb, hl, pr⟩
   ·refine ⟨_, rfl, _, _, _, _, rfl, .int _, kit_int_tuple, _, rfl, iteF ?_⟩
    refine ⟨_, rfl, _, _, _, _, rfl, .int _, kit_int_bool, _, rfl, iteF ?_⟩
    refine ⟨_, rfl, _, _, _, _, rfl, .int _, kit_int_int, _, rfl, iteT ?_⟩
    refine ⟨_, rfl, _, _, _, _, rfl, .int _, kit_int_bool, _, rfl, _, rfl, iteT ?_⟩
    refine ⟨_, rfl, _, rfl, rfl, ?_⟩
    rw [decide_eq_true rfl]
    exact k H (Same.refl H)
   ·have hxy : xs.length = ys.length := Paired.length pr
    refine ⟨_, rfl, _, _, _, _, rfl, .tup hbb, kit_tuple_tuple, _, rfl, iteT ?_⟩
    refine ⟨_, rfl, _, _, _, _, rfl, .tup ha, kit_tuple_tuple, _, rfl, iteF ?_⟩
    refine ⟨_, rfl, a, _, rfl, .inr (SqT.of ha), _, rfl, b, _, rfl, .inr (SqT.of hbb), rfl, _, rfl, ?_⟩
    rw [hxy]
    refine iteNS rfl ?_
    refine ⟨_, rfl, _, rfl, a, b, rfl, ⟨_, SqT.of ha⟩, ⟨_, SqT.of hbb⟩, ?_⟩
    refine lc_zip_true (xs := xs) (ys := ys) (SqT.of ha) (SqT.of hbb) hxy hl (fun s' => SqT.of (s' _ _ ha)) (fun s' => SqT.of (s' _ _ hbb)) (fun i x y hx hy H' s' Q' q => ?_) fun acc H' hacc s' h' => ?_
    ·refine ⟨_, rfl, _, rfl, x, y, rfl, ?_, fun H2 s2 => q H2 s2⟩
     have al := paired_get pr hx hy
     exact al.sameT s'.t
    ·refine ⟨acc, _, rfl, h', ?_⟩
     have e : (List.replicate xs.length true).all id = true := by simp
     rw [e]
     exact k H' s'
end
end K61
namespace K61
open PySem PySem.Spec PyProof.Rows L2
section
variable {P : Program} {w : World} {K : PySem.W.Frag} {mg : Str -> Option Value} {base : Heap}
theorem sc__law_size : FnScope ["_law_hand_here", "_law_most"] ["_law_hand_here", "_law_most"] (defScope s__law_size) := ⟨rfl, rfl, rfl, by decide +kernel, rfl, by decide +kernel, by decide +kernel⟩
theorem ok__law_size {f : Addr} {fd : FuncData} (F : Fun K "_law_size" "_law_size" s__law_size f fd) (C_law_pick : Cal P w K mg base 1 "_law_pick" ["_law_hand_here", "_law_many"] spPick) : FnOk P w K mg base CX0 2 f fd ["_law_hand_here", "_law_most"] spSize := by
 refine F.ok sc__law_size (fun vs H Q E h => ?_) (fun cdv A outer s H vs Q E hr h => ?_)
 ·obtain ⟨p, q, m, rfl, _⟩ := h
  rfl
 ·obtain ⟨p, q, m, rfl, hm0, hm1, hh, k⟩ := h
  refine ⟨_, (pss_cons (ps_if (pt_cmpR op_eq (pe_cal C_law_pick (hr.mono (by decide)) rfl (pa_cons (pv 0) (pa_cons pe_int pa_nil))) pe_int (nomark _))
    (pss_one (ps_ret (pe_op op_sub (pv 1) (pe_cal C_law_pick (hr.mono (by decide)) rfl (pa_cons (pv 0) (pa_cons pe_int pa_nil))))))
    pss_nil)
   (pss_one (ps_ret (pe_cal C_law_pick (hr.mono (by decide)) rfl (pa_cons (pv 0) (pa_cons pe_int pa_nil)))))), ?_⟩
  refine ⟨_, rfl, p, q, 8, rfl, by decide, by decide, hh, fun d H1 h0 h1 hh1 k1 => ⟨rfl, _, rfl, ?_⟩⟩
  refine ite2 (fun _ => ?_) (fun _ => ?_)
  ·refine ⟨_, rfl, _, rfl, p, q, 6, rfl, by decide, by decide, hh1, fun d' H2 h0' h1' hh2 k2 => ⟨_, _, rfl, rfl, ?_⟩⟩
   exact k _ _ (by (first | lia | omega)) (by (first | lia | omega)) hh2 (k1.trans k2)
  ·refine ⟨_, rfl, p, q, 10, rfl, by decide, by decide, hh1, fun d' H2 h0' h1' hh2 k2 => ?_⟩
   exact k _ _ h0' (by (first | lia | omega)) hh2 (k1.trans k2)
theorem perm_insert {ys : List Int} {k : Nat} (h : ys.Perm (num0 k)) (i : Nat) : (ys.take i ++ (k : Int) :: ys.drop i).Perm (num0 (k + 1)) := by
 have e : num0 (k + 1) = num0 k ++ [(k : Int)] := by
  unfold num0
  rw [List.range_succ, List.map_append]
  rfl
 rw [e]
 refine List.perm_middle.trans ?_
 rw [List.take_append_drop]
 refine (List.Perm.cons _ h).trans ?_
 exact (List.perm_append_singleton _ _).symm
theorem num0_len (n : Nat) : (num0 n).length = n := by simp [num0]
theorem sc__law_any : FnScope ["_law_hand_here", "_law_many", "_law_order_here", "_law_k"] ["_law_hand_here", "_law_many"] (defScope s__law_any) := ⟨rfl, rfl, rfl, by decide +kernel, rfl, by decide +kernel, by decide +kernel⟩
theorem ok__law_any {f : Addr} {fd : FuncData} (F : Fun K "_law_any" "_law_any" s__law_any f fd) (T : Top mg) (C_law_pick : Cal P w K mg base 1 "_law_pick" ["_law_hand_here", "_law_many"] spPick) : FnOk P w K mg base CX0 2 f fd ["_law_hand_here", "_law_many"] spAny := by
 refine F.ok sc__law_any (fun vs H Q E h => ?_) (fun cdv A outer s H vs Q E hr h => ?_)
 ·obtain ⟨p, q, m, rfl, _⟩ := h
  rfl
 ·obtain ⟨p, q, m, rfl, hm, hh, k⟩ := h
  refine ⟨_, (pss_cons (ps_set (i := 2) sc__law_any.nd rfl (Or.inl rfl) (pe_lst pa_nil))
   (pss_cons (ps_for PassesOwn.never rfl (pi_range1 rfl T.n_range (pa_cons (pv 1) pa_nil)) (pg_name (i := 3) sc__law_any.nd rfl (Or.inl rfl))
    (pss_one (ps_expr (pe_bm PySem.F.plainAttrs_list PySem.F.slot_list_insert PySem.F.type_list_insert mt_insert (pv 2) (pa_cons (pe_cal C_law_pick (hr.mono (by decide)) rfl (pa_cons (pv 0) (pa_cons (pe_op op_add (pv 3) pe_int) pa_nil))) (pa_cons (pv 3) pa_nil))))))
   (pss_one (ps_ret (pv 2))))), ?_⟩
  refine ⟨Nat.zero_le _, fun l hl => ?_⟩
  refine ⟨_, rfl, (m : Int), rfl, by (first | lia | omega), by (first | lia | omega), ?_⟩
  have hlp : l ≠ p /\ l ≠ q := by
   obtain ⟨_, _, h1, h2, _⟩ := hh
   exact ⟨Ne.symm (ne_of_none h1 hl), Ne.symm (ne_of_none h2 hl)⟩
  refine for_range (n := (m : Int).toNat) (fun i σ H2 => ∃ (ys : List Int) (c : Option V), σ = [some (.ref p), some (.int m), some (.ref l), c] /\ ys.Perm (num0 i) /\ H2 l = some (.lst (ys.map V.int)) /\ Hand H2 p q /\ Keep p q H H2) ⟨[], none, rfl, List.Perm.refl _, upd_same, upd_hand hh hl, (same_upd hl).keep⟩ ?_ ?_
  ·rintro i σ H2 hi ⟨ys, c, rfl, hp, hl2, hh2, k2⟩
   have hi' : i < m := by (first | lia | omega)
   have hlen : ys.length = i := by rw [hp.length_eq, num0_len]
   refine ⟨_, rfl, .inl ⟨rfl, _, SqL.of hl2⟩, _, rfl, _, rfl, _, _, rfl, rfl, p, q, _, rfl, by (first | lia | omega), by (first | lia | omega), hh2, fun d H3 h0 h1 hh3 k3 => ?_⟩
   have hl3 : H3 l = some (.lst (ys.map V.int)) := k3 _ _ hl2 hlp.1 hlp.2
   refine ⟨_, rfl, l, _, d, _, rfl, rfl, hl3, h0, by rw [mapI_len]; (first | lia | omega), small1 (by rw [mapI_len]; (first | lia | omega)), ?_⟩
   refine ⟨ys.take d.toNat ++ (i : Int) :: ys.drop d.toNat, _, rfl, perm_insert hp _, ?_, lset_hand hh3 hl3 hlp.1 hlp.2, fun b o hb h1 h2 => by rw [upd_ne (ne_of_none hb hl)]; exact (k2.trans k3) b o hb h1 h2⟩
   rw [upd_same, List.map_append, List.map_cons, List.map_take, List.map_drop, Int.zero_add]
  ·rintro σ H2 ⟨ys, c, rfl, hp, hl2, hh2, k2⟩
   refine ⟨_, rfl, k l ys H2 ?_ hl hl2 hh2 k2⟩
   simpa using hp
end
end K61
namespace K61
open PySem PySem.Spec PyProof.Rows L2
noncomputable def OrdM (H0 : Hp) (p q : Addr) (m : Nat) (σ : L2.St) (H : Hp) : Prop := ∃ (way : Int) (l : Addr) (ys : List Int) (c4 c5 c6 c7 c8 c9 c10 : Option V), σ = [some (.ref p), some (.int m), some (.int way), some (.ref l), c4, c5, c6, c7, c8, c9, c10] /\ ys.Perm (num0 m) /\ H l = some (.lst (ys.map V.int)) /\ H0 l = none /\ Hand H p q /\ Keep p q H0 H
noncomputable def tM (H0 : Hp) (p q : Addr) (m : Nat) : TS := fun D σ H => OrdM H0 p q m σ H /\ ∀ σ' H', OrdM H0 p q m σ' H' -> D.nx σ' H'
theorem num0_nodup (n : Nat) : (num0 n).Nodup := by
 unfold num0
 refine List.Pairwise.map _ (fun a b (h : a ≠ b) => ?_) (List.nodup_range (n := n))
 show (a : Int) ≠ (b : Int)
 (first | lia | omega)
theorem getI {ys : List Int} {i : Int} {n : Nat} (hl : ys.length = n) (h0 : 0 <= i) (h1 : i < n) : ∃ a, ys[i.toNat]? = some a /\ atI (ys.map V.int) i = some (.int a) /\ ixN (ys.map V.int).length i = some i.toNat := by
 have hlt : i.toNat < ys.length := by (first | lia | omega)
 refine ⟨ys[i.toNat], List.getElem?_eq_getElem hlt, ?_, ?_⟩
 ·have e : ((i.toNat : Nat) : Int) = i := by (first | lia | omega)
  have := atI_nat (xs := ys.map V.int) (j := i.toNat) (v := .int ys[i.toNat]) (by rw [List.getElem?_map, List.getElem?_eq_getElem hlt]; rfl)
  rwa [e] at this
 ·unfold ixN
  rw [mapI_len, if_pos h0, if_pos (by (first | lia | omega))]
section
variable {P : Program} {w : World} {K : PySem.W.Frag} {mg : Str -> Option Value} {base : Heap}
theorem sc__law_order : FnScope ["_law_hand_here", "_law_many", "_law_way", "_law_order_here", "_law_turn", "_law_one", "_law_other", "_law_here", "_law_row", "_law_k", "_law_cut"] ["_law_hand_here", "_law_many"] (defScope s__law_order) := ⟨rfl, rfl, rfl, by decide +kernel, rfl, by decide +kernel, by decide +kernel⟩
set_option maxHeartbeats 4000000 in
theorem ok__law_order {f : Addr} {fd : FuncData} (F : Fun K "_law_order" "_law_order" s__law_order f fd) (T : Top mg) (C_law_pick : Cal P w K mg base 1 "_law_pick" ["_law_hand_here", "_law_many"] spPick) (C_law_any : Cal P w K mg base 2 "_law_any" ["_law_hand_here", "_law_many"] spAny) : FnOk P w K mg base CX0 3 f fd ["_law_hand_here", "_law_many"] spOrder := by
  refine F.ok sc__law_order (fun vs H Q E h => ?_) (fun cdv A outer s H vs Q E hr h => ?_)
  · obtain ⟨p, q, m, rfl, _⟩ := h
    rfl
  · obtain ⟨p, q, m, rfl, hm, hh, k⟩ := h
    have lne : ∀ {l : Addr}, H l = none -> l ≠ p /\ l ≠ q := fun {l} hl => by
      obtain ⟨_, _, h1, h2, _⟩ := hh
      exact ⟨Ne.symm (ne_of_none h1 hl), Ne.symm (ne_of_none h2 hl)⟩
    refine ⟨_, (pss_cons (ps_set (i := 2) sc__law_order.nd rfl (Or.inl rfl) (pe_cal C_law_pick (hr.mono (by decide)) rfl (pa_cons (pv 0) (pa_cons pe_int pa_nil))))
      (pss_cons (ps_set (i := 3) sc__law_order.nd rfl (Or.inl rfl) (pe_callTy (call_list_rng rfl) (by rfl) T.n_list boot_list (pa_cons (pe_callTy call_range1 (by rfl) T.n_range boot_range (pa_cons (pv 1) pa_nil)) pa_nil)))
      (pss_cons (PS.mono (t' := tM H p q m) (ps_if (pt_cmpR op_lt (pv 2) pe_int (nomark _))
        (pss_one (ps_set (i := 3) sc__law_order.nd rfl (Or.inl rfl) (pe_cal C_law_any (hr.mono (by decide)) rfl (pa_cons (pv 0) (pa_cons (pv 1) pa_nil)))))
        pss_nil) ?w1)
      (pss_cons (PS.mono (t' := tM H p q m) (ps_if (pt_cmpR op_eq (pv 2) pe_int (nomark _))
        (pss_one (ps_for PassesOwn.never rfl (pi_range1 rfl T.n_range (pa_cons (pe_op op_mul (pe_cal C_law_pick (hr.mono (by decide)) rfl (pa_cons (pv 0) (pa_cons pe_int pa_nil))) (pe_callTy call_int1 (by rfl) T.n_int boot_int (pa_cons (pe_cmpR op_gt (pv 1) pe_int (nomark _)) pa_nil))) pa_nil)) (pg_name (i := 4) sc__law_order.nd rfl (Or.inl rfl))
          (pss_cons (ps_par (i := 5) (j := 6) rfl sc__law_order.nd rfl rfl (by decide) rfl rfl (pa_cons (pe_cal C_law_pick (hr.mono (by decide)) rfl (pa_cons (pv 0) (pa_cons (pv 1) pa_nil))) (pa_cons (pe_cal C_law_pick (hr.mono (by decide)) rfl (pa_cons (pv 0) (pa_cons (pv 1) pa_nil))) pa_nil)) rfl)
          (pss_cons (ps_set (i := 7) sc__law_order.nd rfl (Or.inl rfl) (pe_ix ix_list (pv 3) (pv 5) (fun _ _ => rfl)))
          (pss_cons (ps_asg (pe_ix ix_list (pv 3) (pv 6) (fun _ _ => rfl)) (pg_sub (pv 3) (pv 5) set_list))
          (pss_one (ps_asg (pv 7) (pg_sub (pv 3) (pv 6) set_list))))))))
        pss_nil) ?w2)
      (pss_cons (PS.mono (t' := tM H p q m) (ps_if (pt_cmpR op_eq (pv 2) pe_int (nomark _))
        (pss_one (ps_set (i := 3) sc__law_order.nd rfl (Or.inl rfl) (pe_rev rv_list (pv 3))))
        pss_nil) ?w3)
      (pss_cons (PS.mono (t' := tM H p q m) (ps_if (pt_cmpR op_eq (pv 2) pe_int (nomark _))
        (pss_cons (ps_set (i := 8) sc__law_order.nd rfl (Or.inl rfl) (pe_cal C_law_any (hr.mono (by decide)) rfl (pa_cons (pv 0) (pa_cons (pv 1) pa_nil))))
        (pss_one (ps_for PassesOwn.never rfl (pi_range1 rfl T.n_range (pa_cons (pv 1) pa_nil)) (pg_name (i := 9) sc__law_order.nd rfl (Or.inl rfl))
          (pss_one (ps_asg (pe_ix ix_list (pv 8) (pe_op op_mod (pe_op op_add (pv 9) pe_int) (pv 1)) (fun _ _ => rfl)) (pg_sub (pv 3) (pe_ix ix_list (pv 8) (pv 9) (fun _ _ => rfl)) set_list))))))
        pss_nil) ?w4)
      (pss_cons (PS.mono (t' := tM H p q m) (ps_if (pt_cmpR op_eq (pv 2) pe_int (nomark _))
        (pss_cons (ps_set (i := 10) sc__law_order.nd rfl (Or.inr rfl) (pe_cal C_law_pick (hr.mono (by decide)) rfl (pa_cons (pv 0) (pa_cons (pe_op op_add (pv 1) pe_int) pa_nil))))
        (pss_one (ps_set (i := 3) sc__law_order.nd rfl (Or.inl rfl) (pe_op op_cat (pe_cal C_law_any (hr.mono (by decide)) rfl (pa_cons (pv 0) (pa_cons (pv 10) pa_nil))) (pe_lc (N' := ["_law_number", "_law_cut"]) (n := 1) (ix := [10]) rfl (CompScope.of (sc := defScope s__law_order) (N := ["_law_hand_here", "_law_many", "_law_way", "_law_order_here", "_law_turn", "_law_one", "_law_other", "_law_here", "_law_row", "_law_k", "_law_cut"]) (by decide +kernel) rfl rfl) (pi_list (pe_cal C_law_any (hr.mono (by decide)) rfl (pa_cons (pv 0) (pa_cons (pe_op op_sub (pv 1) (pv 10)) pa_nil)))) (fun _ _ _ _ _ => ⟨(pg_name (i := 0) (show (["_law_number", "_law_cut"] : List Str).Nodup by decide +kernel) rfl (Or.inl rfl)), pts_nil, (pe_op op_add (pv 1) (pv 0))⟩))))))
        pss_nil) ?w5)
      (pss_one (ps_ret (pe_callTy call_tuple_of (by rfl) T.n_tuple boot_tuple (pa_cons (pv 3) pa_nil))))))))))), ?fin⟩
    case w1 =>
      rintro D σ H1 ⟨⟨way, l, ys, c4, c5, c6, c7, c8, c9, c10, rfl, hp, hl, hl0, hh1, k1⟩, nx⟩
      refine ⟨_, rfl, _, _, rfl, rfl, _, rfl, ite2 (fun _ => ?_) (fun _ => nx _ _ ⟨way, l, ys, c4, c5, c6, c7, c8, c9, c10, rfl, hp, hl, hl0, hh1, k1⟩)⟩
      refine ⟨_, rfl, _, rfl, p, q, m, rfl, hm, hh1, fun l' ys' H2 hp' hn hl' hh2 k2 => nx _ _ ⟨way, l', ys', c4, c5, c6, c7, c8, c9, c10, rfl, hp', hl', k1.free hh hn hh1, hh2, k1.trans k2⟩⟩
    case w2 =>
      rintro D σ H1 ⟨⟨way, l, ys, c4, c5, c6, c7, c8, c9, c10, rfl, hp, hl, hl0, hh1, k1⟩, nx⟩
      refine ⟨_, rfl, rfl, _, rfl, ite2 (fun _ => ?_) (fun _ => nx _ _ ⟨way, l, ys, c4, c5, c6, c7, c8, c9, c10, rfl, hp, hl, hl0, hh1, k1⟩)⟩
      refine ⟨_, rfl, p, q, 4, rfl, by decide, by decide, hh1, fun d H2 h0 h1 hh2 k2 => ?_⟩
      refine ⟨_, rfl, _, _, rfl, rfl, .inr ⟨_, rfl, _, _, rfl, rfl, .inl ⟨by (first | lia | omega), by (first | lia | omega)⟩, ?_⟩⟩
      have hj : ∃ n : Nat, d * (if decide ((1 : Int) < m) = true then 1 else 0) = (n : Int) /\ n <= 4 /\ (n ≠ 0 -> 1 < m) := by
        by_cases h : (1 : Int) < m
        · rw [if_pos (by simpa using h)]
          exact ⟨d.toNat, by (first | lia | omega), by (first | lia | omega), fun _ => by (first | lia | omega)⟩
        · rw [if_neg (by simpa using h)]
          exact ⟨0, by (first | lia | omega), by (first | lia | omega), fun z => absurd rfl z⟩
      obtain ⟨n, en, hn4, hn0⟩ := hj
      refine ⟨_, rfl, by rw [en]; (first | lia | omega), by rw [en]; (first | lia | omega), ?_⟩
      rw [en]
      have hlp := lne hl0
      refine for_range (n := (n : Int).toNat) (fun i σ H3 => OrdM H p q m σ H3) ⟨way, l, ys, c4, c5, c6, c7, c8, c9, c10, rfl, hp, k2 _ _ hl hlp.1 hlp.2, hl0, hh2, k1.trans k2⟩ ?_ (fun σ H3 h3 => nx _ _ h3)
      rintro i σ H3 hi ⟨way, l, ys, c4, c5, c6, c7, c8, c9, c10, rfl, hp, hl, hl0, hh3, k3⟩
      have hm1 : 1 < m := hn0 (by (first | lia | omega))
      have hlp := lne hl0
      have hlen : ys.length = m := by rw [hp.length_eq, num0_len]
      refine ⟨_, rfl, _, rfl, p, q, m, rfl, by (first | lia | omega), by (first | lia | omega), hh3, fun d1 H4 a0 a1 hh4 k4 => ⟨_, rfl, _, rfl, p, q, m, rfl, by (first | lia | omega), by (first | lia | omega), hh4, fun d2 H5 b0 b1 hh5 k5 => ⟨_, _, rfl, ?_⟩⟩⟩
      have hl5 : H5 l = some (.lst (ys.map V.int)) := k5 _ _ (k4 _ _ hl hlp.1 hlp.2) hlp.1 hlp.2
      obtain ⟨x1, g1, g2, g3⟩ := getI hlen a0 a1
      obtain ⟨x2, f1, f2, f3⟩ := getI hlen b0 b1
      refine ⟨_, rfl, _, rfl, l, _, _, _, rfl, rfl, SqL.of hl5, g2, ?_⟩
      refine ⟨_, rfl, _, rfl, l, _, _, _, rfl, rfl, SqL.of hl5, f2, _, rfl, _, rfl, l, _, _, _, rfl, rfl, hl5, g3, ?_⟩
      refine ⟨_, rfl, _, rfl, _, rfl, l, _, _, d2.toNat, rfl, rfl, upd_same, ?_, ?_⟩
      · rw [List.length_set]; exact f3
      · refine ⟨way, l, (ys.set d1.toNat x2).set d2.toNat x1, _, _, _, _, c8, c9, c10, rfl, (set_swap_perm ys _ _ _ _ g1 f1).trans hp, ?_, hl0, ?_, ?_⟩
        · rw [upd_same, List.map_set, List.map_set]
        · exact lset_hand (lset_hand hh5 hl5 hlp.1 hlp.2) upd_same hlp.1 hlp.2
        · exact fun b o hb h1 h2 => by rw [upd_ne (ne_of_none hb hl0), upd_ne (ne_of_none hb hl0)]; exact ((k3.trans k4).trans k5) b o hb h1 h2
    case w3 =>
      rintro D σ H1 ⟨⟨way, l, ys, c4, c5, c6, c7, c8, c9, c10, rfl, hp, hl, hl0, hh1, k1⟩, nx⟩
      refine ⟨_, rfl, rfl, _, rfl, ite2 (fun _ => ?_) (fun _ => nx _ _ ⟨way, l, ys, c4, c5, c6, c7, c8, c9, c10, rfl, hp, hl, hl0, hh1, k1⟩)⟩
      refine ⟨_, rfl, l, _, rfl, SqL.of hl, fun l' hl' => nx _ _ ⟨way, l', ys.reverse, c4, c5, c6, c7, c8, c9, c10, rfl, (List.reverse_perm ys).trans hp, by rw [upd_same, List.map_reverse], k1.free hh hl' hh1, upd_hand hh1 hl', k1.trans (same_upd hl').keep⟩⟩
    case w4 =>
      rintro D σ H1 ⟨⟨way, l, ys, c4, c5, c6, c7, c8, c9, c10, rfl, hp, hl, hl0, hh1, k1⟩, nx⟩
      refine ⟨_, rfl, rfl, _, rfl, ite2 (fun _ => ?_) (fun _ => nx _ _ ⟨way, l, ys, c4, c5, c6, c7, c8, c9, c10, rfl, hp, hl, hl0, hh1, k1⟩)⟩
      refine ⟨_, rfl, _, rfl, p, q, m, rfl, hm, hh1, fun lr row H2 hpr hnr hlr hh2 k2 => ?_⟩
      have hlp := lne hl0
      have hlr0 : H lr = none := k1.free hh hnr hh1
      have hlrp := lne hlr0
      have hne : l ≠ lr := ne_of_none hl hnr
      have hrl : row.length = m := by rw [hpr.length_eq, num0_len]
      have hnd : row.Nodup := hpr.nodup_iff.mpr (num0_nodup m)
      refine ⟨_, rfl, (m : Int), rfl, by (first | lia | omega), by (first | lia | omega), ?_⟩
      refine for_range (n := (m : Int).toNat) (fun i σ H3 => ∃ (zs : List Int) (c9 : Option V), σ = [some (.ref p), some (.int m), some (.int way), some (.ref l), c4, c5, c6, c7, some (.ref lr), c9, c10] /\ zs.length = m /\ (∀ (k : Nat) (a : Int), k < i -> row[k]? = some a -> ∀ b, row[(k + 1) % m]? = some b -> zs[a.toNat]? = some b) /\ H3 l = some (.lst (zs.map V.int)) /\ H3 lr = some (.lst (row.map V.int)) /\ Hand H3 p q /\ Keep p q H H3)
        ⟨ys, c9, rfl, by rw [hp.length_eq, num0_len], fun k a hk => absurd hk (Nat.not_lt_zero _), k2 _ _ hl hlp.1 hlp.2, hlr, hh2, k1.trans k2⟩ ?_ ?_
      · rintro i σ H3 hi ⟨zs, c9, rfl, hzl, hz, hl3, hlr3, hh3, k3⟩
        have hi' : i < m := by (first | lia | omega)
        have hmod : ((0 : Int) + (i : Int) + 1) % (m : Int) = (((i + 1) % m : Nat) : Int) := by
          rw [Int.zero_add]; rfl
        obtain ⟨a, ga, ga2, _⟩ := getI (i := (0 : Int) + (i : Int)) hrl (by (first | lia | omega)) (by (first | lia | omega))
        obtain ⟨b, gb, gb2, _⟩ := getI (i := ((0 : Int) + (i : Int) + 1) % (m : Int)) hrl (Int.emod_nonneg _ (by (first | lia | omega))) (Int.emod_lt_of_pos _ (by (first | lia | omega)))
        have ga' : row[i]? = some a := by have e : ((0 : Int) + (i : Int)).toNat = i := by (first | lia | omega)
                                          rw [e] at ga; exact ga
        have gb' : row[(i + 1) % m]? = some b := by rw [hmod] at gb; exact gb
        have ham := num0_mem (hpr.mem_iff.mp (List.mem_of_getElem? ga'))
        obtain ⟨x, _, _, gx⟩ := getI (i := a) hzl ham.1 ham.2
        refine ⟨_, rfl, _, rfl, _, _, rfl, rfl, _, rfl, _, _, rfl, rfl, by (first | lia | omega), lr, _, _, _, rfl, rfl, SqL.of hlr3, gb2, _, rfl, _, rfl, _, rfl, lr, _, _, _, rfl, rfl, SqL.of hlr3, ga2, l, _, _, _, rfl, rfl, hl3, gx, ?_⟩
        refine ⟨zs.set a.toNat b, _, rfl, by rw [List.length_set]; exact hzl, fun k a' hk hka b' hb' => ?_, by rw [upd_same, List.map_set], by rw [upd_ne (Ne.symm hne)]; exact hlr3, lset_hand hh3 hl3 hlp.1 hlp.2, fun c o hc h1 h2 => by rw [upd_ne (ne_of_none hc hl0)]; exact k3 c o hc h1 h2⟩
        by_cases hki : k = i
        · subst hki
          rw [ga'] at hka; cases hka
          rw [gb'] at hb'; cases hb'
          rw [List.getElem?_set_self (by (first | lia | omega))]
        · have hna : a.toNat ≠ a'.toNat := fun z => by
            have ha' := num0_mem (hpr.mem_iff.mp (List.mem_of_getElem? hka))
            have : a = a' := by (first | lia | omega)
            subst this
            obtain ⟨u1, u2⟩ := List.getElem?_eq_some_iff.mp ga'
            obtain ⟨v1, v2⟩ := List.getElem?_eq_some_iff.mp hka
            exact hki ((List.getElem_inj hnd).mp (v2.trans u2.symm))
          rw [List.getElem?_set_ne hna]
          exact hz k a' (by (first | lia | omega)) hka b' hb'
      · rintro σ H3 ⟨zs, c9, rfl, hzl, hz, hl3, hlr3, hh3, k3⟩
        refine nx _ _ ⟨way, l, zs, c4, c5, c6, c7, _, c9, c10, rfl, round_perm hpr hzl fun k a hka b hb => hz k a ?_ hka b hb, hl3, hl0, hh3, k3⟩
        have := (List.getElem?_eq_some_iff.mp hka).1
        (first | lia | omega)
    case w5 =>
      rintro D σ H1 ⟨⟨way, l, ys, c4, c5, c6, c7, c8, c9, c10, rfl, hp, hl, hl0, hh1, k1⟩, nx⟩
      refine ⟨_, rfl, rfl, _, rfl, ite2 (fun _ => ?_) (fun _ => nx _ _ ⟨way, l, ys, c4, c5, c6, c7, c8, c9, c10, rfl, hp, hl, hl0, hh1, k1⟩)⟩
      refine ⟨_, rfl, _, rfl, _, _, rfl, rfl, p, q, _, rfl, by (first | lia | omega), by (first | lia | omega), hh1, fun cut H2 h0 h1 hh2 k2 => ?_⟩
      obtain ⟨c, rfl⟩ : ∃ c : Nat, cut = (c : Int) := ⟨cut.toNat, by (first | lia | omega)⟩
      have hc : c <= m := by (first | lia | omega)
      refine ⟨_, rfl, _, rfl, p, q, c, rfl, by (first | lia | omega), hh2, fun l1 ys1 H3 hp1 hn1 hl1 hh3 k3 => ?_⟩
      have hl10 : H l1 = none := (k1.trans k2).free hh hn1 hh2
      have hl1p := lne hl10
      refine ⟨_, rfl, _, rfl, _, rfl, _, _, rfl, rfl, p, q, m - c, by rw [Int.ofNat_sub hc], by (first | lia | omega), hh3, fun l2 ys2 H4 hp2 hn2 hl2 hh4 k4 => ⟨l2, rfl, ⟨_, SqL.of hl2⟩, ?_⟩⟩
      have hl2len : ys2.length <= 1000 := by rw [hp2.length_eq, num0_len]; (first | lia | omega)
      refine lc_pure (yields_list (xs := ys2.map V.int)) (small1 (by rw [mapI_len]; exact hl2len)) (fun _ => true) (fun v => match v with | .int i => .int ((c : Int) + i) | v => v) (fun H' s' => SqL.of (s' _ _ hl2)) (fun _ _ _ _ _ q => q) (fun x hx _ H' s' Q' q => ?_) fun acc hacc => ?_
      · obtain ⟨n, _, rfl⟩ := List.mem_map.mp hx
        exact ⟨_, rfl, _, rfl, _, _, rfl, rfl, q⟩
      · have hl14 : H4 l1 = some (.lst (ys1.map V.int)) := k4 _ _ hl1 hl1p.1 hl1p.2
        have hk4 : Keep p q H H4 := ((k1.trans k2).trans k3).trans k4
        rw [filter_true, map_of_ints (g := fun i => (c : Int) + i) fun n => rfl]
        refine ⟨l1, acc, _, _, rfl, rfl, by rw [upd_ne (ne_of_none hl14 hacc)]; exact hl14, upd_same, ?_, fun l' hl' => ?_⟩
        · simp only [List.length_map]
          rw [hp1.length_eq, hp2.length_eq, num0_len, num0_len]
          exact Nat.le_trans (by (first | lia | omega) : c + (m - c) <= 1000) (by decide)
        · refine nx _ _ ⟨way, l', ys1 ++ ys2.map fun i => (c : Int) + i, c4, c5, c6, c7, c8, c9, _, rfl, ?_, by rw [upd_same, List.map_append], ?_, upd_hand (upd_hand hh4 hacc) hl', (hk4.trans (same_upd hacc).keep).trans (same_upd hl').keep⟩
          · rw [num0_split c m hc]
            exact hp1.append (hp2.map _)
          · exact (hk4.trans (same_upd hacc).keep).free hh hl' (upd_hand hh4 hacc)
    case fin =>
      refine ⟨_, rfl, p, q, 7, rfl, by decide, by decide, hh, fun way H1 h0 h1 hh1 k1 => ?_⟩
      refine ⟨_, rfl, (m : Int), rfl, fun a ha => ⟨a, m, rfl, upd_same, by (first | lia | omega), by (first | lia | omega), fun l hl => ?_⟩⟩
      have ha0 : H a = none := k1.free hh ha hh1
      have hl1 : H1 l = none := by
        rw [upd_ne (fun z => by rw [z, upd_same] at hl; cases hl)] at hl
        exact hl
      refine ⟨⟨way, l, num0 m, none, none, none, none, none, none, none, rfl, List.Perm.refl _, ?_, k1.free hh hl1 hh1, upd_hand (upd_hand hh1 ha) hl, (k1.trans (same_upd ha).keep).trans (same_upd hl).keep⟩, ?_⟩
      · rw [upd_same, rangeV_num0]; rfl
      intro σ1 G1 M1
      refine ⟨M1, fun σ2 G2 M2 => ⟨M2, fun σ3 G3 M3 => ⟨M3, fun σ4 G4 M4 => ⟨M4, fun σ5 G5 M5 => ?_⟩⟩⟩⟩
      obtain ⟨way', l', ys', c4, c5, c6, c7, c8, c9, c10, rfl, hp, hl', hl0, hh5, k5⟩ := M5
      refine ⟨_, rfl, l', _, rfl, .inl ⟨SqL.of hl', fun t ht => k t ys' _ hp upd_same (upd_hand hh5 ht) (k5.trans (same_upd ht).keep)⟩⟩
end
end K61
namespace K61
open PySem PySem.Spec PyProof.Rows L2
noncomputable abbrev s_undone : Stmt := top 11
section
variable {P : Program} {w : World} {K : PySem.W.Frag} {mg : Str -> Option Value} {base : Heap}
theorem sc_undone : FnScope ["order", "places", "place", "number"] ["order"] (defScope s_undone) := ⟨rfl, rfl, rfl, by decide +kernel, rfl, by decide +kernel, by decide +kernel⟩
theorem ok_undone {f : Addr} {fd : FuncData} (F : Fun K "undone" "undone" s_undone f fd) (T : Top mg) : FnOk P w K mg base CX0 1 f fd ["order"] spUndone := by
 refine F.ok sc_undone (fun vs H Q E h => ?_) (fun cdv A outer s H vs Q E hr h => ?_)
 ·obtain ⟨a, ns, m, rfl, _⟩ := h
  rfl
 ·obtain ⟨a, ns, m, rfl, ha, ho, hm, k⟩ := h
  have hln := ho.len
  refine ⟨_, (pss_cons (ps_set (i := 1) sc_undone.nd rfl (Or.inl rfl) (pe_op op_rep (pe_lst (pa_cons pe_int pa_nil)) (pe_callB call_len_seq (by rfl) T.n_len PySem.boot_len (pa_cons (pv 0) pa_nil))))
   (pss_cons (ps_for PassesOwn.never rfl (pi_enumT rfl T.n_enumerate (pa_cons (pv 0) pa_nil)) (pg_pair (i := 2) (j := 3) rfl sc_undone.nd rfl rfl (Or.inl rfl) (Or.inl rfl) (Or.inl rfl) (Or.inl rfl))
    (pss_one (ps_asg (pv 2) (pg_sub (pv 1) (pv 3) set_list))))
   (pss_one (ps_ret (pe_callTy call_tuple_of (by rfl) T.n_tuple boot_tuple (pa_cons (pv 1) pa_nil)))))), ?_⟩
  refine ⟨by show 1 <= sizeLine; decide, fun l hl => ?_⟩
  have s1 := same_upd (o := .lst [.int 0]) hl
  refine ⟨_, rfl, a, _, rfl, .inr (SqT.of (s1 _ _ ha)), l, _, _, rfl, rfl, upd_same, by (first | lia | omega), by rw [mapI_len]; (first | lia | omega), ?_, fun p hp => ?_⟩
  ·simp only [mapI_len, Int.toNat_natCast, List.length_cons, List.length_nil]
   exact Nat.le_trans (by (first | lia | omega) : (0 + 1) * ns.length <= 1000) (by decide)
  have s2 := same_upd (o := .lst (List.replicate ((ns.map V.int).length : Int).toNat [V.int 0]).flatten) hp
  have hp0 : H p = none := s1.free hp
  have hrep : (List.replicate ((ns.map V.int).length : Int).toNat [V.int 0]).flatten = (List.replicate m (0 : Int)).map V.int := by
   rw [mapI_len, Int.toNat_natCast, rep_one, hln, List.map_replicate]
  refine ⟨_, rfl, a, rfl, ⟨_, SqT.of (s2 _ _ (s1 _ _ ha))⟩, for_enum (K := K) (xs := ns.map V.int) (fun i σ H2 => ∃ (ys : List Int) (c2 c3 : Option V), σ = [some (.ref a), some (.ref p), c2, c3] /\ Same H H2 /\ H2 p = some (.lst (ys.map V.int)) /\ ys.length = m /\
   ∀ (j : Nat) x, j < i -> ns[j]? = some x -> ys[x.toNat]? = some (j : Int)) ?_ ?_ ?_ ?_⟩
  ·exact ⟨List.replicate m 0, none, none, rfl, s1.trans s2, by rw [upd_same, hrep], by simp, fun j x hj => absurd hj (Nat.not_lt_zero _)⟩
  ·rintro i σ H2 _ ⟨ys, c2, c3, rfl, sm, _⟩
   exact SqT.of (sm _ _ ha)
  ·rintro i x t σ H2 hx ⟨ys, c2, c3, rfl, sm, hy, hyl, hj⟩ ht
   rw [List.getElem?_map] at hx
   obtain ⟨n, hn, rfl⟩ : ∃ n, ns[i]? = some n /\ V.int n = x := by
    cases e : ns[i]? with
    | none => rw [e] at hx; cases hx
    | some n => rw [e] at hx; exact ⟨n, rfl, Option.some.inj hx⟩
   have hr := ho.rng n (List.mem_of_getElem? hn)
   have hy' : (upd H2 t (.tup [.int (i : Int), .int n])) p = some (.lst (ys.map V.int)) := (same_upd ht) _ _ hy
   refine ⟨t, _, rfl, SqT.of upd_same, rfl, _, _, rfl, _, _, rfl, rfl, ?_⟩
   refine ⟨_, rfl, _, rfl, _, rfl, p, _, n, _, rfl, rfl, hy', ixN_of hr.1 (by rw [hyl]; exact hr.2), ?_⟩
   refine ⟨ys.set n.toNat (i : Int), _, _, rfl, same_updR (sm.trans (same_upd ht)) hp0, ?_, by rw [List.length_set]; exact hyl, fun j x hji hjx => ?_⟩
   ·rw [upd_same, List.map_set]
   ·by_cases e : j = i
    ·subst e
     rw [hn] at hjx
     cases hjx
     rw [List.getElem?_set_self (by (first | lia | omega))]
    ·have hne : x.toNat ≠ n.toNat := fun z => by
      have hrx := ho.rng x (List.mem_of_getElem? hjx)
      have : x = n := by (first | lia | omega)
      subst this
      have h1 : i < ns.length := (List.getElem?_eq_some_iff.mp hn).1
      have h2 : j < ns.length := (List.getElem?_eq_some_iff.mp hjx).1
      have e1 : ns[i] = x := (List.getElem?_eq_some_iff.mp hn).2
      have e2 : ns[j] = x := (List.getElem?_eq_some_iff.mp hjx).2
      have q1 := List.Nodup.idxOf_getElem ho.nodup i h1
      have q2 := List.Nodup.idxOf_getElem ho.nodup j h2
      rw [e1] at q1
      rw [e2] at q2
      exact e (q2.symm.trans q1)
     rw [List.getElem?_set_ne (Ne.symm hne)]
     exact hj j x (by (first | lia | omega)) hjx
  ·rintro σ H2 ⟨ys, c2, c3, rfl, sm, hy, hyl, hj⟩
   refine ⟨_, rfl, p, _, rfl, .inl ⟨SqL.of hy, fun l hl => ?_⟩⟩
   have e : ys = invO ns := inv_of_places ho hyl fun j x hjx => hj j x (by rw [mapI_len]; exact (List.getElem?_eq_some_iff.mp hjx).1) hjx
   subst e
   exact k l _ (sm.trans (same_upd hl)) upd_same
end
end K61
namespace K61
open PySem PySem.Spec PyProof.Rows L2
noncomputable abbrev s_mirrored : Stmt := top 12
section
variable {P : Program} {w : World} {K : PySem.W.Frag} {mg : Str -> Option Value} {base : Heap}
theorem sc_mirrored : FnScope ["order"] ["order"] (defScope s_mirrored) := ⟨rfl, rfl, rfl, by decide +kernel, rfl, by decide +kernel, by decide +kernel⟩
theorem ok_mirrored {f : Addr} {fd : FuncData} (F : Fun K "mirrored" "mirrored" s_mirrored f fd) (T : Top mg) : FnOk P w K mg base CX0 1 f fd ["order"] (spU fun ns => ns.reverse) := by
 refine F.ok sc_mirrored (fun vs H Q E h => ?_) (fun cdv A outer s H vs Q E hr h => ?_)
 ·obtain ⟨a, ns, rfl, _⟩ := h
  rfl
 ·obtain ⟨a, ns, rfl, ha, hl, k⟩ := h
  refine ⟨_, (pss_one (ps_ret (pe_rev rv_tup (pv 0)))), ?_⟩
  refine ⟨_, rfl, a, _, rfl, SqT.of ha, fun p hp => k p _ (same_upd hp) ?_⟩
  rw [upd_same, List.map_reverse]
end
end K61
namespace L2
open PySem PySem.Spec PyProof.Rows
noncomputable def spWhole : Sp := fun vs H Q _ => ∃ n : Int, vs = [.int n] /\ Q (.bl true) H
noncomputable def spIsOrd : Sp := fun vs H Q _ => ∃ (a : Addr) (ns : List Int) (m : Nat), vs = [.ref a] /\ H a = some (.tup (ns.map V.int)) /\ Ord m ns /\ m <= 500 /\ ∀ H', Same H H' -> Q (.bl true) H'
end L2
namespace K61
open PySem PySem.Spec PyProof.Rows L2
noncomputable abbrev s_is_whole : Stmt := top 1
noncomputable abbrev s_is_order : Stmt := top 10
section
variable {P : Program} {w : World} {K : PySem.W.Frag} {mg : Str -> Option Value} {base : Heap}
theorem sc_is_whole : FnScope ["thing"] ["thing"] (defScope s_is_whole) := ⟨rfl, rfl, rfl, by decide +kernel, rfl, by decide +kernel, by decide +kernel⟩
theorem ok_is_whole {f : Addr} {fd : FuncData} (F : Fun K "is_whole" "is_whole" s_is_whole f fd) (T : Top mg) : FnOk P w K mg base CX0 1 f fd ["thing"] spWhole := by
 refine F.ok sc_is_whole (fun vs H Q E h => ?_) (fun cdv A outer s H vs Q E hr h => ?_)
 ·obtain ⟨n, rfl, _⟩ := h
  rfl
 ·obtain ⟨n, rfl, k⟩ := h
  refine ⟨_, (pss_one (ps_ret (pe_and (pe_callB call_isi (by rfl) T.n_isinstance boot_isinstance (pa_cons (pv 0) (pa_cons (pe_bltn (v := .ty "int") rfl T.n_int boot_int rfl) pa_nil))) (pe_one (pe_not (pe_callB call_isi (by rfl) T.n_isinstance boot_isinstance (pa_cons (pv 0) (pa_cons (pe_bltn (v := .ty "bool") rfl T.n_bool boot_bool rfl) pa_nil)))))))), ?_⟩
  refine ⟨_, rfl, _, _, _, _, rfl, .int _, kit_int_int, _, rfl, iteT ?_⟩
  exact ⟨_, rfl, _, _, _, _, rfl, .int _, kit_int_bool, _, rfl, k⟩
theorem sc_is_order : FnScope ["thing", "many", "seen", "number"] ["thing"] (defScope s_is_order) := ⟨rfl, rfl, rfl, by decide +kernel, rfl, by decide +kernel, by decide +kernel⟩
theorem ok_is_order {f : Addr} {fd : FuncData} (F : Fun K "is_order" "is_order" s_is_order f fd) (T : Top mg) (Cis_whole : Cal P w K mg base 1 "is_whole" ["thing"] spWhole) : FnOk P w K mg base CX0 2 f fd ["thing"] spIsOrd := by
 refine F.ok sc_is_order (fun vs H Q E h => ?_) (fun cdv A outer s H vs Q E hr h => ?_)
 ·obtain ⟨a, ns, m, rfl, _⟩ := h
  rfl
 ·obtain ⟨a, ns, m, rfl, ha, ho, hm, k⟩ := h
  have ln := ho.len
  refine ⟨_, (pss_cons (ps_if (pt_not (pt_val (pe_callB call_isi (by rfl) T.n_isinstance boot_isinstance (pa_cons (pv 0) (pa_cons (pe_bltn (v := .ty "tuple") rfl T.n_tuple boot_tuple rfl) pa_nil)))))
    (pss_one (ps_ret pe_bl))
    pss_nil)
   (pss_cons (ps_set (i := 1) sc_is_order.nd rfl (Or.inl rfl) (pe_callB call_len_seq (by rfl) T.n_len PySem.boot_len (pa_cons (pv 0) pa_nil)))
   (pss_cons (ps_set (i := 2) sc_is_order.nd rfl (Or.inl rfl) (pe_op op_rep (pe_lst (pa_cons pe_bl pa_nil)) (pv 1)))
   (pss_cons (ps_for PassesOwn.never rfl (pi_tup (pv 0)) (pg_name (i := 3) sc_is_order.nd rfl (Or.inl rfl))
    (pss_cons (ps_if (PW.pt (pw_or (pt_not (pt_val (pe_cal Cis_whole (hr.mono (by decide)) rfl (pa_cons (pv 3) pa_nil)))) (pw_or (pt_cmpR op_lt (pv 3) pe_int (nomark _)) (pw_or (pt_cmpR op_ge (pv 3) (pv 1) (nomark _)) (pw_or1 (pt_val (pe_ix ix_list (pv 2) (pv 3) (fun _ _ => rfl))))))))
     (pss_one (ps_ret pe_bl))
     pss_nil)
    (pss_one (ps_asg pe_bl (pg_sub (pv 2) (pv 3) set_list)))))
   (pss_one (ps_ret pe_bl)))))), ?_⟩
  refine ⟨_, rfl, _, _, _, _, rfl, .tup ha, kit_tuple_tuple, _, rfl, iteF ?_⟩
  refine ⟨_, rfl, a, _, rfl, .inr (SqT.of ha), ?_⟩
  refine ⟨by show 1 <= sizeLine; decide, fun o1 ho1 => ?_⟩
  have s1 := same_upd (o := .lst [.bl false]) ho1
  refine ⟨_, rfl, o1, _, _, rfl, rfl, upd_same, by (first | lia | omega), by rw [mapI_len]; (first | lia | omega), ?_, fun q hq => ?_⟩
  ·simp only [mapI_len, Int.toNat_natCast, List.length_cons, List.length_nil]
   exact Nat.le_trans (by (first | lia | omega) : (0 + 1) * ns.length <= 1000) (by decide)
  have s2 := same_upd (o := .lst (List.replicate ((ns.map V.int).length : Int).toNat [V.bl false]).flatten) hq
  have hq0 : H q = none := s1.free hq
  have hrep : (List.replicate ((ns.map V.int).length : Int).toNat [V.bl false]).flatten = (List.replicate m false).map V.bl := by
   rw [mapI_len, Int.toNat_natCast, rep_one, ln, List.map_replicate]
  refine ⟨_, rfl, a, rfl, ⟨_, SqT.of (s2 _ _ (s1 _ _ ha))⟩, for_tup (K := K) (xs := ns.map V.int) (fun i σ H2 => ∃ (bs : List Bool) (c3 : Option V), σ = [some (.ref a), some (.int ((ns.map V.int).length : Int)), some (.ref q), c3] /\ Same H H2 /\ H2 q = some (.lst (bs.map V.bl)) /\ Bits bs m (ns.take i)) ?_ ?_ ?_ ?_⟩
  ·exact ⟨List.replicate m false, none, rfl, s1.trans s2, by rw [upd_same, hrep], bits0 m⟩
  ·rintro i σ H2 _ ⟨bs, c3, rfl, sm, _⟩
   exact SqT.of (sm _ _ ha)
  ·rintro i x σ H2 hx ⟨bs, c3, rfl, sm, hq2, B⟩
   rw [List.getElem?_map] at hx
   obtain ⟨n, hn, rfl⟩ : ∃ n, ns[i]? = some n /\ V.int n = x := by
    cases e : ns[i]? with
    | none => rw [e] at hx; cases hx
    | some n => rw [e] at hx; exact ⟨n, rfl, Option.some.inj hx⟩
   have hnr := ho.rng n (List.mem_of_getElem? hn)
   have hnew : n ∉ ns.take i := fun z => by
    obtain ⟨j, hj⟩ := List.getElem?_of_mem z
    rw [List.getElem?_take] at hj
    by_cases hji : j < i
    ·rw [if_pos hji] at hj
     obtain ⟨l1, e1⟩ := List.getElem?_eq_some_iff.mp hn
     obtain ⟨l2, e2⟩ := List.getElem?_eq_some_iff.mp hj
     have q1 := List.Nodup.idxOf_getElem ho.nodup i l1
     have q2 := List.Nodup.idxOf_getElem ho.nodup j l2
     rw [e1] at q1
     rw [e2] at q2
     (first | lia | omega)
    ·rw [if_neg hji] at hj
     cases hj
   have hbit := B.bit n.toNat (by (first | lia | omega))
   rw [show ((n.toNat : Nat) : Int) = n by (first | lia | omega), decide_eq_false hnew] at hbit
   have hat : atI (bs.map V.bl) n = some (.bl false) := by
    have := atI_nat (xs := bs.map V.bl) (j := n.toNat) (v := .bl false) (by rw [List.getElem?_map, hbit]; rfl)
    rwa [show ((n.toNat : Nat) : Int) = n by (first | lia | omega)] at this
   have hix : ixN (bs.map V.bl).length n = some n.toNat := by
    unfold ixN
    rw [List.length_map, B.len, if_pos hnr.1, if_pos (by (first | lia | omega))]
   refine ⟨_, rfl, n, rfl, _, rfl, iteF ?_⟩
   refine ⟨_, rfl, _, _, rfl, rfl, _, rfl, ?_⟩
   rw [decide_eq_false (by (first | lia | omega) : ¬ n < 0)]
   refine iteF ?_
   refine ⟨_, rfl, _, rfl, _, _, rfl, rfl, _, rfl, ?_⟩
   rw [decide_eq_false (by rw [mapI_len]; (first | lia | omega) : ¬ ((ns.map V.int).length : Int) <= n)]
   refine iteF ?_
   refine ⟨_, rfl, _, rfl, q, _, n, _, rfl, rfl, SqL.of hq2, hat, _, rfl, iteF ?_⟩
   refine ⟨_, rfl, _, rfl, q, _, n, _, rfl, rfl, hq2, hix, ?_⟩
   refine ⟨bs.set n.toNat true, _, rfl, same_updR sm hq0, by rw [upd_same, List.map_set], ?_⟩
   rw [List.take_succ, hn]
   exact B.set hnr.1 hnr.2
  ·rintro σ H2 ⟨bs, c3, rfl, sm, _⟩
   exact k H2 sm
end
end K61
namespace L2
open PySem PySem.Spec PyProof.Rows
noncomputable abbrev rwD (R : List (List Int)) : PyData := .tuple (R.map fun r => PyData.tuple (r.map PyData.int))
noncomputable def tqD (P Q : List (List Int)) : PyData := .tuple [rwD P, rwD Q]
theorem shaped_tq (P Q : List (List Int)) : SeqAt.shaped (tqD P Q) = true := by
 have h1 := lay_rows P
 have h2 := deep_rows P
 have h3 := lay_rows Q
 have h4 := deep_rows Q
 show SeqAt.shaped (.tuple [.tuple _, .tuple _]) = true
 simp only [SeqAt.shaped, PyData.canLay0, PyData.canLayAll0, PyData.depth, PyData.depthAll, h1, h3]
 simp
 (first | lia | omega)
theorem eqv_tq (P Q : List (List Int)) : PyData.eqv (tqD P Q) (tqD P Q) = true := by
 have h1 : PyData.eqv (rwD P) (rwD P) = true := eqv_rows P
 have h2 : PyData.eqv (rwD Q) (rwD Q) = true := eqv_rows Q
 show PyData.eqvAll [rwD P, rwD Q] [rwD P, rwD Q] = true
 simp [PyData.eqvAll, h1, h2]
structure TqAt (H : Hp) (t q1 q2 : Addr) (ys1 ys2 : List Addr) (P Q : List (List Int)) : Prop where
 ht : H t = some (.tup [.ref q1, .ref q2])
 h1 : H q1 = some (.tup (ys1.map V.ref))
 r1 : RowsAt H ys1 P
 h2 : H q2 = some (.tup (ys2.map V.ref))
 r2 : RowsAt H ys2 Q
theorem TqAt.same {H H' : Hp} {t q1 q2 : Addr} {ys1 ys2 : List Addr} {P Q : List (List Int)} (h : TqAt H t q1 q2 ys1 ys2 P Q) (s : Same H H') : TqAt H' t q1 q2 ys1 ys2 P Q := ⟨s _ _ h.ht, s _ _ h.h1, h.r1.same s, s _ _ h.h2, h.r2.same s⟩
theorem TqAt.is {H : Hp} {t q1 q2 : Addr} {ys1 ys2 : List Addr} {P Q : List (List Int)} (h : TqAt H t q1 q2 ys1 ys2 P Q) : Is H (.ref t) (tqD P Q) := .tup h.ht (.cons (.tup h.h1 h.r1.data) (.cons (.tup h.h2 h.r2.data) .nil))
theorem alike_rows {H : Hp} {a b : Addr} {ys zs : List Addr} {R : List (List Int)} (ha : H a = some (.tup (ys.map V.ref))) (hb : H b = some (.tup (zs.map V.ref))) (hy : RowsAt H ys R) (hz : RowsAt H zs R) (hl : R.length <= 1000) (hr : ∀ r ∈ R, r.length <= 1000) : Alike H 2 (.ref a) (.ref b) :=
 .inr ⟨a, b, _, _, rfl, rfl, ha, hb, by rw [List.length_map, Paired.length hy]; exact hl, RowsAt.alike hy hz hr⟩
theorem alike_tq {H : Hp} {t q1 q2 t' q1' q2' : Addr} {ys1 ys2 zs1 zs2 : List Addr} {P Q : List (List Int)} (h : TqAt H t q1 q2 ys1 ys2 P Q) (h' : TqAt H t' q1' q2' zs1 zs2 P Q) (hP : P.length <= 1000) (hQ : Q.length <= 1000) (hP2 : ∀ r ∈ P, r.length <= 1000) (hQ2 : ∀ r ∈ Q, r.length <= 1000) : Alike H 3 (.ref t) (.ref t') :=
 .inr ⟨t, t', _, _, rfl, rfl, h.ht, h'.ht, by show 2 <= 1000; decide, .cons (alike_rows h.h1 h'.h1 h.r1 h'.r1 hP hP2) (.cons (alike_rows h.h2 h'.h2 h.r2 h'.r2 hQ hQ2) .nil)⟩
theorem len_list {H : Hp} : ∀ {zs : List Addr} {rows : List (List Int)} {vs : List V}, RowsAt H zs rows -> Paired (fun x v => ∃ (z : Addr) (r : List Int), x = V.ref z /\ H z = some (.tup (r.map V.int)) /\ v = .int (r.length : Int)) (zs.map V.ref) vs -> vs = (rows.map fun r => (r.length : Int)).map V.int
 | _, _, _, .nil, .nil => rfl
 | _, _, _, .cons h t, .cons p pt => by
  obtain ⟨z, r, e1, e2, e3⟩ := p
  cases e1
  rw [h] at e2
  injection e2 with e2
  injection e2 with e2
  have := congrArg List.length e2
  rw [List.length_map, List.length_map] at this
  rw [List.map_cons, List.map_cons, e3, <- this, <- len_list t pt]
noncomputable def spLaw (K : PySem.W.Frag) : Sp := fun vs H Q _ => ∃ (a : Addr) (ns : List Int), vs = [.ref a] /\ SqL K H a (ns.map V.int) /\ ns.length <= 63 /\ ∀ H', Q (.bl true) H'
theorem shaped_rw (P : List (List Int)) : SeqAt.shaped (rwD P) = true := by
 have h1 := lay_rows P
 have h2 := deep_rows P
 show SeqAt.shaped (.tuple _) = true
 simp only [SeqAt.shaped, PyData.canLay0, PyData.depth, h1]
 simp
 (first | lia | omega)
theorem alike_ints3 {H : Hp} {a b : Addr} {ns : List Int} (ha : H a = some (.tup (ns.map V.int))) (hb : H b = some (.tup (ns.map V.int))) (hl : ns.length <= 1000) : Alike H 3 (.ref a) (.ref b) := by
 refine .inr ⟨a, b, _, _, rfl, rfl, ha, hb, by rw [List.length_map]; exact hl, ?_⟩
 clear ha hb hl
 induction ns with
 | nil => exact .nil
 | cons x t ih => exact .cons (.inl ⟨x, rfl, rfl⟩) ih
theorem tup_keep {H H' : Hp} {p q z : Addr} {xs : List V} (h : Hand H p q) (k : Keep p q H H') (e : H z = some (.tup xs)) : H' z = some (.tup xs) := by
 obtain ⟨ns, seed, h1, h2, _⟩ := h
 exact k _ _ e (fun c => by rw [c, h1] at e; cases e) (fun c => by rw [c, h2] at e; cases e)
theorem rows_keep {H H' : Hp} {p q : Addr} {zs : List Addr} {R : List (List Int)} (h : Hand H p q) (k : Keep p q H H') (r : RowsAt H zs R) : RowsAt H' zs R := Paired.mapP r fun _ _ e => tup_keep h k e
theorem neTTq {H : Hp} {a b : Addr} {ns : List Int} {Q : VK} (ha : H a = some (.tup (ns.map V.int))) (hb : H b = some (.tup (ns.map V.int))) (q : Q (.bl false) H) : rNeD (.ref a) (.ref b) H Q := by
 refine ⟨_, _, Is.ints ha, Is.ints hb, shaped_tints ns, shaped_tints ns, ?_⟩
 have : PyData.eqv (.tuple (ns.map PyData.int)) (.tuple (ns.map PyData.int)) = decide (ns = ns) := eqv_ints ns ns
 rw [this, decide_eq_true rfl]
 exact q
theorem lc_lens {K : PySem.W.Frag} {zs : List Addr} {R : List (List Int)} {p : Addr} {G : Hp} {te : TE} {σ : L2.St} {Q' : VK} (hp : G p = some (.tup (zs.map V.ref))) (RA : RowsAt G zs R) (hl : R.length <= 100) (hq : ∀ q G', G q = none -> Same G G' -> G' q = some (.lst (((lens R).map fun (n : Nat) => (n : Int)).map V.int)) -> Q' (.ref q) G')
  (hte : ∀ (z : Addr) (f : List Int) (G' : Hp) (QQ : VK), G' z = some (.tup (f.map V.int)) -> QQ (.int (f.length : Int)) G' -> te (some (.ref z) :: [].map fun i => σ.getD i none) G' QQ) : LcW (Itt K p) G (gName 0) tNoTest te 1 [] σ Q' := by
 refine lc_grow (yields_tup (xs := zs.map V.ref)) (small1 (by rw [List.length_map, Paired.length RA]; (first | lia | omega))) (fun x v _ => ∃ (z : Addr) (r : List Int), x = V.ref z /\ G z = some (.tup (r.map V.int)) /\ v = .int (r.length : Int)) (fun _ _ _ _ _ h => h) (fun G' s' => SqT.of (s' _ _ hp)) (fun x hx G' s' QQ q' => ?_) fun acc vs G' hacc sG hG PV => ?_
 ·obtain ⟨z, hz, rfl⟩ := List.mem_map.mp hx
  obtain ⟨j, hj⟩ := List.getElem?_of_mem hz
  obtain ⟨r, hr1, hr2⟩ := prd_get RA hj
  exact hte z r G' QQ (s' _ _ hr2) (q' _ _ (Same.refl _) ⟨z, r, rfl, hr2, rfl⟩)
 ·have e : vs = ((lens R).map fun (n : Nat) => (n : Int)).map V.int := by
   rw [len_list RA PV]
   unfold lens
   rw [List.map_map, List.map_map, List.map_map]
   rfl
  subst e
  exact hq acc G' hacc sG hG
end L2
namespace K61
open PySem PySem.Spec PyProof.Rows L2
noncomputable abbrev s_law : Stmt := top 24
section
variable {P : Program} {w : World} {K : PySem.W.Frag} {mg : Str -> Option Value} {base : Heap}
theorem sc_law : FnScope ["_law_script", "_law_hand_here", "_law_turn", "_law_order_here", "_law_one", "_law_other", "_law_first", "_law_second", "_law_heard"] ["_law_script"] (defScope s_law) := ⟨rfl, rfl, rfl, by decide +kernel, rfl, by decide +kernel, by decide +kernel⟩
set_option maxHeartbeats 8000000 in
theorem ok_law {f : Addr} {fd : FuncData} (F : Fun K "law" "law" s_law f fd) (T : Top mg) (C_law_hand : Cal P w K mg base 1 "_law_hand" ["_law_script"] (spHand K)) (C_law_size : Cal P w K mg base 2 "_law_size" ["_law_hand_here", "_law_most"] spSize)
  (C_law_order : Cal P w K mg base 3 "_law_order" ["_law_hand_here", "_law_many"] spOrder) (C_law_same : Cal P w K mg base 4 "_law_same" ["_law_found", "_law_due"] (spSame 3)) (Ctables : Cal P w K mg base 2 "tables" ["order"] spTabs) (Corder_of_tables : Cal P w K mg base 2 "order_of_tables" ["one", "other"] spOot) (Cis_order : Cal P w K mg base 2 "is_order" ["thing"] spIsOrd) (Cundone : Cal P w K mg base 1 "undone" ["order"] spUndone) (Cmirrored : Cal P w K mg base 1 "mirrored" ["order"] (spU fun ns => ns.reverse)) (C_law_drawn_table : Cal P w K mg base 3 "_law_drawn_table" ["_law_hand_here", "_law_many"] spDrawT) (C_law_filled : Cal P w K mg base 3 "_law_filled" ["_law_hand_here", "_law_shape"] spFill) (C_law_over : Cal P w K mg base 1 "_law_over" ["_law_grid"] spOver) : FnOk P w K mg base CX0 6 f fd ["_law_script"] (spLaw K) := by
 refine F.ok sc_law (fun vs H Q E h => ?_) (fun cdv A outer s H vs Q E hr h => ?_)
 ·obtain ⟨a, ns, rfl, _⟩ := h
  rfl
 ·obtain ⟨a, ns, rfl, hS, hl, k⟩ := h
  have hu : _ := hr.units
  refine ⟨_, (pss_cons (ps_set (i := 1) sc_law.nd rfl (Or.inl rfl) (pe_cal C_law_hand (hr.mono (by decide)) rfl (pa_cons (pv 0) pa_nil)))
   (pss_cons (ps_for PassesOwn.never rfl (pi_range1 rfl T.n_range (pa_cons pe_int pa_nil)) (pg_name (i := 2) sc_law.nd rfl (Or.inl rfl))
    (pss_cons (ps_set (i := 3) sc_law.nd rfl (Or.inl rfl) (pe_cal C_law_order (hr.mono (by decide)) rfl (pa_cons (pv 1) (pa_cons (pe_cal C_law_size (hr.mono (by decide)) rfl (pa_cons (pv 1) (pa_cons pe_int pa_nil))) pa_nil))))
    (pss_cons (ps_asg (pe_cal Ctables (hr.mono (by decide)) rfl (pa_cons (pv 3) pa_nil)) (pg_pair (i := 4) (j := 5) rfl sc_law.nd rfl rfl (Or.inl rfl) (Or.inl rfl) (Or.inl rfl) (Or.inl rfl)))
    (pss_cons (ps_if (PW.pt (pw_or (pt_not (pt_val (pe_cal C_law_same (hr.mono (by decide)) rfl (pa_cons (pe_cal Corder_of_tables (hr.mono (by decide)) rfl (pa_cons (pv 4) (pa_cons (pv 5) pa_nil))) (pa_cons (pv 3) pa_nil))))) (pw_or1 (pt_cmpR (op_neD hu) (pe_cal Ctables (hr.mono (by decide)) rfl (pa_cons (pe_cal Cundone (hr.mono (by decide)) rfl (pa_cons (pv 3) pa_nil)) pa_nil)) (pe_tup (pa_cons (pv 5) (pa_cons (pv 4) pa_nil))) (nomark _)))))
     (pss_one (ps_ret pe_bl))
     pss_nil)
    (pss_cons (ps_if (PW.pt (pw_or (pt_cmpR (op_neD hu) (pe_cal Corder_of_tables (hr.mono (by decide)) rfl (pa_cons (pv 5) (pa_cons (pv 4) pa_nil))) (pe_cal Cundone (hr.mono (by decide)) rfl (pa_cons (pv 3) pa_nil)) (nomark _)) (pw_or1 (pt_cmpR (op_neD hu) (pe_ix ix_tup (pe_cal Ctables (hr.mono (by decide)) rfl (pa_cons (pe_cal Cmirrored (hr.mono (by decide)) rfl (pa_cons (pv 3) pa_nil)) pa_nil)) pe_int (fun _ _ => rfl)) (pe_cal C_law_over (hr.mono (by decide)) rfl (pa_cons (pv 4) pa_nil)) (nomark _)))))
     (pss_one (ps_ret pe_bl))
     pss_nil)
    (pss_cons (ps_set (i := 6) sc_law.nd rfl (Or.inl rfl) (pe_cal C_law_drawn_table (hr.mono (by decide)) rfl (pa_cons (pv 1) (pa_cons (pe_cal C_law_size (hr.mono (by decide)) rfl (pa_cons (pv 1) (pa_cons pe_int pa_nil))) pa_nil))))
    (pss_cons (ps_set (i := 7) sc_law.nd rfl (Or.inl rfl) (pe_cal C_law_filled (hr.mono (by decide)) rfl (pa_cons (pv 1) (pa_cons (pe_lc (N' := ["_law_row"]) (n := 1) (ix := []) rfl (CompScope.of (sc := defScope s_law) (N := ["_law_script", "_law_hand_here", "_law_turn", "_law_order_here", "_law_one", "_law_other", "_law_first", "_law_second", "_law_heard"]) (by decide +kernel) rfl rfl) (pi_tup (pv 6)) (fun _ _ _ _ _ => ⟨(pg_name (i := 0) (show (["_law_row"] : List Str).Nodup by decide +kernel) rfl (Or.inl rfl)), pts_nil, (pe_callB (call_len_seqKY K rfl) (by rfl) T.n_len PySem.boot_len (pa_cons (pv 0) pa_nil))⟩)) pa_nil))))
    (pss_cons (ps_set (i := 8) sc_law.nd rfl (Or.inl rfl) (pe_cal Corder_of_tables (hr.mono (by decide)) rfl (pa_cons (pv 6) (pa_cons (pv 7) pa_nil))))
    (pss_cons (ps_if (PW.pt (pw_or (pt_cmpR op_isnot_bl (pe_cal Cis_order (hr.mono (by decide)) rfl (pa_cons (pv 8) pa_nil)) pe_bl (nomark _)) (pw_or1 (pt_cmpR op_ne (pe_callB call_len_seq (by rfl) T.n_len PySem.boot_len (pa_cons (pv 8) pa_nil)) (pe_callB (call_sumL rfl) (by rfl) T.n_sum boot_sum (pa_cons (pe_lc (N' := ["_law_row"]) (n := 1) (ix := []) rfl (CompScope.of (sc := defScope s_law) (N := ["_law_script", "_law_hand_here", "_law_turn", "_law_order_here", "_law_one", "_law_other", "_law_first", "_law_second", "_law_heard"]) (by decide +kernel) rfl rfl) (pi_tup (pv 6)) (fun _ _ _ _ _ => ⟨(pg_name (i := 0) (show (["_law_row"] : List Str).Nodup by decide +kernel) rfl (Or.inl rfl)), pts_nil, (pe_callB (call_len_seqKY K rfl) (by rfl) T.n_len PySem.boot_len (pa_cons (pv 0) pa_nil))⟩)) pa_nil)) (nomark _)))))
     (pss_one (ps_ret pe_bl))
     pss_nil)
    (pss_one (ps_if (PW.pt (pw_or (pt_not (pt_val (pe_cal C_law_same (hr.mono (by decide)) rfl (pa_cons (pe_cal Ctables (hr.mono (by decide)) rfl (pa_cons (pv 8) pa_nil)) (pa_cons (pe_tup (pa_cons (pv 6) (pa_cons (pv 7) pa_nil))) pa_nil))))) (pw_or1 (pt_cmpR (op_neD hu) (pe_cal Corder_of_tables (hr.mono (by decide)) rfl (pa_cons (pv 6) (pa_cons (pv 7) pa_nil))) (pv 8) (nomark _)))))
     (pss_one (ps_ret pe_bl))
     pss_nil)))))))))))
   (pss_one (ps_ret (pe_cmpR (op_eqD hu) (pe_cal Corder_of_tables (hr.mono (by decide)) rfl (pa_cons (pe_tup pa_nil) (pa_cons (pe_tup pa_nil) pa_nil))) (pe_tup pa_nil) (nomark _)))))), ?_⟩
  refine ⟨_, rfl, a, ns, rfl, hS, hl, fun p q H1 s1 hh1 hp0 hq0 => ?_⟩
  refine ⟨3, rfl, by decide, by decide, ?_⟩
  refine for_range (n := 3) (fun i σ H2 => ∃ (c2 c3 c4 c5 c6 c7 c8 : Option V), σ = [some (.ref a), some (.ref p), c2, c3, c4, c5, c6, c7, c8] /\ Hand H2 p q) ⟨none, none, none, none, none, none, none, rfl, hh1⟩ ?_ ?_
  ·rintro i σ H2 hi ⟨c2, c3, c4, c5, c6, c7, c8, rfl, hh2⟩
   refine ⟨_, rfl, _, rfl, p, q, 60, rfl, by decide, by decide, hh2, fun m1 G4 m0 m1' hh4 k4 => ?_⟩
   obtain ⟨m, rfl⟩ : ∃ n : Nat, m1 = (n : Int) := ⟨m1.toNat, by (first | lia | omega)⟩
   refine ⟨p, q, m, rfl, by (first | lia | omega), hh4, fun o ys G5 ho hx hh5 k5 => ?_⟩
   have hm : m <= 60 := by (first | lia | omega)
   have ho : Ord m ys := ho
   have ln := ho.len
   have TI := tabs_all ho m (Nat.le_refl _)
   obtain ⟨b1, b2, b3, b4⟩ := tabs_bnd TI hm
   have eU := tab_undone ho
   have eM := tab_mirror ho
   have hoI : Ord m (invO ys) := ho.inv
   have hoR : Ord m ys.reverse := (List.reverse_perm ys).trans ho
   refine ⟨_, rfl, o, ys, m, rfl, hx, ho, hm, fun t q1 q2 zs1 zs2 G6 s6 a1 a2 a3 a4 a5 => ?_⟩
   have A : TqAt G6 t q1 q2 zs1 zs2 (tabI ys m).1 (tabI ys m).2 := ⟨a1, a2, a3, a4, a5⟩
   clear a1 a2 a3 a4 a5
   obtain ⟨PT, QT, eT⟩ : ∃ PT QT, tabI ys m = (PT, QT) := ⟨_, _, rfl⟩
   rw [eT] at A b1 b2 b3 b4 eU eM
   have A : TqAt G6 t q1 q2 zs1 zs2 PT QT := A
   have b1 : PT.length <= 60 := b1
   have b2 : QT.length <= 60 := b2
   have b3 : ∀ r ∈ PT, r.length <= 60 := b3
   have b4 : ∀ r ∈ QT, r.length <= 60 := b4
   have eU : tabI (invO ys) m = (QT, PT) := eU
   have eM : (tabI ys.reverse m).1 = overZ PT := eM
   have hx6 := s6 _ _ hx
   refine ⟨t, _, rfl, SqT.of A.ht, rfl, _, _, rfl, _, _, rfl, rfl, ?_⟩
   have oot : ∀ {G : Hp}, Same G6 G -> G q1 = some (.tup (zs1.map V.ref)) /\ G q2 = some (.tup (zs2.map V.ref)) /\ RowsAt G zs1 (tabI ys m).1 /\ RowsAt G zs2 (tabI ys m).2 := fun s' => by
    rw [eT]
    exact ⟨s' _ _ A.h1, s' _ _ A.h2, A.r1.same s', A.r2.same s'⟩
   obtain ⟨g1, g2, g3, g4⟩ := oot (Same.refl G6)
   refine ⟨_, rfl, _, rfl, q1, q2, zs1, zs2, ys, m, rfl, g1, g2, g3, g4, ho, hm, fun t1 G7 s7 ht1 => ?_⟩
   refine ⟨_, rfl, _, _, rfl, alike_ints3 ht1 (s7 _ _ hx6) (by (first | lia | omega)), fun G8 s8 => ⟨_, rfl, iteF ?_⟩⟩
   have t8 := s7.trans s8
   refine ⟨_, rfl, o, ys, m, rfl, t8 _ _ hx6, ho, by (first | lia | omega), fun u G9 s9 hu9 => ?_⟩
   refine ⟨u, invO ys, m, rfl, hu9, hoI, hm, fun t2 u1 u2 w1 w2 G10 s10 a1 a2 a3 a4 a5 => ?_⟩
   have A2 : TqAt G10 t2 u1 u2 w1 w2 QT PT := by
    rw [eU] at a3 a5
    exact ⟨a1, a2, a3, a4, a5⟩
   have t10 := (t8.trans s9).trans s10
   have A10 := A.same t10
   refine ⟨_, rfl, _, rfl, by show 2 <= sizeLine; decide, fun pr hpr => ?_⟩
   have u11 := same_upd (o := .tup [.ref q2, .ref q1]) hpr
   have A11 := A10.same u11
   have B : TqAt (upd G10 pr (.tup [.ref q2, .ref q1])) pr q2 q1 zs2 zs1 QT PT := ⟨upd_same, A11.h2, A11.r2, A11.h1, A11.r1⟩
   refine ⟨_, _, (A2.same u11).is, B.is, shaped_tq QT PT, shaped_tq QT PT, ?_⟩
   rw [eqv_tq]
   refine ⟨_, rfl, iteF ?_⟩
   have t11 := t10.trans u11
   generalize upd G10 pr (.tup [.ref q2, .ref q1]) = G11 at t11 A11 ⊢
   have r2' : RowsAt G11 zs2 (tabI (invO ys) m).1 := by rw [eU]; exact A11.r2
   have r1' : RowsAt G11 zs1 (tabI (invO ys) m).2 := by rw [eU]; exact A11.r1
   refine ⟨_, rfl, _, rfl, q2, q1, zs2, zs1, invO ys, m, rfl, A11.h2, A11.h1, r2', r1', hoI, hm, fun t3 G12 s12 ht3 => ?_⟩
   have t12 := t11.trans s12
   refine ⟨_, rfl, o, ys, m, rfl, t12 _ _ hx6, ho, by (first | lia | omega), fun u3 G13 s13 hu3 => ?_⟩
   refine neTTq (s13 _ _ ht3) hu3 ⟨_, rfl, iteF ?_⟩
   have t13 := t12.trans s13
   refine ⟨_, rfl, o, ys, rfl, t13 _ _ hx6, by (first | lia | omega), fun rv G14 s14 hrv => ?_⟩
   refine ⟨rv, ys.reverse, m, rfl, hrv, hoR, hm, fun t4 v1 v2 x1 x2 G15 s15 a1 a2 a3 a4 a5 => ?_⟩
   have t15 := (t13.trans s14).trans s15
   have A15 := A.same t15
   rw [eM] at a3
   refine ⟨t4, _, _, .ref v1, rfl, rfl, SqT.of a1, atI_nat (j := 0) rfl, _, rfl, q1, zs1, PT, rfl, A15.h1, A15.r1, by (first | lia | omega), (fun r hr => by have := b3 r hr; (first | lia | omega)), fun t5 ts5 G16 s16 ht5 hr5 => ?_⟩
   refine ⟨_, _, .tup (s16 _ _ a2) (a3.same s16).data, .tup ht5 hr5.data, shaped_rw (overZ PT), shaped_rw (overZ PT), ?_⟩
   rw [show PyData.eqv (rwD (overZ PT)) (rwD (overZ PT)) = true from eqv_rows (overZ PT)]
   refine ⟨_, rfl, iteF ?_⟩
   have hh16 := hh5.same (s6.trans (t15.trans s16))
   clear hu9 a1 a2 a3 a4 a5 A2 B t10 A10 u11 t11 A11 r2' r1' t12 t13 t15 A15 g1 g2 g3 g4 oot hr5 ht5 ht3 hu3 hrv ht1 t8
   refine ⟨_, rfl, _, rfl, p, q, 60, rfl, by decide, by decide, hh16, fun m2 G17 m20 m21 hh17 k17 => ?_⟩
   obtain ⟨n, rfl⟩ : ∃ n : Nat, m2 = (n : Int) := ⟨m2.toNat, by (first | lia | omega)⟩
   have hn : n <= 60 := by (first | lia | omega)
   refine ⟨p, q, n, rfl, by (first | lia | omega), hh17, fun z1 R1 G18 hT1 ⟨ts1, hz1, hr1⟩ hh18 k18 => ?_⟩
   have tb1 := hT1.tab'
   have fl1 : R1.flatten.length = n := hT1.len
   have lR1 : R1.length <= n := by
    have := ne_len hT1.ne
    (first | lia | omega)
   refine ⟨_, rfl, _, rfl, z1, rfl, ⟨_, SqT.of hz1⟩, ?_⟩
   refine lc_lens hz1 hr1 (by (first | lia | omega)) (fun sh G19 hsh s19 hsh' => ?_) (fun z f G' QQ hz hQ => ⟨_, rfl, z, _, rfl, .inr (SqT.of hz), by rw [mapI_len]; exact hQ⟩)
   have nsh := hand_newT hh18 hsh
   have hh19 := hh18.same s19
   refine ⟨p, q, sh, R1, rfl, hh19, hsh', nsh.1, nsh.2, tb1, by (first | lia | omega), fun z2 ts2 R2 G20 tb2 pm2 el hz2 hr2 hh20 k20 => ?_⟩
   rw [fl1] at pm2
   obtain ⟨ns', ln', pm', eT'⟩ := tab_of n R1 R2 tb1 (hT1.perm.nodup_iff.mpr (num0_nodup' n)) tb2 pm2 el
   have ho' : Ord n ns' := pm'.symm.trans hT1.perm
   have hz1' := tup_keep hh19 k20 (s19 _ _ hz1)
   have hr1' := rows_keep hh19 k20 (hr1.same s19)
   have TI' := tabs_all ho' n (Nat.le_refl _)
   obtain ⟨d1, d2, d3, d4⟩ := tabs_bnd TI' hn
   rw [eT'] at d1 d2 d3 d4
   have D : ∀ {G : Hp}, Same G20 G -> G z1 = some (.tup (ts1.map V.ref)) /\ G z2 = some (.tup (ts2.map V.ref)) /\ RowsAt G ts1 (tabI ns' n).1 /\ RowsAt G ts2 (tabI ns' n).2 := fun s' => by
    rw [eT']
    exact ⟨s' _ _ hz1', s' _ _ hz2, hr1'.same s', hr2.same s'⟩
   clear pm2 eM eU k18 k20 k17
   obtain ⟨g1, g2, g3, g4⟩ := D (Same.refl G20)
   refine ⟨_, rfl, _, rfl, z1, z2, ts1, ts2, ns', n, rfl, g1, g2, g3, g4, ho', hn, fun hd G21 s21 hhd => ?_⟩
   refine ⟨_, rfl, hd, ns', n, rfl, hhd, ho', by (first | lia | omega), fun G22 s22 => ⟨_, _, rfl, rfl, _, rfl, iteF ?_⟩⟩
   have t22 := s21.trans s22
   have hhd22 := s22 _ _ hhd
   obtain ⟨g1, g2, g3, g4⟩ := D t22
   rw [eT'] at g3
   have g3 : RowsAt G22 ts1 R1 := g3
   refine ⟨_, rfl, hd, _, rfl, .inr (SqT.of hhd22), _, rfl, z1, rfl, ⟨_, SqT.of g1⟩, ?_⟩
   refine lc_lens g1 g3 (by (first | lia | omega)) (fun sh2 G23 hsh2 s23 hsh2' => ?_) (fun z f G' QQ hz hQ => ⟨_, rfl, z, _, rfl, .inr (SqT.of hz), by rw [mapI_len]; exact hQ⟩)
   refine ⟨sh2, _, rfl, hsh2', rfl, _, rfl, ?_⟩
   rw [mapI_len, sum_cast, lens_sum, fl1, ln', decide_eq_true rfl]
   refine iteF ?_
   have t23 := t22.trans s23
   refine ⟨_, rfl, hd, ns', n, rfl, s23 _ _ hhd22, ho', hn, fun t6 y1 y2 v1 v2 G24 s24 a1 a2 a3 a4 a5 => ?_⟩
   have A6 : TqAt G24 t6 y1 y2 v1 v2 R1 R2 := by
    rw [eT'] at a3 a5
    exact ⟨a1, a2, a3, a4, a5⟩
   refine ⟨_, rfl, _, rfl, by show 2 <= sizeLine; decide, fun pr hpr => ?_⟩
   have u25 := same_upd (o := .tup [.ref z1, .ref z2]) hpr
   have t25 := (t23.trans s24).trans u25
   have B : TqAt (upd G24 pr (.tup [.ref z1, .ref z2])) pr z1 z2 ts1 ts2 R1 R2 := ⟨upd_same, t25 _ _ hz1', hr1'.same t25, t25 _ _ hz2, hr2.same t25⟩
   refine ⟨_, _, rfl, alike_tq (A6.same u25) B (by have : R1.length <= 60 := d1; (first | lia | omega)) (by have : R2.length <= 60 := d2; (first | lia | omega)) (fun r hr => by have := d3 r hr; (first | lia | omega)) (fun r hr => by have := d4 r hr; (first | lia | omega)), fun G26 s26 => ⟨_, rfl, iteF ?_⟩⟩
   have t26 := t25.trans s26
   obtain ⟨g1, g2, g3, g4⟩ := D t26
   refine ⟨_, rfl, _, rfl, z1, z2, ts1, ts2, ns', n, rfl, g1, g2, g3, g4, ho', hn, fun hd2 G27 s27 hhd2 => ?_⟩
   have e27 := s27 _ _ (s26 _ _ (u25 _ _ (s24 _ _ (s23 _ _ hhd22))))
   exact ⟨_, rfl, neTTq hhd2 e27 ⟨_, rfl, iteF ⟨_, _, _, _, _, _, _, rfl, hh20.same (t26.trans s27)⟩⟩⟩
  ·rintro σ H2 ⟨c2, c3, c4, c5, c6, c7, c8, rfl, hh2⟩
   refine ⟨Nat.zero_le _, fun e1 he1 => ?_⟩
   refine ⟨Nat.zero_le _, fun e2 he2 => ?_⟩
   have o0 : Ord 0 [] := List.Perm.refl _
   have u2 := same_upd (o := .tup []) he2
   refine ⟨e1, e2, [], [], [], 0, rfl, u2 _ _ upd_same, upd_same, .nil, .nil, o0, by decide, fun t G s ht => ?_⟩
   refine ⟨Nat.zero_le _, fun e3 he3 => ?_⟩
   refine ⟨_, _, Is.ints (ns := []) (same_upd he3 _ _ ht), Is.ints (ns := []) upd_same, shaped_tints [], shaped_tints [], ?_⟩
   exact k _
end
end K61
namespace K61
open PySem PySem.Spec PyProof.Rows L2
set_option maxHeartbeats 8000000 in
theorem all_mk {l : PySem.W.OpenLaw} {w : World} {K : PySem.W.Frag} {h : Heap} {mg : Str -> Option Value} {fa : Addr} (X : K.In h) (G : h.Ns mainGlobals mg) (hfa : mg "law" = some (.ref fa)) (TK : TopK K)
  (d_is_whole : Def K "is_whole" s_is_whole) (d_is_order : Def K "is_order" s_is_order) (d_undone : Def K "undone" s_undone) (d_mirrored : Def K "mirrored" s_mirrored) (d_put_in : Def K "put_in" s_put_in) (d_as_table : Def K "as_table" s_as_table) (d_tables : Def K "tables" s_tables) (d_rows_from_last : Def K "rows_from_last" s_rows_from_last) (d_take_out : Def K "take_out" s_take_out) (d_order_of_tables : Def K "order_of_tables" s_order_of_tables) (d__law_hand : Def K "_law_hand" s__law_hand) (d__law_pick : Def K "_law_pick" s__law_pick) (d__law_of : Def K "_law_of" s__law_of) (d__law_size : Def K "_law_size" s__law_size) (d__law_any : Def K "_law_any" s__law_any) (d__law_order : Def K "_law_order" s__law_order) (d__law_same : Def K "_law_same" s__law_same) (d__law_drawn_table : Def K "_law_drawn_table" s__law_drawn_table) (d__law_filled : Def K "_law_filled" s__law_filled) (d__law_over : Def K "_law_over" s__law_over) (d_law : Def K "law" s_law) :
  ∃ fd : FuncData, (∀ (s : Shared) (v : Value), BindsTo s fd ⟨[v], []⟩ [("_law_script", v)]) /\ ∀ base : Heap, K.In base -> base.Ns mainGlobals mg -> FnOk l.prog w K mg base CX0 6 fa fd ["_law_script"] (spLaw K) := by
 have T : Top mg := TK.top X G
 obtain ⟨f_is_whole, e_is_whole, F_is_whole, m_is_whole⟩ := d_is_whole.fn X G
 obtain ⟨f_is_order, e_is_order, F_is_order, m_is_order⟩ := d_is_order.fn X G
 obtain ⟨f_undone, e_undone, F_undone, m_undone⟩ := d_undone.fn X G
 obtain ⟨f_mirrored, e_mirrored, F_mirrored, m_mirrored⟩ := d_mirrored.fn X G
 obtain ⟨f_put_in, e_put_in, F_put_in, m_put_in⟩ := d_put_in.fn X G
 obtain ⟨f_as_table, e_as_table, F_as_table, m_as_table⟩ := d_as_table.fn X G
 obtain ⟨f_tables, e_tables, F_tables, m_tables⟩ := d_tables.fn X G
 obtain ⟨f_rows_from_last, e_rows_from_last, F_rows_from_last, m_rows_from_last⟩ := d_rows_from_last.fn X G
 obtain ⟨f_take_out, e_take_out, F_take_out, m_take_out⟩ := d_take_out.fn X G
 obtain ⟨f_order_of_tables, e_order_of_tables, F_order_of_tables, m_order_of_tables⟩ := d_order_of_tables.fn X G
 obtain ⟨f__law_hand, e__law_hand, F__law_hand, m__law_hand⟩ := d__law_hand.fn X G
 obtain ⟨f__law_pick, e__law_pick, F__law_pick, m__law_pick⟩ := d__law_pick.fn X G
 obtain ⟨f__law_of, e__law_of, F__law_of, m__law_of⟩ := d__law_of.fn X G
 obtain ⟨f__law_size, e__law_size, F__law_size, m__law_size⟩ := d__law_size.fn X G
 obtain ⟨f__law_any, e__law_any, F__law_any, m__law_any⟩ := d__law_any.fn X G
 obtain ⟨f__law_order, e__law_order, F__law_order, m__law_order⟩ := d__law_order.fn X G
 obtain ⟨f__law_same, e__law_same, F__law_same, m__law_same⟩ := d__law_same.fn X G
 obtain ⟨f__law_drawn_table, e__law_drawn_table, F__law_drawn_table, m__law_drawn_table⟩ := d__law_drawn_table.fn X G
 obtain ⟨f__law_filled, e__law_filled, F__law_filled, m__law_filled⟩ := d__law_filled.fn X G
 obtain ⟨f__law_over, e__law_over, F__law_over, m__law_over⟩ := d__law_over.fn X G
 obtain ⟨f_law, e_law, F_law, m_law⟩ := d_law.fn X G
 have b_is_whole := F_is_whole.binds (ps := ["thing"]) fun _ _ _ _ _ _ us hl => match us, hl with | [_], _ => rfl
 have b_is_order := F_is_order.binds (ps := ["thing"]) fun _ _ _ _ _ _ us hl => match us, hl with | [_], _ => rfl
 have b_undone := F_undone.binds (ps := ["order"]) fun _ _ _ _ _ _ us hl => match us, hl with | [_], _ => rfl
 have b_mirrored := F_mirrored.binds (ps := ["order"]) fun _ _ _ _ _ _ us hl => match us, hl with | [_], _ => rfl
 have b_put_in := F_put_in.binds (ps := ["rows", "number"]) fun _ _ _ _ _ _ us hl => match us, hl with | [_, _], _ => rfl
 have b_as_table := F_as_table.binds (ps := ["rows"]) fun _ _ _ _ _ _ us hl => match us, hl with | [_], _ => rfl
 have b_tables := F_tables.binds (ps := ["order"]) fun _ _ _ _ _ _ us hl => match us, hl with | [_], _ => rfl
 have b_rows_from_last := F_rows_from_last.binds (ps := ["other"]) fun _ _ _ _ _ _ us hl => match us, hl with | [_], _ => rfl
 have b_take_out := F_take_out.binds (ps := ["rows", "at"]) fun _ _ _ _ _ _ us hl => match us, hl with | [_, _], _ => rfl
 have b_order_of_tables := F_order_of_tables.binds (ps := ["one", "other"]) fun _ _ _ _ _ _ us hl => match us, hl with | [_, _], _ => rfl
 have b__law_hand := F__law_hand.binds (ps := ["_law_script"]) fun _ _ _ _ _ _ us hl => match us, hl with | [_], _ => rfl
 have b__law_pick := F__law_pick.binds (ps := ["_law_hand_here", "_law_many"]) fun _ _ _ _ _ _ us hl => match us, hl with | [_, _], _ => rfl
 have b__law_of := F__law_of.binds (ps := ["_law_hand_here", "_law_some"]) fun _ _ _ _ _ _ us hl => match us, hl with | [_, _], _ => rfl
 have b__law_size := F__law_size.binds (ps := ["_law_hand_here", "_law_most"]) fun _ _ _ _ _ _ us hl => match us, hl with | [_, _], _ => rfl
 have b__law_any := F__law_any.binds (ps := ["_law_hand_here", "_law_many"]) fun _ _ _ _ _ _ us hl => match us, hl with | [_, _], _ => rfl
 have b__law_order := F__law_order.binds (ps := ["_law_hand_here", "_law_many"]) fun _ _ _ _ _ _ us hl => match us, hl with | [_, _], _ => rfl
 have b__law_same := F__law_same.binds (ps := ["_law_found", "_law_due"]) fun _ _ _ _ _ _ us hl => match us, hl with | [_, _], _ => rfl
 have b__law_drawn_table := F__law_drawn_table.binds (ps := ["_law_hand_here", "_law_many"]) fun _ _ _ _ _ _ us hl => match us, hl with | [_, _], _ => rfl
 have b__law_filled := F__law_filled.binds (ps := ["_law_hand_here", "_law_shape"]) fun _ _ _ _ _ _ us hl => match us, hl with | [_, _], _ => rfl
 have b__law_over := F__law_over.binds (ps := ["_law_grid"]) fun _ _ _ _ _ _ us hl => match us, hl with | [_], _ => rfl
 have e : fa = f_law := by
  have q := hfa.symm.trans m_law
  cases q
  rfl
 subst e
 obtain ⟨oc, od, kV, doc, pm, an, cdv, ct, osl, rfl, lk, hcd⟩ := F_law.ex
 refine ⟨PySem.W.fnOf "law" "law" (defArgs s_law) (defBody s_law) (defScope s_law) .none kV doc pm an cdv ct, fun s v => .of_eq rfl, fun base _ _ => ?_⟩
 have Cis_whole : Cal l.prog w K mg base 1 "is_whole" ["thing"] (spWhole) := ⟨f_is_whole, e_is_whole, ok_is_whole F_is_whole T, m_is_whole, F_is_whole.kp, b_is_whole⟩
 have Cis_order : Cal l.prog w K mg base 2 "is_order" ["thing"] (spIsOrd) := ⟨f_is_order, e_is_order, ok_is_order F_is_order T Cis_whole, m_is_order, F_is_order.kp, b_is_order⟩
 have Cundone : Cal l.prog w K mg base 1 "undone" ["order"] (spUndone) := ⟨f_undone, e_undone, ok_undone F_undone T, m_undone, F_undone.kp, b_undone⟩
 have Cmirrored : Cal l.prog w K mg base 1 "mirrored" ["order"] (spU fun ns => ns.reverse) := ⟨f_mirrored, e_mirrored, ok_mirrored F_mirrored T, m_mirrored, F_mirrored.kp, b_mirrored⟩
 have Cput_in : Cal l.prog w K mg base 1 "put_in" ["rows", "number"] (spPutIn) := ⟨f_put_in, e_put_in, ok_put_in F_put_in T, m_put_in, F_put_in.kp, b_put_in⟩
 have Cas_table : Cal l.prog w K mg base 1 "as_table" ["rows"] (spAsT) := ⟨f_as_table, e_as_table, ok_as_table F_as_table T, m_as_table, F_as_table.kp, b_as_table⟩
 have Ctables : Cal l.prog w K mg base 2 "tables" ["order"] (spTabs) := ⟨f_tables, e_tables, ok_tables F_tables T Cput_in Cas_table, m_tables, F_tables.kp, b_tables⟩
 have Crows_from_last : Cal l.prog w K mg base 1 "rows_from_last" ["other"] (spRfl) := ⟨f_rows_from_last, e_rows_from_last, ok_rows_from_last F_rows_from_last T, m_rows_from_last, F_rows_from_last.kp, b_rows_from_last⟩
 have Ctake_out : Cal l.prog w K mg base 1 "take_out" ["rows", "at"] (spTakeO) := ⟨f_take_out, e_take_out, ok_take_out F_take_out T, m_take_out, F_take_out.kp, b_take_out⟩
 have Corder_of_tables : Cal l.prog w K mg base 2 "order_of_tables" ["one", "other"] (spOot) := ⟨f_order_of_tables, e_order_of_tables, ok_order_of_tables F_order_of_tables T Crows_from_last Ctake_out, m_order_of_tables, F_order_of_tables.kp, b_order_of_tables⟩
 have C_law_hand : Cal l.prog w K mg base 1 "_law_hand" ["_law_script"] (spHand K) := ⟨f__law_hand, e__law_hand, ok__law_hand F__law_hand , m__law_hand, F__law_hand.kp, b__law_hand⟩
 have C_law_pick : Cal l.prog w K mg base 1 "_law_pick" ["_law_hand_here", "_law_many"] (spPick) := ⟨f__law_pick, e__law_pick, ok__law_pick F__law_pick , m__law_pick, F__law_pick.kp, b__law_pick⟩
 have C_law_of : Cal l.prog w K mg base 2 "_law_of" ["_law_hand_here", "_law_some"] (spOfI) := ⟨f__law_of, e__law_of, ok__law_of F__law_of T C_law_pick, m__law_of, F__law_of.kp, b__law_of⟩
 have C_law_size : Cal l.prog w K mg base 2 "_law_size" ["_law_hand_here", "_law_most"] (spSize) := ⟨f__law_size, e__law_size, ok__law_size F__law_size C_law_pick, m__law_size, F__law_size.kp, b__law_size⟩
 have C_law_any : Cal l.prog w K mg base 2 "_law_any" ["_law_hand_here", "_law_many"] (spAny) := ⟨f__law_any, e__law_any, ok__law_any F__law_any T C_law_pick, m__law_any, F__law_any.kp, b__law_any⟩
 have C_law_order : Cal l.prog w K mg base 3 "_law_order" ["_law_hand_here", "_law_many"] (spOrder) := ⟨f__law_order, e__law_order, ok__law_order F__law_order T C_law_pick C_law_any, m__law_order, F__law_order.kp, b__law_order⟩
 have C_law_same : Cal l.prog w K mg base 4 "_law_same" ["_law_found", "_law_due"] (spSame 3) := ⟨f__law_same, e__law_same, ok__law_same F__law_same T m__law_same b__law_same 3, m__law_same, F__law_same.kp, b__law_same⟩
 have C_law_drawn_table : Cal l.prog w K mg base 3 "_law_drawn_table" ["_law_hand_here", "_law_many"] (spDrawT) := ⟨f__law_drawn_table, e__law_drawn_table, ok__law_drawn_table F__law_drawn_table T C_law_of, m__law_drawn_table, F__law_drawn_table.kp, b__law_drawn_table⟩
 have C_law_filled : Cal l.prog w K mg base 3 "_law_filled" ["_law_hand_here", "_law_shape"] (spFill) := ⟨f__law_filled, e__law_filled, ok__law_filled F__law_filled T C_law_of, m__law_filled, F__law_filled.kp, b__law_filled⟩
 have C_law_over : Cal l.prog w K mg base 1 "_law_over" ["_law_grid"] (spOver) := ⟨f__law_over, e__law_over, ok__law_over F__law_over T, m__law_over, F__law_over.kp, b__law_over⟩
 exact ok_law F_law T C_law_hand C_law_size C_law_order C_law_same Ctables Corder_of_tables Cis_order Cundone Cmirrored C_law_drawn_table C_law_filled C_law_over
theorem walk {l : PySem.W.OpenLaw} {q : Program} {loose : List Str} {XP : (Str -> Option Value) -> Heap -> Prop} {YP : World -> Heap -> Prop} {d : DefRec} {K : Params -> PySem.W.Frag} (hn : l.most = some 63) (hdf : d.params.defaults = [])
  (hY : ∀ (w : World) (h : Heap), YP w h -> (K w.params).In h)
  (F : ∀ (w : World) (mg : Str -> Option Value) (fa : Addr) (h : Heap), (K w.params).In h -> h.Ns mainGlobals mg -> mg d.name = some (.ref fa) ->
   ∃ fd : FuncData, (∀ (s : Shared) (u : Value), BindsTo s fd ⟨[u], []⟩ [("_law_script", u)]) /\ ∀ base : Heap, (K w.params).In base -> base.Ns mainGlobals mg -> FnOk l.prog w (K w.params) mg base CX0 6 fa fd ["_law_script"] (spLaw (K w.params))) :
  PySem.W.WalkO q loose XP YP l.row.toRowW d [] (fun f vs => PySem.call f vs) :=
 L2.walk_of (n := 63) (k := 6) (x := "_law_script") (CX := fun _ => CX0) (sp := fun w => spLaw (K w.params)) hn (by decide) hdf ⟨rfl, by decide, by decide, rfl⟩ hY F (fun _ _ a ns hl _ hS => ⟨a, ns, rfl, hS, hl, fun _ => rfl⟩) fun _ _ _ _ _ z => z
end K61
open PySem PySem.W PyProof.Rows
set_option maxRecDepth 100000 in
set_option maxHeartbeats 0 in
theorem PySem.Challenge.cw_shuffletold_k61_whole_tables_undone_holds : PySem.Challenge.rw_shuffletold_k61_whole_tables_undone.Holds := by
 w_on; o_law; k_head; (case hw => w_witness2)
 k_fill
 refine K61.walk (l := PySem.Challenge.rw_shuffletold_k61_whole_tables_undone) rfl rfl (fun w h Y => PySem.W.kIn_of Y) ?F
 case F =>
  intro w mg fa h KX G hmg
  refine' K61.all_mk KX G hmg ⟨?_, ?_, ?_, ?_, ?_, ?_, ?_, ?_, ?_, ?_, ?_, ?_, ?_, ?_, ?_⟩ (L2.Def.of ?a0 ?l0 ?c0 ?k0) (L2.Def.of ?a1 ?l1 ?c1 ?k1) (L2.Def.of ?a2 ?l2 ?c2 ?k2) (L2.Def.of ?a3 ?l3 ?c3 ?k3) (L2.Def.of ?a4 ?l4 ?c4 ?k4) (L2.Def.of ?a5 ?l5 ?c5 ?k5) (L2.Def.of ?a6 ?l6 ?c6 ?k6) (L2.Def.of ?a7 ?l7 ?c7 ?k7) (L2.Def.of ?a8 ?l8 ?c8 ?k8) (L2.Def.of ?a9 ?l9 ?c9 ?k9) (L2.Def.of ?a10 ?l10 ?c10 ?k10) (L2.Def.of ?a11 ?l11 ?c11 ?k11) (L2.Def.of ?a12 ?l12 ?c12 ?k12) (L2.Def.of ?a13 ?l13 ?c13 ?k13) (L2.Def.of ?a14 ?l14 ?c14 ?k14) (L2.Def.of ?a15 ?l15 ?c15 ?k15) (L2.Def.of ?a16 ?l16 ?c16 ?k16) (L2.Def.of ?a17 ?l17 ?c17 ?k17) (L2.Def.of ?a18 ?l18 ?c18 ?k18) (L2.Def.of ?a19 ?l19 ?c19 ?k19) (L2.Def.of ?a20 ?l20 ?c20 ?k20)
  (case a0 => k_is); (case l0 => k_is); (case c0 => k_is); (case k0 => k_is)
  (case a1 => k_is); (case l1 => k_is); (case c1 => k_is); (case k1 => k_is)
  (case a2 => k_is); (case l2 => k_is); (case c2 => k_is); (case k2 => k_is)
  (case a3 => k_is); (case l3 => k_is); (case c3 => k_is); (case k3 => k_is)
  (case a4 => k_is); (case l4 => k_is); (case c4 => k_is); (case k4 => k_is)
  (case a5 => k_is); (case l5 => k_is); (case c5 => k_is); (case k5 => k_is)
  (case a6 => k_is); (case l6 => k_is); (case c6 => k_is); (case k6 => k_is)
  (case a7 => k_is); (case l7 => k_is); (case c7 => k_is); (case k7 => k_is)
  (case a8 => k_is); (case l8 => k_is); (case c8 => k_is); (case k8 => k_is)
  (case a9 => k_is); (case l9 => k_is); (case c9 => k_is); (case k9 => k_is)
  (case a10 => k_is); (case l10 => k_is); (case c10 => k_is); (case k10 => k_is)
  (case a11 => k_is); (case l11 => k_is); (case c11 => k_is); (case k11 => k_is)
  (case a12 => k_is); (case l12 => k_is); (case c12 => k_is); (case k12 => k_is)
  (case a13 => k_is); (case l13 => k_is); (case c13 => k_is); (case k13 => k_is)
  (case a14 => k_is); (case l14 => k_is); (case c14 => k_is); (case k14 => k_is)
  (case a15 => k_is); (case l15 => k_is); (case c15 => k_is); (case k15 => k_is)
  (case a16 => k_is); (case l16 => k_is); (case c16 => k_is); (case k16 => k_is)
  (case a17 => k_is); (case l17 => k_is); (case c17 => k_is); (case k17 => k_is)
  (case a18 => k_is); (case l18 => k_is); (case c18 => k_is); (case k18 => k_is)
  (case a19 => k_is); (case l19 => k_is); (case c19 => k_is); (case k19 => k_is)
  (case a20 => k_is); (case l20 => k_is); (case c20 => k_is); (case k20 => k_is)
  all_goals k_is
