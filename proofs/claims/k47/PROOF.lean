import PyProof.Rows.All
import Wide.All
import OpenK.AllK
import Wide.FinOn
import Lean
import PyProof.EqAt
import PyProof.EqKinds
import PyProof.TupleCall
import PySem.Challenge.RW_shuffletold_k47_machines_of_anything
set_option Elab.async false
set_option linter.all false
set_option maxRecDepth 100000
namespace L2
open PySem PySem.Spec PyProof.Rows

abbrev Key := Sum Int Str
def keyIs : Key → Value → Bool
  | .inl k, v => Value.isInt k v
  | .inr x, v => Value.isStrOf x v
def keyH (w : World) : Key → Int
  | .inl k => hashInt k
  | .inr x => hashStr w x
theorem keyIs_shape : ∀ {k : Key} {v : Value}, keyIs k v = true → (∃ i t, k = Sum.inl i ∧ v = Value.int i t) ∨ (∃ x t, k = Sum.inr x ∧ v = Value.str x t)
  | .inl i, v, h => by
    obtain ⟨t, e⟩ := Value.isInt_shape (k := i) (v := v) h
    exact .inl ⟨i, t, rfl, e⟩
  | .inr x, v, h => by
    obtain ⟨t, e⟩ := Value.isStrOf_shape (x := x) (v := v) h
    exact .inr ⟨x, t, rfl, e⟩
theorem key_ll (a b : Int) : decide ((Sum.inl a : Key) = Sum.inl b) = (a == b) := by
  by_cases e : a = b
  · subst e; simp
  · have h : ¬ (Sum.inl a : Key) = Sum.inl b := fun q => e (Sum.inl.inj q)
    rw [decide_eq_false h]
    exact (beq_eq_false_iff_ne.mpr e).symm
theorem key_rr (a b : Str) : decide ((Sum.inr a : Key) = Sum.inr b) = decide (a = b) := by
  by_cases e : a = b
  · subst e; simp
  · have h : ¬ (Sum.inr a : Key) = Sum.inr b := fun q => e (Sum.inr.inj q)
    rw [decide_eq_false h, decide_eq_false e]
theorem key_lr (a : Int) (b : Str) : decide ((Sum.inl a : Key) = Sum.inr b) = false := decide_eq_false (fun q => nomatch q)
theorem key_rl (a : Str) (b : Int) : decide ((Sum.inr a : Key) = Sum.inl b) = false := decide_eq_false (fun q => nomatch q)

def mixKind (prog : Program) (w : World) : PySem.KeyKind prog w Key where
  is := keyIs
  hash := keyH w
  inj := fun v a b ha hb => by
    rcases keyIs_shape ha with ⟨i, t, rfl, rfl⟩ | ⟨x, t, rfl, rfl⟩
    · rcases keyIs_shape hb with ⟨j, u, rfl, e⟩ | ⟨y, u, rfl, e⟩
      · injection e with e1 _; rw [e1]
      · exact nomatch e
    · rcases keyIs_shape hb with ⟨j, u, rfl, e⟩ | ⟨y, u, rfl, e⟩
      · exact nomatch e
      · injection e with e1 _; rw [e1]
  byValue := fun k v h => by
    rcases keyIs_shape h with ⟨i, t, rfl, rfl⟩ | ⟨x, t, rfl, rfl⟩ <;> rfl
  pyHash := fun hv h => by
    rcases keyIs_shape hv with ⟨i, t, rfl, rfl⟩ | ⟨x, t, rfl, rfl⟩
    · exact wpAny_pyHash_int h
    · exact wpAny_pyHash_str h
  eqBool := fun hu hv h => by
    rcases keyIs_shape hu with ⟨i, t, rfl, rfl⟩ | ⟨x, t, rfl, rfl⟩
    · rcases keyIs_shape hv with ⟨j, u, rfl, rfl⟩ | ⟨y, u, rfl, rfl⟩
      · rw [key_ll] at h; exact wpAny_eqBool_int h
      · rw [key_lr] at h; exact SeqAt.EqAt.int_str i t y u _ _ _ _ h
    · rcases keyIs_shape hv with ⟨j, u, rfl, rfl⟩ | ⟨y, u, rfl, rfl⟩
      · rw [key_rl] at h; exact SeqAt.EqAt.str_int x t j u _ _ _ _ h
      · rw [key_rr] at h; exact wpAny_eqBool_str h
  «strs» := fun k x t v h => by
    rcases keyIs_shape h with ⟨i, u, rfl, e⟩ | ⟨y, u, rfl, e⟩
    · exact nomatch e
    · injection e with e1 _
      subst e1
      cases v <;> rfl

end L2

namespace L2
open PySem PySem.Spec PyProof.Rows

inductive V where
  | non | bl (b : Bool) | int (i : Int) | str (x : Str) | byt (b : Array UInt8) | flt (b : UInt64) | ref (a : Addr) | ty (n : String)
  deriving DecidableEq

def RelV : V → Value → Prop
  | .non, u => u = Value.none
  | .bl b, u => u = Value.bool b
  | .int i, u => ∃ t, u = Value.int i t
  | .str x, u => ∃ t, u = Value.str x t
  | .byt b, u => ∃ t, u = Value.bytes b t
  | .flt b, u => ∃ t, u = Value.float b t
  | .ref a, u => u = Value.ref a
  | .ty n, u => u = Value.type n

abbrev Vals : List V → List Value → Prop := Paired RelV
theorem Vals.length {xs : List V} {us : List Value} (r : Vals xs us) : xs.length = us.length := Paired.length r
theorem Vals.get : ∀ {xs : List V} {us : List Value} {i : Nat} {x : V}, Vals xs us → xs[i]? = some x → ∃ u, us[i]? = some u ∧ RelV x u
  | _, _, _, _, .nil, e => by simp at e
  | _, _, 0, _, .cons r _, e => by simp at e; subst e; exact ⟨_, rfl, r⟩
  | _, _, i + 1, x, .cons _ t, e => by
    obtain ⟨u, h1, h2⟩ := Vals.get (i := i) (x := x) t (by simpa using e)
    exact ⟨u, by simpa using h1, h2⟩
theorem Vals.set {x : V} {u : Value} (r : RelV x u) : ∀ {xs : List V} {us : List Value} (i : Nat), Vals xs us → Vals (xs.set i x) (us.set i u)
  | _, _, _, .nil => .nil
  | _, _, 0, .cons _ t => .cons r t
  | _, _, i + 1, .cons q t => .cons q (Vals.set r i t)
theorem Vals.append : ∀ {xs ys : List V} {us ws : List Value}, Vals xs us → Vals ys ws → Vals (xs ++ ys) (us ++ ws)
  | _, _, _, _, .nil, s => s
  | _, _, _, _, .cons r t, s => .cons r (Vals.append t s)
theorem Vals.take : ∀ {xs : List V} {us : List Value} (n : Nat), Vals xs us → Vals (xs.take n) (us.take n)
  | _, _, 0, _ => .nil
  | _, _, _ + 1, .nil => .nil
  | _, _, n + 1, .cons r t => .cons r (Vals.take n t)
theorem Vals.drop : ∀ {xs : List V} {us : List Value} (n : Nat), Vals xs us → Vals (xs.drop n) (us.drop n)
  | _, _, 0, r => r
  | _, _, _ + 1, .nil => .nil
  | _, _, n + 1, .cons _ t => Vals.drop n t
theorem Vals.none_of : ∀ {xs : List V} {us : List Value} {i : Nat}, Vals xs us → xs[i]? = none → us[i]? = none := fun {xs us i} r e => by
  have h1 := r.length
  have h2 : xs.length ≤ i := List.getElem?_eq_none_iff.mp e
  exact List.getElem?_eq_none_iff.mpr (by omega)

def RelO : Option V → Option Value → Prop
  | some v, some u => RelV v u
  | none, none => True
  | _, _ => False
def KV {κ : Type} : List (κ × V) → List (κ × Value) → Prop := Paired fun (p : κ × V) (q : κ × Value) => p.1 = q.1 ∧ RelV p.2 q.2

def kV : Key → V
  | .inl i => .int i
  | .inr x => .str x

inductive HO where
  /-- a list -/
  | lst (xs : List V)
  /-- a tuple (never changes) -/
  | tup (xs : List V)
  /-- a dict whose keys are ints and texts; one whose keys are tuples of ints and texts (the empty one is both) -/
  | dK (kvs : List (Key × V)) | dT (kvs : List (List Key × V))
  /-- a set of ints: its members, its size -/
  | set (S : Int → Bool) (n : Nat)
  /-- an instance of the class at C, its dict at dx, its attributes -/
  | ins (C dx : Addr) (fs : List (Str × V))
  /-- the dict of the instance at x -/
  | own (x : Addr)
  /-- the dict of an exception -/
  | xd (fs : List (Str × V))
  /-- a bound method, f of x -/
  | met (f x : Addr)
  /-- a range object lo, lo + 1, .. below hi -/
  | rng (lo hi : Int)
  /-- a thing that is known to the object (the script; a dict while a loop walks it): read, never written while it is so -/
  | frz (o : Obj) (u : HO)
  /-- a code object's table -/
  | tbl (ps : Array Value)
  /-- any other thing, by what is true of its one object (a def of one's own: SetO a S n := HO.ext fun h => ..) -/
  | ext (φ : Heap → Prop)

abbrev Hp := Addr → Option HO
def upd (H : Hp) (a : Addr) (o : HO) : Hp := fun b => if b = a then some o else H b
theorem upd_same {H : Hp} {a : Addr} {o : HO} : upd H a o a = some o := by unfold upd; rw [if_pos rfl]
theorem upd_ne {H : Hp} {a b : Addr} {o : HO} (h : b ≠ a) : upd H a o b = H b := by unfold upd; rw [if_neg h]
theorem ne_of {H : Hp} {a b : Addr} {o u : HO} (h : H a = some o) (h' : H b = some u) (d : o ≠ u) : a ≠ b := by
  intro e; subst e; rw [h] at h'; exact d (Option.some.inj h')
theorem ne_of_none {H : Hp} {a b : Addr} {o : HO} (h : H a = some o) (h' : H b = none) : a ≠ b := by
  intro e; subst e; rw [h] at h'; cases h'

def PTup (h : Heap) (a : Addr) (items : Array Value) : Prop := ∃ o, h.get? a = some o ∧ o.cls = .type "tuple" ∧ (∃ n, o.data = .seq items n) ∧ o.dict = none ∧ o.slots = #[]
theorem PTup.tup {h : Heap} {a : Addr} {items : Array Value} (p : PTup h a items) : IsTup h a items := by
  obtain ⟨o, e, c, d, _⟩ := p
  exact ⟨o, e, c, d⟩
theorem PTup.new {h : Heap} {items : Array Value} {n : Nat} : PTup (h.push { cls := .type "tuple", data := .seq items n }) h.objs.size items := ⟨_, Heap.get?_push_size _ rfl, rfl, ⟨_, rfl⟩, rfl, rfl⟩
section
variable (P : Program) (w : World)
def ObjOk (H : Hp) (h : Heap) (a : Addr) : HO → Prop
  | .lst xs => xs.length ≤ sizeLine ∧ ∃ (its : List Value) (n : Nat), Vals xs its ∧ h.get? a = some { cls := .type "list", data := .seq its.toArray n }
  | .tup xs => xs.length ≤ sizeLine ∧ ∃ its : List Value, Vals xs its ∧ PTup h a its.toArray
  | .dK kvs => kvs.length ≤ sizeLine ∧ (a == sysModules) = false ∧ ∃ vs, KV kvs vs ∧ h.DictOf (mixKind P w) a vs
  | .dT kvs => kvs.length ≤ sizeLine ∧ (a == sysModules) = false ∧ ∃ xs : List (List Key × Addr × Value),
      Paired (fun (p : List Key × V) (q : List Key × Addr × Value) => p.1 = q.1 ∧ H q.2.1 = some (.tup (p.1.map kV)) ∧ RelV p.2 q.2.2) kvs xs ∧
      ∃ o es ep, h.get? a = some o ∧ o.ExactDict ∧ o.data = .dict es ep ∧ es.toList = xs.map (entryOfKey (tupleKind (mixKind P w))) ∧ (xs.map (·.1)).Nodup
  | .set S n => h.SetOf (intKind P w) a S n
  | .ins C dx fs => H dx = some (.own a) ∧ fs.length ≤ 1000 ∧ dx ≠ a ∧ h.get? a = some (PySem.W.instObj C dx) ∧
      ∃ mA, h.Ns1 dx mA ∧ (∀ f, RelO (fs.lookup f) (mA f)) ∧ PySem.Within mA (fs.map (·.1))
  | .own _ => ∃ o, h.get? a = some o
  | .xd fs => ∃ mA, h.Ns1 a mA ∧ ∀ f, RelO (fs.lookup f) (mA f)
  | .rng lo hi => ∃ t u v, h.get? a = some { cls := .type "range", data := .fields #[.int lo t, .int hi u, .int 1 v] }
  | .frz o u => h.get? a = some o ∧ ObjOk H h a u
  | .tbl ps => h.get? a = some { cls := .none, data := .fields ps }
  | .met f x => h.get? a = some (PySem.W.methodObj (.ref f) (.ref x))
  | .ext φ => φ h ∧ (∃ o, h.get? a = some o) ∧ ∀ h1 h2 : Heap, φ h1 → (∀ o, h1.get? a = some o → h2.get? a = some o) → φ h2
def HOk (H : Hp) (h : Heap) : Prop := ∀ a o, H a = some o → ObjOk P w H h a o
end

section
variable {P : Program} {w : World} {H H' : Hp} {h h' : Heap} {a : Addr} {o : HO}
theorem ObjOk.lt (x : ObjOk P w H h a o) : a < h.objs.size := by
  cases o with
  | lst xs => obtain ⟨_, _, _, _, e⟩ := x; exact Heap.lt_size e
  | tup xs => obtain ⟨_, _, _, p⟩ := x; exact p.tup.lt
  | dK kvs => obtain ⟨_, _, _, _, o, _, _, e, _⟩ := x; exact Heap.lt_size e
  | dT kvs => obtain ⟨_, _, _, _, o, _, _, e, _⟩ := x; exact Heap.lt_size e
  | set S n => obtain ⟨o, _, _, _, e, _⟩ := x; exact Heap.lt_size e
  | ins C dx fs => obtain ⟨_, _, _, e, _⟩ := x; exact Heap.lt_size e
  | own y => obtain ⟨_, e⟩ := x; exact Heap.lt_size e
  | xd fs => obtain ⟨_, ⟨_, _, _, e, _⟩, _⟩ := x; exact Heap.lt_size e
  | rng lo hi => obtain ⟨_, _, _, e⟩ := x; exact Heap.lt_size e
  | frz ob u => obtain ⟨e, _⟩ := x; exact Heap.lt_size e
  | tbl ps => exact Heap.lt_size (show h.get? a = some _ from x)
  | met f y => exact Heap.lt_size (show h.get? a = some _ from x)
  | ext φ => obtain ⟨_, ⟨_, e⟩, _⟩ := x; exact Heap.lt_size e
theorem Paired.mapP {α β : Type} {F G : α → β → Prop} : ∀ {l₁ : List α} {l₂ : List β}, Paired F l₁ l₂ → (∀ a b, F a b → G a b) → Paired G l₁ l₂
  | _, _, .nil, _ => .nil
  | _, _, .cons r t, f => .cons (f _ _ r) (Paired.mapP t f)
theorem ObjOk.stay (x : ObjOk P w H h a o) (k : ∀ b u, (b = a ∨ H b = some (.own a)) → h.get? b = some u → h'.get? b = some u)
    (ho : ∀ b, H b = some (.own a) → H' b = some (.own a)) (ht : ∀ b xs, H b = some (.tup xs) → H' b = some (.tup xs)) : ObjOk P w H' h' a o := by
  induction o with
  | lst xs => obtain ⟨z, its, n, r, e⟩ := x; exact ⟨z, its, n, r, k _ _ (.inl rfl) e⟩
  | tup xs => obtain ⟨z, its, r, ob, e, c⟩ := x; exact ⟨z, its, r, ob, k _ _ (.inl rfl) e, c⟩
  | dK kvs => obtain ⟨z, y, vs, r, ob, es, ep, e, c⟩ := x; exact ⟨z, y, vs, r, ob, es, ep, k _ _ (.inl rfl) e, c⟩
  | dT kvs =>
    obtain ⟨z, y, xs, r, ob, es, ep, e, c⟩ := x
    exact ⟨z, y, xs, Paired.mapP r fun p q z => ⟨z.1, ht _ _ z.2.1, z.2.2⟩, ob, es, ep, k _ _ (.inl rfl) e, c⟩
  | set S n => obtain ⟨ob, es, ep, t, e, c⟩ := x; exact ⟨ob, es, ep, t, k _ _ (.inl rfl) e, c⟩
  | ins C dx fs =>
    obtain ⟨d, z, ne, e, mA, ⟨od, es, ep, e2, c⟩, r⟩ := x
    exact ⟨ho _ d, z, ne, k _ _ (.inl rfl) e, mA, ⟨od, es, ep, k _ _ (.inr d) e2, c⟩, r⟩
  | own y => obtain ⟨ob, e⟩ := x; exact ⟨ob, k _ _ (.inl rfl) e⟩
  | xd fs => obtain ⟨mA, ⟨od, es, ep, e, c⟩, r⟩ := x; exact ⟨mA, ⟨od, es, ep, k _ _ (.inl rfl) e, c⟩, r⟩
  | rng lo hi => obtain ⟨t, u, v, e⟩ := x; exact ⟨t, u, v, k _ _ (.inl rfl) e⟩
  | frz ob u ih => obtain ⟨e, q⟩ := x; exact ⟨k _ _ (.inl rfl) e, ih q⟩
  | tbl ps =>
    have e : h.get? a = some { cls := .none, data := .fields ps } := x
    show h'.get? a = some { cls := .none, data := .fields ps }
    exact k a _ (.inl rfl) e
  | met f y =>
    have e : h.get? a = some (PySem.W.methodObj (.ref f) (.ref y)) := x
    show h'.get? a = some (PySem.W.methodObj (.ref f) (.ref y))
    exact k a _ (.inl rfl) e
  | ext φ => obtain ⟨p, ⟨o, e⟩, st⟩ := x; exact ⟨st _ _ p fun o q => k _ _ (.inl rfl) q, ⟨o, k _ _ (.inl rfl) e⟩, st⟩
theorem HOk.lt (x : HOk P w H h) (e : H a = some o) : a < h.objs.size := (x a o e).lt
theorem HOk.fresh (x : HOk P w H h) (e : h.objs.size ≤ a) : H a = none := by
  cases q : H a with
  | none => rfl
  | some u => exact absurd (Nat.lt_of_lt_of_le (x.lt q) e) (Nat.lt_irrefl _)
theorem HOk.kept (x : HOk P w H h) (k : ∀ b u, h.get? b = some u → h'.get? b = some u) : HOk P w H h' := fun a o e =>
  (x a o e).stay (fun b u _ q => k b u q) (fun _ q => q) fun _ _ q => q
theorem HOk.laid (x : HOk P w H h) (k : ∀ b u, h.get? b = some u → h'.get? b = some u) (hp : h.objs.size ≤ a) (new : ObjOk P w (upd H a o) h' a o) : HOk P w (upd H a o) h' := fun b u e => by
  have hn := x.fresh hp
  by_cases hb : b = a
  · subst hb; rw [upd_same] at e; cases e; exact new
  · rw [upd_ne hb] at e
    exact (x b u e).stay (fun c v _ q => k c v q) (fun c q => by rw [upd_ne (ne_of_none q hn)]; exact q) fun c xs q => by rw [upd_ne (ne_of_none q hn)]; exact q
end

def Rd (H : Hp) (a : Addr) (u : HO) : Prop := H a = some u ∨ ∃ o, H a = some (.frz o u)
theorem Rd.ok {P : Program} {w : World} {H : Hp} {h : Heap} {a : Addr} {u : HO} (r : Rd H a u) (x : HOk P w H h) : ObjOk P w H h a u := by
  rcases r with r | ⟨o, r⟩
  · exact x a u r
  · obtain ⟨_, q⟩ := x a _ r
    exact q
def Mut : Option HO → Prop
  | some (.lst _) => True
  | some (.dK _) => True
  | some (.dT _) => True
  | some (.set _ _) => True
  | some (.ins _ _ _) => True
  | some (.ext _) => True
  | _ => False
section
variable {P : Program} {w : World} {H : Hp} {h h' : Heap} {x e : Addr} {o' : HO}
theorem HOk.write (ok : HOk P w H h) (mu : Mut (H x)) (he : e = x ∨ H e = some (.own x)) (k : ∀ b u, b ≠ e → h.get? b = some u → h'.get? b = some u) (heo : ∃ u, h'.get? e = some u)
    (new : ObjOk P w (upd H x o') h' x o') : HOk P w (upd H x o') h' := fun b u q => by
  have nown : ∀ c y, H c = some (.own y) → c ≠ x := fun c y r z => by subst z; rw [r] at mu; exact mu
  have ntup : ∀ c xs, H c = some (.tup xs) → c ≠ x := fun c xs r z => by subst z; rw [r] at mu; exact mu
  by_cases hb : b = x
  · subst hb; rw [upd_same] at q; cases q; exact new
  · rw [upd_ne hb] at q
    by_cases hbe : b = e
    · have q' : H b = some (.own x) := by
        rcases he with z | z
        · exact absurd (hbe.trans z) hb
        · rw [hbe]; exact z
      rw [q] at q'; cases q'
      obtain ⟨v, hv⟩ := heo
      exact ⟨v, by rw [hbe]; exact hv⟩
    · refine (ok b u q).stay (fun c v hc r => k c v ?_ r) (fun c r => by rw [upd_ne (nown c b r)]; exact r) fun c xs r => by rw [upd_ne (ntup c xs r)]; exact r
      rcases hc with rfl | hc
      · exact hbe
      · rintro rfl
        rcases he with z | z
        · exact nown c b hc z
        · rw [hc] at z; cases z; exact hb rfl
end

structure Un (fs ex : List Addr) (H H' : Hp) (h h' : Heap) : Prop where
  keep : ∀ b o, h.get? b = some o → H b = none → b ∉ fs → b ∉ ex → h'.get? b = some o
  slot : ∀ b o, h.get? b = some o → H b = none → b ∈ fs → b ∉ ex → ∃ sl, h'.get? b = some { o with slots := sl }
  free : ∀ b o, h.get? b = some o → H b = none → b ∉ ex → H' b = none
  there : ∀ b o, h.get? b = some o → b ∉ ex → ∃ o', h'.get? b = some o'
  tups : ∀ b xs, H b = some (.tup xs) → H' b = some (.tup xs)
  frzs : ∀ b o u, H b = some (.frz o u) → H' b = some (.frz o u)
  tbls : ∀ b ps, H b = some (.tbl ps) → ∃ more, H' b = some (.tbl (ps ++ more))
section
variable {fs fs' ex ex' : List Addr} {H H1 H2 : Hp} {h h1 h2 h' : Heap} {a x e : Addr} {o : HO}
theorem Un.any (u : Un fs ex H H1 h h1) {b : Addr} {ob : Obj} (q : h.get? b = some ob) (n : H b = none) (hx : b ∉ ex) : ∃ sl, h1.get? b = some { ob with slots := sl } := by
  by_cases hb : b ∈ fs
  · exact u.slot b ob q n hb hx
  · exact ⟨ob.slots, u.keep b ob q n hb hx⟩
theorem Un.kept (k : ∀ b u, h.get? b = some u → h'.get? b = some u) : Un fs ex H H h h' :=
  ⟨fun b ob q _ _ _ => k b ob q, fun b ob q _ _ _ => ⟨ob.slots, k b ob q⟩, fun _ _ _ n _ => n, fun b ob q _ => ⟨ob, k b ob q⟩, fun _ _ q => q, fun _ _ _ q => q, fun _ ps q => ⟨#[], by rw [q]; simp⟩⟩
theorem Un.refl : Un fs ex H H h h := Un.kept fun _ _ q => q
theorem Un.laid (k : ∀ b u, h.get? b = some u → h'.get? b = some u) (hp : h.objs.size ≤ a) (hn : H a = none) : Un fs ex H (upd H a o) h h' where
  keep := fun b u q _ _ _ => k b u q
  slot := fun b u q _ _ _ => ⟨u.slots, k b u q⟩
  free := fun b u q n _ => by rw [upd_ne (Nat.ne_of_lt (Nat.lt_of_lt_of_le (Heap.lt_size q) hp))]; exact n
  there := fun b u q _ => ⟨u, k b u q⟩
  tups := fun b xs q => by rw [upd_ne (ne_of_none q hn)]; exact q
  frzs := fun b u xs q => by rw [upd_ne (ne_of_none q hn)]; exact q
  tbls := fun b ps q => ⟨#[], by rw [upd_ne (ne_of_none q hn), q]; simp⟩
theorem Un.write (mu : Mut (H x)) (he : e = x ∨ H e = some (.own x)) (k : ∀ b u, b ≠ e → h.get? b = some u → h'.get? b = some u) (heo : ∃ u, h'.get? e = some u) : Un fs ex H (upd H x o) h h' := by
  have hx : ∀ b, H b = none → b ≠ x := fun b n z => by subst z; rw [n] at mu; exact mu
  have hb : ∀ b, H b = none → b ≠ e := fun b n z => by
    subst z
    rcases he with r | r
    · exact hx b n r
    · rw [n] at r; cases r
  have hm : ∀ b u, H b = some u → ¬ Mut (some u) → b ≠ x := fun b u q nm z => by subst z; rw [q] at mu; exact nm mu
  refine ⟨fun b u q n _ _ => k b u (hb b n) q, fun b u q n _ _ => ⟨u.slots, k b u (hb b n) q⟩, fun b u q n _ => by rw [upd_ne (hx b n)]; exact n, fun b u q _ => ?_,
    fun b xs q => by rw [upd_ne (hm b _ q fun z => z)]; exact q, fun b u xs q => by rw [upd_ne (hm b _ q fun z => z)]; exact q, fun b ps q => ⟨#[], by rw [upd_ne (hm b _ q fun z => z), q]; simp⟩⟩
  by_cases hbe : b = e
  · subst hbe; exact heo
  · exact ⟨u, k b u hbe q⟩
end

def trk (h : Heap) (H : Hp) : List Addr := (List.range h.objs.size).filter fun a => (H a).isSome
def hidT (h : Heap) (H : Hp) : Heap := PySem.W.hideAll h (trk h H)
theorem hidT_size (h : Heap) (H : Hp) : (hidT h H).objs.size = h.objs.size := PySem.W.hideAll_size _ _
theorem hidT_get {h : Heap} {H : Hp} {b : Addr} {o : Obj} (e : h.get? b = some o) (n : H b = none) : (hidT h H).get? b = some o :=
  PySem.W.hideAll_get _ e fun hm => by
    have q : (H b).isSome = true := (List.mem_filter.mp hm).2
    rw [n] at q; simp at q
theorem of_hidT {h : Heap} {H : Hp} {b : Addr} {o : Obj} (e : (hidT h H).get? b = some o) : h.get? b = some o ∧ H b = none := by
  have e' : h.get? b = some o := PySem.W.of_hideAll (trk h H) e
  refine ⟨e', ?_⟩
  cases q : H b with
  | none => rfl
  | some x =>
    have hm : b ∈ trk h H := List.mem_filter.mpr ⟨List.mem_range.mpr (Heap.lt_size e'), by simp [q]⟩
    have z : (hidT h H).get? b = none := PySem.W.hideAll_none (trk h H) hm
    rw [z] at e; cases e

def allNews (g h : Heap) (L : Addr) : List (Addr × Obj) := (List.range h.objs.size).filterMap fun a => if a = L ∨ (g.get? a).isSome = true then none else (h.get? a).map fun o => (a, o)
def rest (g h : Heap) (L d : Addr) : List (Addr × Obj) := (allNews g h L).filter fun p => decide (p.1 ≠ d)
end L2

namespace L2
open PySem PySem.Spec PyProof.Rows

structure Mod (K : PySem.W.Frag) (mg : Str → Option Value) (base : Heap) : Prop where
  kin : K.In base
  glob : base.Ns mainGlobals mg
  blt : ∃ mb, base.Ns builtinsNs mb ∧ ∀ x : Str, x ≠ "__name__" → mb x = bootBuiltins x
  nolimit : base.NoLimit

structure Cx where
  prog : Program
  w : World
  K : PySem.W.Frag
  mg : Str → Option Value
  base : Heap
  A : Around
  N : List Str
  s₀ : Shared
  H₀ : Hp
  env : Env
  outer : List Env
  stack : List Env
  ex : List Addr
  fn : Str → Bool
  calm : Bool
  pn : List (Addr × Obj)
  xe : Value → Shared → Prop
def frs (l : List Env) : List Addr := l.filterMap (·.frame)
abbrev Cx.fs (X : Cx) : List Addr := frs X.outer

def Vis (sc : Scope) (x : Str) : Prop := sc.names.lookup x = some .local ∨ sc.names.lookup x = some .cell ∨ sc.names.lookup x = some .free
def Loc (sc : Scope) (x : Str) : Prop := sc.names.lookup x = some .local ∨ sc.names.lookup x = some .cell
def Look (env : Env) (h : Heap) (m : Str → Option Value) (x : Str) (u : Value) : Prop :=
  (env.kindOf x = some .local ∧ m x = some u) ∨ ((env.kindOf x = some .cell ∨ env.kindOf x = some .free) ∧ ∃ c, env.cells.lookup x = some c ∧ h.IsCell c (some u))

structure Cx.Ok (X : Cx) : Prop where
  mod : Mod X.K X.mg X.base
  kind : X.env.scope.kind = .function
  glob : X.env.globals = mainGlobals
  blt : X.env.builtins = builtinsNs
  above : X.s₀.heap.objs.size ≤ X.env.locals
  inj : ∀ x y c, X.env.cells.lookup x = some c → X.env.cells.lookup y = some c → x = y
  has : ∀ x, (X.env.kindOf x = some .cell ∨ X.env.kindOf x = some .free) → ∃ c, X.env.cells.lookup x = some c
  cab : ∀ x c, X.fn x = true → X.env.cells.lookup x = some c → X.s₀.heap.objs.size ≤ c
  hd : X.calm = true → X.A.handled = none
  frames : X.A.frames = some X.stack
  stk : X.stack = X.outer ∨ (X.stack = X.env :: X.outer ∧ X.env.frame = some X.env.locals)
  exf : ∀ b ∈ X.ex, b ≠ X.env.locals ∧ ∀ x c, X.env.cells.lookup x = some c → c ≠ b
  bs : ∀ b o, X.base.get? b = some o → X.s₀.heap.get? b = some o ∧ X.H₀ b = none
  bsz : X.base.objs.size ≤ X.s₀.heap.objs.size
  noex : ∀ b o, X.base.get? b = some o → b ∉ X.ex
  exfs : ∀ b ∈ X.ex, b ∉ X.fs
  funs : X.s₀.heap.FunFrames X.base X.outer
  frf : ∀ b ∈ X.fs, X.H₀ b = none

structure Inv (X : Cx) (pins : List (Addr × Obj)) (σ : List (Option V)) (H : Hp) (s : Shared) : Prop where
  ok : X.Ok
  os : s.os = X.s₀.os
  bare : AllBare s.gens
  base : Un X.fs X.ex X.H₀ H X.s₀.heap s.heap
  loc : ∃ m, s.heap.Ns X.env.locals m ∧ ∀ (i : Nat) (x : Str) (v : V), X.N[i]? = some x → σ[i]? = some (some v) → Vis X.env.scope x → ∃ u, RelV v u ∧ Look X.env s.heap m x u
  cell : ∀ x c, X.env.cells.lookup x = some c → ∃ v, s.heap.IsCell c v
  free : H X.env.locals = none
  freeC : ∀ x c, X.env.cells.lookup x = some c → H c = none
  pin : ∀ p ∈ X.pn ++ pins, s.heap.get? p.1 = some p.2 ∧ H p.1 = none ∧ p.1 ≠ X.env.locals ∧ p.1 ∉ X.fs ∧ ∀ v, p.2.data ≠ .cell v
  hok : HOk X.prog X.w H s.heap
  len : σ.length = X.N.length

section
variable {X : Cx} {pins : List (Addr × Obj)} {σ : List (Option V)} {H H' : Hp} {s : Shared} {h' : Heap}

theorem Cx.Ok.nofr (ok : X.Ok) {b : Addr} {o : Obj} (e : X.base.get? b = some o) : b ∉ X.fs := fun hb => by
  have := (ok.funs.mem hb).1
  rw [e] at this; cases this
theorem Inv.bs (I : Inv X pins σ H s) : ∀ b o, X.base.get? b = some o → s.heap.get? b = some o ∧ H b = none := fun b o e =>
  ⟨I.base.keep b o (I.ok.bs b o e).1 (I.ok.bs b o e).2 (I.ok.nofr e) (I.ok.noex b o e), I.base.free b o (I.ok.bs b o e).1 (I.ok.bs b o e).2 (I.ok.noex b o e)⟩
theorem Inv.bk (I : Inv X pins σ H s) : ∀ b o, X.base.get? b = some o → s.heap.get? b = some o := fun b o e => (I.bs b o e).1
theorem Inv.mod (I : Inv X pins σ H s) : Mod X.K X.mg X.base := I.ok.mod
theorem Inv.kIn (I : Inv X pins σ H s) : X.K.In s.heap := I.ok.mod.kin.keeps I.bk
theorem Inv.lt (I : Inv X pins σ H s) : X.env.locals < s.heap.objs.size := let ⟨_, hn, _⟩ := I.loc; hn.lt
theorem Inv.sz (I : Inv X pins σ H s) : X.s₀.heap.objs.size ≤ s.heap.objs.size := Nat.le_trans I.ok.above (Nat.le_of_lt I.lt)
theorem Inv.nofs (I : Inv X pins σ H s) {a : Addr} (h : s.heap.objs.size ≤ a) : a ∉ X.fs := fun hb => by
  obtain ⟨_, o, ho, _⟩ := I.ok.funs.mem hb
  exact absurd (Nat.lt_of_lt_of_le (Heap.lt_size ho) (Nat.le_trans I.sz h)) (Nat.lt_irrefl _)
theorem Inv.cne (I : Inv X pins σ H s) : ∀ x c, X.env.cells.lookup x = some c → c ≠ X.env.locals := fun x c e z => by
  obtain ⟨v, o, ho, hd⟩ := I.cell x c e
  obtain ⟨m, ⟨o', es, ep, ho', hd', _⟩, _⟩ := I.loc
  rw [z, ho'] at ho; cases ho; rw [hd'] at hd; cases hd
theorem Inv.funs (I : Inv X pins σ H s) : s.heap.FunFrames X.base X.outer := by
  have all : ∀ (l : List Env), (∀ b ∈ frs l, b ∈ X.fs) → X.s₀.heap.FunFrames X.base l → s.heap.FunFrames X.base l := by
    intro l
    induction l with
    | nil => intro _ _; trivial
    | cons env r ih =>
      intro hs hl
      obtain ⟨hk, ⟨L, o, hf, hn, ho, hd⟩, hr⟩ := hl
      have hL : L ∈ X.fs := hs L (by unfold frs; rw [List.filterMap_cons, hf]; exact List.mem_cons_self)
      obtain ⟨sl, e⟩ := I.base.slot L o ho (I.ok.frf L hL) hL fun z => I.ok.exfs L z hL
      exact ⟨hk, ⟨L, _, hf, hn, e, hd⟩, ih (fun b hb => hs b (by unfold frs; rw [List.filterMap_cons, hf]; exact List.mem_cons_of_mem _ hb)) hr⟩
  exact all X.outer (fun _ hb => hb) I.ok.funs

theorem Inv.stack (I : Inv X pins σ H s) : s.heap.FunFrames X.base X.stack := by
  rcases I.ok.stk with e | ⟨e, hf⟩
  · rw [e]; exact I.funs
  · rw [e]
    obtain ⟨m, hn, _⟩ := I.loc
    refine .cons (by rw [I.ok.kind]; decide) hf hn ?_ I.funs
    exact Heap.get?_none_of_le (Nat.le_trans I.ok.bsz I.ok.above)
theorem Inv.stkSub (I : Inv X pins σ H s) : ∀ b ∈ frs X.stack, b ∈ X.env.locals :: X.fs := fun b hb => by
  rcases I.ok.stk with e | ⟨e, hf⟩
  · rw [e] at hb; exact List.mem_cons_of_mem _ hb
  · rw [e] at hb
    unfold frs at hb
    rw [List.filterMap_cons, hf] at hb
    exact hb
theorem Inv.stkFree (I : Inv X pins σ H s) : ∀ b ∈ frs X.stack, H b = none := fun b hb => by
  rcases List.mem_cons.mp (I.stkSub b hb) with e | hb
  · rw [e]; exact I.free
  · obtain ⟨_, o, ho, _⟩ := I.ok.funs.mem hb
    exact I.base.free b o ho (I.ok.frf b hb) fun z => I.ok.exfs b z hb

theorem Inv.step {g' : Array GenState} {t' : Nat} {d' : Drawn} {ch : List Addr} (I : Inv X pins σ H s)
    (hch : ∀ b ∈ ch, (b ∈ X.ex ∨ X.s₀.heap.objs.size ≤ b) ∧ b ≠ X.env.locals ∧ (∀ x c, X.env.cells.lookup x = some c → c ≠ b) ∧ ∀ p ∈ X.pn ++ pins, p.1 ≠ b)
    (keep : ∀ b o, b ≠ X.env.locals → b ∉ X.fs → b ∉ ch → s.heap.get? b = some o → H b = none → h'.get? b = some o)
    (slot : ∀ b o, b ≠ X.env.locals → b ∈ X.fs → b ∉ ch → s.heap.get? b = some o → H b = none → ∃ sl, h'.get? b = some { o with slots := sl }) (free : ∀ b o, b ∉ ch → s.heap.get? b = some o → H b = none → H' b = none)
    (there : ∀ b o, b ∉ ch → s.heap.get? b = some o → ∃ o', h'.get? b = some o')
    (tups : ∀ b xs, H b = some (.tup xs) → H' b = some (.tup xs)) (frzs : ∀ b o u, H b = some (.frz o u) → H' b = some (.frz o u)) (tbls : ∀ b ps, H b = some (.tbl ps) → ∃ more, H' b = some (.tbl (ps ++ more)))
    (ns : ∀ m, s.heap.Ns X.env.locals m → h'.Ns X.env.locals m) (hok : HOk X.prog X.w H' h') (hg : AllBare g') :
    Inv X pins σ H' { s with heap := h', gens := g', drawn := d', toks := t' } := by
  have neL : ∀ b o, X.s₀.heap.get? b = some o → b ≠ X.env.locals := fun b o e => Nat.ne_of_lt (Nat.lt_of_lt_of_le (Heap.lt_size e) I.ok.above)
  have neC : ∀ b o, X.s₀.heap.get? b = some o → b ∉ X.ex → b ∉ ch := fun b o e hx hb => by
    rcases (hch b hb).1 with z | z
    · exact hx z
    · exact absurd (Nat.lt_of_lt_of_le (Heap.lt_size e) z) (Nat.lt_irrefl _)
  have cellK : ∀ x c, X.env.cells.lookup x = some c → ∀ v, s.heap.IsCell c v → h'.IsCell c v := fun x c e v ⟨o, ho, hd⟩ => by
    have nch : c ∉ ch := fun z => (hch c z).2.2.1 x c e rfl
    by_cases hc : c ∈ X.fs
    · obtain ⟨sl, q⟩ := slot c o (I.cne x c e) hc nch ho (I.freeC x c e)
      exact ⟨_, q, hd⟩
    · exact ⟨o, keep c o (I.cne x c e) hc nch ho (I.freeC x c e), hd⟩
  refine ⟨I.ok, I.os, hg, ⟨fun b o e n hb hx => ?_, fun b o e n hb hx => ?_, fun b o e n hx => ?_, fun b o e hx => ?_, fun b xs e => tups b xs (I.base.tups b xs e), fun b o xs e => frzs b o xs (I.base.frzs b o xs e), fun b ps e => ?_⟩, ?_, fun x c e => ?_, ?_, fun x c e => ?_, fun p hp => ?_, hok, I.len⟩
  · exact keep b o (neL b o e) hb (neC b o e hx) (I.base.keep b o e n hb hx) (I.base.free b o e n hx)
  · obtain ⟨sl, e1⟩ := I.base.slot b o e n hb hx
    obtain ⟨sl', e2⟩ := slot b _ (neL b o e) hb (neC b o e hx) e1 (I.base.free b o e n hx)
    exact ⟨sl', e2⟩
  · obtain ⟨o', e1⟩ := I.base.there b o e hx
    exact free b o' (neC b o e hx) e1 (I.base.free b o e n hx)
  · obtain ⟨o', e1⟩ := I.base.there b o e hx
    exact there b o' (neC b o e hx) e1
  · obtain ⟨m1, e1⟩ := I.base.tbls b ps e
    obtain ⟨m2, e2⟩ := tbls b _ e1
    exact ⟨m1 ++ m2, by rw [e2, Array.append_assoc]⟩
  · obtain ⟨m, hn, hl⟩ := I.loc
    refine ⟨m, ns m hn, fun i x v e1 e2 e3 => ?_⟩
    obtain ⟨u, r, l⟩ := hl i x v e1 e2 e3
    refine ⟨u, r, ?_⟩
    rcases l with l | ⟨k, c, e, z⟩
    · exact .inl l
    · exact .inr ⟨k, c, e, cellK x c e _ z⟩
  · obtain ⟨v, z⟩ := I.cell x c e
    exact ⟨v, cellK x c e v z⟩
  · obtain ⟨m, ⟨o, _, _, ho, _⟩, _⟩ := I.loc
    exact free _ o (fun z => (hch _ z).2.1 rfl) ho I.free
  · obtain ⟨v, o, ho, hd⟩ := I.cell x c e
    exact free c o (fun z => (hch c z).2.2.1 x c e rfl) ho (I.freeC x c e)
  · obtain ⟨e, n, ne, nf, d⟩ := I.pin p hp
    have nch : p.1 ∉ ch := fun z => (hch p.1 z).2.2.2 p hp rfl
    exact ⟨keep p.1 p.2 ne nf nch e n, free p.1 p.2 nch e n, ne, nf, d⟩
theorem Inv.un {t' : Nat} (I : Inv X pins σ H s) (u : Un X.fs [] H H' s.heap h') (hok : HOk X.prog X.w H' h') : Inv X pins σ H' { s with heap := h', toks := t' } := by
  obtain ⟨m, ⟨o, es, ep, ho, r⟩, _⟩ := id I.loc
  obtain ⟨sl, hL⟩ := u.any ho I.free (by simp)
  exact I.step (g' := s.gens) (d' := s.drawn) (ch := []) (fun _ z => nomatch z) (fun b o _ hb _ e n => u.keep b o e n hb (by simp)) (fun b o _ hb _ e n => u.slot b o e n hb (by simp)) (fun b o _ e n => u.free b o e n (by simp)) (fun b o _ e => u.there b o e (by simp)) u.tups u.frzs u.tbls (fun m' hm => by
    obtain ⟨o', es', ep', ho', r'⟩ := hm
    rw [ho] at ho'; cases ho'
    exact ⟨_, es', ep', hL, r'⟩) hok I.bare
theorem Inv.call {g' : Array GenState} {t' : Nat} {d' : Drawn} {ch : List Addr} (I : Inv X pins σ H s) (u : Un (frs X.stack) ch H H' s.heap h') (hok : HOk X.prog X.w H' h') (hg : AllBare g')
    (hch : ∀ b ∈ ch, (b ∈ X.ex ∨ X.s₀.heap.objs.size ≤ b) ∧ b ≠ X.env.locals ∧ (∀ x c, X.env.cells.lookup x = some c → c ≠ b) ∧ ∀ p ∈ X.pn ++ pins, p.1 ≠ b) :
    Inv X pins σ H' { s with heap := h', gens := g', drawn := d', toks := t' } := by
  obtain ⟨m, ⟨o, es, ep, ho, r⟩, _⟩ := id I.loc
  obtain ⟨sl, hL⟩ := u.any ho I.free fun z => (hch _ z).2.1 rfl
  exact I.step (ch := ch) hch (fun b o hL hb hc e n => u.keep b o e n (fun z => (List.mem_cons.mp (I.stkSub b z)).elim hL hb) hc) (fun b o _ _ hc e n => u.any e n hc) (fun b o hc e n => u.free b o e n hc) (fun b o hc e => u.there b o e hc) u.tups u.frzs u.tbls (fun m' hm => by
    obtain ⟨o', es', ep', ho', r'⟩ := hm
    rw [ho] at ho'; cases ho'
    exact ⟨_, es', ep', hL, r'⟩) hok hg
theorem Inv.turned {t' : Nat} {it : Addr} (I : Inv X pins σ H s) (k : ∀ b o, b ≠ it → s.heap.get? b = some o → h'.get? b = some o) (hn : H it = none) (hL : it ≠ X.env.locals)
    (h1 : it ∈ X.ex ∨ X.s₀.heap.objs.size ≤ it) (h2 : ∀ x c, X.env.cells.lookup x = some c → c ≠ it) (h3 : ∀ p ∈ X.pn ++ pins, p.1 ≠ it) : Inv X pins σ H { s with heap := h', toks := t' } := by
  have nit : ∀ b u, H b = some u → b ≠ it := fun b u e z => by rw [z, hn] at e; cases e
  refine I.step (g' := s.gens) (d' := s.drawn) (ch := [it]) (fun b hb => ?_) (fun b o _ _ hc e _ => k b o (fun z => hc (by simp [z])) e) (fun b o _ _ hc e _ => ⟨o.slots, k b o (fun z => hc (by simp [z])) e⟩) (fun _ _ _ _ n => n)
    (fun b o hc e => ⟨o, k b o (fun z => hc (by simp [z])) e⟩) (fun _ _ e => e) (fun _ _ _ e => e) (fun b ps e => ⟨#[], by rw [e]; simp⟩) (fun m hm => ?_) (fun b u e => ?_) I.bare
  · have e : b = it := by simpa using hb
    subst e
    exact ⟨h1, hL, h2, h3⟩
  · obtain ⟨o, es, ep, ho, r⟩ := hm
    exact ⟨o, es, ep, k _ o (Ne.symm hL) ho, r⟩
  · refine (I.hok b u e).stay (fun c v hc q => k c v ?_ q) (fun _ q => q) fun _ _ q => q
    rcases hc with z | z
    · rw [z]; exact nit b u e
    · exact nit c _ z
theorem Inv.tok (I : Inv X pins σ H s) (t : Nat) : Inv X pins σ H { s with toks := t } := I.un (h' := s.heap) (t' := t) Un.refl I.hok
theorem Inv.kept {t' : Nat} (I : Inv X pins σ H s) (k : ∀ b u, s.heap.get? b = some u → h'.get? b = some u) : Inv X pins σ H { s with heap := h', toks := t' } := I.un (Un.kept k) (I.hok.kept k)
theorem Inv.laid {a : Addr} {o : HO} {t' : Nat} (I : Inv X pins σ H s) (k : ∀ b u, s.heap.get? b = some u → h'.get? b = some u) (hp : s.heap.objs.size ≤ a) (new : ObjOk X.prog X.w (upd H a o) h' a o) :
    Inv X pins σ (upd H a o) { s with heap := h', toks := t' } := I.un (Un.laid k hp (I.hok.fresh hp)) (I.hok.laid k hp new)
theorem Inv.write {x e : Addr} {o : HO} {t' : Nat} (I : Inv X pins σ H s) (mu : Mut (H x)) (he : e = x ∨ H e = some (.own x)) (k : ∀ b u, b ≠ e → s.heap.get? b = some u → h'.get? b = some u) (heo : ∃ u, h'.get? e = some u)
    (new : ObjOk X.prog X.w (upd H x o) h' x o) : Inv X pins σ (upd H x o) { s with heap := h', toks := t' } := I.un (Un.write mu he k heo) (I.hok.write mu he k heo new)
theorem Inv.weak {σ' : List (Option V)} (I : Inv X pins σ H s) (hl : σ'.length = σ.length) (w : ∀ (i : Nat) v, σ'[i]? = some (some v) → σ[i]? = some (some v)) : Inv X pins σ' H s :=
  ⟨I.ok, I.os, I.bare, I.base, let ⟨m, hn, hl'⟩ := I.loc; ⟨m, hn, fun i x v e1 e2 e3 => hl' i x v e1 (w i v e2) e3⟩, I.cell, I.free, I.freeC, I.pin, I.hok, hl.trans I.len⟩
theorem Inv.pins_of {pins' : List (Addr × Obj)} (I : Inv X pins σ H s) (h : ∀ p ∈ pins', s.heap.get? p.1 = some p.2 ∧ H p.1 = none ∧ p.1 ≠ X.env.locals ∧ p.1 ∉ X.fs ∧ ∀ v, p.2.data ≠ .cell v) : Inv X pins' σ H s :=
  ⟨I.ok, I.os, I.bare, I.base, I.loc, I.cell, I.free, I.freeC, fun p hp => (List.mem_append.mp hp).elim (fun z => I.pin p (List.mem_append_left _ z)) (h p), I.hok, I.len⟩

theorem nodup_ix {N : List Str} (hN : N.Nodup) {i j : Nat} {x : Str} (a : N[i]? = some x) (b : N[j]? = some x) : i = j := by
  obtain ⟨h1, e1⟩ := List.getElem?_eq_some_iff.mp a
  obtain ⟨h2, e2⟩ := List.getElem?_eq_some_iff.mp b
  exact (List.getElem_inj hN).mp (e1.trans e2.symm)

theorem store_ok2 {M : Model} {A : Around} {E : Value → Shared → Prop} {i : Nat} {x : Str} {v : V} {u : Value} {Q : Unit → Shared → Prop} (I : Inv X pins σ H s) (hN : X.N.Nodup) (hi : X.N[i]? = some x) (hx : Loc X.env.scope x) (r : RelV v u)
    (h : ∀ s', Inv X pins (σ.set i (some v)) H s' → (∃ a, Heap.SameBut a s.heap s'.heap ∧ (a = X.env.locals ∨ X.env.cells.lookup x = some a)) → Q () s') (hf : X.fn x = true ∨ X.env.scope.names.lookup x = some .local := by first | exact .inl rfl | exact .inr rfl | assumption) : wpAny M A (storeName X.env x u) Q E s := by
  obtain ⟨m, hn, hl⟩ := id I.loc
  have hcls : (X.env.scope.kind == .class || (X.env.scope.kind == .module && X.env.locals != X.env.globals)) = false := by rw [I.ok.kind]; rfl
  have hiσ : i < σ.length := by rw [I.len]; exact (List.getElem?_eq_some_iff.mp hi).1
  have cne := I.cne
  have tracked : ∀ {a : Addr} {h' : Heap}, (∃ o, s.heap.get? a = some o ∧ H a = none) → Heap.SameBut a s.heap h' → HOk X.prog X.w H h' := fun {a h'} ha hs b ob e => by
    obtain ⟨_, _, hfree⟩ := ha
    refine (I.hok b ob e).stay (fun c w' hc q => (hs.2 c ?_).trans q) (fun _ q => q) fun _ _ q => q
    rintro rfl
    rcases hc with rfl | hc
    · rw [hfree] at e; cases e
    · rw [hfree] at hc; cases hc
  rcases hx with hk | hk
  · refine wpAny_storeName_local hk hn (fun h' hn' hs => ?_) hcls
    obtain ⟨oL, _, _, hoL, _⟩ := id hn
    refine h _ ⟨I.ok, I.os, I.bare, ⟨fun b o e n hb hx => ?_, fun b o e n hb hx => ?_, I.base.free, fun b o e hx => ?_, I.base.tups, I.base.frzs, I.base.tbls⟩, ⟨_, hn', fun j y v' e1 e2 e3 => ?_⟩, fun y c e => ?_, I.free, I.freeC, fun p hp => ?_, tracked ⟨oL, hoL, I.free⟩ hs, by simpa using I.len⟩ ⟨_, hs, .inl rfl⟩
    · exact (hs.2 b (Nat.ne_of_lt (Nat.lt_of_lt_of_le (Heap.lt_size e) I.ok.above))).trans (I.base.keep b o e n hb hx)
    · obtain ⟨sl, e1⟩ := I.base.slot b o e n hb hx
      exact ⟨sl, (hs.2 b (Nat.ne_of_lt (Nat.lt_of_lt_of_le (Heap.lt_size e) I.ok.above))).trans e1⟩
    · obtain ⟨o', e1⟩ := I.base.there b o e hx
      exact ⟨o', (hs.2 b (Nat.ne_of_lt (Nat.lt_of_lt_of_le (Heap.lt_size e) I.ok.above))).trans e1⟩
    · by_cases hj : j = i
      · subst hj
        rw [hi] at e1; cases e1
        rw [List.getElem?_set_self hiσ] at e2
        cases e2
        exact ⟨u, r, .inl ⟨hk, by simp⟩⟩
      · rw [List.getElem?_set_ne (Ne.symm hj)] at e2
        obtain ⟨u', r', q⟩ := hl j y v' e1 e2 e3
        refine ⟨u', r', ?_⟩
        rcases q with ⟨k, e⟩ | ⟨k, c, e, z⟩
        · refine .inl ⟨k, ?_⟩
          have : y ≠ x := fun e => hj (nodup_ix hN e1 (e ▸ hi))
          simp [this, e]
        · exact .inr ⟨k, c, e, z.sameBut hs (cne y c e)⟩
    · obtain ⟨w', z⟩ := I.cell y c e
      exact ⟨w', z.sameBut hs (cne y c e)⟩
    · obtain ⟨e, n, ne, nf, d⟩ := I.pin p hp
      exact ⟨(hs.2 p.1 ne).trans e, n, ne, nf, d⟩
  · have hfn : X.fn x = true := by
      rcases hf with z | z
      · exact z
      · rw [z] at hk; cases hk
    obtain ⟨c, hc⟩ := I.ok.has x (.inl hk)
    obtain ⟨w', z⟩ := I.cell x c hc
    refine wpAny_storeName_cell I.ok.kind hk hc z (fun h' hc' hs => ?_)
    obtain ⟨oc, hoc, hocd⟩ := id z
    refine h { s with heap := h' } ⟨I.ok, I.os, I.bare, ⟨fun b o e n hb hx => ?_, fun b o e n hb hx => ?_, I.base.free, fun b o e hx => ?_, I.base.tups, I.base.frzs, I.base.tbls⟩, ⟨m, hn.sameBut hs (Ne.symm (cne x c hc)), fun j y v' e1 e2 e3 => ?_⟩, fun y c' e => ?_, I.free, I.freeC, fun p hp => ?_, tracked ⟨oc, hoc, I.freeC x c hc⟩ hs, by simpa using I.len⟩ ⟨c, hs, .inr hc⟩
    · exact (hs.2 b (Nat.ne_of_lt (Nat.lt_of_lt_of_le (Heap.lt_size e) (I.ok.cab x c hfn hc)))).trans (I.base.keep b o e n hb hx)
    · obtain ⟨sl, e1⟩ := I.base.slot b o e n hb hx
      exact ⟨sl, (hs.2 b (Nat.ne_of_lt (Nat.lt_of_lt_of_le (Heap.lt_size e) (I.ok.cab x c hfn hc)))).trans e1⟩
    · obtain ⟨o', e1⟩ := I.base.there b o e hx
      exact ⟨o', (hs.2 b (Nat.ne_of_lt (Nat.lt_of_lt_of_le (Heap.lt_size e) (I.ok.cab x c hfn hc)))).trans e1⟩
    · by_cases hj : j = i
      · subst hj
        rw [hi] at e1; cases e1
        rw [List.getElem?_set_self hiσ] at e2
        cases e2
        exact ⟨u, r, .inr ⟨.inl hk, c, hc, hc'⟩⟩
      · rw [List.getElem?_set_ne (Ne.symm hj)] at e2
        obtain ⟨u', r', q⟩ := hl j y v' e1 e2 e3
        refine ⟨u', r', ?_⟩
        rcases q with q | ⟨k, c', e, z'⟩
        · exact .inl q
        · refine .inr ⟨k, c', e, z'.sameBut hs ?_⟩
          rintro rfl
          exact hj (nodup_ix hN e1 (I.ok.inj _ _ _ e hc ▸ hi))
    · by_cases hcc : c' = c
      · subst hcc; exact ⟨_, hc'⟩
      · obtain ⟨w2, z2⟩ := I.cell y c' e
        exact ⟨w2, z2.sameBut hs hcc⟩
    · obtain ⟨e, n, ne, nf, d⟩ := I.pin p hp
      refine ⟨(hs.2 p.1 ?_).trans e, n, ne, nf, d⟩
      intro q
      rw [q, hoc] at e
      have q' : oc = p.2 := Option.some.inj e
      exact d w' (by rw [← q']; exact hocd)
theorem store_ok {M : Model} {A : Around} {E : Value → Shared → Prop} {i : Nat} {x : Str} {v : V} {u : Value} {Q : Unit → Shared → Prop} (I : Inv X pins σ H s) (hN : X.N.Nodup) (hi : X.N[i]? = some x) (hx : Loc X.env.scope x) (r : RelV v u)
    (h : ∀ s', Inv X pins (σ.set i (some v)) H s' → Q () s') (hf : X.fn x = true ∨ X.env.scope.names.lookup x = some .local := by first | exact .inl rfl | exact .inr rfl | assumption) : wpAny M A (storeName X.env x u) Q E s :=
  store_ok2 I hN hi hx r (fun s' I' _ => h s' I') hf
theorem Inv.call' {s' : Shared} {ch : List Addr} (I : Inv X pins σ H s) (ho : s'.os = s.os) (u : Un (frs X.stack) ch H H' s.heap s'.heap) (hok : HOk X.prog X.w H' s'.heap) (hg : AllBare s'.gens)
    (hch : ∀ b ∈ ch, (b ∈ X.ex ∨ X.s₀.heap.objs.size ≤ b) ∧ b ≠ X.env.locals ∧ (∀ x c, X.env.cells.lookup x = some c → c ≠ b) ∧ ∀ p ∈ X.pn ++ pins, p.1 ≠ b) : Inv X pins σ H' s' := by
  obtain ⟨h', g', d', t', o'⟩ := s'
  have e : o' = s.os := ho
  subst e
  exact I.call (g' := g') (t' := t') (d' := d') u hok hg hch
end

abbrev XK := Value → Option Addr → Hp → Prop
abbrev St := List (Option V)
abbrev VK := V → Hp → Prop
abbrev TE := St → Hp → VK → Prop
abbrev TT := St → Hp → (Bool → Hp → Prop) → Prop
abbrev TA := St → Hp → (List V → Hp → Prop) → Prop
structure Ends where
  nx : St → Hp → Prop
  rt : VK
  bk : St → Hp → Prop := fun _ _ => False
  ct : St → Hp → Prop := fun _ _ => False
abbrev TS := Ends → St → Hp → Prop

def EP (X : Cx) (pins : List (Addr × Obj)) (σ : St) (Q : VK) (u : Value) (s' : Shared) : Prop := ∃ v H', Inv X pins σ H' s' ∧ RelV v u ∧ Q v H'
def TP (X : Cx) (pins : List (Addr × Obj)) (σ : St) (Q : Bool → Hp → Prop) (b : Bool) (s' : Shared) : Prop := ∃ H', Inv X pins σ H' s' ∧ Q b H'
def AP (X : Cx) (pins : List (Addr × Obj)) (σ : St) (Q : List V → Hp → Prop) (us : List Value) (s' : Shared) : Prop := ∃ vs H', Inv X pins σ H' s' ∧ Vals vs us ∧ Q vs H'
def SP (X : Cx) (pins : List (Addr × Obj)) (D : Ends) (f : Flow) (s' : Shared) : Prop :=
  match f with
  | .next => ∃ σ' H', Inv X pins σ' H' s' ∧ D.nx σ' H'
  | .brk => ∃ σ' H', Inv X pins σ' H' s' ∧ D.bk σ' H'
  | .cont => ∃ σ' H', Inv X pins σ' H' s' ∧ D.ct σ' H'
  | .ret u => ∃ v σ' H', Inv X pins σ' H' s' ∧ RelV v u ∧ D.rt v H'

def PE (X : Cx) (e : Expr) (t : TE) : Prop :=
  ∀ (pins : List (Addr × Obj)) (s : Shared) (σ : St) (H : Hp) (Q : VK), Inv X pins σ H s → t σ H Q → wpAny (model X.prog X.w) X.A (eval e X.env) (EP X pins σ Q) X.xe s
def PT (X : Cx) (e : Expr) (t : TT) : Prop :=
  ∀ (pins : List (Addr × Obj)) (s : Shared) (σ : St) (H : Hp) (Q : Bool → Hp → Prop), Inv X pins σ H s → t σ H Q → wpAny (model X.prog X.w) X.A (isTrue e X.env (eval e X.env)) (TP X pins σ Q) X.xe s
def PW (X : Cx) (e : Expr) (t : TT) : Prop :=
  ∀ (whole : Sem Value) (pins : List (Addr × Obj)) (s : Shared) (σ : St) (H : Hp) (Q : Bool → Hp → Prop), Inv X pins σ H s → t σ H Q → wpAny (model X.prog X.w) X.A (isTrue e X.env whole) (TP X pins σ Q) X.xe s
theorem PW.pt {X : Cx} {e : Expr} {t : TT} (h : PW X e t) : PT X e t := h _
def PA (X : Cx) (es : List Expr) (t : TA) : Prop :=
  ∀ (pos : Pos) (pins : List (Addr × Obj)) (s : Shared) (σ : St) (H : Hp) (Q : List V → Hp → Prop), Inv X pins σ H s → t σ H Q → wpAny (model X.prog X.w) X.A (spliced (backTo pos (starEach es X.env))) (AP X pins σ Q) X.xe s
def PS (X : Cx) (st : Stmt) (t : TS) : Prop :=
  ∀ (pins : List (Addr × Obj)) (s : Shared) (σ : St) (H : Hp) (D : Ends), Inv X pins σ H s → t D σ H → wpAny (model X.prog X.w) X.A (exec st X.env) (SP X pins D) X.xe s
def PSs (X : Cx) (st : List Stmt) (t : TS) : Prop :=
  ∀ (pins : List (Addr × Obj)) (s : Shared) (σ : St) (H : Hp) (D : Ends), Inv X pins σ H s → t D σ H → wpAny (model X.prog X.w) X.A (execs st X.env) (SP X pins D) X.xe s
theorem thn {α : Type} {t : Sem α} {Q Q' : α → Shared → Prop} {M : Model} {A : Around} {E : Value → Shared → Prop} {s : Shared} (h : wpAny M A t Q E s) (hQ : ∀ a s, Q a s → Q' a s) : wpAny M A t Q' E s := wpAny_mono h hQ fun _ _ x => x
end L2

namespace L2
open PySem PySem.Spec PyProof.Rows
section
variable {X : Cx}

def tVar (i : Nat) : TE := fun σ H Q => ∃ v, σ[i]? = some (some v) ∧ Q v H
def tC (v : V) : TE := fun _ H Q => Q v H
theorem pe_var {i : Nat} {x : Str} {pos : Pos} (hN : X.N[i]? = some x) (hv : Vis X.env.scope x) (hd : (x == ("__debug__" : Str)) = false := by decide) (hcd : (x == ("__classdict__" : Str)) = false := by decide) : PE X (.Name x pos) (tVar i) := by
  intro pins s σ H Q I h
  obtain ⟨v, e, h⟩ := h
  obtain ⟨m, hn, hl⟩ := I.loc
  obtain ⟨u, r, l⟩ := hl i x v hN e hv
  have fin : EP X pins σ Q u s := ⟨v, H, I, r, h⟩
  rcases l with ⟨hk, hm⟩ | ⟨hk, c, hc, hcell⟩
  · exact wpAny_Name (wpAny_loadName_local I.ok.kind hk hn hm fin) hd
  · rcases hk with hk | hk
    · exact wpAny_Name (wpAny_loadName_cell I.ok.kind hk hc hcell fin) hd
    · exact wpAny_Name (wpAny_loadName_free I.ok.kind hk hc hcell fin hcd) hd
theorem pe_int {i j pos} : PE X (.Constant (.int i) j pos) (tC (.int i)) := fun _ _ _ H _ I h => wpAny_Constant_int ⟨.int i, H, I.tok _, ⟨_, rfl⟩, h⟩
theorem pe_bl {b j pos} : PE X (.Constant (.bool b) j pos) (tC (.bl b)) := fun _ _ _ H _ I h => Constant_bool ⟨.bl b, H, I, rfl, h⟩
theorem pe_non {j pos} : PE X (.Constant .none j pos) (tC .non) := fun _ _ _ H _ I h => Constant_none ⟨.non, H, I, rfl, h⟩
theorem pe_str {x j pos} : PE X (.Constant (.str x) j pos) (tC (.str x)) := fun _ _ _ H _ I h => Calls.Constant_str ⟨.str x, H, I.tok _, ⟨_, rfl⟩, h⟩

def Gl (X : Cx) (x : Str) : Prop := X.env.kindOf x = some .globalImplicit
theorem ld_glob {E : Value → Shared → Prop} {pins : List (Addr × Obj)} {s : Shared} {σ : St} {H : Hp} {x : Str} {u : Value} {pos : Pos} {Q : Value → Shared → Prop} (I : Inv X pins σ H s) (hg : Gl X x) (hm : X.mg x = some u) (h : Q u s)
    (hd : (x == ("__debug__" : Str)) = false := by decide) : wpAny (model X.prog X.w) X.A (eval (.Name x pos) X.env) Q E s :=
  Calls.Name_function_global I.ok.kind hg (Calls.loadGlobal_global (by rw [I.ok.glob]; exact I.mod.glob.keeps I.bk) hm h) hd
theorem ld_blt {E : Value → Shared → Prop} {pins : List (Addr × Obj)} {s : Shared} {σ : St} {H : Hp} {x : Str} {u : Value} {pos : Pos} {Q : Value → Shared → Prop} (I : Inv X pins σ H s) (hg : Gl X x) (hm : X.mg x = none) (hv : bootBuiltins x = some u) (h : Q u s)
    (hn : x ≠ "__name__" := by decide) (hd : (x == ("__debug__" : Str)) = false := by decide) : wpAny (model X.prog X.w) X.A (eval (.Name x pos) X.env) Q E s := by
  obtain ⟨mb, h1, h2⟩ := I.mod.blt
  exact Calls.Name_function_global I.ok.kind hg (Calls.loadGlobal_builtin (by rw [I.ok.glob]; exact I.mod.glob.keeps I.bk) hm (by rw [I.ok.blt]; exact h1.keeps I.bk) ((h2 x hn).trans hv) h) hd
theorem pe_glob {x : Str} {v : V} {u : Value} {pos : Pos} (hg : Gl X x) (hm : X.mg x = some u) (r : RelV v u) (hd : (x == ("__debug__" : Str)) = false := by decide) : PE X (.Name x pos) (tC v) :=
  fun _ _ _ H _ I h => ld_glob I hg hm ⟨v, H, I, r, h⟩ hd
theorem pe_bltn {x : Str} {v : V} {u : Value} {pos : Pos} (hg : Gl X x) (hm : X.mg x = none) (hv : bootBuiltins x = some u) (r : RelV v u) (hn : x ≠ "__name__" := by decide) (hd : (x == ("__debug__" : Str)) = false := by decide) : PE X (.Name x pos) (tC v) :=
  fun _ _ _ H _ I h => ld_blt I hg hm hv ⟨v, H, I, r, h⟩ hn hd

def t2I (ta tb : TE) (k : Int → Int → Hp → Prop) : St → Hp → Prop := fun σ H => ta σ H fun x H1 => tb σ H1 fun y H2 => ∃ i j, x = .int i ∧ y = .int j ∧ k i j H2
def tAdd (ta tb : TE) : TE := fun σ H Q => t2I ta tb (fun i j H2 => Q (.int (i + j)) H2) σ H
def tSub (ta tb : TE) : TE := fun σ H Q => t2I ta tb (fun i j H2 => Q (.int (i - j)) H2) σ H
def tMul (ta tb : TE) : TE := fun σ H Q => t2I ta tb (fun i j H2 => (-(2 ^ 64) < i ∧ i < 2 ^ 64) ∧ Q (.int (i * j)) H2) σ H
variable {a b : Expr} {ta tb : TE} {pos : Pos}
def PC (X : Cx) (op : CmpOp) (a b : Expr) (t : TE) : Prop :=
  ∀ (pins : List (Addr × Obj)) (s : Shared) (σ : St) (H : Hp) (Q : VK), Inv X pins σ H s → t σ H Q →
    wpAny (model X.prog X.w) X.A (eval a X.env) (fun v s₁ => wpAny (model X.prog X.w) X.A (eval b X.env) (fun u s₂ => wpAny (model X.prog X.w) X.A (compareOp op v u) (EP X pins σ Q) X.xe s₂) X.xe s₁) X.xe s
def tCmp (p : Int → Int → Bool) (ta tb : TE) : TE := fun σ H Q => t2I ta tb (fun i j H2 => Q (.bl (p i j)) H2) σ H
abbrev tLt : TE → TE → TE := tCmp fun i j => decide (i < j)
abbrev tLe : TE → TE → TE := tCmp fun i j => decide (i ≤ j)
abbrev tGt : TE → TE → TE := tCmp fun i j => decide (j < i)
abbrev tGe : TE → TE → TE := tCmp fun i j => decide (j ≤ i)
abbrev tEqI : TE → TE → TE := tCmp fun i j => decide (i = j)
abbrev tNeI : TE → TE → TE := tCmp fun i j => !decide (i = j)
def tIsN (ta : TE) : TE := fun σ H Q => ta σ H fun x H1 => Q (.bl (decide (x = .non))) H1
def tNotN (ta : TE) : TE := fun σ H Q => ta σ H fun x H1 => Q (.bl (!decide (x = .non))) H1
def tB (t : TE) : TT := fun σ H Q => t σ H fun x H1 => ∃ c, x = .bl c ∧ Q c H1
theorem pt_val {e : Expr} {t : TE} (h : PE X e t) (he : ∀ whole, isTrue e X.env whole = (do let v ← whole; standAt e.pos; holding [v] (truthy v)) := by intro _; rfl) : PT X e (tB t) := by
  intro pins s σ H Q I hw
  refine isTrue_plain (thn (h pins s σ H _ I hw) fun v s1 ⟨x, H1, I1, r1, q1⟩ => ?_) (he _)
  obtain ⟨d, rfl, q⟩ := q1
  cases r1
  exact wpAny_truthy_bool ⟨H1, I1, q⟩

variable {tA tB' : TT} {rest : List Expr}
def tAnd (t u : TT) : TT := fun σ H Q => t σ H fun c H1 => if c = true then u σ H1 Q else Q false H1
def tOr (t u : TT) : TT := fun σ H Q => t σ H fun c H1 => if c = true then Q true H1 else u σ H1 Q
def tNot (t : TT) : TT := fun σ H Q => t σ H fun c H1 => Q (!c) H1
theorem pw_or1 (ha : PT X a tA) : PW X (.BoolOp .Or [a] pos) tA := by
  intro wh pins s σ H Q I h
  refine isTrue_or (thn (ha pins s σ H Q I h) fun c s1 e => ?_)
  cases c with
  | false => exact isTrue_or_nil e
  | true => exact e
theorem pw_or (ha : PT X a tA) (hb : PW X (.BoolOp .Or (b :: rest) pos) tB') : PW X (.BoolOp .Or (a :: b :: rest) pos) (tOr tA tB') := by
  intro wh pins s σ H Q I h
  refine isTrue_or (thn (ha pins s σ H _ I h) fun c s1 ⟨H1, I1, q1⟩ => ?_)
  cases c with
  | true => exact ⟨H1, I1, q1⟩
  | false => exact hb wh pins s1 σ H1 Q I1 q1
theorem pt_not (ha : PT X a tA) : PT X (.UnaryOp .Not a pos) (tNot tA) := by
  intro pins s σ H Q I h
  exact isTrue_not (ha pins s σ H (fun c H1 => Q (!c) H1) I h)
def tAndV (ta tb : TE) : TE := fun σ H Q => ta σ H fun x H1 => ∃ c, x = .bl c ∧ if c = true then tb σ H1 Q else Q (.bl false) H1
def tOrV (ta tb : TE) : TE := fun σ H Q => ta σ H fun x H1 => ∃ c, x = .bl c ∧ if c = true then Q (.bl true) H1 else tb σ H1 Q
def tNotV (ta : TE) : TE := fun σ H Q => ta σ H fun x H1 => ∃ c, x = .bl c ∧ Q (.bl (!c)) H1
theorem pe_one {op} {t : TE} (h : PE X a t) : PE X (.BoolOp op [a] pos) t := fun pins s σ H Q I hw => BoolOp_one (h pins s σ H Q I hw)
theorem pe_and (ha : PE X a ta) (hb : PE X (.BoolOp .And (b :: rest) pos) tb) : PE X (.BoolOp .And (a :: b :: rest) pos) (tAndV ta tb) := by
  intro pins s σ H Q I h
  refine BoolOp_and (thn (ha pins s σ H _ I h) fun v s1 ⟨x, H1, I1, r1, q1⟩ => ?_)
  obtain ⟨c, rfl, q1⟩ := q1
  cases r1
  refine wpAny_truthy_bool ?_
  cases c with
  | true => exact hb pins s1 σ H1 Q I1 q1
  | false => exact ⟨.bl false, H1, I1, rfl, q1⟩
theorem pe_not (ha : PE X a ta) : PE X (.UnaryOp .Not a pos) (tNotV ta) := by
  intro pins s σ H Q I h
  refine UnaryOp_ (thn (ha pins s σ H _ I h) fun v s1 ⟨x, H1, I1, r1, q1⟩ => ?_)
  obtain ⟨c, rfl, q1⟩ := q1
  cases r1
  exact not_of (wpAny_truthy_bool ⟨.bl (!c), H1, I1, rfl, q1⟩)
def tIf (t : TT) (ta tb : TE) : TE := fun σ H Q => t σ H fun c H1 => if c = true then ta σ H1 Q else tb σ H1 Q
theorem pe_ifExp {c : Expr} (hc : PT X c tA) (ha : PE X a ta) (hb : PE X b tb) : PE X (.IfExp c a b pos) (tIf tA ta tb) := by
  intro pins s σ H Q I h
  refine wpAny_IfExp (thn (hc pins s σ H _ I h) fun d s1 ⟨H1, I1, q1⟩ => ?_)
  cases d with
  | true => exact ha pins s1 σ H1 Q I1 q1
  | false => exact hb pins s1 σ H1 Q I1 q1
end
end L2

namespace L2
open PySem PySem.Spec PyProof.Rows

def SqL (K : PySem.W.Frag) (H : Hp) (a : Addr) (xs : List V) : Prop :=
  Rd H a (.lst xs) ∨
    ∃ (o : Obj) (its : Array Value) (n : Nat), K.lookup a = some o ∧ o.cls = .type "list" ∧ o.dict = none ∧ o.data = .seq its n ∧ its.size ≤ sizeLine ∧ Vals xs its.toList
def SqT (K : PySem.W.Frag) (H : Hp) (a : Addr) (xs : List V) : Prop :=
  Rd H a (.tup xs) ∨
    ∃ (o : Obj) (its : Array Value) (n : Nat), K.lookup a = some o ∧ o.cls = .type "tuple" ∧ o.data = .seq its n ∧ its.size ≤ sizeLine ∧ Vals xs its.toList
def absV : Value → Option V
  | .none => some .non
  | .bool b => some (.bl b)
  | .int i _ => some (.int i)
  | .str x _ => some (.str x)
  | .bytes b _ => some (.byt b)
  | .float b _ => some (.flt b)
  | .ref a => some (.ref a)
  | .type n => some (.ty n)
  | _ => none
theorem RelV.abs {x : V} {u : Value} (r : RelV x u) : absV u = some x := by
  cases x with
  | non => cases r; rfl
  | bl _ => cases r; rfl
  | int _ => obtain ⟨t, rfl⟩ := r; rfl
  | str _ => obtain ⟨t, rfl⟩ := r; rfl
  | byt _ => obtain ⟨t, rfl⟩ := r; rfl
  | flt _ => obtain ⟨t, rfl⟩ := r; rfl
  | ref _ => cases r; rfl
  | ty _ => cases r; rfl
theorem RelV.inj {x y : V} {u : Value} (r : RelV x u) (q : RelV y u) : x = y := Option.some.inj (r.abs.symm.trans q.abs)
theorem Vals.inj : ∀ {xs ys : List V} {us : List Value}, Vals xs us → Vals ys us → xs = ys
  | _, _, _, .nil, .nil => rfl
  | _, _, _, .cons r t, .cons r' t' => by rw [r.inj r', Vals.inj t t']
section
variable {X : Cx} {pins : List (Addr × Obj)} {σ : St} {H : Hp} {s : Shared} {a : Addr} {xs ys : List V}
theorem SqL.of {K : PySem.W.Frag} (h : H a = some (.lst xs)) : SqL K H a xs := .inl (.inl h)
theorem SqT.of {K : PySem.W.Frag} (h : H a = some (.tup xs)) : SqT K H a xs := .inl (.inl h)
theorem Inv.list (I : Inv X pins σ H s) (h : SqL X.K H a xs) : ∃ its : List Value, Vals xs its ∧ PlainL s.heap a its.toArray ∧ xs.length ≤ sizeLine := by
  rcases h with h | ⟨o, its, n, hk, hc, hd, hs, hz, r⟩
  · obtain ⟨z, its, n, r, e⟩ := h.ok I.hok
    exact ⟨its, r, ⟨_, n, e, rfl, rfl, rfl⟩, z⟩
  · refine ⟨its.toList, r, ⟨o, n, I.kIn a o hk, hc, hd, by simpa using hs⟩, ?_⟩
    have e := r.length
    simp only [Array.length_toList] at e
    omega
theorem Inv.tuple (I : Inv X pins σ H s) (h : SqT X.K H a xs) : ∃ its : List Value, Vals xs its ∧ IsTup s.heap a its.toArray ∧ xs.length ≤ sizeLine := by
  rcases h with h | ⟨o, its, n, hk, hc, hs, hz, r⟩
  · obtain ⟨z, its, r, p⟩ := h.ok I.hok
    exact ⟨its, r, p.tup, z⟩
  · refine ⟨its.toList, r, ⟨o, I.kIn a o hk, hc, n, by simpa using hs⟩, ?_⟩
    have e := r.length
    simp only [Array.length_toList] at e
    omega
theorem Inv.list_inj (I : Inv X pins σ H s) (h : SqL X.K H a xs) (h' : SqL X.K H a ys) : xs = ys := by
  obtain ⟨its, r, ⟨o, n, e, _, _, d⟩, _⟩ := I.list h
  obtain ⟨its', r', ⟨o', n', e', _, _, d'⟩, _⟩ := I.list h'
  rw [e] at e'; cases e'
  rw [d] at d'
  injection d' with d1 _
  have : its = its' := by simpa using congrArg Array.toList d1
  subst this
  exact r.inj r'
theorem Inv.tuple_inj (I : Inv X pins σ H s) (h : SqT X.K H a xs) (h' : SqT X.K H a ys) : xs = ys := by
  obtain ⟨its, r, ⟨o, e, _, n, d⟩, _⟩ := I.tuple h
  obtain ⟨its', r', ⟨o', e', _, n', d'⟩, _⟩ := I.tuple h'
  rw [e] at e'; cases e'
  rw [d] at d'
  injection d' with d1 _
  have : its = its' := by simpa using congrArg Array.toList d1
  subst this
  exact r.inj r'
end

abbrev Cx.wish (X : Cx) (E : Value → Shared → Prop) : Cx := { X with xe := E }
abbrev Cx.nox (X : Cx) : Cx := X.wish fun _ _ => False
theorem Cx.Ok.wish {X : Cx} (ok : X.Ok) (E : Value → Shared → Prop) : (X.wish E).Ok :=
  ⟨ok.mod, ok.kind, ok.glob, ok.blt, ok.above, ok.inj, ok.has, ok.cab, ok.hd, ok.frames, ok.stk, ok.exf, ok.bs, ok.bsz, ok.noex, ok.exfs, ok.funs, ok.frf⟩
theorem Cx.Ok.unwish {X : Cx} {E : Value → Shared → Prop} (ok : (X.wish E).Ok) : X.Ok :=
  ⟨ok.mod, ok.kind, ok.glob, ok.blt, ok.above, ok.inj, ok.has, ok.cab, ok.hd, ok.frames, ok.stk, ok.exf, ok.bs, ok.bsz, ok.noex, ok.exfs, ok.funs, ok.frf⟩
section
variable {X : Cx} {pins : List (Addr × Obj)} {σ : St} {H : Hp} {s : Shared} {E : Value → Shared → Prop}
theorem Inv.wish (I : Inv X pins σ H s) (E : Value → Shared → Prop) : Inv (X.wish E) pins σ H s := ⟨I.ok.wish E, I.os, I.bare, I.base, I.loc, I.cell, I.free, I.freeC, I.pin, I.hok, I.len⟩
theorem Inv.unwish (I : Inv (X.wish E) pins σ H s) : Inv X pins σ H s := ⟨I.ok.unwish, I.os, I.bare, I.base, I.loc, I.cell, I.free, I.freeC, I.pin, I.hok, I.len⟩
theorem SP.unwish {D : Ends} {f : Flow} {s' : Shared} (h : SP (X.wish E) pins D f s') : SP X pins D f s' := by
  cases f with
  | next => obtain ⟨σ', H', I, q⟩ := h; exact ⟨σ', H', I.unwish, q⟩
  | brk => obtain ⟨σ', H', I, q⟩ := h; exact ⟨σ', H', I.unwish, q⟩
  | cont => obtain ⟨σ', H', I, q⟩ := h; exact ⟨σ', H', I.unwish, q⟩
  | ret u => obtain ⟨v, σ', H', I, r, q⟩ := h; exact ⟨v, σ', H', I.unwish, r, q⟩
theorem PSs.nox {st : List Stmt} {t : TS} (h : PSs X.nox st t) : PSs X st t := fun pins s σ H D I hw =>
  wpAny_mono (h pins s σ H D (I.wish _) hw) (fun _ _ q => q.unwish) fun _ _ z => False.elim z
end

section
variable {X : Cx} {st : Stmt} {rest : List Stmt} {t u : TS} {e : Expr} {te : TE} {pos : Pos}
def tNext : TS := fun D σ H => D.nx σ H
def tSeq (t u : TS) : TS := fun D σ H => t { D with nx := u D } σ H
theorem pss_nil : PSs X [] tNext := fun _ _ σ H _ I h => wpAny_execs_nil ⟨σ, H, I, h⟩
theorem pss_cons (h1 : PS X st t) (h2 : PSs X rest u) : PSs X (st :: rest) (tSeq t u) := by
  intro pins s σ H D I h
  refine wpAny_execs_cons (thn (h1 pins s σ H { D with nx := u D } I h) fun f s1 q => ?_)
  cases f with
  | next =>
    obtain ⟨σ', H', I', q⟩ := q
    exact h2 pins s1 σ' H' D I' q
  | ret v => exact q
  | brk => exact q
  | cont => exact q
theorem pss_one (h1 : PS X st t) : PSs X [st] t := by
  intro pins s σ H D I h
  refine wpAny_execs_cons (thn (h1 pins s σ H D I h) fun f s1 q => ?_)
  cases f with
  | next => exact wpAny_execs_nil q
  | ret v => exact q
  | brk => exact q
  | cont => exact q
def tBreak : TS := fun D σ H => D.bk σ H
def tCont : TS := fun D σ H => D.ct σ H
theorem Inv.quiet {pins : List (Addr × Obj)} {σ : St} {H : Hp} {s : Shared} (I : Inv X pins σ H s) : interactive X.env = false := by simp [interactive, I.ok.kind]
def tDrop (te : TE) : TS := fun D σ H => te σ H fun _ H1 => D.nx σ H1
theorem ps_expr (he : PE X e te) (hs : swapsWith e none pos.line X.env = pure false := by rfl) : PS X (.Expr e pos) (tDrop te) := by
  intro pins s σ H D I h
  exact wpAny_Expr_any (thn (he pins s σ H _ I h) fun v s1 ⟨x, H1, I1, r1, q1⟩ => ⟨σ, H1, I1, q1⟩) I.quiet hs
def tRet (te : TE) : TS := fun D σ H => te σ H D.rt
theorem ps_ret (he : PE X e te) : PS X (.Return (some e) pos) (tRet te) := by
  intro pins s σ H D I h
  exact wpAny_Return_some (thn (he pins s σ H _ I h) fun v s1 ⟨x, H1, I1, r1, q1⟩ => ⟨x, σ, H1, I1, r1, q1⟩)
def tRetN : TS := fun D _ H => D.rt .non H
def tIfS (c : TT) (t u : TS) : TS := fun D σ H => c σ H fun b H1 => if b = true then t D σ H1 else u D σ H1
theorem ps_if {c : Expr} {a b : List Stmt} {tc : TT} (hc : PT X c tc) (ha : PSs X a t) (hb : PSs X b u) : PS X (.If c a b pos) (tIfS tc t u) := by
  intro pins s σ H D I h
  refine wpAny_If (thn (hc pins s σ H _ I h) fun d s1 ⟨H1, I1, q1⟩ => ?_)
  cases d with
  | true => exact ha pins s1 σ H1 D I1 q1
  | false => exact hb pins s1 σ H1 D I1 q1
def tNever : TS := fun _ _ _ => False
end

abbrev TG := V → St → Hp → (St → Hp → Prop) → Prop
abbrev TGs := List V → St → Hp → (St → Hp → Prop) → Prop
def PG (X : Cx) (target : Expr) (t : TG) : Prop :=
  ∀ (pins : List (Addr × Obj)) (s : Shared) (σ : St) (H : Hp) (v : V) (u : Value) (Q : St → Hp → Prop), Inv X pins σ H s → RelV v u → t v σ H Q →
    wpAny (model X.prog X.w) X.A (assign target X.env u) (fun _ s' => ∃ σ' H', Inv X pins σ' H' s' ∧ Q σ' H') X.xe s
def PGs (X : Cx) (ts : List Expr) (t : TGs) : Prop :=
  ∀ (pins : List (Addr × Obj)) (s : Shared) (σ : St) (H : Hp) (vs : List V) (us : List Value) (Q : St → Hp → Prop), Inv X pins σ H s → Vals vs us → t vs σ H Q →
    wpAny (model X.prog X.w) X.A (assignInOrder ((assignEach ts X.env).map (·.2)) us) (fun _ s' => ∃ σ' H', Inv X pins σ' H' s' ∧ Q σ' H') X.xe s
abbrev TSet := V → V → V → Hp → (Hp → Prop) → Prop
def PSet (X : Cx) (t : TSet) : Prop :=
  ∀ (pins : List (Addr × Obj)) (s : Shared) (σ : St) (H : Hp) (o i v : V) (ov iv u : Value) (Q : Hp → Prop), Inv X pins σ H s → RelV o ov → RelV i iv → RelV v u → t o i v H Q →
    wpAny (model X.prog X.w) X.A (setItem ov iv u) (fun _ s' => ∃ H', Inv X pins σ H' s' ∧ Q H') X.xe s
abbrev TIp := V → V → Hp → VK → Prop
def PIp (X : Cx) (op : Operator) (t : TIp) : Prop :=
  ∀ (pins : List (Addr × Obj)) (s : Shared) (σ : St) (H : Hp) (x y : V) (v u : Value) (Q : VK), Inv X pins σ H s → RelV x v → RelV y u → t x y H Q →
    wpAny (model X.prog X.w) X.A (inplaceOp op v u) (EP X pins σ Q) X.xe s
section
variable {X : Cx} {pos : Pos}
def gName (i : Nat) : TG := fun v σ H Q => Q (σ.set i (some v)) H
theorem pg_name {i : Nat} {x : Str} (hN : X.N.Nodup) (hi : X.N[i]? = some x) (hx : Loc X.env.scope x) (hf : X.fn x = true ∨ X.env.scope.names.lookup x = some .local := by first | exact .inl rfl | exact .inr rfl | assumption) : PG X (.Name x pos) (gName i) := by
  intro pins s σ H v u Q I r h
  exact wpAny_assign_Name (store_ok I hN hi hx r (fun s' I' => ⟨_, H, I', h⟩) hf)
def gNil : TGs := fun vs σ H Q => vs = [] ∧ Q σ H
def gCons (t : TG) (u : TGs) : TGs := fun vs σ H Q => ∃ v r, vs = v :: r ∧ t v σ H fun σ' H' => u r σ' H' Q
theorem pgs_nil : PGs X [] gNil := by
  intro pins s σ H vs us Q I r h
  obtain ⟨e, h⟩ := h
  subst e
  cases r
  exact assignInOrder_nil ⟨σ, H, I, h⟩
theorem pgs_cons {e : Expr} {es : List Expr} {t : TG} {u : TGs} (h1 : PG X e t) (h2 : PGs X es u)
    (hs : (assignEach (e :: es) X.env).map (·.2) = assign e X.env :: (assignEach es X.env).map (·.2) := by rfl) : PGs X (e :: es) (gCons t u) := by
  intro pins s σ H vs us Q I r h
  obtain ⟨v, vr, e1, h⟩ := h
  subst e1
  cases r with
  | cons r rr =>
    rw [hs]
    refine assignInOrder_cons (thn (h1 pins s σ H _ _ _ I r h) fun _ s1 ⟨σ1, H1, I1, q1⟩ => ?_)
    exact h2 pins s1 σ1 H1 _ _ Q I1 rr q1
def gTup (K : PySem.W.Frag) (n : Nat) (t : TGs) : TG := fun v σ H Q => ∃ a xs, v = .ref a ∧ SqT K H a xs ∧ xs.length = n ∧ t xs σ H Q
theorem pg_tup {es : List Expr} {k : Nat} {t : TGs} {n : Nat} (hc : X.calm = true) (h : PGs X es t)
    (hn : (assignEach es X.env).length = n := by rfl) (hst : (assignEach es X.env).findIdx? (·.1) = none := by rfl) : PG X (.Tuple es k pos) (gTup X.K n t) := by
  intro pins s σ H v u Q I r hw
  obtain ⟨a, xs, e1, hq, hl, hw⟩ := hw
  subst e1
  cases r
  obtain ⟨its, rv, ht, hz⟩ := I.tuple hq
  refine assign_Tuple_tuple (I.ok.hd hc) ht (by simp [hn, ← hl, rv.length]) hst fun h' hx => ?_
  have I1 : Inv X pins σ H { s with heap := h' } := I.kept (t' := s.toks) fun b o e => hx b o (Nat.ne_of_lt (Heap.lt_size e)) e
  exact h pins _ σ H xs _ Q I1 (by simpa using rv) hw
def gSub (to ti : TE) (t : TSet) : TG := fun v σ H Q => to σ H fun o H1 => ti σ H1 fun i H2 => t o i v H2 fun H3 => Q σ H3
theorem pg_sub {o i : Expr} {to ti : TE} {t : TSet} (ho : PE X o to) (hi : PE X i ti) (hs : PSet X t)
    (ha : ∀ v, assign (.Subscript o i pos) X.env v = (do
      let ov ← holding [v] (eval o X.env)
      let iv ← holding [v, ov] (eval i X.env)
      standAt pos
      holding [v, ov, iv] (setItem ov iv v)
      release [v, ov, iv] []) := by intro _; rfl) : PG X (.Subscript o i pos) (gSub to ti t) := by
  intro pins s σ H v u Q I r h
  rw [ha]
  refine wpAny_bind (wpAny_holding (thn (ho pins s σ H _ I h) fun ov s1 ⟨x, H1, I1, r1, q1⟩ => ?_))
  refine wpAny_bind (wpAny_holding (thn (hi pins s1 σ H1 _ I1 q1) fun iv s2 ⟨y, H2, I2, r2, q2⟩ => ?_))
  refine wpAny_bind (wpAny_standAt (wpAny_bind (wpAny_holding (thn (hs pins s2 σ H2 x y v ov iv u _ I2 r1 r2 r q2) fun _ s3 ⟨H3, I3, q3⟩ => ?_))))
  exact wpAny_release ⟨σ, H3, I3, q3⟩
def tAsg (te : TE) (g : TG) : TS := fun D σ H => te σ H fun x H1 => g x σ H1 D.nx
theorem ps_asg {tg e : Expr} {te : TE} {g : TG} (he : PE X e te) (hg : PG X tg g) (hs : swapsWithSole [tg] e pos.line X.env = pure false := by rfl) (hw : swappedStores [tg] e X.env = pure none := by rfl)
    (h1 : (assignEach [tg] X.env).map (·.2) = [assign tg X.env] := by rfl) : PS X (.Assign [tg] e pos) (tAsg te g) := by
  intro pins s σ H D I h
  refine wpAny_Assign_stores (thn (he pins s σ H _ I h) fun v s1 ⟨x, H1, I1, r1, q1⟩ => ?_) hs hw
  rw [h1]
  exact thn (hg pins s1 σ H1 x v _ I1 r1 q1) fun _ s2 q => q
theorem ps_set {i : Nat} {x : Str} {e : Expr} {te : TE} {pos' : Pos} (hN : X.N.Nodup) (hi : X.N[i]? = some x) (hx : Loc X.env.scope x) (he : PE X e te) (hs : swapsWith e (some (.Name x pos')) pos.line X.env = pure false := by rfl) (hf : X.fn x = true ∨ X.env.scope.names.lookup x = some .local := by first | exact .inl rfl | exact .inr rfl | assumption) :
    PS X (.Assign [.Name x pos'] e pos) (tAsg te (gName i)) := by
  intro pins s σ H D I h
  refine wpAny_Assign_Name (thn (he pins s σ H _ I h) fun v s1 ⟨y, H1, I1, r1, q1⟩ => ?_) hs
  exact store_ok I1 hN hi hx r1 (fun s2 I2 => ⟨_, H1, I2, q1⟩) hf
def tPar (i j : Nat) (ta : TA) : TS := fun D σ H => ta σ H fun vs H1 => ∃ v w, vs = [v, w] ∧ D.nx ((σ.set i (some v)).set j (some w)) H1
def tAug (i : Nat) (te : TE) (ti : TIp) : TS := fun D σ H => ∃ x, σ[i]? = some (some x) ∧ te σ H fun y H1 => ti x y H1 fun z H2 => D.nx (σ.set i (some z)) H2
def tAugS (to ti te : TE) (tget : V → V → Hp → VK → Prop) (tip : TIp) (tset : TSet) : TS := fun D σ H => to σ H fun o H1 => ti σ H1 fun i H2 => tget o i H2 fun x H3 => te σ H3 fun y H4 => tip x y H4 fun z H5 => tset o i z H5 fun H6 => D.nx σ H6
def PGet (X : Cx) (t : V → V → Hp → VK → Prop) : Prop :=
  ∀ (pins : List (Addr × Obj)) (s : Shared) (σ : St) (H : Hp) (o i : V) (ov iv : Value) (Q : VK), Inv X pins σ H s → RelV o ov → RelV i iv → t o i H Q →
    wpAny (model X.prog X.w) X.A (getItem ov iv) (EP X pins σ Q) X.xe s
def ipI (f : Int → Int → Int) : TIp := fun x y H Q => ∃ i j, x = .int i ∧ y = .int j ∧ Q (.int (f i j)) H
end

section
variable {X : Cx} {pos : Pos}
def tWhile (c : TT) (tb : TS) : TS := fun D σ H => ∃ W : Nat → St → Hp → Prop, (∃ m, W m σ H) ∧ ∀ m σ H, W m σ H →
  c σ H fun b H1 => if b = true then ∃ N : St → Hp → Prop, (∀ σ' H', N σ' H' → ∃ m', m' < m ∧ W m' σ' H') ∧ tb { D with nx := N, ct := N, bk := D.nx } σ H1 else D.nx σ H1
end

structure It where
  go : Nat → Hp → Prop
  yld : Nat → Hp → V → Hp → Prop
  stop : Nat → Hp → Prop
def FpOk (X : Cx) (pins : List (Addr × Obj)) (H : Hp) (b : Addr) : Prop :=
  H b = none ∧ b ≠ X.env.locals ∧ b ∉ X.fs ∧ (b ∈ X.ex ∨ X.s₀.heap.objs.size ≤ b) ∧ (∀ x c, X.env.cells.lookup x = some c → c ≠ b) ∧ ∀ p ∈ X.pn ++ pins, p.1 ≠ b
theorem Inv.fpOk {X : Cx} {pins : List (Addr × Obj)} {σ : St} {H H' : Hp} {s : Shared} {b : Addr} (I : Inv X pins σ H s) (hb : s.heap.objs.size ≤ b) (hn : H' b = none) : FpOk X pins H' b := by
  refine ⟨hn, Nat.ne_of_gt (Nat.lt_of_lt_of_le I.lt hb), I.nofs hb, .inr (Nat.le_trans I.sz hb), fun x c e z => ?_, fun p hp z => ?_⟩
  · obtain ⟨v, q⟩ := I.cell x c e
    exact absurd (Nat.lt_of_lt_of_le q.lt (by rw [z]; exact hb)) (Nat.lt_irrefl _)
  · exact absurd (Nat.lt_of_lt_of_le (Heap.lt_size (I.pin p hp).1) (by rw [z]; exact hb)) (Nat.lt_irrefl _)
structure Turn (P : Program) (w : World) (K : PySem.W.Frag) (tg : Expr) (J : It) (fp : List Addr) (it : Addr) (tn : Nat → Heap → Prop) : Prop where
  mem : it ∈ fp
  obj : ∀ i h, tn i h → ∀ b ∈ fp, ∃ o, h.get? b = some o ∧ ∀ v, o.data ≠ .cell v
  keep : ∀ i h h', tn i h → (∀ b ∈ fp, ∀ o, h.get? b = some o → h'.get? b = some o) → tn i h'
  item : ∀ (X : Cx), X.prog = P → X.w = w → X.K = K → X.calm = true → ∀ (i : Nat) (pins : List (Addr × Obj)) (s : Shared) (σ : St) (H : Hp) (E : Value → Shared → Prop), Inv X pins σ H s → (∀ b ∈ fp, FpOk X pins H b) → tn i s.heap → J.go i H →
    wpAny (model P w) X.A (pyNext (.ref it)) (fun r s1 => ∃ u, r = some u ∧
      wpAny (model P w) X.A (letOwnedTupleGo tg (.ref it) u) (fun _ s2 => ∃ x H', Inv X pins σ H' s2 ∧ RelV x u ∧ J.yld i H x H' ∧ tn (i + 1) s2.heap ∧ ∀ b ∈ fp, H' b = none) E s1) E s
  done : ∀ (X : Cx), X.prog = P → X.w = w → X.K = K → X.calm = true → ∀ (i : Nat) (pins : List (Addr × Obj)) (s : Shared) (σ : St) (H : Hp) (E : Value → Shared → Prop), Inv X pins σ H s → (∀ b ∈ fp, FpOk X pins H b) → tn i s.heap → J.stop i H →
    wpAny (model P w) X.A (pyNext (.ref it)) (fun r s1 => r = none ∧ Inv X pins σ H s1) E s
  self : ∀ (A : Around) (i : Nat) (s : Shared) (Q : Value → Shared → Prop) (E : Value → Shared → Prop), tn i s.heap → Q (.ref it) s → wpAny (model P w) A (pyIter (.ref it)) Q E s
abbrev TI := St → Hp → (It → Hp → Prop) → Prop
def PIE (X : Cx) (pins : List (Addr × Obj)) (σ : St) (tg : Expr) (R : It → Hp → Prop) (itv : Value) (s2 : Shared) : Prop :=
  ∃ (it : Addr) (fp : List Addr) (tn : Nat → Heap → Prop) (J : It) (H' : Hp), itv = .ref it ∧ Inv X pins σ H' s2 ∧ Turn X.prog X.w X.K tg J fp it tn ∧ tn 0 s2.heap ∧ (∀ b ∈ fp, FpOk X pins H' b) ∧ R J H'
def PI (X : Cx) (tg iter : Expr) (wi : TI) : Prop :=
  ∀ (pins : List (Addr × Obj)) (s : Shared) (σ : St) (H : Hp) (R : It → Hp → Prop), Inv X pins σ H s → wi σ H R →
    wpAny (model X.prog X.w) X.A (eval iter X.env) (fun v s1 => wpAny (model X.prog X.w) X.A (pyIter v) (PIE X pins σ tg R) X.xe s1) X.xe s

theorem go_of {M : Model} {A : Around} {E : Value → Shared → Prop} {s : Shared} {tg : Expr} {it : Addr} {u : Value} {o : Obj} {n : String} {vs : Array Value} {Q : Unit → Shared → Prop} (ho : s.heap.get? it = some o) (hc : o.cls = .type n) (hd : o.data = .fields vs)
    (hn : ["enumerate", "zip", "dict_itemiterator", "dict_reverseitemiterator", "odict_iterator", "itertools.zip_longest", "itertools.pairwise"].contains n = false) (hQ : Q () s) : wpAny M A (letOwnedTupleGo tg (.ref it) u) Q E s := by
  unfold letOwnedTupleGo
  cases tg <;> first
    | exact wpAny_pure hQ
    | (cases u <;> first
        | exact wpAny_pure hQ
        | (refine wpAny_bind (wpAny_load ho ?_)
           rw [hc, hd]
           show wpAny M A (if (["enumerate", "zip", "dict_itemiterator", "dict_reverseitemiterator", "odict_iterator", "itertools.zip_longest", "itertools.pairwise"].contains n && vs[0]? == some (rawInt _)) = true then _ else _) Q E s
           rw [if_neg (by intro h; rw [hn, Bool.false_and] at h; cases h)]
           exact wpAny_pure hQ))

def Itl (K : PySem.W.Frag) (a : Addr) : It :=
  ⟨fun i H => ∃ xs x, SqL K H a xs ∧ xs[i]? = some x, fun i H x H' => H' = H ∧ ∀ xs, SqL K H a xs → xs[i]? = some x, fun i H => ∃ xs, SqL K H a xs ∧ xs.length ≤ i⟩
def Itt (K : PySem.W.Frag) (a : Addr) : It :=
  ⟨fun i H => ∃ xs x, SqT K H a xs ∧ xs[i]? = some x, fun i H x H' => H' = H ∧ ∀ xs, SqT K H a xs → xs[i]? = some x, fun i H => ∃ xs, SqT K H a xs ∧ xs.length ≤ i⟩
def Itr (lo : Int) (n : Nat) : It := ⟨fun i _ => i < n, fun i H x H' => H' = H ∧ x = .int (lo + i), fun i _ => n ≤ i⟩
theorem turn_list {P : Program} {w : World} {K : PySem.W.Frag} {tg : Expr} (a it : Addr) : Turn P w K tg (Itl K a) [it] it (fun i h => h.IsListIter it a i) where
  mem := by simp
  obj := fun i h st b hb => by
    have e : b = it := by simpa using hb
    subst e
    obtain ⟨o, e, c, d⟩ := st
    exact ⟨o, e, fun v z => by rw [d] at z; cases z⟩
  keep := fun i h h' st k => st.at fun o e => k it (by simp) o e
  item := by
    intro X hP hw hK hc i pins s σ H E I hf st hg
    subst hP hw hK
    obtain ⟨xs, x, hq, hx⟩ := hg
    obtain ⟨its, rv, p, hz⟩ := I.list hq
    obtain ⟨u, hu, ru⟩ := rv.get hx
    obtain ⟨f0, f1, f2, f3, f4, f5⟩ := hf it (by simp)
    refine wpAny_pyNext_list_item st p.isList (x := u) (by simpa using hu) fun h' st' sb => ?_
    have I1 : Inv X pins σ H { s with heap := h' } := I.turned (t' := s.toks) (fun b o hb e => (sb.2 b hb).trans e) f0 f1 f3 f4 f5
    obtain ⟨o, e, c, d⟩ := id st'
    exact ⟨u, rfl, go_of (s := { s with heap := h' }) e c d (by decide) ⟨x, H, I1, ru, ⟨rfl, fun ys hy => by rw [I.list_inj hy hq]; exact hx⟩, st', fun b hb => (hf b hb).1⟩⟩
  done := by
    intro X hP hw hK hc i pins s σ H E I hf st hg
    subst hP hw hK
    obtain ⟨xs, hq, hx⟩ := hg
    obtain ⟨its, rv, p, hz⟩ := I.list hq
    obtain ⟨f0, f1, f2, f3, f4, f5⟩ := hf it (by simp)
    have hl := rv.length
    exact wpAny_pyNext_list_end (I.ok.hd hc) st p.isList (by simp; omega) fun h' eb => ⟨rfl, I.turned (t' := s.toks) (fun b o hb e => eb b o hb e) f0 f1 f3 f4 f5⟩
  self := fun _ _ _ _ _ st h => wpAny_pyIter_listiter st h
theorem turn_tuple {P : Program} {w : World} {K : PySem.W.Frag} {tg : Expr} (a it : Addr) : Turn P w K tg (Itt K a) [it] it (fun i h => h.IsTupleIter it a i) where
  mem := by simp
  obj := fun i h st b hb => by
    have e : b = it := by simpa using hb
    subst e
    obtain ⟨o, e, c, d⟩ := st
    exact ⟨o, e, fun v z => by rw [d] at z; cases z⟩
  keep := fun i h h' st k => st.at fun o e => k it (by simp) o e
  item := by
    intro X hP hw hK hc i pins s σ H E I hf st hg
    subst hP hw hK
    obtain ⟨xs, x, hq, hx⟩ := hg
    obtain ⟨its, rv, p, hz⟩ := I.tuple hq
    obtain ⟨u, hu, ru⟩ := rv.get hx
    obtain ⟨f0, f1, f2, f3, f4, f5⟩ := hf it (by simp)
    refine wpAny_pyNext_tuple_item st (show s.heap.IsTuple a its.toArray from p) (x := u) (by simpa using hu) fun h' st' sb => ?_
    have I1 : Inv X pins σ H { s with heap := h' } := I.turned (t' := s.toks) (fun b o hb e => (sb.2 b hb).trans e) f0 f1 f3 f4 f5
    obtain ⟨o, e, c, d⟩ := id st'
    exact ⟨u, rfl, go_of (s := { s with heap := h' }) e c d (by decide) ⟨x, H, I1, ru, ⟨rfl, fun ys hy => by rw [I.tuple_inj hy hq]; exact hx⟩, st', fun b hb => (hf b hb).1⟩⟩
  done := by
    intro X hP hw hK hc i pins s σ H E I hf st hg
    subst hP hw hK
    obtain ⟨xs, hq, hx⟩ := hg
    obtain ⟨its, rv, p, hz⟩ := I.tuple hq
    obtain ⟨f0, f1, f2, f3, f4, f5⟩ := hf it (by simp)
    have hl := rv.length
    exact wpAny_pyNext_tuple_end (I.ok.hd hc) st (show s.heap.IsTuple a its.toArray from p) (by simp; omega) fun h' eb => ⟨rfl, I.turned (t' := s.toks) (fun b o hb e => eb b o hb e) f0 f1 f3 f4 f5⟩
  self := fun _ _ _ _ _ st h => wpAny_pyIter_tupleiter st h
theorem turn_range {P : Program} {w : World} {K : PySem.W.Frag} {tg : Expr} (it : Addr) (lo : Int) (n : Nat) : Turn P w K tg (Itr lo n) [it] it (fun i h => IsRangeIter h it (lo + (i : Nat) * 1) ((n : Int) - (i : Nat)) 1) where
  mem := by simp
  obj := fun i h st b hb => by
    have e : b = it := by simpa using hb
    subst e
    exact ⟨_, st, fun v z => by
      have z' : Data.fields _ = Data.cell v := z
      cases z'⟩
  keep := fun i h h' st k => k it (by simp) _ st
  item := by
    intro X hP hw hK hc i pins s σ H E I hf st hg
    subst hP hw hK
    obtain ⟨f0, f1, f2, f3, f4, f5⟩ := hf it (by simp)
    have W := Walks.range (prog := X.prog) (w := X.w) (I.ok.hd hc) it lo 1 n
    refine W.item i s _ _ hg st fun v h' tk hv st' kk => ?_
    obtain ⟨t, rfl⟩ := hv
    have I1 : Inv X pins σ H { s with heap := h', toks := tk } := I.turned (fun b o hb e => kk b o (by simpa using hb) e) f0 f1 f3 f4 f5
    refine ⟨_, rfl, go_of (s := { s with heap := h', toks := tk }) (n := "range_iterator") st' rfl rfl (by decide) ⟨.int (lo + i), H, I1, ⟨t, ?_⟩, ⟨rfl, rfl⟩, st', fun b hb => (hf b hb).1⟩⟩
    rw [Int.mul_one]
  done := by
    intro X hP hw hK hc i pins s σ H E I hf st hg
    subst hP hw hK
    obtain ⟨f0, f1, f2, f3, f4, f5⟩ := hf it (by simp)
    exact wpAny_pyNext_range_end (I.ok.hd hc) st (by have : n ≤ i := hg; omega) fun h' eb => ⟨rfl, I.turned (t' := s.toks) (fun b o hb e => eb b o hb e) f0 f1 f3 f4 f5⟩
  self := fun _ _ _ _ _ st h => wpAny_pyIter_rangeiter st h
end L2

namespace L2
open PySem PySem.Spec PyProof.Rows
section
variable {X : Cx} {tg : Expr}
def iList (K : PySem.W.Frag) (tl : TE) : TI := fun σ H R => tl σ H fun x H1 => ∃ a, x = .ref a ∧ (∃ xs, SqL K H1 a xs) ∧ R (Itl K a) H1
def iTup (K : PySem.W.Frag) (tl : TE) : TI := fun σ H R => tl σ H fun x H1 => ∃ a, x = .ref a ∧ (∃ xs, SqT K H1 a xs) ∧ R (Itt K a) H1
theorem pi_list {l : Expr} {tl : TE} (hl : PE X l tl) : PI X tg l (iList X.K tl) := by
  intro pins s σ H R I h
  refine thn (hl pins s σ H _ I h) fun v s1 ⟨x, H1, I1, r1, q1⟩ => ?_
  obtain ⟨a, e, ⟨xs, hq⟩, q⟩ := q1
  subst e
  cases r1
  obtain ⟨its, rv, p, hz⟩ := I1.list hq
  refine wpAny_pyIter_list p.isList ?_
  refine ⟨s1.heap.objs.size, [s1.heap.objs.size], _, _, H1, rfl, I1.kept (t' := s1.toks) fun b o e => Heap.get?_push_of_some _ e, turn_list a _, ⟨_, Heap.get?_push_size _ rfl, rfl, rfl⟩, fun b hb => ?_, q⟩
  have e : b = s1.heap.objs.size := by simpa using hb
  subst e
  exact I1.fpOk (Nat.le_refl _) (I1.hok.fresh (Nat.le_refl _))
theorem pi_tup {l : Expr} {tl : TE} (hl : PE X l tl) : PI X tg l (iTup X.K tl) := by
  intro pins s σ H R I h
  refine thn (hl pins s σ H _ I h) fun v s1 ⟨x, H1, I1, r1, q1⟩ => ?_
  obtain ⟨a, e, ⟨xs, hq⟩, q⟩ := q1
  subst e
  cases r1
  obtain ⟨its, rv, p, hz⟩ := I1.tuple hq
  refine wpAny_pyIter_tuple (show s1.heap.IsTuple a its.toArray from p) ?_
  refine ⟨s1.heap.objs.size, [s1.heap.objs.size], _, _, H1, rfl, I1.kept (t' := s1.toks) fun b o e => Heap.get?_push_of_some _ e, turn_tuple a _, ⟨_, Heap.get?_push_size _ rfl, rfl, rfl⟩, fun b hb => ?_, q⟩
  have e : b = s1.heap.objs.size := by simpa using hb
  subst e
  exact I1.fpOk (Nat.le_refl _) (I1.hok.fresh (Nat.le_refl _))
theorem range_it {pins : List (Addr × Obj)} {σ : St} {H : Hp} {s : Shared} {R : It → Hp → Prop} {E : Value → Shared → Prop} {lo hi : Int} {t u v : Tok} {tk : Nat} (I : Inv X pins σ H s) (h1 : -(2 ^ 62) ≤ lo) (h2 : lo < 2 ^ 62) (h3 : -(2 ^ 62) ≤ hi) (h4 : hi < 2 ^ 62)
    (q : R (Itr lo (hi - lo).toNat) H) : wpAny (model X.prog X.w) X.A (pyIter (.ref s.heap.objs.size)) (PIE X pins σ tg R) E { s with heap := s.heap.push { cls := .type "range", data := .fields #[.int lo t, .int hi u, .int 1 v] }, toks := tk } := by
  refine wpAny_pyIter_range (IsRange.new ..) (small_one h1 h2 h3 h4) ?_
  have I1 : Inv X pins σ H { s with heap := s.heap.push { cls := .type "range", data := .fields #[.int lo t, .int hi u, .int 1 v] }, toks := tk } := I.kept fun b o e => Heap.get?_push_of_some _ e
  refine ⟨(s.heap.push { cls := .type "range", data := .fields #[.int lo t, .int hi u, .int 1 v] }).objs.size, [(s.heap.push { cls := .type "range", data := .fields #[.int lo t, .int hi u, .int 1 v] }).objs.size], _, _, H, rfl,
    I1.kept (t' := tk) fun b o e => Heap.get?_push_of_some _ e, turn_range _ lo (hi - lo).toNat, ?_, fun b hb => ?_, q⟩
  · have e1 : lo + ((0 : Nat) : Int) * 1 = lo := by simp
    have e2 : (((hi - lo).toNat : Nat) : Int) - ((0 : Nat) : Int) = Builtin.Range.rangeSize lo hi 1 := by rw [rangeSize_one]; split <;> omega
    show IsRangeIter _ _ (lo + ((0 : Nat) : Int) * 1) ((((hi - lo).toNat : Nat) : Int) - ((0 : Nat) : Int)) 1
    rw [e1, e2]
    exact Heap.get?_push_size _ rfl
  · have e : b = (s.heap.push { cls := .type "range", data := .fields #[.int lo t, .int hi u, .int 1 v] }).objs.size := by simpa using hb
    subst e
    exact I1.fpOk (Nat.le_refl _) (I1.hok.fresh (Nat.le_refl _))
def iRng1 (ta : TA) : TI := fun σ H R => ta σ H fun vs H1 => ∃ j : Int, vs = [.int j] ∧ -(2 ^ 62) ≤ j ∧ j < 2 ^ 62 ∧ R (Itr 0 j.toNat) H1
def iRng2 (ta : TA) : TI := fun σ H R => ta σ H fun vs H1 => ∃ i j : Int, vs = [.int i, .int j] ∧ (-(2 ^ 62) ≤ i ∧ i < 2 ^ 62 ∧ -(2 ^ 62) ≤ j ∧ j < 2 ^ 62) ∧ R (Itr i (j - i).toNat) H1
theorem pi_range1 {a : Expr} {ta : TA} {p pos : Pos} (hg : Gl X "range") (hm : X.mg "range" = none) (ha : PA X [a] ta) (hs : starEach [a] X.env = [(false, eval a X.env)] := by rfl) : PI X tg (.Call (.Name "range" p) [a] [] pos) (iRng1 ta) := by
  intro pins s σ H R I h
  refine Call_ (ld_blt I hg hm boot_range (PyProof.Rows.callWith_type1 (thn (ha pos pins s σ H _ I h) fun us s1 ⟨vs, H1, I1, r1, q1⟩ => ?_) hs rfl))
  obtain ⟨j, e, q1, q2, q⟩ := q1
  subst e
  cases r1 with
  | cons r rr =>
    cases rr
    obtain ⟨t, rfl⟩ := r
    exact call_range_1 (range_it I1 (by omega) (by omega) q1 q2 (by simpa using q))
def tFor (wi : TI) (g : TG) (tb : TS) : TS := fun D σ H => wi σ H fun J H1 => ∃ W : Nat → Nat → St → Hp → Prop, (∃ m, W 0 m σ H1) ∧ ∀ i m σ H, W i m σ H →
  (J.stop i H ∧ D.nx σ H) ∨ (J.go i H ∧ ∃ N : St → Hp → Prop, (∀ σ' H', N σ' H' → ∃ m', m' < m ∧ W (i + 1) m' σ' H') ∧ ∀ x H', J.yld i H x H' → g x σ H' fun σ2 H2 => tb { D with nx := N, ct := N, bk := D.nx } σ2 H2)
def pinsAt (fp : List Addr) (h : Heap) : List (Addr × Obj) := fp.filterMap fun b => (h.get? b).map fun o => (b, o)
theorem mem_pinsAt {fp : List Addr} {h : Heap} {b : Addr} {o : Obj} (hb : b ∈ fp) (e : h.get? b = some o) : (b, o) ∈ pinsAt fp h := List.mem_filterMap.mpr ⟨b, hb, by rw [e]; rfl⟩
theorem of_pinsAt {fp : List Addr} {h : Heap} {p : Addr × Obj} (hp : p ∈ pinsAt fp h) : p.1 ∈ fp ∧ h.get? p.1 = some p.2 := by
  obtain ⟨b, hb, e⟩ := List.mem_filterMap.mp hp
  cases q : h.get? b with
  | none => rw [q] at e; cases e
  | some o =>
    rw [q] at e
    have e' : (b, o) = p := Option.some.inj e
    subst e'
    exact ⟨hb, q⟩
theorem Inv.pinned {pins : List (Addr × Obj)} {σ : St} {H : Hp} {s : Shared} {fp : List Addr} (I : Inv X pins σ H s) (hf : ∀ b ∈ fp, FpOk X pins H b) (ho : ∀ b ∈ fp, ∃ o, s.heap.get? b = some o ∧ ∀ v, o.data ≠ .cell v) : Inv X (pins ++ pinsAt fp s.heap) σ H s :=
  I.pins_of fun p hp => (List.mem_append.mp hp).elim (fun z => I.pin p (List.mem_append_right _ z)) fun z => by
    obtain ⟨hb, e⟩ := of_pinsAt z
    obtain ⟨f0, f1, f2, _⟩ := hf p.1 hb
    obtain ⟨o, e', d⟩ := ho p.1 hb
    rw [e] at e'; cases e'
    exact ⟨e, f0, f1, f2, d⟩
theorem Inv.unpinned {pins pl : List (Addr × Obj)} {σ : St} {H : Hp} {s : Shared} (I : Inv X (pins ++ pl) σ H s) : Inv X pins σ H s := I.pins_of fun p hp => I.pin p (List.mem_append_right _ (List.mem_append_left _ hp))
theorem ps_for {iter : Expr} {body : List Stmt} {wi : TI} {g : TG} {tb : TS} {pos : Pos} (hp : PassesOwn (model X.prog X.w) X.A X.env X.xe) (hc : X.calm = true) (hi : PI X tg iter wi) (hg : PG X tg g) (hb : PSs X body tb)
    (hs : ∀ x, foldedSetIterable iter X.env x = pure x := by intro _; rfl) : PS X (.For tg iter body [] pos) (tFor wi g tb) := by
  intro pins s σ H D I h
  refine wpAny_For (thn (hi pins s σ H _ I h) fun v s1 h1 => thn h1 fun itv s2 h2 => ?_) hs
  obtain ⟨it, fp, tn, J, H2, e, I2, T, st2, f2, W, ⟨m0, w0⟩, turn⟩ := h2
  subst e
  -- what stays true of the iterator's objects through the loop
  have stat : ∀ {H' : Hp}, (∀ b ∈ fp, H' b = none) → ∀ b ∈ fp, FpOk X pins H' b := fun hn b hb => ⟨hn b hb, (f2 b hb).2⟩
  refine codeAny_forLoop_any (fun n s' => ∃ i σ' H', Inv X pins σ' H' s' ∧ tn i s'.heap ∧ (∀ b ∈ fp, H' b = none) ∧ W i n σ' H') ?_ m0 ⟨0, σ, H2, I2, st2, fun b hb => (f2 b hb).1, w0⟩
  rintro n s3 ⟨i, σ3, H3, I3, st3, fr3, w3⟩
  rcases turn i n σ3 H3 w3 with ⟨stop, qn⟩ | ⟨go, N, hN, step⟩
  · refine wpAny_passesOwn hp (thn (T.done X rfl rfl rfl hc i pins s3 σ3 H3 X.xe I3 (stat fr3) st3 stop) fun r s4 ⟨hr, I4⟩ => ?_)
    subst hr
    exact wpAny_execs_nil ⟨σ3, H3, I4, qn⟩
  · refine wpAny_passesOwn hp (thn (T.item X rfl rfl rfl hc i pins s3 σ3 H3 X.xe I3 (stat fr3) st3 go) fun r s4 ⟨u, hr, h4⟩ => ?_)
    subst hr
    refine wpAny_passesOwn hp (thn h4 fun _ s5 ⟨x, H5, I5, r5, y5, st5, fr5⟩ => ?_)
    have I5' := I5.pinned (stat fr5) (T.obj _ _ st5)
    refine wpAny_passesOwn hp (thn (hg _ s5 σ3 H5 x u _ I5' r5 (step x H5 y5)) fun _ s6 ⟨σ6, H6, I6, q6⟩ => ?_)
    refine wpAny_passesOwn hp (thn (hb _ s6 σ6 H6 _ I6 q6) fun f s7 q7 => ?_)
    have again : ∀ {σ7 : St} {H7 : Hp}, Inv X (pins ++ pinsAt fp s5.heap) σ7 H7 s7 → N σ7 H7 → ∃ m, m < n ∧ ∃ i σ' H', Inv X pins σ' H' s7 ∧ tn i s7.heap ∧ (∀ b ∈ fp, H' b = none) ∧ W i m σ' H' := fun {σ7 H7} I7 n7 => by
      obtain ⟨m', hm, w7⟩ := hN σ7 H7 n7
      refine ⟨m', hm, i + 1, σ7, H7, I7.unpinned, T.keep _ _ _ st5 fun b hb o e => (I7.pin (b, o) (List.mem_append_right _ (List.mem_append_right _ (mem_pinsAt hb e)))).1, fun b hb => ?_, w7⟩
      obtain ⟨o, e, d⟩ := T.obj _ _ st5 b hb
      exact (I7.pin (b, o) (List.mem_append_right _ (List.mem_append_right _ (mem_pinsAt hb e)))).2.1
    cases f with
    | next => obtain ⟨σ7, H7, I7, n7⟩ := q7; exact again I7 n7
    | cont => obtain ⟨σ7, H7, I7, n7⟩ := q7; exact again I7 n7
    | brk => obtain ⟨σ7, H7, I7, q7⟩ := q7; exact ⟨σ7, H7, I7.unpinned, q7⟩
    | ret v => obtain ⟨x7, σ7, H7, I7, r7, q7⟩ := q7; exact ⟨x7, σ7, H7, I7.unpinned, r7, q7⟩
end

theorem for_list {K : PySem.W.Frag} {a : Addr} {xs : List V} {g : TG} {tb : TS} {D : Ends} {σ : St} {H : Hp} (Pv : Nat → St → Hp → Prop) (h0 : Pv 0 σ H) (hl : ∀ i σ H, i ≤ xs.length → Pv i σ H → SqL K H a xs)
    (hs : ∀ i x σ H, xs[i]? = some x → Pv i σ H → g x σ H fun σ2 H2 => tb { D with nx := Pv (i + 1), ct := Pv (i + 1), bk := D.nx } σ2 H2) (hd : ∀ σ H, Pv xs.length σ H → D.nx σ H) :
    ∃ W : Nat → Nat → St → Hp → Prop, (∃ m, W 0 m σ H) ∧ ∀ i m σ H, W i m σ H →
      ((Itl K a).stop i H ∧ D.nx σ H) ∨ ((Itl K a).go i H ∧ ∃ N : St → Hp → Prop, (∀ σ' H', N σ' H' → ∃ m', m' < m ∧ W (i + 1) m' σ' H') ∧ ∀ x H', (Itl K a).yld i H x H' → g x σ H' fun σ2 H2 => tb { D with nx := N, ct := N, bk := D.nx } σ2 H2) := by
  refine ⟨fun i m σ H => m = xs.length - i ∧ i ≤ xs.length ∧ Pv i σ H, ⟨xs.length, by simp, Nat.zero_le _, h0⟩, ?_⟩
  rintro i m σ H ⟨rfl, hi, p⟩
  have q := hl i σ H hi p
  by_cases hlt : i < xs.length
  · refine .inr ⟨⟨xs, xs[i], q, by simp [hlt]⟩, Pv (i + 1), fun σ' H' p' => ⟨xs.length - (i + 1), by omega, rfl, hlt, p'⟩, fun x H' y => ?_⟩
    obtain ⟨e, y⟩ := y
    subst e
    exact hs i x σ _ (y xs q) p
  · have e : i = xs.length := by omega
    subst e
    exact .inl ⟨⟨xs, q, Nat.le_refl _⟩, hd σ H p⟩
theorem for_tup {K : PySem.W.Frag} {a : Addr} {xs : List V} {g : TG} {tb : TS} {D : Ends} {σ : St} {H : Hp} (Pv : Nat → St → Hp → Prop) (h0 : Pv 0 σ H) (hl : ∀ i σ H, i ≤ xs.length → Pv i σ H → SqT K H a xs)
    (hs : ∀ i x σ H, xs[i]? = some x → Pv i σ H → g x σ H fun σ2 H2 => tb { D with nx := Pv (i + 1), ct := Pv (i + 1), bk := D.nx } σ2 H2) (hd : ∀ σ H, Pv xs.length σ H → D.nx σ H) :
    ∃ W : Nat → Nat → St → Hp → Prop, (∃ m, W 0 m σ H) ∧ ∀ i m σ H, W i m σ H →
      ((Itt K a).stop i H ∧ D.nx σ H) ∨ ((Itt K a).go i H ∧ ∃ N : St → Hp → Prop, (∀ σ' H', N σ' H' → ∃ m', m' < m ∧ W (i + 1) m' σ' H') ∧ ∀ x H', (Itt K a).yld i H x H' → g x σ H' fun σ2 H2 => tb { D with nx := N, ct := N, bk := D.nx } σ2 H2) := by
  refine ⟨fun i m σ H => m = xs.length - i ∧ i ≤ xs.length ∧ Pv i σ H, ⟨xs.length, by simp, Nat.zero_le _, h0⟩, ?_⟩
  rintro i m σ H ⟨rfl, hi, p⟩
  have q := hl i σ H hi p
  by_cases hlt : i < xs.length
  · refine .inr ⟨⟨xs, xs[i], q, by simp [hlt]⟩, Pv (i + 1), fun σ' H' p' => ⟨xs.length - (i + 1), by omega, rfl, hlt, p'⟩, fun x H' y => ?_⟩
    obtain ⟨e, y⟩ := y
    subst e
    exact hs i x σ _ (y xs q) p
  · have e : i = xs.length := by omega
    subst e
    exact .inl ⟨⟨xs, q, Nat.le_refl _⟩, hd σ H p⟩
theorem for_range {lo : Int} {n : Nat} {g : TG} {tb : TS} {D : Ends} {σ : St} {H : Hp} (Pv : Nat → St → Hp → Prop) (h0 : Pv 0 σ H)
    (hs : ∀ i σ H, i < n → Pv i σ H → g (.int (lo + i)) σ H fun σ2 H2 => tb { D with nx := Pv (i + 1), ct := Pv (i + 1), bk := D.nx } σ2 H2) (hd : ∀ σ H, Pv n σ H → D.nx σ H) :
    ∃ W : Nat → Nat → St → Hp → Prop, (∃ m, W 0 m σ H) ∧ ∀ i m σ H, W i m σ H →
      ((Itr lo n).stop i H ∧ D.nx σ H) ∨ ((Itr lo n).go i H ∧ ∃ N : St → Hp → Prop, (∀ σ' H', N σ' H' → ∃ m', m' < m ∧ W (i + 1) m' σ' H') ∧ ∀ x H', (Itr lo n).yld i H x H' → g x σ H' fun σ2 H2 => tb { D with nx := N, ct := N, bk := D.nx } σ2 H2) := by
  refine ⟨fun i m σ H => m = n - i ∧ i ≤ n ∧ Pv i σ H, ⟨n, by simp, Nat.zero_le _, h0⟩, ?_⟩
  rintro i m σ H ⟨rfl, hi, p⟩
  by_cases hlt : i < n
  · refine .inr ⟨hlt, Pv (i + 1), fun σ' H' p' => ⟨n - (i + 1), by omega, rfl, hlt, p'⟩, fun x H' y => ?_⟩
    obtain ⟨e, y⟩ := y
    subst e y
    exact hs i σ _ hlt p
  · have e : i = n := by omega
    subst e
    exact .inl ⟨Nat.le_refl _, hd σ H p⟩
end L2

namespace L2
open PySem PySem.Spec PyProof.Rows

abbrev R2 := V → V → Hp → VK → Prop
def OpR (X : Cx) (f : Value → Value → Sem Value) (r : R2) : Prop :=
  ∀ (pins : List (Addr × Obj)) (s : Shared) (σ : St) (H : Hp) (x y : V) (v u : Value) (Q : VK), Inv X pins σ H s → RelV x v → RelV y u → r x y H Q →
    wpAny (model X.prog X.w) X.A (f v u) (EP X pins σ Q) X.xe s
def UnR (X : Cx) (f : Value → Sem Value) (r : V → Hp → VK → Prop) : Prop :=
  ∀ (pins : List (Addr × Obj)) (s : Shared) (σ : St) (H : Hp) (x : V) (v : Value) (Q : VK), Inv X pins σ H s → RelV x v → r x H Q →
    wpAny (model X.prog X.w) X.A (f v) (EP X pins σ Q) X.xe s
def CallR (X : Cx) (f : Value) (r : List V → Hp → VK → Prop) : Prop :=
  ∀ (pins : List (Addr × Obj)) (s : Shared) (σ : St) (H : Hp) (xs : List V) (us : List Value) (Q : VK), Inv X pins σ H s → Vals xs us → r xs H Q →
    wpAny (model X.prog X.w) X.A (call f us) (EP X pins σ Q) X.xe s
def TruR (X : Cx) (r : V → Hp → (Bool → Hp → Prop) → Prop) : Prop :=
  ∀ (pins : List (Addr × Obj)) (s : Shared) (σ : St) (H : Hp) (x : V) (v : Value) (Q : Bool → Hp → Prop), Inv X pins σ H s → RelV x v → r x H Q →
    wpAny (model X.prog X.w) X.A (truthy v) (TP X pins σ Q) X.xe s

def tOp (r : R2) (ta tb : TE) : TE := fun σ H Q => ta σ H fun x H1 => tb σ H1 fun y H2 => r x y H2 Q
def tUn (r : V → Hp → VK → Prop) (ta : TE) : TE := fun σ H Q => ta σ H fun x H1 => r x H1 Q
def rI (C : Int → Int → Prop) (g : Int → Int → V) : R2 := fun x y H Q => ∃ i j, x = .int i ∧ y = .int j ∧ C i j ∧ Q (g i j) H
def rI0 (g : Int → Int → V) : R2 := fun x y H Q => ∃ i j, x = .int i ∧ y = .int j ∧ Q (g i j) H
def rU (g : Int → V) : V → Hp → VK → Prop := fun x H Q => ∃ i, x = .int i ∧ Q (g i) H

section
variable {X : Cx} {a b c : Expr} {ta tb tc : TE} {pos : Pos}

theorem binT (ha : PE X a ta) (hb : PE X b tb) {pins : List (Addr × Obj)} {s : Shared} {σ : St} {H : Hp} {R : V → V → Hp → Prop} (I : Inv X pins σ H s)
    (h : ta σ H fun x H1 => tb σ H1 fun y H2 => R x y H2) {Q : Value → Shared → Prop} {f : Value → Value → Sem Value}
    (hf : ∀ v u s2 x y H2, Inv X pins σ H2 s2 → RelV x v → RelV y u → R x y H2 → wpAny (model X.prog X.w) X.A (f v u) Q X.xe s2) :
    wpAny (model X.prog X.w) X.A (eval a X.env) (fun v s₁ => wpAny (model X.prog X.w) X.A (eval b X.env) (fun u s₂ => wpAny (model X.prog X.w) X.A (f v u) Q X.xe s₂) X.xe s₁) X.xe s := by
  refine thn (ha pins s σ H _ I h) fun v s1 ⟨x, H1, I1, r1, q1⟩ => ?_
  refine thn (hb pins s1 σ H1 _ I1 q1) fun u s2 ⟨y, H2, I2, r2, q2⟩ => ?_
  exact hf v u s2 x y H2 I2 r1 r2 q2

theorem pe_op {op : Operator} {r : R2} (ho : OpR X (binaryOp op) r) (ha : PE X a ta) (hb : PE X b tb) : PE X (.BinOp a op b pos) (tOp r ta tb) := by
  intro pins s σ H Q I h
  exact wpAny_BinOp (binT ha hb I h fun v u s2 x y H2 I2 rx ry q => ho pins s2 σ H2 x y v u Q I2 rx ry q)
theorem pe_un {op : UnaryOp} {r : V → Hp → VK → Prop} (ho : UnR X (unaryOp op) r) (ha : PE X a ta) : PE X (.UnaryOp op a pos) (tUn r ta) := by
  intro pins s σ H Q I h
  exact UnaryOp_ (thn (ha pins s σ H _ I h) fun v s1 ⟨x, H1, I1, r1, q1⟩ => ho pins s1 σ H1 x v Q I1 r1 q1)
theorem opI {f : Value → Value → Sem Value} {C : Int → Int → Prop} {g : Int → Int → Int}
    (rule : ∀ (i j : Int) (t u : Tok) (s : Shared) (Q : Value → Shared → Prop) (E : Value → Shared → Prop), C i j → Q (.int (g i j) s.toks) { s with toks := s.toks + 1 } → wpAny (model X.prog X.w) X.A (f (.int i t) (.int j u)) Q E s) :
    OpR X f (rI C fun i j => .int (g i j)) := by
  intro pins s σ H x y v u Q I rx ry h
  obtain ⟨i, j, rfl, rfl, hc, q⟩ := h
  obtain ⟨t, rfl⟩ := rx
  obtain ⟨t', rfl⟩ := ry
  exact rule i j t t' s _ _ hc ⟨.int (g i j), H, I.tok _, ⟨_, rfl⟩, q⟩
theorem opI0 {f : Value → Value → Sem Value} {g : Int → Int → Int}
    (rule : ∀ (i j : Int) (t u : Tok) (s : Shared) (Q : Value → Shared → Prop) (E : Value → Shared → Prop), Q (.int (g i j) s.toks) { s with toks := s.toks + 1 } → wpAny (model X.prog X.w) X.A (f (.int i t) (.int j u)) Q E s) :
    OpR X f (rI0 fun i j => .int (g i j)) := by
  intro pins s σ H x y v u Q I rx ry h
  obtain ⟨i, j, rfl, rfl, q⟩ := h
  obtain ⟨t, rfl⟩ := rx
  obtain ⟨t', rfl⟩ := ry
  exact rule i j t t' s _ _ ⟨.int (g i j), H, I.tok _, ⟨_, rfl⟩, q⟩
theorem opB0 {f : Value → Value → Sem Value} {g : Int → Int → Bool}
    (rule : ∀ (i j : Int) (t u : Tok) (s : Shared) (Q : Value → Shared → Prop) (E : Value → Shared → Prop), Q (.bool (g i j)) s → wpAny (model X.prog X.w) X.A (f (.int i t) (.int j u)) Q E s) :
    OpR X f (rI0 fun i j => .bl (g i j)) := by
  intro pins s σ H x y v u Q I rx ry h
  obtain ⟨i, j, rfl, rfl, q⟩ := h
  obtain ⟨t, rfl⟩ := rx
  obtain ⟨t', rfl⟩ := ry
  exact rule i j t t' s _ _ ⟨.bl (g i j), H, I, rfl, q⟩

def CDiv (i j : Int) : Prop := 0 < j ∧ j < 1073741824
def CDivN (i j : Int) : Prop := j ≠ 0 ∧ j.natAbs < 1073741824
def CPow (i j : Int) : Prop := 0 ≤ j ∧ j ≤ 1000000 ∧ i.natAbs < 2 ^ 64
def CMul (i j : Int) : Prop := (-(2 ^ 64) < i ∧ i < 2 ^ 64) ∨ (-(2 ^ 64) < j ∧ j < 2 ^ 64)
theorem CMul.ok {i j : Int} (h : CMul i j) : IntMulOk i j := by
  rcases h with ⟨h1, h2⟩ | ⟨h1, h2⟩
  · exact .of_left (intBits_le_64 h1 h2)
  · exact .of_right (intBits_le_64 h1 h2)
theorem op_add : OpR X (binaryOp .Add) (rI0 fun i j => .int (i + j)) := opI0 fun _ _ _ _ _ _ _ q => add_int q
theorem op_sub : OpR X (binaryOp .Sub) (rI0 fun i j => .int (i - j)) := opI0 fun _ _ _ _ _ _ _ q => sub_int q
theorem op_mul : OpR X (binaryOp .Mult) (rI CMul fun i j => .int (i * j)) := opI fun _ _ _ _ _ _ _ hc q => mul_int q hc.ok
theorem op_fdiv : OpR X (binaryOp .FloorDiv) (rI CDiv fun i j => .int (i / j)) := opI fun i j _ _ _ _ _ hc q => by
  have h1 : (0 : Int) < j := hc.1
  have h2 : j < 1073741824 := hc.2
  exact floordiv_int (by omega) (by rw [Int.fdiv_eq_ediv_of_nonneg i (by omega)]; exact q) (.inl (PyProof.noPylong_small (by omega)))
theorem op_mod : OpR X (binaryOp .Mod) (rI (fun _ j => 0 < j) fun i j => .int (i % j)) := opI fun i j _ _ _ _ _ hc q => by
  have h1 : (0 : Int) < j := hc
  exact mod_int' (by omega) (by rw [Int.fmod_eq_emod_of_nonneg i (by omega)]; exact q)
theorem op_pow : OpR X (binaryOp .Pow) (rI CPow fun i j => .int (i ^ j.toNat)) := opI fun _ _ _ _ _ _ _ hc q => pow_int_small hc.1 hc.2.1 hc.2.2 q
theorem unI {f : Value → Sem Value} {g : Int → Int}
    (rule : ∀ (i : Int) (t : Tok) (s : Shared) (Q : Value → Shared → Prop) (E : Value → Shared → Prop), Q (.int (g i) s.toks) { s with toks := s.toks + 1 } → wpAny (model X.prog X.w) X.A (f (.int i t)) Q E s) :
    UnR X f (rU fun i => .int (g i)) := by
  intro pins s σ H x v Q I rx h
  obtain ⟨i, rfl, q⟩ := h
  obtain ⟨t, rfl⟩ := rx
  exact rule i t s _ _ ⟨.int (g i), H, I.tok _, ⟨_, rfl⟩, q⟩
theorem un_neg : UnR X (unaryOp .USub) (rU fun i => .int (-i)) := unI fun _ _ _ _ _ q => neg_int q
end

def scal : V → V → Bool
  | .non, .non => true | .non, .int _ => true | .int _, .non => true | .non, .bl _ => true | .bl _, .non => true | .non, .str _ => true | .str _, .non => true
  | .int _, .int _ => true | .bl _, .bl _ => true | .str _, .str _ => true | .byt _, .byt _ => true
  | .int _, .str _ => true | .str _, .int _ => true | .bl _, .str _ => true | .str _, .bl _ => true
  | _, _ => false
def rEq : R2 := fun x y H Q => scal x y = true ∧ Q (.bl (decide (x = y))) H
def rNe : R2 := fun x y H Q => scal x y = true ∧ Q (.bl (!decide (x = y))) H

theorem dec_int {i j : Int} : decide (V.int i = V.int j) = (i == j) := by
  rw [Bool.eq_iff_iff]
  simp
theorem dec_bl {i j : Bool} : decide (V.bl i = V.bl j) = (i == j) := by
  rw [Bool.eq_iff_iff]
  simp
theorem dec_str {i j : Str} : decide (V.str i = V.str j) = (i == j) := by
  rw [Bool.eq_iff_iff]
  simp
theorem dec_byt {i j : Array UInt8} : decide (V.byt i = V.byt j) = (i.toList == j.toList) := by
  rw [Bool.eq_iff_iff]
  cases i
  cases j
  simp

section
variable {X : Cx} {a b c : Expr} {ta tb tc : TE} {pos : Pos}
theorem fin_bl {pins : List (Addr × Obj)} {σ : St} {H : Hp} {s : Shared} {Q : VK} {k k' : Bool} (I : Inv X pins σ H s) (q : Q (.bl k) H) (e : k = k') : EP X pins σ Q (.bool k') s := by
  subst e
  exact ⟨.bl k, H, I, rfl, q⟩
theorem op_eq : OpR X (compareOp .Eq) rEq := by
  intro pins s σ H x y v u Q I rx ry h
  obtain ⟨hs, q⟩ := h
  cases x with
  | non =>
    cases rx
    cases y with
    | non => cases ry; exact PySem.EqNone.eq_none_none (fin_bl I q (by simp))
    | bl j => cases ry; exact PySem.EqNone.eq_none_bool (fin_bl I q (by simp))
    | int j => obtain ⟨t', rfl⟩ := ry; exact PySem.EqNone.eq_none_int (fin_bl I q (by simp))
    | str j => obtain ⟨t', rfl⟩ := ry; exact PySem.EqNone.eq_none_str (fin_bl I q (by simp))
    | _ => exact absurd (show false = true from hs) Bool.false_ne_true
  | bl i =>
    cases rx
    cases y with
    | non => cases ry; exact PySem.EqNone.eq_bool_none (fin_bl I q (by simp))
    | bl j => cases ry; exact eq_bool (fin_bl I q dec_bl)
    | str j => obtain ⟨t', rfl⟩ := ry; exact PySem.EqMixed.eq_bool_str (fin_bl I q (by simp))
    | _ => exact absurd (show false = true from hs) Bool.false_ne_true
  | int i =>
    obtain ⟨t, rfl⟩ := rx
    cases y with
    | non => cases ry; exact PySem.EqNone.eq_int_none (fin_bl I q (by simp))
    | int j => obtain ⟨t', rfl⟩ := ry; exact eq_int (fin_bl I q dec_int)
    | str j => obtain ⟨t', rfl⟩ := ry; exact PySem.EqMixed.eq_int_str (fin_bl I q (by simp))
    | _ => exact absurd (show false = true from hs) Bool.false_ne_true
  | str i =>
    obtain ⟨t, rfl⟩ := rx
    cases y with
    | non => cases ry; exact PySem.EqNone.eq_str_none (fin_bl I q (by simp))
    | bl j => cases ry; exact PySem.EqMixed.eq_str_bool (fin_bl I q (by simp))
    | int j => obtain ⟨t', rfl⟩ := ry; exact PySem.EqMixed.eq_str_int (fin_bl I q (by simp))
    | str j => obtain ⟨t', rfl⟩ := ry; exact eq_str (fin_bl I q dec_str)
    | _ => exact absurd (show false = true from hs) Bool.false_ne_true
  | byt i =>
    obtain ⟨t, rfl⟩ := rx
    cases y with
    | byt j => obtain ⟨t', rfl⟩ := ry; exact PySem.W.eq_bytes (fin_bl I q dec_byt)
    | _ => exact absurd (show false = true from hs) Bool.false_ne_true
  | _ => cases y <;> exact absurd (show false = true from hs) Bool.false_ne_true
theorem op_ne : OpR X (compareOp .NotEq) rNe := by
  intro pins s σ H x y v u Q I rx ry h
  obtain ⟨hs, q⟩ := h
  cases x with
  | non =>
    cases rx
    cases y with
    | non => cases ry; exact PySem.EqNone.ne_none_none (fin_bl I q (by simp))
    | bl j => cases ry; exact PySem.EqNone.ne_none_bool (fin_bl I q (by simp))
    | int j => obtain ⟨t', rfl⟩ := ry; exact PySem.EqNone.ne_none_int (fin_bl I q (by simp))
    | str j => obtain ⟨t', rfl⟩ := ry; exact PySem.EqNone.ne_none_str (fin_bl I q (by simp))
    | _ => exact absurd (show false = true from hs) Bool.false_ne_true
  | bl i =>
    cases rx
    cases y with
    | non => cases ry; exact PySem.EqNone.ne_bool_none (fin_bl I q (by simp))
    | bl j => cases ry; exact ne_bool (fin_bl I q (congrArg not dec_bl))
    | str j => obtain ⟨t', rfl⟩ := ry; exact PySem.EqMixed.ne_bool_str (fin_bl I q (by simp))
    | _ => exact absurd (show false = true from hs) Bool.false_ne_true
  | int i =>
    obtain ⟨t, rfl⟩ := rx
    cases y with
    | non => cases ry; exact PySem.EqNone.ne_int_none (fin_bl I q (by simp))
    | int j => obtain ⟨t', rfl⟩ := ry; exact ne_int (fin_bl I q (congrArg not dec_int))
    | str j => obtain ⟨t', rfl⟩ := ry; exact PySem.EqMixed.ne_int_str (fin_bl I q (by simp))
    | _ => exact absurd (show false = true from hs) Bool.false_ne_true
  | str i =>
    obtain ⟨t, rfl⟩ := rx
    cases y with
    | non => cases ry; exact PySem.EqNone.ne_str_none (fin_bl I q (by simp))
    | bl j => cases ry; exact PySem.EqMixed.ne_str_bool (fin_bl I q (by simp))
    | int j => obtain ⟨t', rfl⟩ := ry; exact PySem.EqMixed.ne_str_int (fin_bl I q (by simp))
    | str j => obtain ⟨t', rfl⟩ := ry; exact ne_str (fin_bl I q (congrArg not dec_str))
    | _ => exact absurd (show false = true from hs) Bool.false_ne_true
  | byt i =>
    obtain ⟨t, rfl⟩ := rx
    cases y with
    | byt j => obtain ⟨t', rfl⟩ := ry; exact PySem.W.ne_bytes (fin_bl I q (congrArg not dec_byt))
    | _ => exact absurd (show false = true from hs) Bool.false_ne_true
  | _ => cases y <;> exact absurd (show false = true from hs) Bool.false_ne_true

theorem op_lt : OpR X (compareOp .Lt) (rI0 fun i j => .bl (decide (i < j))) := opB0 fun _ _ _ _ _ _ _ q => lt_int q
theorem op_le : OpR X (compareOp .LtE) (rI0 fun i j => .bl (decide (i ≤ j))) := opB0 fun _ _ _ _ _ _ _ q => le_int q
theorem op_gt : OpR X (compareOp .Gt) (rI0 fun i j => .bl (decide (j < i))) := opB0 fun _ _ _ _ _ _ _ q => gt_int q
theorem op_ge : OpR X (compareOp .GtE) (rI0 fun i j => .bl (decide (j ≤ i))) := opB0 fun _ _ _ _ _ _ _ q => ge_int q
def isObj : HO → Bool
  | .lst _ => true
  | .ins _ _ _ => true
  | _ => false
theorem nomark (b : Expr) {op : CmpOp} (h : op ≠ .In := by decide) (h2 : op ≠ .NotIn := by decide) : behindInMarks op b = false := by
  have e1 : (op == CmpOp.In) = false := by cases op <;> first | rfl | exact absurd rfl h
  have e2 : (op == CmpOp.NotIn) = false := by cases op <;> first | rfl | exact absurd rfl h2
  cases b <;> simp [behindInMarks, e1, e2]
theorem pe_cmpR {op : CmpOp} {r : R2} (ho : OpR X (compareOp op) r) (ha : PE X a ta) (hb : PE X b tb) (hm : behindInMarks op b = false) : PE X (.Compare a [op] [b] pos) (tOp r ta tb) := by
  intro pins s σ H Q I h
  exact wpAny_Compare1 (binT ha hb I h fun v u s2 x y H2 I2 rx ry q => ho pins s2 σ H2 x y v u Q I2 rx ry q) hm
def tTest (t : TE) : TT := fun σ H Q => t σ H fun x H' => ∃ k, x = .bl k ∧ Q k H'
theorem pt_cmpR {op : CmpOp} {r : R2} (ho : OpR X (compareOp op) r) (ha : PE X a ta) (hb : PE X b tb) (hm : behindInMarks op b = false) : PT X (.Compare a [op] [b] pos) (tTest (tOp r ta tb)) := by
  intro pins s σ H Q I h
  refine wpAny_isTrue_Compare1 (thn (ha pins s σ H _ I h) fun v s1 ⟨x, H1, I1, r1, q1⟩ => thn (hb pins s1 σ H1 _ I1 q1) fun u s2 ⟨y, H2, I2, r2, q2⟩ =>
    thn (ho pins s2 σ H2 x y v u _ I2 r1 r2 q2) fun c s3 ⟨z, H3, I3, r3, k, e, q3⟩ => ?_) hm
  subst e
  cases r3
  exact wpAny_truthy_bool ⟨H3, I3, q3⟩
def tChain (r r' : R2) (ta tb tc : TE) : TE := fun σ H Q => ta σ H fun x H1 => tb σ H1 fun y H2 => r x y H2 fun z H3 => ∃ k, z = .bl k ∧
  (if k = true then tc σ H3 fun w' H4 => r' y w' H4 Q else Q (.bl false) H3)
theorem pe_chain {op op' : CmpOp} {r r' : R2} (ho : OpR X (compareOp op) r) (ho' : OpR X (compareOp op') r') (ha : PE X a ta) (hb : PE X b tb) (hc : PE X c tc)
    (hm : lastMarks [op, op'] [b, c] = false := by with_unfolding_all rfl) : PE X (.Compare a [op, op'] [b, c] pos) (tChain r r' ta tb tc) := by
  intro pins s σ H Q I h
  refine Compare_chain (thn (ha pins s σ H _ I h) fun v s1 ⟨x, H1, I1, r1, q1⟩ => chain_link (thn (hb pins s1 σ H1 _ I1 q1) fun u s2 ⟨y, H2, I2, r2, q2⟩ =>
    thn (ho pins s2 σ H2 x y v u _ I2 r1 r2 q2) fun d s3 ⟨z, H3, I3, r3, k, e, q3⟩ => ?_)) hm
  subst e
  cases r3
  refine wpAny_truthy_bool ?_
  cases k with
  | false => exact ite_ff ⟨.bl false, H3, I3, rfl, q3⟩
  | true => exact ite_tt (chain_last (thn (hc pins s3 σ H3 _ I3 q3) fun w' s4 ⟨z', H4, I4, r4, q4⟩ => ho' pins s4 σ H4 y z' u w' Q I4 r2 r4 q4))
def TruV (K : PySem.W.Frag) (x : V) (H : Hp) (k : Bool) : Prop :=
  match x with
  | .non => k = false
  | .bl b => k = b
  | .int i => k = (i != 0)
  | .str y => y.length ≤ sizeLine ∧ k = ((y.length : Int) != 0)
  | .byt y => y.size ≤ sizeLine ∧ k = ((y.size : Int) != 0)
  | .ref p => (∃ xs, SqL K H p xs ∧ k = !xs.isEmpty) ∨ (∃ xs, SqT K H p xs ∧ k = !xs.isEmpty) ∨ ∃ kvs, H p = some (.dK kvs) ∧ k = !kvs.isEmpty
  | _ => False
theorem line63 : (sizeLine : Nat) < 2 ^ 63 := by rw [sizeLine_eq]; decide
def PlainIxT (b : Expr) : Prop := ∀ o i, subscripted b false o i = operate [o, i] (getItem o i)
theorem vals1 {x : V} {us : List Value} (r : Vals [x] us) : ∃ u, us = [u] ∧ RelV x u := by
  cases r with
  | cons r1 r2 => cases r2; exact ⟨_, rfl, r1⟩
theorem vals2 {x y : V} {us : List Value} (r : Vals [x, y] us) : ∃ u w', us = [u, w'] ∧ RelV x u ∧ RelV y w' := by
  cases r with
  | cons r1 r2 =>
    cases r2 with
    | cons r3 r4 => cases r4; exact ⟨_, _, rfl, r1, r3⟩
theorem call_abs : CallR X (.builtin "abs") (fun xs H Q => ∃ i, xs = [.int i] ∧ Q (.int (if i < 0 then -i else i)) H) := by
  intro pins s σ H xs us Q I r h
  obtain ⟨i, rfl, q⟩ := h
  obtain ⟨u, rfl, t, rfl⟩ := vals1 r
  exact call_abs_int fun u tk => ⟨.int (if i < 0 then -i else i), H, I.tok _, ⟨_, rfl⟩, q⟩
theorem call_min2 (hc : X.calm = true) : CallR X (.builtin "min") (fun xs H Q => ∃ i j, xs = [.int i, .int j] ∧ Q (.int (if j < i then j else i)) H) := by
  intro pins s σ H xs us Q I r h
  obtain ⟨i, j, rfl, q⟩ := h
  obtain ⟨u, w', rfl, ⟨t, rfl⟩, ⟨t', rfl⟩⟩ := vals2 r
  refine min_two_ints (I.ok.hd hc) fun h' tk k => ⟨_, H, I.kept k, ?_, q⟩
  by_cases hj : j < i
  · rw [if_pos hj, if_pos hj]; exact ⟨_, rfl⟩
  · rw [if_neg hj, if_neg hj]; exact ⟨_, rfl⟩
theorem call_str_int : CallR X (.type "str") (fun xs H Q => ∃ i, xs = [.int i] ∧ i.natAbs.log2 < 1920 ∧ Q (.str (toString i)) H) := by
  intro pins s σ H xs us Q I r h
  obtain ⟨i, rfl, hz, q⟩ := h
  obtain ⟨u, rfl, t, rfl⟩ := vals1 r
  exact PySem.P.str_of_int hz ⟨.str _, H, I.tok _, ⟨_, rfl⟩, q⟩
def LenV (K : PySem.W.Frag) (x : V) (H : Hp) (n : Nat) : Prop :=
  match x with
  | .str y => y.length ≤ sizeLine ∧ n = y.length
  | .byt y => y.size ≤ sizeLine ∧ n = y.size
  | .ref p => (∃ xs, SqL K H p xs ∧ n = xs.length) ∨ ∃ xs, SqT K H p xs ∧ n = xs.length
  | _ => False
end
end L2

namespace L2
open PySem PySem.Spec PyProof.Rows

structure ObjM (h : Heap) (x dx C : Addr) (mA : Str → Option Value) : Prop where
  obj : h.get? x = some (PySem.W.instObj C dx)
  ns : h.Ns1 dx mA
  ne : dx ≠ x

theorem lookIn_ns {h : Heap} {dx : Addr} {mA : Str → Option Value} (n : h.Ns1 dx mA) : ∃ od, h.get? dx = some od ∧ ∀ name, PySem.W.lookIn name od = some (mA name) := by
  obtain ⟨o, es, ep, ho, hd, hk, _, hm⟩ := n
  refine ⟨o, ho, fun name => ?_⟩
  have e := hm name
  unfold nsFind findBy at e
  rw [← Array.find?_toList] at e
  unfold PySem.W.lookIn
  rw [hd]
  dsimp only
  split
  · rename_i y q
    rw [q] at e
    exact congrArg some e
  · rename_i q
    rw [q] at e
    have a : es.toList.any (·.refKey) = false := by
      rw [List.any_eq_false]
      intro y hy
      obtain ⟨z, t, hkey⟩ := hk y (Array.mem_toList_iff.mp hy)
      simp [DictEntry.refKey, hkey]
    have a' : ¬ es.toList.any (·.refKey) = true := by rw [a]; exact Bool.false_ne_true
    rw [if_neg a']
    exact congrArg some e

theorem ObjM.look {h : Heap} {x dx C : Addr} {mA : Str → Option Value} (I : ObjM h x dx C mA) : ∃ od, PySem.W.InstAt h x (PySem.W.instObj C dx) C (some od) ∧ ∀ name, PySem.W.lookIn name od = some (mA name) :=
  let ⟨od, ho, hl⟩ := lookIn_ns I.ns
  ⟨od, ⟨I.obj, rfl, rfl, ho⟩, hl⟩

section
variable {prog : Program} {w : World} {A : Around} {E : Value → Shared → Prop} {s : Shared} {K : PySem.W.Frag} {x dx C f : Addr} {mA : Str → Option Value} {name : Str} {v : Value}

end

def putF (f : Str) (v : V) : List (Str × V) → List (Str × V)
  | [] => [(f, v)]
  | (g, x) :: r => if g = f then (g, v) :: r else (g, x) :: putF f v r
section
variable {P : Program} {w : World} {H H' : Hp} {h h' : Heap} {a C dx : Addr} {fs fs' : List (Str × V)}
theorem ins_get (hok : HOk P w H h) (e : H a = some (.ins C dx fs)) : ∃ mA, ObjM h a dx C mA ∧ (∀ f, RelO (fs.lookup f) (mA f)) ∧ PySem.Within mA (fs.map (·.1)) ∧ fs.length ≤ 1000 ∧ H dx = some (.own a) := by
  obtain ⟨d, z, ne, ob, mA, n, r, q⟩ := (show ObjOk P w H h a (.ins C dx fs) from hok a _ e)
  exact ⟨mA, ⟨ob, n, ne⟩, r, q, z, d⟩
end

structure Cls (K : PySem.W.Frag) (C : Addr) : Prop where
  pg : PySem.W.plainGet K C Str.empty = true
  hd : PySem.W.hasDictIn K C = true
  po : PySem.W.plainOver K C = true
  sa : PySem.W.findIn K (.ref C) "__setattr__" = some (some (.builtin "object.__setattr__"))
theorem Cls.get {K : PySem.W.Frag} {C : Addr} (c : Cls K C) (f : Str) : PySem.W.plainGet K C f = true := c.pg
def NoAttr (K : PySem.W.Frag) (C : Addr) (f : Str) : Prop := PySem.W.findIn K (.ref C) f = some none
structure Con (K : PySem.W.Frag) (C : Addr) (f : Str) (v : V) (u : Value) : Prop where
  at_ : PySem.W.findIn K (.ref C) f = some (some u)
  rel : RelV v u
  get : PySem.W.specialIn K u "__get__" = some none
  cp : PySem.W.copiedNames.contains f = false
structure Meth (K : PySem.W.Frag) (C : Addr) (m : Str) (f : Addr) : Prop where
  at_ : PySem.W.findIn K (.ref C) m = some (some (.ref f))
  fn : PySem.W.isFn K (.ref f) = true
  kp : PySem.W.keepIn K (.ref f) = true

section
variable {X : Cx} {pins : List (Addr × Obj)} {σ : St} {H : Hp} {s : Shared} {a C dx : Addr} {fs : List (Str × V)} {f : Str} {v : V} {A : Around} {E : Value → Shared → Prop}

end

def tFld (K : PySem.W.Frag) (ta : TE) (f : Str) : TE := fun σ H Q => ta σ H fun x H1 => ∃ a C dx fs v, x = .ref a ∧ H1 a = some (.ins C dx fs) ∧ Cls K C ∧ NoAttr K C f ∧ fs.lookup f = some v ∧ Q v H1
def tCon (K : PySem.W.Frag) (ta : TE) (f : Str) : TE := fun σ H Q => ta σ H fun x H1 => ∃ a C dx fs v u, x = .ref a ∧ H1 a = some (.ins C dx fs) ∧ Cls K C ∧ Con K C f v u ∧ fs.lookup f = none ∧ Q v H1
def sFld (K : PySem.W.Frag) (ta tv : TE) (f : Str) : TS := fun D σ H => tv σ H fun y H1 => ta σ H1 fun x H2 => ∃ a C dx fs, x = .ref a ∧ H2 a = some (.ins C dx fs) ∧ Cls K C ∧ NoAttr K C f ∧ fs.length < 1000 ∧
  D.nx σ (upd H2 a (.ins C dx (putF f y fs)))
def InOp (X : Cx) (op : Operator) (rd : V → V → Hp → VK → Prop) : Prop :=
  ∀ (pins : List (Addr × Obj)) (s : Shared) (σ : St) (H : Hp) (x y : V) (u v : Value) (Q : VK), Inv X pins σ H s → RelV x u → RelV y v → rd x y H Q → wpAny (model X.prog X.w) X.A (inplaceOp op u v) (EP X pins σ Q) X.xe s
def sFldAug (K : PySem.W.Frag) (ta tv : TE) (rd : V → V → Hp → VK → Prop) (f : Str) : TS := fun D σ H => ta σ H fun x H1 => ∃ a C dx fs v, x = .ref a ∧ H1 a = some (.ins C dx fs) ∧ Cls K C ∧ NoAttr K C f ∧ fs.lookup f = some v ∧
  tv σ H1 fun y H2 => rd v y H2 fun z H3 => ∃ dx' fs', H3 a = some (.ins C dx' fs') ∧ fs'.length < 1000 ∧ D.nx σ (upd H3 a (.ins C dx' (putF f z fs')))

section
variable {X : Cx} {o e value : Expr} {f : Str} {pos pos' tpos : Pos} {ta tv : TE}
def rAdd : V → V → Hp → VK → Prop := fun x y H Q => ∃ i j, x = .int i ∧ y = .int j ∧ Q (.int (i + j)) H
def rSub : V → V → Hp → VK → Prop := fun x y H Q => ∃ i j, x = .int i ∧ y = .int j ∧ Q (.int (i - j)) H
end

section
variable {X : Cx} {pins : List (Addr × Obj)} {σ : St} {H : Hp} {s : Shared} {A : Around} {E : Value → Shared → Prop} {Q : Value → Shared → Prop} {c : Value} {b : Bool}
inductive TyOf (K : PySem.W.Frag) (H : Hp) : V → Value → Prop where
  | non : TyOf K H .non (.type "NoneType")
  | bl (x : Bool) : TyOf K H (.bl x) (.type "bool")
  | int (i : Int) : TyOf K H (.int i) (.type "int")
  | str (x : Str) : TyOf K H (.str x) (.type "str")
  | flt (x : UInt64) : TyOf K H (.flt x) (.type "float")
  | lst {a : Addr} {xs : List V} (e : H a = some (.lst xs)) : TyOf K H (.ref a) (.type "list")
  | frz {a : Addr} {o : Obj} {xs : List V} (e : H a = some (.frz o (.lst xs))) : TyOf K H (.ref a) (.type "list")
  | tup {a : Addr} {xs : List V} (e : H a = some (.tup xs)) : TyOf K H (.ref a) (.type "tuple")
  | dK {a : Addr} {kvs : List (Key × V)} (e : H a = some (.dK kvs)) : TyOf K H (.ref a) (.type "dict")
  | dT {a : Addr} {kvs : List (List Key × V)} (e : H a = some (.dT kvs)) : TyOf K H (.ref a) (.type "dict")
  | ins {a C dx : Addr} {fs : List (Str × V)} (e : H a = some (.ins C dx fs)) (cl : Cls K C) (ha : PySem.W.findIn K (.ref C) "__class__" = some (some (.builtin "object.__class__")))
      (hn : PySem.W.specialIn K (.builtin "object.__class__") "__get__" = some (some (.builtin "getset_descriptor.__get__"))) (htk : PySem.W.takesIn K (.builtin "object.__class__") = some true)
      (hm : PySem.W.mroIn K C (.type "object") = some true) : TyOf K H (.ref a) (.ref C)
theorem isinst_ok {x : V} {u t : Value} (I : Inv X pins σ H s) (rx : RelV x u) (ty : TyOf X.K H x t) (e : PySem.W.kitOne X.K t c = some b) (h : ∀ tk, Q (.bool b) { s with toks := tk }) :
    wpAny (model X.prog X.w) A (call (.builtin "isinstance") [u, c]) Q E s := by
  cases ty with
  | non => cases (show u = Value.none from rx); exact PySem.W.kia_one PySem.W.kitx_none I.kIn True.intro e (fun z => nomatch z) h
  | bl y => cases (show u = Value.bool y from rx); exact PySem.W.kia_one PySem.W.kitx_bool I.kIn True.intro e (fun z => nomatch z) h
  | int i => obtain ⟨t, q⟩ := (show ∃ t, u = Value.int i t from rx); cases q; exact PySem.W.kia_one PySem.W.kitx_int I.kIn True.intro e (fun z => nomatch z) h
  | str y => obtain ⟨t, q⟩ := (show ∃ t, u = Value.str y t from rx); cases q; exact PySem.W.kia_one PySem.W.kitx_str I.kIn True.intro e (fun z => nomatch z) h
  | flt y => obtain ⟨t, q⟩ := (show ∃ t, u = Value.float y t from rx); cases q; exact PySem.W.kia_one PySem.W.kitx_float I.kIn True.intro e (fun z => nomatch z) h
  | @lst a xs ea =>
    cases (show u = Value.ref a from rx)
    obtain ⟨_, _, n, _, h1⟩ := (show ObjOk X.prog X.w H s.heap a (.lst xs) from I.hok a _ ea)
    exact PySem.W.kia_one PySem.W.kitx_list I.kIn ⟨_, h1, rfl⟩ e (fun z => nomatch z) h
  | @frz a ob xs ea =>
    cases (show u = Value.ref a from rx)
    obtain ⟨_, _, _, n, _, h1⟩ := (show ObjOk X.prog X.w H s.heap a (.frz ob (.lst xs)) from I.hok a _ ea)
    exact PySem.W.kia_one PySem.W.kitx_list I.kIn ⟨_, h1, rfl⟩ e (fun z => nomatch z) h
  | @tup a xs ea =>
    cases (show u = Value.ref a from rx)
    obtain ⟨_, _, _, p⟩ := (show ObjOk X.prog X.w H s.heap a (.tup xs) from I.hok a _ ea)
    obtain ⟨o, h1, h2, _⟩ := p
    exact PySem.W.kia_one PySem.W.kitx_tuple I.kIn ⟨o, h1, h2⟩ e (fun z => nomatch z) h
  | @dK a kvs ea =>
    cases (show u = Value.ref a from rx)
    obtain ⟨_, _, vs, _, p⟩ := (show ObjOk X.prog X.w H s.heap a (.dK kvs) from I.hok a _ ea)
    obtain ⟨o, es, ep, h1, h2, _⟩ := p
    exact PySem.W.kia_one PySem.W.kitx_dict I.kIn ⟨o, h1, h2.1⟩ e (fun z => nomatch z) h
  | @dT a kvs ea =>
    cases (show u = Value.ref a from rx)
    obtain ⟨_, _, xs, _, o, es, ep, h1, h2, _⟩ := (show ObjOk X.prog X.w H s.heap a (.dT kvs) from I.hok a _ ea)
    exact PySem.W.kia_one PySem.W.kitx_dict I.kIn ⟨o, h1, h2.1⟩ e (fun z => nomatch z) h
  | @ins a C dx fs ea cl ha hn htk hm =>
    cases (show u = Value.ref a from rx)
    obtain ⟨mA, O, _⟩ := ins_get I.hok ea
    obtain ⟨od, J, _⟩ := O.look
    exact PySem.W.kia_one (PySem.W.kitx_own (cl.get _) cl.hd ha hn htk hm) I.kIn J e (fun z => nomatch z) h
end
end L2

namespace L2
open PySem PySem.Spec PyProof.Rows

structure Room (k : Nat) (A : Around) : Prop where
  hd : A.handled = none
  dp : A.depth + 3 * k + 5 < recursionLimit
  un : A.units + 16 * k + 200 < cLine
  gd : A.guards = some []
theorem Room.mono {j k : Nat} {A : Around} (r : Room k A) (h : j ≤ k) : Room j A := ⟨r.hd, by have := r.dp; omega, by have := r.un; omega, r.gd⟩
theorem Room.deeper {k : Nat} {A : Around} (r : Room (k + 1) A) (env : Env) : Room k (A.deeper env) :=
  ⟨r.hd, by have := r.dp; show A.depth + 1 + 3 * k + 5 < _; omega, by have := r.un; show A.units + 3 + 16 * k + 200 < _; omega, r.gd⟩
theorem Room.depth {k : Nat} {A : Around} (r : Room k A) : A.depth < recursionLimit := by have := r.dp; omega
theorem Room.units {k : Nat} {A : Around} (r : Room k A) : A.units + 64 < cLine := by have := r.un; omega
def tNil : TA := fun _ H Q => Q [] H
def tCons (ta : TE) (tr : TA) : TA := fun σ H Q => ta σ H fun x H1 => tr σ H1 fun xs H2 => Q (x :: xs) H2
section
variable {X : Cx} {e : Expr} {es : List Expr} {te : TE} {t : TA} {pos : Pos}
theorem pa_nil : PA X [] tNil := fun _ _ _ _ H Q I h => Calls.spliced_nil ⟨[], H, I, .nil, h⟩
theorem pa_cons (ha : PE X e te) (hr : PA X es t) (hs : starEach (e :: es) X.env = (false, eval e X.env) :: starEach es X.env := by rfl) : PA X (e :: es) (tCons te t) := by
  intro pos pins s σ H Q I h
  rw [hs]
  show wpAny _ _ (spliced ((false, eval e X.env) :: backTo pos (starEach es X.env))) _ _ s
  refine Calls.spliced_cons (thn (ha pins s σ H _ I h) fun u s1 ⟨x, H1, I1, r1, q1⟩ => ?_)
  exact thn (hr pos pins s1 σ H1 _ I1 q1) fun us s2 ⟨xs, H2, I2, r2, q2⟩ => ⟨x :: xs, H2, I2, .cons r1 r2, q2⟩

def tTup (t : TA) : TE := fun σ H Q => t σ H fun xs H1 => xs.length ≤ sizeLine ∧ ∀ p, H1 p = none → Q (.ref p) (upd H1 p (.tup xs))
def tLst (t : TA) : TE := fun σ H Q => t σ H fun xs H1 => xs.length ≤ sizeLine ∧ ∀ p, H1 p = none → Q (.ref p) (upd H1 p (.lst xs))
theorem pe_tup {x1} (h : PA X es t) : PE X (.Tuple es x1 pos) (tTup t) := by
  intro pins s σ H Q I hq
  refine wpAny_Tuple_spliced (thn (h pos pins s σ H _ I hq) fun us s1 ⟨xs, H1, I1, r, z, q⟩ => ⟨by rw [← r.length]; exact z, ?_⟩)
  have hf : H1 s1.heap.objs.size = none := I1.hok.fresh (Nat.le_refl _)
  refine ⟨.ref s1.heap.objs.size, upd H1 s1.heap.objs.size (.tup xs), I1.laid (t' := s1.toks) (fun b u e => Heap.get?_push_of_some _ e) (Nat.le_refl _) ?_, rfl, q _ hf⟩
  exact ⟨z, us, r, PTup.new⟩
theorem pe_lst (h : PA X es t) : PE X (.List es pos) (tLst t) := by
  intro pins s σ H Q I hq
  refine wpAny_List_spliced (thn (h pos pins s σ H _ I hq) fun us s1 ⟨xs, H1, I1, r, z, q⟩ => ⟨by rw [← r.length]; exact z, ?_⟩)
  have hf : H1 s1.heap.objs.size = none := I1.hok.fresh (Nat.le_refl _)
  refine ⟨.ref s1.heap.objs.size, upd H1 s1.heap.objs.size (.lst xs), I1.laid (t' := s1.toks) (fun b u e => Heap.get?_push_of_some _ e) (Nat.le_refl _) ?_, rfl, q _ hf⟩
  exact ⟨z, us, 0, r, Heap.get?_push_size _ rfl⟩
end

abbrev Sp := List V → Hp → VK → XK → Prop
abbrev CXT := List Env → Hp → Shared → XK → Value → Shared → Prop

structure Env0 (P : Program) (w : World) (K : PySem.W.Frag) (mg : Str → Option Value) (base : Heap) (A : Around) (outer : List Env) (s : Shared) (H : Hp) : Prop where
  frames : A.frames = some outer
  mod : Mod K mg base
  bs : ∀ b o, base.get? b = some o → s.heap.get? b = some o ∧ H b = none
  bsz : base.objs.size ≤ s.heap.objs.size
  funs : s.heap.FunFrames base outer
  frf : ∀ b ∈ frs outer, H b = none
  hok : HOk P w H s.heap
  bare : AllBare s.gens
def CE (outer : List Env) (P : Program) (w : World) (H : Hp) (s : Shared) (Q : VK) (u : Value) (s' : Shared) : Prop :=
  ∃ v H', s'.os = s.os ∧ AllBare s'.gens ∧ Un (frs outer) [] H H' s.heap s'.heap ∧ HOk P w H' s'.heap ∧ RelV v u ∧ Q v H'
def CR (CX : CXT) (outer : List Env) (P : Program) (w : World) (H : Hp) (s : Shared) (Q : VK) (E : XK) (r : Result) (s' : Shared) : Prop :=
  match r with
  | .ok (.ret u) => CE outer P w H s Q u s'
  | .ok _ => False
  | .error e => CX outer H s E e s'
structure FnOk (P : Program) (w : World) (K : PySem.W.Frag) (mg : Str → Option Value) (base : Heap) (CX : CXT) (k : Nat) (f : Addr) (fd : FuncData) (ps : List Str) (sp : Sp) : Prop where
  len : ∀ vs H Q E, sp vs H Q E → vs.length = ps.length
  run : ∀ (A : Around) (outer : List Env) (s : Shared) (H : Hp) (args : Args) (us : List Value) (vs : List V) (Q : VK) (E : XK), Room k A → Env0 P w K mg base A outer s H → BindsTo s fd args (ps.zip us) → Vals vs us → sp vs H Q E →
    codeAny (model P w) A (.call (.ref f) args) (CR CX outer P w H s Q E) s
section
variable {X : Cx} {pins : List (Addr × Obj)} {σ : St} {H : Hp} {s s' : Shared}
theorem Inv.env0 (I : Inv X pins σ H s) : Env0 X.prog X.w X.K X.mg X.base X.A X.stack s H :=
  ⟨I.ok.frames, I.ok.mod, I.bs, Nat.le_trans I.ok.bsz I.sz, I.stack, I.stkFree, I.hok, I.bare⟩
theorem Inv.after {Q : VK} {u : Value} (I : Inv X pins σ H s) (h : CE X.stack X.prog X.w H s Q u s') : EP X pins σ Q u s' := by
  obtain ⟨v, H', os, bare, un, hok, r, q⟩ := h
  obtain ⟨hh, g, d, t, os'⟩ := s'
  obtain rfl : os' = s.os := os
  exact ⟨v, H', I.call (h' := hh) (g' := g) (d' := d) (t' := t) (ch := []) un hok bare (fun b z => absurd z (by simp)), r, q⟩
end

def tCall (sp : Sp) (dvs : List V) (E : XK) (t : TA) : TE := fun σ H Q => t σ H fun vs H1 => sp (vs ++ dvs) H1 Q E
def tMeth (C : Addr) (m : Str) (sp : Sp) (dvs : List V) (E : XK) (ta : TE) (t : TA) : TE := fun σ H Q => ta σ H fun x H1 => ∃ a dx fs, x = .ref a ∧ H1 a = some (.ins C dx fs) ∧ fs.lookup m = none ∧
  t σ H1 fun vs H2 => sp (x :: (vs ++ dvs)) H2 Q E
def tMake (C : Addr) (sp : Sp) (dvs : List V) (E : XK) (t : TA) : TE := fun σ H Q => t σ H fun vs H1 => ∀ x dx, H1 x = none → H1 dx = none → dx ≠ x →
  sp (.ref x :: (vs ++ dvs)) (upd (upd H1 dx (.own x)) x (.ins C dx [])) (fun v H2 => v = .non ∧ Q (.ref x) H2) E

def Binds (K : PySem.W.Frag) (fd : FuncData) (ps : List Str) (ds : List Value) : Prop :=
  ∀ (s : Shared) (us : List Value), K.In s.heap → (us ++ ds).length = ps.length → BindsTo s fd ⟨us, []⟩ (ps.zip (us ++ ds))
theorem Binds.all {K : PySem.W.Frag} {fd : FuncData} {ps : List Str} (h : ∀ us : List Value, us.length = ps.length → bindArgs fd ⟨us, []⟩ = pure (ps.zip us)) : Binds K fd ps [] := fun s us _ hl => by
  rw [List.append_nil] at hl ⊢
  exact .of_eq (h us hl)

def Passes (CX : CXT) (X : Cx) (E : XK) : Prop := ∀ (pins : List (Addr × Obj)) (σ : St) (H : Hp) (s : Shared) (e : Value) (s' : Shared), Inv X pins σ H s → CX X.stack H s E e s' → X.xe e s'

section
variable {X : Cx} {CX : CXT} {k : Nat} {f C : Addr} {fd : FuncData} {ps : List Str} {sp : Sp} {dvs : List V} {ds : List Value} {E : XK} {x m : Str} {p pos apos : Pos} {e o : Expr} {es : List Expr} {ta : TE} {t : TA}

theorem run_fn {pins : List (Addr × Obj)} {σ : St} {H : Hp} {s : Shared} {Q : VK} {us : List Value} {vs : List V} (F : FnOk X.prog X.w X.K X.mg X.base CX k f fd ps sp) (hr : Room k X.A) (hb : Binds X.K fd ps ds) (hd : Vals dvs ds) (hx : Passes CX X E)
    (I : Inv X pins σ H s) (r : Vals vs us) (h : sp (vs ++ dvs) H Q E) : wpAny (model X.prog X.w) X.A (call (.ref f) us) (EP X pins σ Q) X.xe s := by
  have r2 : Vals (vs ++ dvs) (us ++ ds) := r.append hd
  have hl : (us ++ ds).length = ps.length := by rw [← r2.length]; exact F.len _ _ _ _ h
  refine wpAny_call (codeAny_mono (F.run X.A X.stack s H ⟨us, []⟩ (us ++ ds) (vs ++ dvs) Q E hr I.env0 (hb s us I.kIn hl) r2 h) fun r s' hq => ?_)
  cases r with
  | error e => exact hx pins σ H s e s' I hq
  | ok fl =>
    cases fl with
    | ret u => exact I.after hq
    | next => exact False.elim hq
    | brk => exact False.elim hq
    | cont => exact False.elim hq

theorem pe_call (F : FnOk X.prog X.w X.K X.mg X.base CX k f fd ps sp) (hr : Room k X.A) (hg : Gl X x) (hm : X.mg x = some (.ref f)) (hk : PySem.W.keepIn X.K (.ref f) = true) (hb : Binds X.K fd ps ds) (hd : Vals dvs ds) (hx : Passes CX X E)
    (ha : PA X (e :: es) t) (hdb : (x == ("__debug__" : Str)) = false := by decide) (he : starEach (e :: es) X.env = (false, eval e X.env) :: starEach es X.env := by rfl) (hpl : (backTo pos (starEach es X.env)).any (·.1) = false := by rfl) :
    PE X (.Call (.Name x p) (e :: es) [] pos) (tCall sp dvs E t) := by
  intro pins s σ H Q I h
  refine wpAny_Call_Name_kw (ld_glob I hg hm ?_ hdb)
  refine PySem.W.callWith_K (h₀ := X.base) I.ok.mod.kin hk (thn (ha pos pins s σ H _ I h) fun us s1 ⟨vs, H1, I1, r, q⟩ => ⟨I1.kIn, ?_⟩) he hpl
  exact run_fn F hr hb hd hx I1 r q
structure Mk (K : PySem.W.Frag) (C f : Addr) : Prop where
  makes : PySem.W.makesIn K C = true
  init : PySem.W.findIn K (.ref C) "__init__" = some (some (.ref f))
  fn : PySem.W.isFn K (.ref f) = true
  kp : PySem.W.keepIn K (.ref C) = true

end

def PK (X : Cx) (kws : List Keyword) (t : TA) : Prop :=
  ∀ (pos : Pos) (pins : List (Addr × Obj)) (s : Shared) (σ : St) (H : Hp) (Q : List V → Hp → Prop), Inv X pins σ H s → t σ H Q → wpAny (model X.prog X.w) X.A (evalAll ((backToKw pos (keywordEach kws X.env)).map (·.2))) (AP X pins σ Q) X.xe s
section
variable {X : Cx} {CX : CXT} {k : Nat} {f C : Addr} {fd : FuncData} {ps ks : List Str} {sp : Sp} {E : XK} {x m : Str} {p pos apos kpos : Pos} {e o : Expr} {es : List Expr} {kws : List Keyword} {te ta : TE} {t tk : TA} {nm : Option Str}
structure KBinds (K : PySem.W.Frag) (fd : FuncData) (ps ks : List Str) (g : List Value → List Value → List Value) (gV : List V → List V → List V) : Prop where
  to : ∀ (s : Shared) (us ws : List Value), K.In s.heap → (g us ws).length = ps.length → BindsTo s fd ⟨us, ks.zip ws⟩ (ps.zip (g us ws))
  rel : ∀ {vs : List V} {us : List Value} {zs : List V} {ws : List Value}, Vals vs us → Vals zs ws → Vals (gV vs zs) (g us ws)
def tCallK (sp : Sp) (gV : List V → List V → List V) (E : XK) (t tk : TA) : TE := fun σ H Q => t σ H fun vs H1 => tk σ H1 fun zs H2 => sp (gV vs zs) H2 Q E
variable {g : List Value → List Value → List Value} {gV : List V → List V → List V}
end

structure FnScope (N P : List Str) (sc : Scope) : Prop where
  kind : sc.kind = .function
  co : sc.isCoroutine = false
  gen : sc.isGenerator = false
  nd : N.Nodup
  pre : N.take P.length = P
  par : ∀ x ∈ P, sc.names.lookup x = some .local ∨ sc.names.lookup x = some .cell
  nofree : ∀ y ∈ sc.names, y.2 ≠ .free

theorem bindL_out {kindOf : Str → Option NameKind} {x : Str} : ∀ {binds : List (Str × Value)} {m : Str → Option Value}, (∀ v, (x, v) ∉ binds) → bindL kindOf binds m x = m x
  | [], _, _ => rfl
  | (n, v) :: r, m, h => by
    unfold bindL
    rw [bindL_out fun w hw => h w (List.mem_cons_of_mem _ hw)]
    split
    · have : x ≠ n := by rintro rfl; exact h v List.mem_cons_self
      simp [this]
    · rfl
theorem bindC_out {kindOf : Str → Option NameKind} {x : Str} : ∀ {binds : List (Str × Value)} {m : Str → Option Value}, (∀ v, (x, v) ∉ binds) → bindC kindOf binds m x = m x
  | [], _, _ => rfl
  | (n, v) :: r, m, h => by
    unfold bindC
    rw [bindC_out fun w hw => h w (List.mem_cons_of_mem _ hw)]
    split
    · rfl
    · have : x ≠ n := by rintro rfl; exact h v List.mem_cons_self
      simp [this]
theorem bindL_get {kindOf : Str → Option NameKind} {x : Str} {v : Value} : ∀ {P : List Str} {vs : List Value} {i : Nat} {m : Str → Option Value}, P.Nodup → P[i]? = some x → vs[i]? = some v → kindOf x = some .local →
    bindL kindOf (P.zip vs) m x = some v
  | [], _, _, _, _, h, _, _ => by simp at h
  | _ :: _, [], _, _, _, _, h, _ => by simp at h
  | p :: P, w :: vs, 0, m, nd, h1, h2, hk => by
    simp at h1 h2; subst h1; subst h2
    show bindL kindOf ((p, w) :: P.zip vs) m p = _
    unfold bindL
    rw [bindL_out fun v hv => (List.nodup_cons.mp nd).1 (List.of_mem_zip hv).1, if_pos hk]
    simp
  | p :: P, w :: vs, i + 1, m, nd, h1, h2, hk => by
    show bindL kindOf ((p, w) :: P.zip vs) m x = _
    unfold bindL
    exact bindL_get (i := i) (List.nodup_cons.mp nd).2 (by simpa using h1) (by simpa using h2) hk
theorem bindC_get {kindOf : Str → Option NameKind} {x : Str} {v : Value} : ∀ {P : List Str} {vs : List Value} {i : Nat} {m : Str → Option Value}, P.Nodup → P[i]? = some x → vs[i]? = some v → kindOf x ≠ some .local →
    bindC kindOf (P.zip vs) m x = some v
  | [], _, _, _, _, h, _, _ => by simp at h
  | _ :: _, [], _, _, _, _, h, _ => by simp at h
  | p :: P, w :: vs, 0, m, nd, h1, h2, hk => by
    simp at h1 h2; subst h1; subst h2
    show bindC kindOf ((p, w) :: P.zip vs) m p = _
    unfold bindC
    rw [bindC_out fun v hv => (List.nodup_cons.mp nd).1 (List.of_mem_zip hv).1, if_neg hk]
    simp
  | p :: P, w :: vs, i + 1, m, nd, h1, h2, hk => by
    show bindC kindOf ((p, w) :: P.zip vs) m x = _
    unfold bindC
    exact bindC_get (i := i) (List.nodup_cons.mp nd).2 (by simpa using h1) (by simpa using h2) hk

def start (N : List Str) (vs : List V) : St := vs.map some ++ List.replicate (N.length - vs.length) none

def cxOf (CX : CXT) (P : Program) (w : World) (K : PySem.W.Frag) (mg : Str → Option Value) (base : Heap) (N : List Str) (qual : Str) (scope : Scope) (f : Addr) (cd : Value) (A : Around) (outer : List Env) (s : Shared) (H : Hp) (E : XK) : Cx where
  prog := P
  w := w
  K := K
  mg := mg
  base := base
  A := A.deeper (envOfC qual scope s.heap.objs.size f cd)
  N := N
  s₀ := s
  H₀ := H
  env := envOfC qual scope s.heap.objs.size f cd
  outer := outer
  stack := envOfC qual scope s.heap.objs.size f cd :: outer
  ex := []
  calm := true
  fn := fun _ => true
  pn := []
  xe := fun e s' => wpAny (model P w) (A.deeper (envOfC qual scope s.heap.objs.size f cd)) (leaving (envOfC qual scope s.heap.objs.size f cd) e) (fun _ s'' => CX outer H s E e s'') (fun e' s'' => CX outer H s E e' s'') s'

theorem cell_has {sc : Scope} {n : Nat} {x : Str} (h : sc.names.lookup x = some .cell) : ∃ c, (cellsFrom n sc.names []).lookup x = some c := by
  have q := PySem.W.cellsFrom_some sc.names n [] (.inl h)
  exact Option.isSome_iff_exists.mp q

theorem inv_start {CX : CXT} {P : Program} {w : World} {K : PySem.W.Frag} {mg : Str → Option Value} {base : Heap} {N ps : List Str} {qual : Str} {scope : Scope} {f : Addr} {cd : Value} {A : Around} {outer : List Env} {s s1 : Shared} {H : Hp} {E : XK} {us : List Value} {vs : List V}
    (S : FnScope N ps scope) (hd : A.handled = none) (e0 : Env0 P w K mg base A outer s H) (hl : vs.length = ps.length) (r : Vals vs us)
    (x : InCallC s s.heap.objs.size (bindL (envOfC qual scope s.heap.objs.size f cd).kindOf (ps.zip us) fun _ => none) (cellsFrom (s.heap.objs.size + 1) scope.names []) (bindC (envOfC qual scope s.heap.objs.size f cd).kindOf (ps.zip us) fun _ => none) s1) :
    Inv (cxOf CX P w K mg base N qual scope f cd A outer s H E) [] (start N vs) H s1 := by
  have hpl : ps.length ≤ N.length := by have := congrArg List.length S.pre; rw [List.length_take] at this; omega
  obtain ⟨h1, tk, rfl, hk⟩ := x.done
  have noA : ∀ b : Addr, b ∉ (cxOf CX P w K mg base N qual scope f cd A outer s H E).ex := fun b z => absurd (show b ∈ ([] : List Addr) from z) (by simp)
  refine ⟨⟨e0.mod, S.kind, rfl, rfl, Nat.le_refl _, fun y z c h1 h2 => ?_, fun y hy => ?_, fun y c _ h => ?_, fun _ => hd, Around.frames_deeper e0.frames, .inr ⟨rfl, rfl⟩, fun b z => absurd z (noA b), e0.bs, e0.bsz, fun b _ _ => noA b, fun b z => absurd z (noA b), e0.funs, e0.frf⟩,
    rfl, e0.bare, Un.kept hk, ⟨_, x.toInCall.ns, fun i y v h1 h2 h3 => ?_⟩, fun y c h => ⟨_, x.cell y c h⟩, e0.hok.fresh (Nat.le_refl _), fun y c h => ?_, fun p hp => absurd (show p ∈ ([] : List (Addr × Obj)) from hp) (by simp), e0.hok.kept hk, ?_⟩
  · exact name_of_addr x.apart (PySem.mem_of_lookup h1) (PySem.mem_of_lookup h2)
  · have hy : scope.names.lookup y = some .cell ∨ scope.names.lookup y = some .free := hy
    rcases hy with hy | hy
    · exact cell_has hy
    · exact absurd rfl (S.nofree _ (PySem.mem_of_lookup hy))
  · exact Nat.le_of_lt (x.above y c (PySem.mem_of_lookup h))
  · have hi : i < vs.length := by
      unfold start at h2
      by_cases hi : i < vs.length
      · exact hi
      · rw [List.getElem?_append_right (by simpa using hi)] at h2
        rw [List.getElem?_replicate] at h2
        split at h2 <;> cases h2
    have ha : vs[i]? = some v := by
      unfold start at h2
      rw [List.getElem?_append_left (by simpa using hi), List.getElem?_map] at h2
      cases e : vs[i]? with
      | none => rw [e] at h2; cases h2
      | some a => rw [e] at h2; cases h2; rfl
    obtain ⟨u, hu, rv⟩ := r.get ha
    have hp : ps[i]? = some y := by
      rw [← S.pre, List.getElem?_take_of_lt (by omega)]; exact h1
    have ndP : ps.Nodup := by rw [← S.pre]; exact S.nd.sublist (List.take_sublist _ _)
    refine ⟨u, rv, ?_⟩
    rcases S.par y (List.mem_of_getElem? hp) with k | k
    · exact .inl ⟨k, bindL_get ndP hp hu k⟩
    · obtain ⟨c, e⟩ := cell_has (n := s.heap.objs.size + 1) k
      refine .inr ⟨.inl k, c, e, ?_⟩
      have q := x.cell y c e
      rw [bindC_get ndP hp hu (by show scope.names.lookup y ≠ _; rw [k]; decide)] at q
      exact q
  · exact e0.hok.fresh (Nat.le_of_lt (x.above y c (PySem.mem_of_lookup h)))
  · unfold start
    show _ = N.length
    rw [List.length_append, List.length_map, List.length_replicate]
    omega

theorem fn_of {CX : CXT} {P : Program} {w : World} {K : PySem.W.Frag} {mg : Str → Option Value} {base : Heap} {k : Nat} {f : Addr} {name qual : Str} {params : Arguments} {body : List Stmt} {scope : Scope} {dV kV doc pm cdv ct oc : Value} {an od : Option Addr}
    {osl : Array (Option Value)} {N ps : List Str} {sp : Sp} (lk : K.lookup f = some ⟨oc, od, .func (PySem.W.fnOf name qual params body scope dV kV doc pm an cdv ct), osl⟩) (hcd : PySem.W.codeIn K cdv qual = true) (S : FnScope N ps scope)
    (len : ∀ vs H Q E, sp vs H Q E → vs.length = ps.length)
    (hbody : ∀ (A : Around) (outer : List Env) (s : Shared) (H : Hp) (vs : List V) (Q : VK) (E : XK), Room k (A.deeper (envOfC qual scope s.heap.objs.size f cdv)) → sp vs H Q E →
      ∃ t, PSs (cxOf CX P w K mg base N qual scope f cdv A outer s H E) body t ∧ t { nx := fun _ H' => Q .non H', rt := Q } (start N vs) H) :
    FnOk P w K mg base CX (k + 1) f (PySem.W.fnOf name qual params body scope dV kV doc pm an cdv ct) ps sp := by
  refine ⟨len, fun A outer s H args us vs Q E hr e0 hb r hsp => ?_⟩
  have hl := len _ _ _ _ hsp
  have KX : K.In s.heap := e0.mod.kin.keeps fun b o e => (e0.bs b o e).1
  have lim : s.heap.NoLimit := e0.mod.nolimit.keeps fun b o e => (e0.bs b o e).1
  have hkind : ∀ y ∈ ps.zip us, scope.names.lookup y.1 = some .local ∨ (scope.names.lookup y.1 = some .cell ∧ ((cellsFrom (s.heap.objs.size + 1) scope.names []).lookup y.1).isSome = true) := fun ⟨n, v⟩ hy => by
    rcases S.par n (List.of_mem_zip hy).1 with q | q
    · exact .inl q
    · exact .inr ⟨q, PySem.W.cellsFrom_some _ _ _ (.inl q)⟩
  refine codeAny_call_function hr.depth (KX _ _ lk) rfl S.co S.gen rfl (PySem.W.codeRec_of KX hcd) (hb _ _ _ _ ?_)
  refine wpAny_newFunctionEnv_cells S.kind hkind fun env he s1 x => ?_
  subst he
  refine ⟨lim.keeps x.toInCall.keep, codeAny_func ?_⟩
  obtain ⟨t, ht, hq⟩ := hbody A outer s H vs Q E (hr.deeper _) hsp
  have I : Inv (cxOf CX P w K mg base N qual scope f cdv A outer s H E) [] (start N vs) H s1 := inv_start S hr.hd e0 hl r x
  refine wpAny_mono (ht [] s1 (start N vs) H _ I hq) (fun fl s' hs => ?_) fun e s' hs => hs
  have fin : ∀ {σ' : St} {H' : Hp} {v : V} {u : Value}, Inv (cxOf CX P w K mg base N qual scope f cdv A outer s H E) [] σ' H' s' → RelV v u → Q v H' → CE outer P w H s Q u s' :=
    fun {σ' H' v u} J rv q => ⟨v, H', J.os, J.bare, J.base, J.hok, rv, q⟩
  cases fl with
  | ret u =>
    obtain ⟨v, σ', H', J, rv, q⟩ := hs
    exact fin J rv q
  | next =>
    obtain ⟨σ', H', J, q⟩ := hs
    exact fin (v := V.non) (u := Value.none) J rfl q
  | brk =>
    obtain ⟨_, _, _, q⟩ := hs
    exact False.elim q
  | cont =>
    obtain ⟨_, _, _, q⟩ := hs
    exact False.elim q
end L2

namespace L2
open PySem PySem.Spec PyProof.Rows
section
variable {X : Cx} {x : Str} {p pos : Pos} {e : Expr} {es : List Expr} {t : TA} {id T : String} {r : List V → Hp → VK → Prop}

def tCB (r : List V → Hp → VK → Prop) (t : TA) : TE := fun σ H Q => t σ H fun vs H1 => r vs H1 Q
theorem pe_callB (hc : CallR X (.builtin id) r) (hg : Gl X x) (hm : X.mg x = none) (hv : bootBuiltins x = some (.builtin id)) (ha : PA X (e :: es) t) (hn : x ≠ "__name__" := by decide) (hdb : (x == ("__debug__" : Str)) = false := by decide)
    (he : starEach (e :: es) X.env = (false, eval e X.env) :: starEach es X.env := by rfl) (hpl : (backTo pos (starEach es X.env)).any (·.1) = false := by rfl) : PE X (.Call (.Name x p) (e :: es) [] pos) (tCB r t) := by
  intro pins s σ H Q I h
  refine wpAny_Call_Name_kw (ld_blt I hg hm hv ?_ hn hdb)
  exact PyProof.Rows.callWith_builtin1 (thn (ha pos pins s σ H _ I h) fun us s1 ⟨vs, H1, I1, r1, q1⟩ => hc pins s1 σ H1 vs us Q I1 r1 q1) he hpl
theorem pe_callTy (hc : CallR X (.type T) r) (hg : Gl X x) (hm : X.mg x = none) (hv : bootBuiltins x = some (.type T)) (ha : PA X (e :: es) t) (hn : x ≠ "__name__" := by decide) (hdb : (x == ("__debug__" : Str)) = false := by decide)
    (he : starEach (e :: es) X.env = (false, eval e X.env) :: starEach es X.env := by rfl) (hpl : (backTo pos (starEach es X.env)).any (·.1) = false := by rfl) : PE X (.Call (.Name x p) (e :: es) [] pos) (tCB r t) := by
  intro pins s σ H Q I h
  refine wpAny_Call_Name_kw (ld_blt I hg hm hv ?_ hn hdb)
  exact PyProof.Rows.callWith_type1 (thn (ha pos pins s σ H _ I h) fun us s1 ⟨vs, H1, I1, r1, q1⟩ => hc pins s1 σ H1 vs us Q I1 r1 q1) he hpl
end
end L2

namespace HT
open PySem PyProof.Rows

def lexLt : List Int → List Int → Bool
  | [], [] => false
  | [], _ :: _ => true
  | _ :: _, [] => false
  | x :: xs, y :: ys => if x = y then lexLt xs ys else decide (x < y)
section
open PySem.SeqAt
open PySem.AutoSeq1 (wpAny_loadPart')
open PySem.MeetsSeq PySem.MeetsSeq2 PySem.MeetsSeq3

end

section
variable {prog : Program} {w : World} {A : Around} {E : Value → Shared → Prop} {s : Shared}

theorem cat_tup {t b : Addr} {vs ws : List Value} {Q : Value → Shared → Prop} (ht : IsTup s.heap t vs.toArray) (hb : IsTup s.heap b ws.toArray) (hv : vs ≠ [])
    (h1 : ws = [] → Q (.ref t) s) (h2 : ws ≠ [] → Q (.ref s.heap.objs.size) { s with heap := s.heap.push { cls := .type "tuple", data := .seq (vs ++ ws).toArray } })
    (hsz : vs.length + ws.length ≤ sizeLine) : wpAny (model prog w) A (binaryOp .Add (.ref t) (.ref b)) Q E s := by
  obtain ⟨⟨cls, dd, data, sl⟩, ho, hc, n, hd⟩ := id ht
  obtain ⟨⟨cls2, dd2, data2, sl2⟩, ho2, hc2, n2, hd2⟩ := id hb
  simp only at hc hd hc2 hd2
  subst hc hd hc2 hd2
  have e : vs.toArray ++ ws.toArray = (vs ++ ws).toArray := by simp
  by_cases hw : ws = []
  · exact concat_meets ⟨_, ho, rfl⟩ ⟨_, ho2, rfl⟩ noFill_tuple_add seq_tuple_add PySem.F.slot_tuple_add PySem.F.entry_tuple_add (PySem.F.args_tuple_add_2 _ _)
      (tuple_addW1 t b vs.toArray ws.toArray n n2 dd dd2 sl sl2 (by simpa using hv) (by simp [hw])) ⟨ho, ho2, h1 hw⟩
  · refine concat_meets ⟨_, ho, rfl⟩ ⟨_, ho2, rfl⟩ noFill_tuple_add seq_tuple_add PySem.F.slot_tuple_add PySem.F.entry_tuple_add (PySem.F.args_tuple_add_2 _ _)
      (tuple_addW2 t b vs.toArray ws.toArray n n2 dd dd2 sl sl2 (by simpa using hv) (by simpa using hw) (by rw [List.size_toArray, List.size_toArray]; exact hsz)) ⟨ho, ho2, ?_⟩
    rw [e]
    exact h2 hw

def sIx (n d : Nat) : Option Int → Nat
  | none => d
  | some v => if v < 0 then (v + (n : Int)).toNat else min v.toNat n
theorem sIx_none (n d : Nat) : sIx n d none = d := rfl
theorem sIx_nat (n d k : Nat) : sIx n d (some (k : Int)) = min k n := by
  show (if (k : Int) < 0 then ((k : Int) + (n : Int)).toNat else min (k : Int).toNat n) = min k n
  rw [if_neg (by omega), Int.toNat_natCast]
theorem sIx_le (n d : Nat) (hd : d ≤ n) (o : Option Int) : sIx n d o ≤ n := by
  cases o with
  | none => exact hd
  | some v =>
    show (if v < 0 then (v + (n : Int)).toNat else min v.toNat n) ≤ n
    by_cases hv : v < 0
    · rw [if_pos hv]; omega
    · rw [if_neg hv]; exact Nat.min_le_right _ _
theorem clip_eq (v : Int) (n d : Nat) : (if v < 0 then max (v + (n : Int)) 0 else min v (n : Int)) = ((sIx n d (some v) : Nat) : Int) := by
  show (if v < 0 then max (v + (n : Int)) 0 else min v (n : Int)) = (((if v < 0 then (v + (n : Int)).toNat else min v.toNat n) : Nat) : Int)
  by_cases hv : v < 0
  · simp only [if_pos hv]; omega
  · simp only [if_neg hv]; omega
theorem adjust_gen (lo hi : Option Int) (n : Nat) : Builtin.Slice.sliceAdjust lo hi 1 (n : Int) = (((sIx n 0 lo : Nat) : Int), ((sIx n n hi : Nat) : Int)) := by
  have h1 : ¬ ((1 : Int) < 0) := by omega
  unfold Builtin.Slice.sliceAdjust
  simp only [h1, if_false]
  refine Prod.ext ?_ ?_
  · cases lo with
    | none => rfl
    | some v => exact clip_eq v n 0
  · cases hi with
    | none => rfl
    | some v => exact clip_eq v n n
theorem places_gen (i j : Nat) : Builtin.Slice.slicePlaces (i : Int) (j : Int) 1 = j - i := by
  unfold Builtin.Slice.slicePlaces
  have h1 : (1 : Int) > 0 := by omega
  simp only [h1, if_true, Int.ediv_one]
  split <;> omega
theorem slicePart_ {v : Value} {o : Option Int} {Q : Option Int → Shared → Prop} (p : IsPart v o) (h : Q o s) : wpAny (model prog w) A (Builtin.Slice.slicePartIndex v) Q E s := by
  cases p with
  | none => exact slicePart_none h
  | int i t => exact slicePart_int h
theorem sliceApplied_gen {sl : Addr} {vl vu : Value} {lo hi : Option Int} {n : Nat} {Q : Int × Int × Nat → Shared → Prop} (hs : s.heap.IsSliceOf sl vl vu .none) (pl : IsPart vl lo) (pu : IsPart vu hi)
    (h : Q (((sIx n 0 lo : Nat) : Int), 1, sIx n n hi - sIx n 0 lo) s) : wpAny (model prog w) A (Builtin.Slice.sliceApplied (.ref sl) (pure (n : Int))) Q E s := by
  obtain ⟨os, hos, hcs, hds⟩ := id hs
  unfold Builtin.Slice.sliceApplied Builtin.Slice.sliceFields
  refine wpAny_bind (wpAny_bind (wpAny_field hos hds (x := vl) rfl (wpAny_bind (wpAny_field hos hds (x := vu) rfl (wpAny_bind (wpAny_field hos hds (x := .none) rfl (wpAny_pure ?_)))))))
  refine wpAny_bind (slicePart_none ?_)
  show wpAny _ _ (if ((1 : Int) == 0) = true then _ else _) _ _ s
  rw [if_neg (by decide)]
  refine wpAny_bind (slicePart_ pl (wpAny_bind (slicePart_ pu (wpAny_bind (wpAny_pure ?_)))))
  show wpAny _ _ (match Builtin.Slice.sliceAdjust lo hi 1 (n : Int) with | (lo, hi) => pure (lo, (1 : Int), Builtin.Slice.slicePlaces lo hi 1)) _ _ s
  rw [adjust_gen lo hi n]
  show wpAny _ _ (pure (((sIx n 0 lo : Nat) : Int), (1 : Int), Builtin.Slice.slicePlaces ((sIx n 0 lo : Nat) : Int) ((sIx n n hi : Nat) : Int) 1)) _ _ s
  rw [places_gen]
  exact wpAny_pure h
theorem pick_gen (xs : Array Value) (i k : Nat) : ((List.range k).filterMap fun (m : Nat) => xs[((i : Int) + (m : Int) * 1).toNat]?).toArray = ((xs.toList.drop i).take k).toArray := by
  have e : (fun (m : Nat) => xs[((i : Int) + (m : Int) * 1).toNat]?) = fun m => xs[i + m]? := by
    funext m
    have : ((i : Int) + (m : Int) * 1).toNat = i + m := by omega
    rw [this]
  rw [e]
  have := pick_run xs i k
  rw [List.filterMap_map] at this
  have e2 : ((fun x => xs[x]?) ∘ fun x => i + x) = fun m => xs[i + m]? := rfl
  rw [e2] at this
  rw [this]

theorem getItem_tuple_cut {t sl : Addr} {items : Array Value} {vl vu : Value} {lo hi : Option Int} {Q : Value → Shared → Prop} (ht : IsTup s.heap t items) (hs : s.heap.IsSliceOf sl vl vu .none) (pl : IsPart vl lo) (pu : IsPart vu hi)
    (hw : ¬ (sIx items.size 0 lo = 0 ∧ sIx items.size items.size hi = items.size))
    (h : Q (.ref s.heap.objs.size) { s with heap := s.heap.push { cls := .type "tuple", data := .seq ((items.toList.drop (sIx items.size 0 lo)).take (sIx items.size items.size hi - sIx items.size 0 lo)).toArray } })
    (hsz : items.size ≤ sizeLine) : wpAny (model prog w) A (getItem (.ref t) (.ref sl)) Q E s := by
  have htake : sizeOk (.seq ((items.toList.drop (sIx items.size 0 lo)).take (sIx items.size items.size hi - sIx items.size 0 lo)).toArray) := by
    show ((items.toList.drop (sIx items.size 0 lo)).take (sIx items.size items.size hi - sIx items.size 0 lo)).toArray.size ≤ sizeLine
    rw [List.size_toArray, List.length_take, List.length_drop, Array.length_toList]
    omega
  have hj : sIx items.size items.size hi ≤ items.size := sIx_le _ _ (Nat.le_refl _) hi
  obtain ⟨os, hos, hcs, hds⟩ := id hs
  have hTs : s.TypeIs (.ref sl) "slice" := ⟨os, hos, hcs⟩
  unfold getItem
  try with_reducible refine wpAny_holding ?_
  first | refine wpAny_bind (wpAny_pure ?_) | skip
  refine wpAny_bind (wpAny_sequenceKey ht.typeIs (by decide) ?_)
  refine wpAny_bind (wpAny_callSpecial?_slot (name := Str.ofString "__getitem__") ht.typeIs PyProof.Rows.slot_tuple_getitem
    (wpAny_call_entry PyProof.Rows.slot_tuple_getitem ht.typeIs entry_tuple_getitem ?_ (args_tuple_getitem _ _)))
  show wpAny _ _ (Builtin.Tuple.tupleItemsOf (.ref t) >>= _) _ _ s
  refine wpAny_bind (tupleItemsOf_ ht ?_)
  refine wpAny_bind (wpAny_typeOf hTs ?_)
  rw [if_pos (by decide)]
  refine wpAny_bind (sliceApplied_gen hs pl pu ?_)
  have hno : ¬ ((((sIx items.size 0 lo : Nat) : Int) == 0 && (1 : Int) == 1 && (sIx items.size items.size hi - sIx items.size 0 lo) == items.size) = true) := by
    intro q
    rw [Bool.and_eq_true, Bool.and_eq_true] at q
    have q1 : ((sIx items.size 0 lo : Nat) : Int) = 0 := eq_of_beq q.1.1
    have q2 : sIx items.size items.size hi - sIx items.size 0 lo = items.size := eq_of_beq q.2
    exact hw ⟨by omega, by omega⟩
  show wpAny _ _ (if (((sIx items.size 0 lo : Nat) : Int) == 0 && (1 : Int) == 1 && (sIx items.size items.size hi - sIx items.size 0 lo) == items.size) = true then _ else _) _ _ s
  rw [if_neg hno, pick_gen]
  first
    | exact wpAny_bind (m := Builtin.Tuple.tupleExact _) (wpAny_newObj_type (wpAny_pure ⟨_, rfl, wpAny_pure h⟩) htake)
    | exact wpAny_bind (m := Builtin.Tuple.tupleExact _) (wpAny_newObj_type (wpAny_bind (wpAny_pure (wpAny_pure ⟨_, rfl, wpAny_pure h⟩))) htake)
    | exact wpAny_bind (wpAny_bind (m := Builtin.Tuple.tupleExact _) (wpAny_newObj_type (wpAny_pure (wpAny_pure ⟨_, rfl, wpAny_pure h⟩)) htake))
    | exact wpAny_bind (wpAny_bind (m := Builtin.Tuple.tupleExact _) (wpAny_newObj_type (wpAny_pure ⟨_, rfl, wpAny_pure h⟩) htake))
end
end HT

namespace L2
open PySem PySem.Spec PyProof.Rows

abbrev TO := St → Hp → (Option Int → Hp → Prop) → Prop
def PO (X : Cx) (e : Option Expr) (t : TO) : Prop :=
  ∀ (pins : List (Addr × Obj)) (s : Shared) (σ : St) (H : Hp) (Q : Option Int → Hp → Prop), Inv X pins σ H s → t σ H Q →
    wpAny (model X.prog X.w) X.A (evalPart e X.env) (fun u s' => ∃ o H', Inv X pins σ H' s' ∧ IsPart u o ∧ Q o H') X.xe s
def tNoPart : TO := fun _ H Q => Q none H
def tPart (t : TE) : TO := fun σ H Q => t σ H fun x H1 => ∃ i, x = .int i ∧ Q (some i) H1

section
variable {X : Cx} {e : Expr} {te : TE} {lo hi : Option Expr} {tl th : TO} {pos p2 : Pos}

theorem po_none : PO X none tNoPart := by
  intro pins s σ H Q I h
  rw [evalPart_none]
  exact wpAny_pure ⟨none, H, I, .none, h⟩
theorem po_some (h : PE X e te) : PO X (some e) (tPart te) := by
  intro pins s σ H Q I hw
  rw [evalPart_some]
  refine thn (h pins s σ H _ I hw) fun u s1 ⟨x, H1, I1, r1, q1⟩ => ?_
  obtain ⟨i, rfl, q⟩ := q1
  obtain ⟨t, rfl⟩ := r1
  exact ⟨some i, H1, I1, .int i t, q⟩

def SlR (X : Cx) (r : V → Option Int → Option Int → Hp → VK → Prop) : Prop :=
  ∀ (pins : List (Addr × Obj)) (s : Shared) (σ : St) (H : Hp) (x : V) (v vl vu : Value) (lo hi : Option Int) (sl : Addr) (Q : VK), Inv X pins σ H s → RelV x v → s.heap.IsSliceOf sl vl vu .none → IsPart vl lo → IsPart vu hi → r x lo hi H Q →
    ∃ T id, typeLookup (.type T) "__getitem__" = pure (some (.builtin id)) ∧ s.TypeIs v T ∧ wpAny (model X.prog X.w) X.A (getItem v (.ref sl)) (EP X pins σ Q) X.xe s
def tSl (r : V → Option Int → Option Int → Hp → VK → Prop) (te : TE) (tl th : TO) : TE := fun σ H Q => te σ H fun x H1 => tl σ H1 fun l H2 => th σ H2 fun u H3 => r x l u H3 Q
theorem pe_slice {r : V → Option Int → Option Int → Hp → VK → Prop} (hr : SlR X r) (he : PE X e te) (hl : PO X lo tl) (hu : PO X hi th) : PE X (.Subscript e (.Slice lo hi none p2) pos) (tSl r te tl th) := by
  intro pins s σ H Q I h
  refine Subscript_ (thn (he pins s σ H _ I h) fun v s1 ⟨x, H1, I1, r1, q1⟩ => ?_)
  refine wpAny_Slice (thn (hl pins s1 σ H1 _ I1 q1) fun vl s2 ⟨l, H2, I2, pl, q2⟩ => thn (hu pins s2 σ H2 _ I2 q2) fun vu s3 ⟨u, H3, I3, pu, q3⟩ => ?_)
  rw [evalPart_none]
  refine wpAny_pure ?_
  have I4 : Inv X pins σ H3 { s3 with heap := s3.heap.push { cls := .type "slice", data := .fields #[vl, vu, .none] } } := I3.kept (t' := s3.toks) fun b ob q => Heap.get?_push_of_some _ q
  obtain ⟨T, id, hT, ht, hg⟩ := hr pins { s3 with heap := s3.heap.push { cls := .type "slice", data := .fields #[vl, vu, .none] } } σ H3 x v vl vu l u s3.heap.objs.size Q I4 r1 (Heap.IsSliceOf.new ..) pl pu q3
  show wpAny (model X.prog X.w) X.A (subscriptTail e (.Slice lo hi none p2) v (.ref s3.heap.objs.size)) (EP X pins σ Q) X.xe { s3 with heap := s3.heap.push { cls := .type "slice", data := .fields #[vl, vu, .none] } }
  exact tail_any (ops := [.ref s3.heap.objs.size, v]) ht hT hg (by with_unfolding_all rfl)

def cutV (xs : List V) (lo hi : Option Int) : List V := (xs.drop (HT.sIx xs.length 0 lo)).take (HT.sIx xs.length xs.length hi - HT.sIx xs.length 0 lo)
theorem cutV_length (xs : List V) (lo hi : Option Int) : (cutV xs lo hi).length ≤ xs.length := by
  unfold cutV
  rw [List.length_take, List.length_drop]
  omega
def rSlT (K : PySem.W.Frag) : V → Option Int → Option Int → Hp → VK → Prop := fun x lo hi H Q => ∃ a xs, x = .ref a ∧ SqT K H a xs ∧
  ¬ (HT.sIx xs.length 0 lo = 0 ∧ HT.sIx xs.length xs.length hi = xs.length) ∧ ∀ p, H p = none → Q (.ref p) (upd H p (.tup (cutV xs lo hi)))
theorem sl_tup : SlR X (rSlT X.K) := by
  intro pins s σ H x v vl vu lo hi sl Q I rx hs pl pu h
  obtain ⟨a, xs, rfl, hx, hw, q⟩ := h
  cases rx
  obtain ⟨its, r, ht, hz⟩ := I.tuple hx
  have hlen : its.toArray.size = xs.length := by rw [List.size_toArray]; exact r.length.symm
  refine ⟨"tuple", _, PyProof.Rows.slot_tuple_getitem.lookup, ht.typeIs, ?_⟩
  refine HT.getItem_tuple_cut ht hs pl pu (by rw [hlen]; exact hw) ?_ (by rw [hlen]; exact hz)
  rw [hlen]
  refine ⟨.ref s.heap.objs.size, _, I.laid (t' := s.toks) (o := .tup (cutV xs lo hi)) (fun b ob q => Heap.get?_push_of_some _ q) (Nat.le_refl _) ?_, rfl, q _ (I.hok.fresh (Nat.le_refl _))⟩
  exact ⟨Nat.le_trans (cutV_length xs lo hi) hz, _, (r.drop (HT.sIx xs.length 0 lo)).take (HT.sIx xs.length xs.length hi - HT.sIx xs.length 0 lo), PTup.new⟩

def rLtT (K : PySem.W.Frag) : R2 := fun x y H Q => ∃ a b ns ms, x = .ref a ∧ y = .ref b ∧ SqT K H a (ns.map V.int) ∧ SqT K H b (ms.map V.int) ∧ Q (.bl (HT.lexLt ns ms)) H
def rCatT (K : PySem.W.Frag) : R2 := fun x y H Q => ∃ a b xs ys, x = .ref a ∧ y = .ref b ∧ SqT K H a xs ∧ SqT K H b ys ∧ xs ≠ [] ∧ xs.length + ys.length ≤ sizeLine ∧
  (ys = [] → Q (.ref a) H) ∧ (ys ≠ [] → ∀ p, H p = none → Q (.ref p) (upd H p (.tup (xs ++ ys))))
theorem Vals.nil_iff {xs : List V} {us : List Value} (r : Vals xs us) : us = [] ↔ xs = [] := by
  cases r with
  | nil => simp
  | cons _ _ => simp
theorem op_catT : OpR X (binaryOp .Add) (rCatT X.K) := by
  intro pins s σ H x y v u Q I rx ry h
  obtain ⟨a, b, xs, ys, rfl, rfl, ha, hb, hx, hz, q1, q2⟩ := h
  cases rx
  cases ry
  obtain ⟨its, r1, p1, _⟩ := I.tuple ha
  obtain ⟨its2, r2, p2, _⟩ := I.tuple hb
  refine HT.cat_tup p1 p2 (fun z => hx (r1.nil_iff.mp z)) (fun z => ⟨.ref a, H, I, rfl, q1 (r2.nil_iff.mp z)⟩) (fun z => ?_) (by rw [← r1.length, ← r2.length]; exact hz)
  refine ⟨.ref s.heap.objs.size, _, I.laid (t' := s.toks) (o := .tup (xs ++ ys)) (fun b ob q => Heap.get?_push_of_some _ q) (Nat.le_refl _) ?_, rfl, q2 (fun w => z (r2.nil_iff.mpr w)) _ (I.hok.fresh (Nat.le_refl _))⟩
  exact ⟨by rw [List.length_append]; exact hz, _, r1.append r2, PTup.new⟩
end
end L2

namespace L2
open PySem PySem.Spec PyProof.Rows

def ixN (n : Nat) (i : Int) : Option Nat := if 0 ≤ i then (if i < n then some i.toNat else none) else if -(n : Int) ≤ i then some (i + n).toNat else none
def atI {α : Type} (xs : List α) (i : Int) : Option α := (ixN xs.length i).bind fun j => xs[j]?
theorem ixN_seq {n : Nat} {i : Int} {j : Nat} (h : ixN n i = some j) : seqIndex? i n = some j ∧ j < n ∧ -(n : Int) ≤ i ∧ i < n := by
  unfold ixN at h
  by_cases h0 : 0 ≤ i
  · rw [if_pos h0] at h
    by_cases h1 : i < n
    · rw [if_pos h1] at h
      have e : i.toNat = j := Option.some.inj h
      exact ⟨by rw [seqIndex_of h0 h1, e], by omega, by omega, h1⟩
    · rw [if_neg h1] at h; cases h
  · rw [if_neg h0] at h
    by_cases h1 : -(n : Int) ≤ i
    · rw [if_pos h1] at h
      have e : (i + n).toNat = j := Option.some.inj h
      exact ⟨by rw [seqIndex_neg (by omega) h1, e], by omega, h1, by omega⟩
    · rw [if_neg h1] at h; cases h
theorem atI_get {α : Type} {xs : List α} {i : Int} {v : α} (h : atI xs i = some v) : ∃ j, seqIndex? i xs.length = some j ∧ xs[j]? = some v ∧ j < xs.length ∧ -(xs.length : Int) ≤ i ∧ i < xs.length := by
  unfold atI at h
  cases e : ixN xs.length i with
  | none => rw [e] at h; cases h
  | some j =>
    rw [e] at h
    obtain ⟨h1, h2, h3, h4⟩ := ixN_seq e
    exact ⟨j, h1, h, h2, h3, h4⟩
theorem atI_nat {α : Type} {xs : List α} {j : Nat} {v : α} (h : xs[j]? = some v) : atI xs (j : Int) = some v := by
  have hj : j < xs.length := (List.getElem?_eq_some_iff.mp h).1
  have e : ixN xs.length (j : Int) = some j := by
    unfold ixN
    rw [if_pos (by omega), if_pos (by omega)]; simp
  unfold atI; rw [e]; exact h
def PlainIx (b : Expr) : Prop := ∀ o i, subscripted b false o i = operate [o, i] (getItem o i)
def IxR (X : Cx) (r : R2) : Prop :=
  ∀ (value slice : Expr) (pins : List (Addr × Obj)) (s : Shared) (σ : St) (H : Hp) (x y : V) (v u : Value) (Q : VK), Inv X pins σ H s → RelV x v → RelV y u → r x y H Q →
    subscripted slice false v u = operate [v, u] (getItem v u) → wpAny (model X.prog X.w) X.A (subscriptTail value slice v u) (EP X pins σ Q) X.xe s
def MtR (X : Cx) (id : String) (r : V → List V → Hp → VK → Prop) : Prop :=
  ∀ (pins : List (Addr × Obj)) (s : Shared) (σ : St) (H : Hp) (x : V) (xs : List V) (v : Value) (us : List Value) (Q : VK), Inv X pins σ H s → RelV x v → Vals xs us → r x xs H Q →
    wpAny (model X.prog X.w) X.A (call (.builtin id) (v :: us)) (EP X pins σ Q) X.xe s
section
variable {X : Cx} {a b : Expr} {ta tb : TE} {pos : Pos}
theorem pe_ix {r : R2} (hr : IxR X r) (ha : PE X a ta) (hb : PE X b tb) (hs : PlainIx b) : PE X (.Subscript a b pos) (tOp r ta tb) := by
  intro pins s σ H Q I h
  exact Subscript_ (binT ha hb I h fun v u s2 x y H2 I2 rx ry q => hr a b pins s2 σ H2 x y v u Q I2 rx ry q (hs _ _))

def rIxL (K : PySem.W.Frag) : R2 := fun x y H Q => ∃ p xs i v, x = .ref p ∧ y = .int i ∧ SqL K H p xs ∧ atI xs i = some v ∧ Q v H
def rIxT (K : PySem.W.Frag) : R2 := fun x y H Q => ∃ p xs i v, x = .ref p ∧ y = .int i ∧ SqT K H p xs ∧ atI xs i = some v ∧ Q v H
def rIxS : R2 := fun x y H Q => ∃ z i c, x = .str z ∧ y = .int i ∧ z.length ≤ sizeLine ∧ atI z.cps.toList i = some c ∧ Q (.str ⟨#[c]⟩) H
theorem ix_list : IxR X (rIxL X.K) := by
  intro value slice pins s σ H x y v u Q I rx ry h hs
  obtain ⟨p, xs, i, z, rfl, rfl, hq, he, q⟩ := h
  cases rx
  obtain ⟨t, rfl⟩ := ry
  obtain ⟨its, r, pl, hz⟩ := I.list hq
  obtain ⟨j, h1, h2, h3, h4, h5⟩ := atI_get he
  obtain ⟨w, ew, rw'⟩ := r.get h2
  have hl := r.length
  have hn := line63
  have fin : EP X pins σ Q w s := ⟨z, H, I, rw', q⟩
  by_cases h0 : 0 ≤ i
  · have hj : i.toNat = j := by
      rw [seqIndex_of h0 h5] at h1
      exact Option.some.inj h1
    exact item_listR pl.isList h0 (by omega) (by rw [hj]; simpa using ew) fin hs
  · have hj : (i + (its.toArray.size : Int)).toNat = j := by
      rw [seqIndex_neg (by omega) h4] at h1
      rw [List.size_toArray, ← hl]
      exact Option.some.inj h1
    exact subscriptTail_builtinR (x := w) pl.isList.typeIs slot_list_getitem.lookup
      (wpAny_getItem_list_neg (Q := fun r s' => r = w ∧ EP X pins σ Q r s') pl.isList (by omega) (by rw [List.size_toArray] <;> omega) (by omega) (by rw [hj]; simpa using ew) ⟨rfl, fin⟩) hs
theorem ix_tup : IxR X (rIxT X.K) := by
  intro value slice pins s σ H x y v u Q I rx ry h hs
  obtain ⟨p, xs, i, z, rfl, rfl, hq, he, q⟩ := h
  cases rx
  obtain ⟨t, rfl⟩ := ry
  obtain ⟨its, r, pl, hz⟩ := I.tuple hq
  obtain ⟨j, h1, h2, h3, h4, h5⟩ := atI_get he
  obtain ⟨w, ew, rw'⟩ := r.get h2
  have hl := r.length
  have hn := line63
  have fin : EP X pins σ Q w s := ⟨z, H, I, rw', q⟩
  exact subscriptTail_builtinR (x := w) pl.typeIs slot_tuple_getitem.lookup
    (getItem_tuple (j := j) (Q := fun r s' => r = w ∧ EP X pins σ Q r s') pl (by omega) (by omega) (by rw [List.size_toArray, ← hl]; exact h1) (by simpa using ew) ⟨rfl, fin⟩) hs
def rIx (K : PySem.W.Frag) : R2 := fun x y H Q => rIxL K x y H Q ∨ rIxT K x y H Q ∨ rIxS x y H Q
theorem mapSeq_set (its : List Value) (n j : Nat) (u : Value) : Obj.mapSeq (·.setIfInBounds j u) { cls := .type "list", data := .seq its.toArray n } = { cls := .type "list", data := .seq (its.set j u).toArray n } := by
  simp [Obj.mapSeq]
theorem Inv.lst {pins : List (Addr × Obj)} {σ : St} {H : Hp} {s : Shared} {p : Addr} {xs : List V} (I : Inv X pins σ H s) (h : H p = some (.lst xs)) :
    ∃ (its : List Value) (n : Nat), Vals xs its ∧ s.heap.get? p = some { cls := .type "list", data := .seq its.toArray n } ∧ xs.length ≤ sizeLine := by
  obtain ⟨z, its, n, r, e⟩ := I.hok p _ h
  exact ⟨its, n, r, e, z⟩
theorem Inv.lstUpd {pins : List (Addr × Obj)} {σ : St} {H : Hp} {s : Shared} {p : Addr} {xs ys : List V} {its its' : List Value} {n n' : Nat} {f : Obj → Obj} (I : Inv X pins σ H s) (h : H p = some (.lst xs))
    (ho : s.heap.get? p = some { cls := .type "list", data := .seq its.toArray n }) (hf : f { cls := .type "list", data := .seq its.toArray n } = { cls := .type "list", data := .seq its'.toArray n' }) (r : Vals ys its') (hz : ys.length ≤ sizeLine) (t : Nat) :
    Inv X pins σ (upd H p (.lst ys)) { s with heap := s.heap.update p f, toks := t } := by
  have e : (s.heap.update p f).get? p = some { cls := .type "list", data := .seq its'.toArray n' } := by
    rw [Heap.get?_update_self f ho (by rw [hf] <;> rfl), hf]
  refine I.write (x := p) (e := p) (by rw [h]; trivial) (.inl rfl) (fun b u hb q => (Heap.get?_update_other _ _ (Ne.symm hb)).trans q) ⟨_, e⟩ ?_
  exact ⟨hz, its', n', r, e⟩
def rSetL : V → V → V → Hp → (Hp → Prop) → Prop := fun o i v H Q => ∃ p xs k j, o = .ref p ∧ i = .int k ∧ H p = some (.lst xs) ∧ ixN xs.length k = some j ∧ Q (upd H p (.lst (xs.set j v)))
theorem set_list : PSet X rSetL := by
  intro pins s σ H o i v ov iv u Q I ro ri rv h
  obtain ⟨p, xs, k, j, rfl, rfl, hp, hj, q⟩ := h
  cases ro
  obtain ⟨t, rfl⟩ := ri
  obtain ⟨its, n, r, ho, hz⟩ := I.lst hp
  obtain ⟨h1, h2, h3, h4⟩ := ixN_seq hj
  have hl := r.length
  have hn := line63
  have I' : Inv X pins σ (upd H p (.lst (xs.set j v))) { s with heap := s.heap.update p (Obj.mapSeq (·.setIfInBounds j u)) } :=
    I.lstUpd hp ho (mapSeq_set its n j u) (r.set rv j) (by rw [List.length_set]; exact hz) s.toks
  by_cases h0 : 0 ≤ k
  · have hk : k.toNat = j := by
      rw [seqIndex_of h0 h4] at h1
      exact Option.some.inj h1
    exact PySem.W.ki_setAt ho h0 (by omega) (by rw [List.size_toArray, ← hl]; exact h4) (by rw [hk]; exact ⟨_, I', q⟩)
  · have hk : (k + (its.toArray.size : Int)).toNat = j := by
      rw [seqIndex_neg (by omega) h3] at h1
      rw [List.size_toArray, ← hl]
      exact Option.some.inj h1
    exact PySem.W.ki_setBack ho (by omega) (by rw [List.size_toArray, ← hl]; exact h3) (by omega) (by rw [hk]; exact ⟨_, I', q⟩)

theorem slice_bounds (lo hi : Option Int) (n : Nat) : (sliceBounds lo hi none n).1 = ((HT.sIx n 0 lo : Nat) : Int) ∧ (sliceBounds lo hi none n).2.1 = ((HT.sIx n n hi : Nat) : Int) ∧ (sliceBounds lo hi none n).2.2 = 1 := by
  refine ⟨?_, ?_, rfl⟩
  · cases lo with
    | none => simp [sliceBounds, HT.sIx]
    | some i =>
      simp only [sliceBounds, HT.sIx, Option.getD_none, show (1 : Int) > 0 by decide, if_true]
      by_cases h : i < 0
      · simp only [h, if_true] <;> omega
      · simp only [h, if_false] <;> omega
  · cases hi with
    | none => simp [sliceBounds, HT.sIx]
    | some i =>
      simp only [sliceBounds, HT.sIx, Option.getD_none, show (1 : Int) > 0 by decide, if_true]
      by_cases h : i < 0
      · simp only [h, if_true] <;> omega
      · simp only [h, if_false] <;> omega
theorem slicePick_cut (its : List Value) (lo hi : Option Int) : slicePick its.toArray lo hi none = ((its.drop (HT.sIx its.length 0 lo)).take (HT.sIx its.length its.length hi - HT.sIx its.length 0 lo)).toArray := by
  obtain ⟨h1, h2, h3⟩ := slice_bounds lo hi its.toArray.size
  unfold slicePick
  rw [h1, h2, h3]
  simp only [sliceRange_one, pick_run, List.size_toArray] <;> rfl
def rSlL (K : PySem.W.Frag) : V → Option Int → Option Int → Hp → VK → Prop := fun x lo hi H Q => ∃ a xs, x = .ref a ∧ SqL K H a xs ∧ ∀ p, H p = none → Q (.ref p) (upd H p (.lst (cutV xs lo hi)))
theorem sl_list : SlR X (rSlL X.K) := by
  intro pins s σ H x v vl vu lo hi sl Q I rx hs pl pu h
  obtain ⟨a, xs, rfl, hx, q⟩ := h
  cases rx
  obtain ⟨its, r, ht, hz⟩ := I.list hx
  have hlen := r.length
  refine ⟨"list", _, slot_list_getitem.lookup, ht.isList.typeIs, ?_⟩
  refine wpAny_getItem_list_slice ht.isList hs pl pu .none (by simp) ?_ (by rw [List.size_toArray] <;> omega)
  rw [slicePick_cut, ← hlen]
  refine ⟨.ref s.heap.objs.size, _, I.laid (t' := s.toks) (o := .lst (cutV xs lo hi)) (fun b ob q => Heap.get?_push_of_some _ q) (Nat.le_refl _) ?_, rfl, q _ (I.hok.fresh (Nat.le_refl _))⟩
  exact ⟨Nat.le_trans (cutV_length xs lo hi) hz, _, 0, (r.drop (HT.sIx xs.length 0 lo)).take (HT.sIx xs.length xs.length hi - HT.sIx xs.length 0 lo), Heap.get?_push_size _ rfl⟩

def flatV : V → Bool
  | .non => true
  | .bl _ => true
  | .int _ => true
  | .str _ => true
  | _ => false
def eqV : V → V → Bool
  | .non, .non => true
  | .bl a, .bl b => a == b
  | .bl a, .int b => (if a then 1 else 0) == b
  | .int a, .bl b => a == (if b then 1 else 0)
  | .int a, .int b => a == b
  | .str a, .str b => a == b
  | _, _ => false
theorem eqAt_V {A : Around} {s : Shared} {y x : V} {u v : Value} (ry : RelV y u) (rx : RelV x v) (fy : flatV y = true) (fx : flatV x = true) : SeqAt.EqAt A s u v (eqV y x) := by
  cases y with
  | non =>
    cases ry
    cases x with
    | non => cases rx; exact SeqAt.EqAt.same _
    | bl b => cases rx; exact SeqAt.EqAt.none_bool b
    | int b => obtain ⟨t, rfl⟩ := rx; exact SeqAt.EqAt.none_int b t
    | str b => obtain ⟨t, rfl⟩ := rx; exact SeqAt.EqAt.none_str b t
    | _ => exact absurd (show false = true from fx) Bool.false_ne_true
  | bl a =>
    cases ry
    cases x with
    | non => cases rx; exact SeqAt.EqAt.bool_none a
    | bl b => cases rx; exact SeqAt.EqAt.bool_bool a b
    | int b => obtain ⟨t, rfl⟩ := rx; exact SeqAt.EqAt.bool_int a b t
    | str b => obtain ⟨t, rfl⟩ := rx; exact SeqAt.EqAt.bool_str a b t
    | _ => exact absurd (show false = true from fx) Bool.false_ne_true
  | int a =>
    obtain ⟨t', rfl⟩ := ry
    cases x with
    | non => cases rx; exact SeqAt.EqAt.int_none a t'
    | bl b => cases rx; exact SeqAt.EqAt.int_bool a t' b
    | int b => obtain ⟨t, rfl⟩ := rx; exact SeqAt.EqAt.int_int a t' b t
    | str b => obtain ⟨t, rfl⟩ := rx; exact SeqAt.EqAt.int_str a t' b t
    | _ => exact absurd (show false = true from fx) Bool.false_ne_true
  | str a =>
    obtain ⟨t', rfl⟩ := ry
    cases x with
    | non => cases rx; exact SeqAt.EqAt.str_none a t'
    | bl b => cases rx; exact SeqAt.EqAt.str_bool a t' b
    | int b => obtain ⟨t, rfl⟩ := rx; exact SeqAt.EqAt.str_int a t' b t
    | str b => obtain ⟨t, rfl⟩ := rx; exact SeqAt.EqAt.str_str a t' b t
    | _ => exact absurd (show false = true from fx) Bool.false_ne_true
  | _ => exact absurd (show false = true from fy) Bool.false_ne_true
def eqU (x : V) (u : Value) : Bool := match u with
  | .none => eqV .non x
  | .bool b => eqV (.bl b) x
  | .int i _ => eqV (.int i) x
  | .str z _ => eqV (.str z) x
  | _ => false
theorem eqU_of {x y : V} {u : Value} (r : RelV y u) (f : flatV y = true) : eqU x u = eqV y x := by
  cases y with
  | non => cases r; rfl
  | bl b => cases r; rfl
  | int i => obtain ⟨t, rfl⟩ := r; rfl
  | str z => obtain ⟨t, rfl⟩ := r; rfl
  | _ => exact absurd (show false = true from f) Bool.false_ne_true
theorem any_eqU {x : V} : ∀ {xs : List V} {us : List Value}, Vals xs us → xs.all flatV = true → us.any (eqU x) = xs.any fun y => eqV y x
  | _, _, .nil, _ => rfl
  | y :: xs, u :: us, .cons r t, f => by
    rw [List.all_cons, Bool.and_eq_true] at f
    rw [List.any_cons, List.any_cons, eqU_of r f.1, any_eqU t f.2]
theorem mem_eqAt {A : Around} {s : Shared} {x : V} {v : Value} (rx : RelV x v) (fx : flatV x = true) : ∀ {xs : List V} {us : List Value}, Vals xs us → xs.all flatV = true → ∀ u ∈ us, SeqAt.EqAt A s u v (eqU x u)
  | _, _, .nil, _ => fun u hu => by cases hu
  | y :: xs, u :: us, .cons r t, f => fun u' hu => by
    rw [List.all_cons, Bool.and_eq_true] at f
    rcases List.mem_cons.mp hu with rfl | hu
    · rw [eqU_of r f.1]; exact eqAt_V r rx f.1 fx
    · exact mem_eqAt rx fx t f.2 u' hu
def inV (x : V) (xs : List V) : Bool := xs.any fun y => eqV y x
def rIn (K : PySem.W.Frag) (neg : Bool) : R2 := fun x y H Q => ∃ p xs, y = .ref p ∧ (SqL K H p xs ∨ SqT K H p xs) ∧ flatV x = true ∧ xs.all flatV = true ∧ Q (.bl (if neg then !inV x xs else inV x xs)) H
theorem op_in_seq : OpR X (compareOp .In) (rIn X.K false) := by
  intro pins s σ H x y v u Q I rx ry h
  obtain ⟨p, xs, rfl, hq, fx, fs, q⟩ := h
  cases ry
  rcases hq with hq | hq
  · obtain ⟨its, r, pl, hz⟩ := I.list hq
    refine SeqAt.in_listAt (eqU x) pl.isList (fun w hw => mem_eqAt rx fx r fs w (by simpa using hw)) ⟨.bl _, H, I, rfl, ?_⟩
    rw [show its.toArray.any (eqU x) = its.any (eqU x) by simp, any_eqU r fs]
    exact q
  · obtain ⟨its, r, pl, hz⟩ := I.tuple hq
    refine SeqAt.in_tupleAt (eqU x) pl (fun w hw => mem_eqAt rx fx r fs w (by simpa using hw)) ⟨.bl _, H, I, rfl, ?_⟩
    rw [show its.toArray.any (eqU x) = its.any (eqU x) by simp, any_eqU r fs]
    exact q
theorem call_len_seq : CallR X (.builtin "len") (fun xs H Q => ∃ p ys, xs = [.ref p] ∧ (SqL X.K H p ys ∨ SqT X.K H p ys) ∧ Q (.int ys.length) H) := by
  intro pins s σ H xs us Q I r h
  obtain ⟨p, ys, rfl, hq, q⟩ := h
  obtain ⟨u, rfl, rx⟩ := vals1 r
  cases rx
  have hn := line63
  rcases hq with hq | hq
  · obtain ⟨its, r', pl, hz⟩ := I.list hq
    have hlen := r'.length
    exact Calls.call_len_list pl.isList (by simp only [List.size_toArray] <;> omega) ⟨.int ys.length, H, I.tok _, ⟨s.toks + 1, by rw [List.size_toArray, hlen]⟩, q⟩
  · obtain ⟨its, r', pl, hz⟩ := I.tuple hq
    have hlen := r'.length
    exact len_tuple pl (by simp only [List.size_toArray] <;> omega) ⟨.int ys.length, H, I.tok _, ⟨s.toks + 1, by rw [List.size_toArray, hlen]⟩, q⟩
theorem call_list_of : CallR X (.type "list") (fun xs H Q => ∃ p ys, xs = [.ref p] ∧ (SqL X.K H p ys ∨ SqT X.K H p ys) ∧ ∀ l, H l = none → Q (.ref l) (upd H l (.lst ys))) := by
  intro pins s σ H xs us Q I r h
  obtain ⟨p, ys, rfl, hq, q⟩ := h
  obtain ⟨u, rfl, rx⟩ := vals1 r
  cases rx
  have fin : ∀ (its : List Value), Vals ys its → ys.length ≤ sizeLine → ∀ (h' : Heap) (c' : Nat), (∀ b o', s.heap.get? b = some o' → h'.get? b = some o') →
      h'.get? s.heap.objs.size = some { cls := .type "list", dict := none, data := .seq its.toArray c', slots := #[] } → EP X pins σ Q (.ref s.heap.objs.size) { s with heap := h' } := fun its r' hz h' c' kp e =>
    ⟨.ref s.heap.objs.size, _, I.laid (t' := s.toks) kp (Nat.le_refl _) (show ObjOk X.prog X.w _ h' _ (.lst ys) from ⟨hz, its, c', r', e⟩), rfl, q _ (I.hok.fresh (Nat.le_refl _))⟩
  rcases hq with hq | hq
  · obtain ⟨its, r', pl, hz⟩ := I.list hq
    have hlen := r'.length
    obtain ⟨o, ho, hc, n, hd⟩ := pl.isList
    exact call_list_seq p (.inl rfl) ho hc hd (fun h' c' kp e => fin its r' hz h' c' kp e) (by simp only [List.size_toArray] <;> omega)
  · obtain ⟨its, r', pl, hz⟩ := I.tuple hq
    have hlen := r'.length
    obtain ⟨o, ho, hc, n, hd⟩ := pl
    exact call_list_seq p (.inr rfl) ho hc hd (fun h' c' kp e => fin its r' hz h' c' kp e) (by simp only [List.size_toArray] <;> omega)
theorem call_tuple_of : CallR X (.type "tuple") (fun xs H Q => ∃ p ys, xs = [.ref p] ∧ ((SqL X.K H p ys ∧ ∀ l, H l = none → Q (.ref l) (upd H l (.tup ys))) ∨ (SqT X.K H p ys ∧ Q (.ref p) H))) := by
  intro pins s σ H xs us Q I r h
  obtain ⟨p, ys, rfl, h⟩ := h
  obtain ⟨u, rfl, rx⟩ := vals1 r
  cases rx
  rcases h with ⟨hq, q⟩ | ⟨hq, q⟩
  · obtain ⟨its, r', pl, hz⟩ := I.list hq
    have hlen := r'.length
    refine call_tuple_list pl.isList (fun h' kp => ?_) (by simp only [List.size_toArray] <;> omega)
    have I1 : Inv X pins σ H { s with heap := h' } := I.kept (t' := s.toks) kp
    have I2 : Inv X pins σ (upd H h'.objs.size (.tup ys)) { s with heap := h'.push { cls := .type "tuple", data := .seq its.toArray } } :=
      I1.laid (t' := s.toks) (fun b o e => Heap.get?_push_of_some _ e) (Nat.le_refl _) (show ObjOk X.prog X.w _ _ _ (.tup ys) from ⟨hz, its, r', PTup.new⟩)
    exact ⟨.ref h'.objs.size, _, I2, rfl, q _ (I1.hok.fresh (Nat.le_refl _))⟩
  · obtain ⟨its, r', pl, hz⟩ := I.tuple hq
    exact call_tuple_same pl ⟨.ref p, H, I, rfl, q⟩

def tyV (K : PySem.W.Frag) (T : String) (x : V) (H : Hp) : Prop := match x with
  | .str _ => T = "str"
  | .int _ => T = "int"
  | .ref p => (T = "list" ∧ ∃ xs, SqL K H p xs) ∨ (T = "tuple" ∧ ∃ o, K.lookup p = some o ∧ o.cls = .type "tuple" ∧ o.dict = none) ∨
      (T = "dict" ∧ ((∃ kvs, H p = some (.dK kvs)) ∨ ∃ kvs, H p = some (.dT kvs))) ∨ (T = "set" ∧ ∃ S n, H p = some (.set S n))
  | _ => False
theorem tyV_is {pins : List (Addr × Obj)} {σ : St} {H : Hp} {s : Shared} {T : String} {x : V} {v : Value} (I : Inv X pins σ H s) (r : RelV x v) (ty : tyV X.K T x H) :
    s.TypeIs v T ∧ ∀ a, v = .ref a → ∃ ob, s.heap.get? a = some ob ∧ ob.dict = none := by
  cases x with
  | str z =>
    obtain ⟨t, rfl⟩ := r
    cases (show T = "str" from ty)
    exact ⟨typeIs_str s z t, fun _ e => nomatch e⟩
  | int i =>
    obtain ⟨t, rfl⟩ := r
    cases (show T = "int" from ty)
    exact ⟨typeIs_int s i t, fun _ e => nomatch e⟩
  | ref p =>
    cases r
    rcases ty with ⟨rfl, xs, hq⟩ | ⟨rfl, o, hk, hc, hd⟩ | ⟨rfl, hk⟩ | ⟨rfl, S, n, hk⟩
    · obtain ⟨its, _, pl, _⟩ := I.list hq
      refine ⟨pl.isList.typeIs, fun a e => ?_⟩
      cases e
      obtain ⟨o, n, e, c, hd, _⟩ := pl
      exact ⟨o, e, hd⟩
    · refine ⟨⟨o, I.kIn p o hk, hc⟩, fun a e => ?_⟩
      cases e
      exact ⟨o, I.kIn _ o hk, hd⟩
    · have z : ∃ o, s.heap.get? p = some o ∧ o.ExactDict := by
        rcases hk with ⟨kvs, hk⟩ | ⟨kvs, hk⟩
        · obtain ⟨_, _, _, _, o, _, _, e, ex, _⟩ := I.hok p _ hk
          exact ⟨o, e, ex⟩
        · obtain ⟨_, _, _, _, o, _, _, e, ex, _⟩ := I.hok p _ hk
          exact ⟨o, e, ex⟩
      obtain ⟨o, e, ex⟩ := z
      refine ⟨⟨o, e, ex.1⟩, fun a e2 => ?_⟩
      cases e2
      exact ⟨o, e, ex.2.1⟩
    · obtain ⟨o, _, _, _, e, ex, _⟩ := I.hok p _ hk
      refine ⟨⟨o, e, ex.1⟩, fun a e2 => ?_⟩
      cases e2
      exact ⟨o, e, ex.2.1⟩
  | _ => exact False.elim ty
def tBM0 (K : PySem.W.Frag) (T : String) (r : V → List V → Hp → VK → Prop) (to : TE) : TE := fun σ H Q => to σ H fun x H1 => tyV K T x H1 ∧ r x [] H1 Q
def tBM (K : PySem.W.Frag) (T : String) (r : V → List V → Hp → VK → Prop) (to : TE) (t : TA) : TE := fun σ H Q => to σ H fun x H1 => tyV K T x H1 ∧ t σ H1 fun xs H2 => r x xs H2 Q
variable {o e : Expr} {es : List Expr} {to : TE} {t : TA} {name : Str} {apos cpos : Pos} {T id : String} {r : V → List V → Hp → VK → Prop}
theorem pe_bm (pa : PlainAttrs T) (slot : Slot T name id) (hty : typeOf (.builtin id) = pure (.type "method_descriptor")) (hm : MtR X id r) (ho : PE X o to) (ha : PA X (e :: es) t)
    (hbase : attributeBase o name X.env (eval o X.env) = eval o X.env := by rfl)
    (hfew : ((backTo cpos (starEach (e :: es) X.env)).all (fun x => !x.1) && (backToKw cpos (keywordEach [] X.env)).all (fun x => x.1.isSome)
      && decide ((e :: es).length + ([] : List Keyword).length + (if ([] : List Keyword).isEmpty then 0 else 1) < 30)) = true := by rfl)
    (hline : (apos.endLine == cpos.line) = true := by rfl) (hs : starEach (e :: es) X.env = (false, eval e X.env) :: starEach es X.env := by rfl) (hplain : (backTo cpos (starEach es X.env)).any (·.1) = false := by rfl) :
    PE X (.Call (.Attribute o name apos) (e :: es) [] cpos) (tBM X.K T r to t) := by
  intro pins s σ H Q I h
  refine wpAny_Call_method_late hbase hfew hline rfl (thn (ho pins s σ H _ I h) fun v s1 ⟨x, H1, I1, r1, ty, q1⟩ => ?_)
  obtain ⟨h1, h2⟩ := tyV_is I1 r1 ty
  refine ⟨T, id, pa, slot, hty, h1, h2, ?_⟩
  have hA := ha cpos pins s1 σ H1 _ I1 q1
  rw [hs] at hA ⊢
  refine Calls.callWith_builtin (by show (false || (backTo cpos (starEach es X.env)).any (·.1)) = false; rw [hplain] <;> rfl) (Calls.evalArgs_plain ?_)
  exact thn hA fun us s2 ⟨vs, H2, I2, r2, q2⟩ => hm pins s2 σ H2 x vs v us Q I2 r1 r2 q2
end
end L2

namespace L2
open PySem PySem.Spec PyProof.Rows

def MtM (X : Cx) (id : String) (r : V → List V → Hp → VK → Prop) : Prop :=
  ∀ (pins : List (Addr × Obj)) (s : Shared) (σ : St) (H : Hp) (x : V) (xs : List V) (v : Value) (us : List Value) (Q : VK), Inv X pins σ H s → RelV x v → Vals xs us → r x xs H Q →
    wpAny (model X.prog X.w) X.A (call (.builtin id) (v :: us)) (EP X pins σ Q) X.xe s

theorem Vals.one : ∀ {x : V} {us : List Value}, Vals [x] us → ∃ u, us = [u] ∧ RelV x u
  | _, _, .cons r .nil => ⟨_, rfl, r⟩
theorem Vals.reverse {xs : List V} {us : List Value} (h : Vals xs us) : Vals xs.reverse us.reverse := by
  induction h with
  | nil => exact .nil
  | cons r t ih => rw [List.reverse_cons, List.reverse_cons]; exact Vals.append ih (.cons r .nil)
theorem Vals.rep {xs : List V} {us : List Value} (h : Vals xs us) : ∀ k : Nat, Vals (List.replicate k xs).flatten (List.replicate k us).flatten
  | 0 => .nil
  | k + 1 => by
    rw [List.replicate_succ, List.replicate_succ, List.flatten_cons, List.flatten_cons]
    exact Vals.append h (Vals.rep h k)
theorem foldl_rep (its : List Value) : ∀ (k : Nat) (acc : List Value),
    List.foldl (fun x1 x2 => x1 ++ x2) acc.toArray (List.replicate k its.toArray) = (acc ++ (List.replicate k its).flatten).toArray
  | 0, acc => by simp
  | k + 1, acc => by
    have e : acc.toArray ++ its.toArray = (acc ++ its).toArray := by simp
    have e2 : (acc ++ its) ++ (List.replicate k its).flatten = acc ++ (List.replicate (k + 1) its).flatten := by
      rw [List.replicate_succ, List.flatten_cons, List.append_assoc]
    rw [← e2, ← foldl_rep its k (acc ++ its), ← e, List.replicate_succ, List.foldl_cons]

section
variable {X : Cx} {pins : List (Addr × Obj)} {σ : St} {H : Hp} {s : Shared} {l b : Addr} {xs ys zs : List V}

theorem Inv.lset {its its' : List Value} {n : Nat} {f : Array Value → Array Value} {t' : Nat} (I : Inv X pins σ H s) (hH : H l = some (.lst xs))
    (e : s.heap.get? l = some { cls := .type "list", data := .seq its.toArray n }) (hf : f its.toArray = its'.toArray) (hv : Vals ys its') (hz : ys.length ≤ sizeLine) :
    Inv X pins σ (upd H l (.lst ys)) { s with heap := s.heap.update l (Obj.mapSeq f), toks := t' } := by
  have q := PySem.IsL.update e f
  rw [hf] at q
  refine I.write (x := l) (e := l) (by rw [hH]; exact trivial) (.inl rfl) (fun b' u hb hu => (Heap.get?_update_other s.heap (Obj.mapSeq f) (Ne.symm hb)).trans hu) ⟨_, q⟩ ?_
  exact ⟨hz, its', _, hv, q⟩
theorem Inv.lnew {its : List Value} {t' : Nat} (I : Inv X pins σ H s) (hv : Vals ys its) (hz : ys.length ≤ sizeLine) :
    Inv X pins σ (upd H s.heap.objs.size (.lst ys)) { s with heap := s.heap.push { cls := .type "list", data := .seq its.toArray }, toks := t' } :=
  I.laid (fun _ _ q => Heap.get?_push_of_some _ q) (Nat.le_refl _) ⟨hz, its, 0, hv, Heap.get?_push_size _ rfl⟩
theorem Inv.fresh (I : Inv X pins σ H s) : H s.heap.objs.size = none := I.hok.fresh (Nat.le_refl _)
theorem Inv.lstM (I : Inv X pins σ H s) (hH : H l = some (.lst xs)) : xs.length ≤ sizeLine ∧ ∃ (its : List Value) (n : Nat), Vals xs its ∧ xs.length = its.length ∧ s.heap.get? l = some { cls := .type "list", data := .seq its.toArray n } := by
  obtain ⟨z, its, n, r, e⟩ := I.hok l _ hH
  exact ⟨z, its, n, r, r.length, e⟩

theorem notLongL {n : Nat} (h : n ≤ sizeLine) : Builtin.List.listTooLong n = false := by
  unfold Builtin.List.listTooLong
  exact decide_eq_false (by omega)
end

section
variable {X : Cx}

def rAppend : V → List V → Hp → VK → Prop := fun x vs H Q => ∃ l xs y, x = .ref l ∧ vs = [y] ∧ H l = some (.lst xs) ∧ xs.length < sizeLine ∧ Q .non (upd H l (.lst (xs ++ [y])))
theorem mt_append : MtM X "list.append" rAppend := by
  intro pins s σ H x vs v us Q I rx rv h
  obtain ⟨l, xs, y, rfl, rfl, hH, hz, q⟩ := h
  cases rx
  obtain ⟨u, rfl, ru⟩ := rv.one
  obtain ⟨z, its, n, r, hl, e⟩ := I.lstM hH
  refine call_meets F.slot_list_append ⟨_, e, rfl⟩ F.entry_list_append (F.args_list_append_2 _ _) (PySem.list_append l its.toArray n u (by rw [List.size_toArray]; omega)) ⟨e, ?_⟩
  refine ⟨.non, _, I.lset (its' := its ++ [u]) hH e (by simp) (r.append (.cons ru .nil)) ?_, rfl, q⟩
  rw [List.length_append, List.length_singleton]
  omega

def rExtend : V → List V → Hp → VK → Prop := fun x vs H Q => ∃ l b xs zs, x = .ref l ∧ vs = [.ref b] ∧ H l = some (.lst xs) ∧ H b = some (.lst zs) ∧ xs.length + zs.length ≤ sizeLine ∧ Q .non (upd H l (.lst (xs ++ zs)))
def rPop : V → List V → Hp → VK → Prop := fun x vs H Q => ∃ l xs y, x = .ref l ∧ vs = [] ∧ H l = some (.lst xs) ∧ xs[xs.length - 1]? = some y ∧ Q y (upd H l (.lst xs.dropLast))
def rPopAt : V → List V → Hp → VK → Prop := fun x vs H Q => ∃ l xs i k y, x = .ref l ∧ vs = [.int i] ∧ H l = some (.lst xs) ∧ -(2 ^ 63) ≤ i ∧ i < 2 ^ 63 ∧ seqIndex? i xs.length = some k ∧ xs[k]? = some y ∧ Q y (upd H l (.lst (xs.eraseIdx k)))
def rReverse : V → List V → Hp → VK → Prop := fun x vs H Q => ∃ l xs, x = .ref l ∧ vs = [] ∧ H l = some (.lst xs) ∧ Q .non (upd H l (.lst xs.reverse))
def rClear : V → List V → Hp → VK → Prop := fun x vs H Q => ∃ l xs, x = .ref l ∧ vs = [] ∧ H l = some (.lst xs) ∧ Q .non (upd H l (.lst []))
def rCat : R2 := fun x y H Q => ∃ l b xs zs, x = .ref l ∧ y = .ref b ∧ H l = some (.lst xs) ∧ H b = some (.lst zs) ∧ xs.length + zs.length ≤ sizeLine ∧ ∀ p, H p = none → Q (.ref p) (upd H p (.lst (xs ++ zs)))
theorem op_cat : OpR X (binaryOp .Add) rCat := by
  intro pins s σ H x y v u Q I rx ry h
  obtain ⟨l, b, xs, zs, rfl, rfl, hH, hB, hz, q⟩ := h
  cases rx
  cases ry
  obtain ⟨z, its, n, r, hl, e⟩ := I.lstM hH
  obtain ⟨z2, its2, n2, r2, hl2, e2⟩ := I.lstM hB
  refine PySem.P.add_list e e2 ?_ (by rw [List.size_toArray, List.size_toArray]; omega)
  have ea : its.toArray ++ its2.toArray = (its ++ its2).toArray := by simp
  rw [ea]
  exact ⟨.ref _, _, I.lnew (t' := s.toks) (r.append r2) (by rw [List.length_append]; omega), rfl, q _ I.fresh⟩
def rRep : R2 := fun x y H Q => ∃ l k xs, x = .ref l ∧ y = .int k ∧ H l = some (.lst xs) ∧ -(2 ^ 63) ≤ k ∧ k < 2 ^ 63 ∧ xs.length * k.toNat ≤ sizeLine ∧
  ∀ p, H p = none → Q (.ref p) (upd H p (.lst (List.replicate k.toNat xs).flatten))
theorem len_rep {α : Type} (xs : List α) (k : Nat) : (List.replicate k xs).flatten.length = k * xs.length := by
  induction k with
  | zero => simp
  | succ k ih => rw [List.replicate_succ, List.flatten_cons, List.length_append, ih, Nat.succ_mul, Nat.add_comm]
theorem op_rep : OpR X (binaryOp .Mult) rRep := by
  intro pins s σ H x y v u Q I rx ry h
  obtain ⟨l, k, xs, rfl, rfl, hH, h1, h2, hz, q⟩ := h
  cases rx
  obtain ⟨t, rfl⟩ := ry
  obtain ⟨z, its, n, r, hl, e⟩ := I.lstM hH
  have hlen : its.toArray.size * k.toNat ≤ sizeLine := by rw [List.size_toArray, ← hl]; exact hz
  have hcap : ¬ its.toArray.size * k.toNat > (2 ^ 63 - 1) / 8 := by
    have : (sizeLine : Nat) ≤ (2 ^ 63 - 1) / 8 := by decide
    omega
  have hfit : ¬ (!Builtin.List.listFitsIndex k) = true := by
    rw [fitsIndex_both h1 h2]
    exact Bool.false_ne_true
  have hlong : ¬ Builtin.List.listTooLong (its.toArray.size * k.toNat) = true := by
    rw [notLongL hlen]
    exact Bool.false_ne_true
  have hnew : List.foldl (fun x1 x2 => x1 ++ x2) #[] (List.replicate (if its.toArray.isEmpty = true then 0 else k.toNat) its.toArray) = (List.replicate k.toNat its).flatten.toArray := by
    have f0 : ∀ m : Nat, List.foldl (fun x1 x2 => x1 ++ x2) #[] (List.replicate m its.toArray) = (List.replicate m its).flatten.toArray := fun m => by
      have := foldl_rep its m []
      rw [List.nil_append] at this
      exact this
    rw [f0]
    cases its with
    | nil => simp
    | cons a r' => rw [if_neg (by simp)]
  refine wpAny_binaryOp_repeat_ref (T := "list") (U := "int") (by decide) ⟨_, e, rfl⟩ (fun s' => typeIs_int s' k t) noFill_list_mul F.fills_int_mul F.slot_int_rmul repeat_list F.slot_int_index.lookup
    (call_meets F.slot_int_rmul (typeIs_int s k t) F.entry_int_rmul (F.args_int_rmul_2 _ _) (int___rmul___int_list k t l its.toArray n)
      ⟨e, rfl, ⟨_, e, rfl⟩, call_meets F.slot_list_mul ⟨_, e, rfl⟩ F.entry_list_mul (F.args_list_mul_2 _ _) (AutoListH.list___mul___list_int_3 l its.toArray n k t hfit hcap hlong) ⟨e, ?_⟩⟩)
  rw [hnew]
  exact ⟨.ref _, _, I.lnew (t' := s.toks) (r.rep k.toNat) (by rw [len_rep, Nat.mul_comm]; exact hz), rfl, q _ I.fresh⟩

end

section
variable {prog : Program} {w : World} {A : Around} {E : Value → Shared → Prop} {s : Shared}
end

section
variable {X : Cx}
end
end L2

namespace Att
open PySem PySem.W PySem.Calls PyProof.Rows

theorem ints_of_wellAll {P : Params} {h : Heap} : ∀ (ns : List Int) (vs : List Value), WellAll P h vs (ns.map WData.int) → IntsAre vs ns := by
  intro ns
  induction ns with
  | nil =>
    intro vs w
    rw [List.map_nil] at w
    cases w
    exact .nil
  | cons n ns ih =>
    intro vs w
    rw [List.map_cons] at w
    cases w with
    | cons a b =>
      cases a
      exact .cons _ _ (ih _ b)

theorem script_of {l : OpenLaw} {n : Nat} (hn : l.most = some n) {P : Params} {h : Heap} {args : List WData} {vals : List Value}
    (hpre : l.row.toRowW.claim.pre args = true) (hwl : WellAll P h vals args) :
    ∃ a vs ns, vals = [Value.ref a] ∧ args = [WData.list (ns.map WData.int)] ∧ h.get? a = some { cls := .type "list", data := .seq vs.toArray } ∧ IntsAre vs ns ∧ ns.length ≤ n := by
  have hsh : WShape.hasAll [] args [.list .int] = true := (pre_splitW hpre).1
  have hc : l.pre.holds [] { args := args } = true := (pre_splitW hpre).2
  obtain ⟨d, r, rfl, h1, h2⟩ := hasAllW_cons hsh
  obtain rfl := hasAllW_nil h2
  obtain ⟨xs, rfl, h3⟩ := hasW_list h1
  obtain ⟨ns, rfl⟩ := items_int h3
  have hlen : ns.length ≤ n := by
    unfold OpenLaw.pre at hc
    have h4 : (WTm.not (.lt (.lit (.int (n : Int))) (.len (.arg 0)))).holds [] { args := [.list (ns.map .int)] } = true := by
      have h4 := (holds_andW hc).1
      rw [hn] at h4
      exact h4
    have h5 := condW_of h4 (w_not (w_lt w_lit (w_len_list (w_arg rfl))))
    rw [List.length_map] at h5
    refine Nat.le_of_not_lt fun q => ?_
    have q' : (n : Int) < ((ns.length : Nat) : Int) := by omega
    first
      | (rw [decide_eq_true q'] at h5; exact absurd h5 (by decide))
      | (simp at h5; omega)
  cases hwl with
  | cons w1 w2 =>
    cases w2
    cases w1 with
    | list ho hall => exact ⟨_, _, ns, rfl, rfl, ho, ints_of_wellAll ns _ hall, hlen⟩

theorem post_true (l : OpenLaw) (args : List WData) : l.row.toRowW.claim.post args (.bool true) args = true :=
  postW_of (r := l.row.toRowW) (X := (true == true))
    (show WShape.has [] (.bool true) .bool = true by first | rfl | decide | simp [WShape.has, WShape.arms, WShape.armsAll])
    (show (WTm.eq .res (.lit (.bool true))).value [] { args := args, res := some (.bool true), after := args } = some (.bool (true == true)) from w_eq_bool (w_res rfl) w_lit) rfl

theorem attach_call {l : OpenLaw} {n : Nat} {q : Program} {loose : List Str} {XP : (Str → Option Value) → Heap → Prop} {YP : World → Heap → Prop} {d : DefRec}
    (hn : l.most = some n) (hdf : d.params.defaults = [])
    (call : ∀ (w : World) (s₀ s₁ : Shared) (mg mb : Str → Option Value) (fa : Addr) (o : Obj) (pm cd doc : Value) (a : Addr) (vs : List Value) (ns : List Int),
      Ground q loose [] XP w s₀ mg mb s₁.heap → YP w s₁.heap →
      s₁.heap.get? fa = some o → o.data = .func (docDef d.name d.params d.body d.scope pm cd doc) → s₁.heap.CodeRec cd d.name → mg d.name = some (.ref fa) →
      s₁.heap.get? a = some { cls := .type "list", data := .seq vs.toArray } → IntsAre vs ns → ns.length ≤ n → s₁.gens = #[] →
      codeAny (model l.prog w) callerA (.call (.ref fa) ⟨[.ref a], []⟩) (fun r s' => r = .ok (.ret (.bool true)) ∧ OldK s₁.heap s'.heap ∧ s'.os = s₁.os ∧ AllBare s'.gens) s₁) :
    WalkO q loose XP YP l.row.toRowW d [] (fun f vs => PySem.call f vs) := by
  intro w s₀ s₁ mg mb G Y fa o pm cd doc dV kV ho hd hcd hD hmg hg args vals as hpre hlay hrd hwl hlo
  obtain rfl : dV = .none := Dflts.none hD hdf
  obtain rfl : kV = .none := Dflts.noKw hD
  obtain ⟨a, vs, ns, rfl, rfl, hobj, hints, hlen⟩ := script_of hn hpre hwl
  refine enter_call (codeAny_mono (call w s₀ s₁ mg mb fa o pm cd doc a vs ns G Y ho (fd_plain hd) hcd hmg hobj hints hlen hg) fun r s' hq => ?_)
  obtain ⟨rfl, h2, h3, h4⟩ := hq
  exact ⟨.inl ⟨.bool true, .bool true, [], rfl, fun _ => rfl, .bool true, post_true l _, fun _ => ⟨List.Pairwise.nil, fun _ hm => (nomatch hm)⟩⟩, h2, h3, h4⟩

section
variable {prog : Program} {w : World} {A : Around} {E : Value → Shared → Prop} {s : Shared} {K : Frag}

def noObjs (h : Heap) : Heap := { h with objs := #[] }
def ledger (h : Heap) (L d : Addr) : List (Addr × Obj) := (List.range h.objs.size).filterMap fun a => if a = L ∨ a = d then none else (h.get? a).map fun o => (a, o)
end
end Att

namespace L2
open PySem PySem.Spec PyProof.Rows

theorem vals_ints : ∀ {vs : List Value} {ns : List Int}, IntsAre vs ns → Vals (ns.map V.int) vs
  | _, _, .nil => .nil
  | _, _, .cons n t h => .cons ⟨t, rfl⟩ (vals_ints h)

def Only (H : Hp) : Prop := ∀ b, H b = none ∨ ∃ o xs, H b = some (.frz o (.lst xs))

theorem law_call {P : Program} {w : World} {K : PySem.W.Frag} {mg mb : Str → Option Value} {CX : CXT} {k : Nat} {fa a : Addr} {fd : FuncData} {x : Str} {sp : Sp} {s₁ : Shared} {vs : List Value} {ns : List Int}
    (KX : K.In s₁.heap) (hns : s₁.heap.Ns mainGlobals mg) (hb : s₁.heap.Ns builtinsNs mb) (hbb : ∀ x : Str, x ≠ "__name__" → mb x = bootBuiltins x) (hlim : s₁.heap.NoLimit) (hg : s₁.gens = #[])
    (ha : s₁.heap.get? a = some { cls := .type "list", data := .seq vs.toArray }) (hi : IntsAre vs ns) (hl : ns.length ≤ sizeLine) (hr : Room k callerA)
    (F : ∀ base : Heap, K.In base → base.Ns mainGlobals mg → FnOk P w K mg base CX k fa fd [x] sp) (hbind : ∀ (s : Shared) (u : Value), BindsTo s fd ⟨[u], []⟩ [(x, u)])
    (hsp : ∀ H : Hp, Only H → SqL K H a (ns.map V.int) → sp [.ref a] H (fun v _ => v = .bl true) fun _ _ _ => False)
    (hCX : ∀ H e s', CX [] H s₁ (fun _ _ _ => False) e s' → False) :
    codeAny (model P w) callerA (.call (.ref fa) ⟨[.ref a], []⟩) (fun r s' => r = .ok (.ret (.bool true)) ∧ OldK s₁.heap s'.heap ∧ s'.os = s₁.os ∧ AllBare s'.gens) s₁ := by
  have rv := vals_ints hi
  have lenV := hi.length
  -- from an abstract heap in which nothing but the script may be tracked
  have core : ∀ H : Hp, Only H → SqL K H a (ns.map V.int) → HOk P w H s₁.heap → (∀ b, H b ≠ none → b = a) → (H a ≠ none → K.lookup a = none) →
      codeAny (model P w) callerA (.call (.ref fa) ⟨[.ref a], []⟩) (fun r s' => r = .ok (.ret (.bool true)) ∧ OldK s₁.heap s'.heap ∧ s'.os = s₁.os ∧ AllBare s'.gens) s₁ := by
    intro H hO hS hok hA hK
    have base_of : ∀ {b : Addr} {o : Obj}, s₁.heap.get? b = some o → H b = none → (hidT s₁.heap H).get? b = some o := fun e n => hidT_get e n
    have noA : ∀ {b : Addr} {o : Obj} {es : Array DictEntry} {ep : Nat}, s₁.heap.get? b = some o → o.data = .dict es ep → H b = none := fun {b o es ep} e d => by
      cases q : H b with
      | none => rfl
      | some u =>
        have e' : b = a := hA b (by rw [q]; simp)
        subst e'
        rw [ha] at e; cases e
        have d' : Data.seq vs.toArray _ = Data.dict es ep := d
        cases d'
    have nsK : ∀ {b : Addr} {m : Str → Option Value}, s₁.heap.Ns b m → (hidT s₁.heap H).Ns b m := fun {b m} ⟨o, es, ep, e, d, r⟩ => ⟨o, es, ep, base_of e (noA e d), d, r⟩
    have hKb : K.In (hidT s₁.heap H) := fun b o e => base_of (KX b o e) (by
      cases q : H b with
      | none => rfl
      | some u =>
        have e' : b = a := hA b (by rw [q]; simp)
        subst e'
        rw [hK (by rw [q]; simp)] at e; cases e)
    have hM : Mod K mg (hidT s₁.heap H) := ⟨hKb, nsK hns, ⟨mb, nsK hb, hbb⟩, let ⟨mc, h1, h2⟩ := hlim; ⟨mc, nsK h1, h2⟩⟩
    have e0 : Env0 P w K mg (hidT s₁.heap H) callerA [] s₁ H := ⟨rfl, hM, fun b o e => of_hidT e, Nat.le_of_eq (hidT_size _ _), trivial, fun b hb => absurd (show b ∈ ([] : List Addr) from hb) (by simp), hok, .of_eq hg⟩
    refine codeAny_mono ((F _ hKb (nsK hns)).run callerA [] s₁ H ⟨[.ref a], []⟩ [.ref a] [.ref a] _ _ hr e0 (hbind s₁ (.ref a)) (.cons rfl .nil) (hsp H hO hS)) fun r s' h => ?_
    cases r with
    | error e => exact (hCX H e s' h).elim
    | ok fl =>
      cases fl with
      | next => exact False.elim h
      | brk => exact False.elim h
      | cont => exact False.elim h
      | ret u =>
        obtain ⟨v, H', os, bare, un, hok', r', q⟩ := h
        have q' : v = .bl true := q
        subst q'
        obtain rfl : u = Value.bool true := r'
        refine ⟨rfl, OldK.of_keep fun b o e => ?_, os, bare⟩
        cases q : H b with
        | none => exact un.keep b o e q (by intro z; exact absurd (show b ∈ ([] : List Addr) from z) (by simp)) (by simp)
        | some u =>
          rcases hO b with z | ⟨ob, xs, z⟩
          · rw [q] at z; cases z
          · have z2 := un.frzs b ob _ z
            obtain ⟨e1, _⟩ := hok b _ z
            obtain ⟨e2, _⟩ := hok' b _ z2
            rw [e] at e1; cases e1
            exact e2
  cases hk : K.lookup a with
  | some o =>
    -- the script is one of the module's own objects
    have e := KX a o hk
    rw [ha] at e
    cases e
    refine core (fun _ => none) (fun _ => .inl rfl) (.inr ⟨_, vs.toArray, _, hk, rfl, rfl, rfl, by rw [List.size_toArray, lenV]; exact hl, by simpa using rv⟩) (fun b u z => by have z' : (none : Option HO) = some u := z; cases z') (fun b z => absurd rfl z) fun z => absurd rfl z
  | none =>
    refine core (fun b => if b = a then some (.frz { cls := .type "list", data := .seq vs.toArray } (.lst (ns.map V.int))) else none) (fun b => ?_) (.inl (.inr ⟨{ cls := .type "list", data := .seq vs.toArray }, if_pos rfl⟩)) (fun b u z => ?_) (fun b z => ?_) fun _ => hk
    · by_cases hb : b = a
      · exact .inr ⟨_, _, if_pos hb⟩
      · exact .inl (if_neg hb)
    · by_cases hb : b = a
      · have z' := (if_pos hb).symm.trans z
        cases z'
        subst hb
        exact ⟨ha, by rw [List.length_map]; exact hl, vs, _, rv, ha⟩
      · have z' := (if_neg hb).symm.trans z
        cases z'
    · by_cases hb : b = a
      · exact hb
      · exact absurd (if_neg hb) z
end L2

namespace L2
open PySem PySem.Spec PyProof.Rows

abbrev KOf {K : PySem.W.Frag} {h : Heap} (_ : K.In h) : PySem.W.Frag := K

theorem walk_of {l : PySem.W.OpenLaw} {n k : Nat} {q : Program} {loose : List Str} {XP : (Str → Option Value) → Heap → Prop} {YP : World → Heap → Prop} {d : DefRec} {K : Params → PySem.W.Frag} {CX : World → CXT} {sp : World → Sp} {x : Str}
    (hn : l.most = some n) (hn2 : n ≤ sizeLine) (hdf : d.params.defaults = []) (hr : Room k callerA)
    (hY : ∀ (w : World) (h : Heap), YP w h → (K w.params).In h)
    (F : ∀ (w : World) (mg : Str → Option Value) (fa : Addr) (h : Heap), (K w.params).In h → h.Ns mainGlobals mg → mg d.name = some (.ref fa) →
      ∃ fd : FuncData, (∀ (s : Shared) (u : Value), BindsTo s fd ⟨[u], []⟩ [(x, u)]) ∧
        ∀ base : Heap, (K w.params).In base → base.Ns mainGlobals mg → FnOk l.prog w (K w.params) mg base (CX w) k fa fd [x] (sp w))
    (hsp : ∀ (w : World) (H : Hp) (a : Addr) (ns : List Int), ns.length ≤ n → Only H → SqL (K w.params) H a (ns.map V.int) → sp w [.ref a] H (fun v _ => v = .bl true) fun _ _ _ => False)
    (hCX : ∀ (w : World) (H : Hp) (s : Shared) (e : Value) (s' : Shared), CX w [] H s (fun _ _ _ => False) e s' → False) :
    PySem.W.WalkO q loose XP YP l.row.toRowW d [] (fun f vs => PySem.call f vs) := by
  refine Att.attach_call hn hdf fun w s₀ s₁ mg mb fa o pm cd doc a vs ns G Y ho hd hcd hmg hobj hints hlen hg => ?_
  have KX := hY w _ Y
  obtain ⟨fd, hb, hF⟩ := F w mg fa _ KX G.T.g hmg
  exact law_call KX G.T.g G.T.b G.T.builtins G.T.nolimit hg hobj hints (Nat.le_trans hlen hn2) hr hF hb (fun H hO hS => hsp w H a ns hlen hO hS) fun H e s' => hCX w H s₁ e s'
end L2


namespace L2
open PySem PySem.Spec PyProof.Rows

def inClass (s : Stmt) (j : Nat) : Stmt := match s with
  | .ClassDef _ _ _ body _ _ _ _ _ _ _ => body.getD j (.Pass ⟨0, 0, 0, 0⟩)
  | _ => .Pass ⟨0, 0, 0, 0⟩
def defArgs (s : Stmt) : Arguments := match s with
  | .FunctionDef _ a _ _ _ _ _ _ _ _ => a
  | _ => { posonlyargs := [], args := [], vararg := none, kwonlyargs := [], kw_defaults := [], kwarg := none, defaults := [] }
def defBody (s : Stmt) : List Stmt := match s with
  | .FunctionDef _ _ b _ _ _ _ _ _ _ => b
  | _ => []
def defScope (s : Stmt) : Scope := match s with
  | .FunctionDef _ _ _ _ _ _ sc _ _ _ => sc
  | _ => { kind := .function, names := [], isGenerator := false, isCoroutine := false }

abbrev CX0 : CXT := fun _ _ _ _ _ _ => False
abbrev E0 : XK := fun _ _ _ => False
theorem pass0 {X : Cx} : Passes CX0 X E0 := fun _ _ _ _ _ _ _ h => h.elim

structure Fun (K : PySem.W.Frag) (x qual : Str) (st : Stmt) (f : Addr) (fd : FuncData) : Prop where
  ex : ∃ (oc : Value) (od : Option Addr) (kV doc pm : Value) (an : Option Addr) (cdv ct : Value) (osl : Array (Option Value)),
    fd = PySem.W.fnOf x qual (defArgs st) (defBody st) (defScope st) .none kV doc pm an cdv ct ∧ K.lookup f = some ⟨oc, od, .func fd, osl⟩ ∧ PySem.W.codeIn K cdv qual = true
  kp : PySem.W.keepIn K (.ref f) = true
section
variable {P : Program} {w : World} {K : PySem.W.Frag} {mg : Str → Option Value} {base : Heap}
theorem Fun.ok {x qual : Str} {st : Stmt} {f : Addr} {fd : FuncData} {N ps : List Str} {k : Nat} {sp : Sp} (F : Fun K x qual st f fd) (S : FnScope N ps (defScope st)) (len : ∀ vs H Q E, sp vs H Q E → vs.length = ps.length)
    (hbody : ∀ (cdv : Value) (A : Around) (outer : List Env) (s : Shared) (H : Hp) (vs : List V) (Q : VK) (E : XK), Room k (A.deeper (envOfC qual (defScope st) s.heap.objs.size f cdv)) → sp vs H Q E →
      ∃ t, PSs (cxOf CX0 P w K mg base N qual (defScope st) f cdv A outer s H E).nox (defBody st) t ∧ t { nx := fun _ H' => Q .non H', rt := Q } (start N vs) H) : FnOk P w K mg base CX0 (k + 1) f fd ps sp := by
  obtain ⟨oc, od, kV, doc, pm, an, cdv, ct, osl, rfl, lk, hcd⟩ := F.ex
  refine fn_of lk hcd S len fun A outer s H vs Q E hr hsp => ?_
  obtain ⟨t, h, q⟩ := hbody cdv A outer s H vs Q E hr hsp
  exact ⟨t, h.nox, q⟩
theorem Fun.binds {x qual : Str} {st : Stmt} {f : Addr} {fd : FuncData} {ps : List Str} (F : Fun K x qual st f fd)
    (h : ∀ (kV doc pm : Value) (an : Option Addr) (cdv ct : Value) (us : List Value), us.length = ps.length → bindArgs (PySem.W.fnOf x qual (defArgs st) (defBody st) (defScope st) .none kV doc pm an cdv ct) ⟨us, []⟩ = pure (ps.zip us)) : Binds K fd ps [] := by
  obtain ⟨oc, od, kV, doc, pm, an, cdv, ct, osl, rfl, lk, hcd⟩ := F.ex
  exact .all (h kV doc pm an cdv ct)
theorem fun_mk {x qual : Str} {st : Stmt} {f : Addr} {oc : Value} {od an : Option Addr} {osl : Array (Option Value)} {kV doc pm cdv ct : Value} (l : K.lookup f = some ⟨oc, od, .func (PySem.W.fnOf x qual (defArgs st) (defBody st) (defScope st) .none kV doc pm an cdv ct), osl⟩)
    (c : PySem.W.codeIn K cdv qual = true) (k : PySem.W.keepIn K (.ref f) = true) : Fun K x qual st f (PySem.W.fnOf x qual (defArgs st) (defBody st) (defScope st) .none kV doc pm an cdv ct) := ⟨⟨oc, od, kV, doc, pm, an, cdv, ct, osl, rfl, l, c⟩, k⟩
end
section
variable {X : Cx}
theorem pv (i : Nat) {x : Str} {pos : Pos} (hN : X.N[i]? = some x := by rfl) (hv : Vis X.env.scope x := by first | exact Or.inl rfl | exact Or.inr (Or.inl rfl) | exact Or.inr (Or.inr rfl)) (hd : (x == ("__debug__" : Str)) = false := by decide)
    (hcd : (x == ("__classdict__" : Str)) = false := by decide) : PE X (.Name x pos) (tVar i) := pe_var hN hv hd hcd
end

theorem iteF {A B : Prop} (h : B) : if false = true then A else B := by
  rw [if_neg Bool.false_ne_true]
  exact h
theorem iteT {A B : Prop} (h : A) : if true = true then A else B := by
  rw [if_pos rfl]
  exact h
theorem ite2 {c A B : Prop} [Decidable c] (h1 : c → A) (h2 : ¬ c → B) : if c then A else B := by
  by_cases h : c
  · rw [if_pos h]
    exact h1 h
  · rw [if_neg h]
    exact h2 h
theorem iteNS {c A B : Prop} [Decidable c] (hc : c) (h : B) : if (!decide c) = true then A else B := by
  rw [decide_eq_true hc]
  exact iteF h

def Same (H H' : Hp) : Prop := ∀ b o, H b = some o → H' b = some o
theorem Same.refl (H : Hp) : Same H H := fun _ _ h => h
theorem Same.trans {H H1 H2 : Hp} (a : Same H H1) (b : Same H1 H2) : Same H H2 := fun c o h => b c o (a c o h)
theorem Same.free {H H' : Hp} (e : Same H H') {l : Addr} (h : H' l = Option.none) : H l = Option.none := by
  cases q : H l with
  | none => rfl
  | some o =>
    rw [e l o q] at h
    cases h
theorem Same.seq {K : PySem.W.Frag} {H H' : Hp} {a : Addr} {xs : List V} (e : Same H H') (h : SqL K H a xs) : SqL K H' a xs := by
  rcases h with (h | ⟨o, h⟩) | h
  · exact .inl (.inl (e _ _ h))
  · exact .inl (.inr ⟨o, e _ _ h⟩)
  · exact .inr h

end L2


namespace L2
open PySem PySem.Spec PyProof.Rows


theorem closure_ok {env : Env} {scope : Scope} (h : ∀ y ∈ scope.names, y.2 = .free → ∃ c, env.cells.lookup y.1 = some c) :
    ∃ cl, closureFor scope env = pure cl ∧ (∀ x c, cl.lookup x = some c → env.cells.lookup x = some c) ∧ ∀ y ∈ scope.names, y.2 = .free → cl.lookup y.1 = env.cells.lookup y.1 := by
  have go : ∀ (names : List (Str × NameKind)) (acc : List (Str × Addr)), (∀ y ∈ names, y.2 = .free → ∃ c, env.cells.lookup y.1 = some c) →
      (∀ x c, acc.lookup x = some c → env.cells.lookup x = some c) →
      ∃ cl, (forIn names acc (fun (y : Str × NameKind) (cs : List (Str × Addr)) => if (y.2 == .free) = true then (do let c ← cellOf env y.1; pure (ForInStep.yield ((y.1, c) :: cs))) else pure (ForInStep.yield cs)) : Sem (List (Str × Addr))) = pure cl ∧
        (∀ x c, cl.lookup x = some c → env.cells.lookup x = some c) ∧ (∀ x c, acc.lookup x = some c → cl.lookup x = some c) ∧ ∀ y ∈ names, y.2 = .free → cl.lookup y.1 = env.cells.lookup y.1 := by
    intro names
    induction names with
    | nil => intro acc _ ha; exact ⟨acc, rfl, ha, fun _ _ h => h, fun y hy => nomatch hy⟩
    | cons y r ih =>
      intro acc hn ha
      obtain ⟨n, k⟩ := y
      by_cases hk : k = .free
      · subst hk
        obtain ⟨c, hc⟩ := hn (n, .free) List.mem_cons_self rfl
        have ha' : ∀ x d, (((n, c) :: acc : List (Str × Addr))).lookup x = some d → env.cells.lookup x = some d := fun x d e => by
          rw [List.lookup_cons] at e
          cases hx : x == n with
          | true =>
            rw [hx] at e
            have e1 : x = n := eq_of_beq hx
            subst e1
            cases e
            exact hc
          | false => rw [hx] at e; exact ha x d e
        obtain ⟨cl, e, h1, h2, h3⟩ := ih ((n, c) :: acc) (fun y hy => hn y (List.mem_cons_of_mem _ hy)) ha'
        refine ⟨cl, ?_, h1, fun x d e => ?_, fun y hy hf => ?_⟩
        · rw [List.forIn_cons]
          have ec : cellOf env n = pure c := by unfold cellOf; rw [hc]
          simp only [beq_self_eq_true, if_true]
          rw [ec]
          exact e
        · have e' := ha x d e
          by_cases hx : x = n
          · subst hx
            rw [hc] at e'; cases e'
            exact h2 x c (by rw [List.lookup_cons]; simp)
          · exact h2 x d (by rw [List.lookup_cons, beq_eq_false_iff_ne.mpr hx]; exact e)
        · rcases List.mem_cons.mp hy with rfl | hy
          · show cl.lookup n = env.cells.lookup n
            rw [hc]
            exact h2 n c (by rw [List.lookup_cons]; simp)
          · exact h3 y hy hf
      · obtain ⟨cl, e, h1, h2, h3⟩ := ih acc (fun y hy => hn y (List.mem_cons_of_mem _ hy)) ha
        refine ⟨cl, ?_, h1, h2, fun y hy hf => ?_⟩
        · rw [List.forIn_cons]
          have : (k == NameKind.free) = false := by simpa using hk
          simp only [this, Bool.false_eq_true, if_false]
          exact e
        · rcases List.mem_cons.mp hy with rfl | hy
          · exact absurd hf hk
          · exact h3 y hy hf
  obtain ⟨cl, e, h1, _, h3⟩ := go scope.names [] h (fun x c e => by simp at e)
  refine ⟨cl, ?_, h1, h3⟩
  unfold closureFor
  exact (congrArg (fun m => m >>= fun r => pure r) e).trans rfl

def compSt (n : Nat) (ix : List Nat) (σ : St) : St := List.replicate n none ++ ix.map fun i => σ.getD i none

def Cx.comp (X : Cx) (s₂ : Shared) (H₂ : Hp) (N' : List Str) (scope : Scope) (cl : List (Str × Addr)) (C : Addr) (fp : List Addr) : Cx :=
  { X with N := N', s₀ := s₂, H₀ := H₂, env := compEnvC scope cl C X.env, outer := X.stack, stack := X.stack, ex := fp, fn := fun _ => false, pn := [], xe := fun _ _ => False }

structure CompScope (X : Cx) (scope : Scope) (N' : List Str) (n : Nat) (ix : List Nat) : Prop where
  kind : scope.kind = .function
  nocell : ∀ y ∈ scope.names, y.2 ≠ .cell
  names : ∀ y ∈ scope.names, y.2 = .local → scope.names.lookup y.1 = some .local
  free : ∀ y ∈ scope.names, y.2 = .free → X.env.scope.names.lookup y.1 = some .cell ∨ X.env.scope.names.lookup y.1 = some .free
  nodup : ∀ y : Str, (y, NameKind.free) ∈ scope.names → scope.names.lookup y = some .local → False
  len : N'.length = n + ix.length
  at_ : ∀ (j i : Nat), ix[j]? = some i → ∃ x, N'[n + j]? = some x ∧ X.N[i]? = some x ∧ (x, NameKind.free) ∈ scope.names
end L2
namespace L2
open PySem PySem.Spec PyProof.Rows

theorem relabel_lookup {env : Env} {scope : Scope} (x : Str) : (relabel scope env).names.lookup x = (scope.names.lookup x).map fun k => if (k == .free && env.scope.kind == .function && env.kindOf x == some .cell) then .cell else k := by
  show (scope.names.map fun (n, k) => if (k == NameKind.free && env.scope.kind == .function && env.kindOf n == some .cell) then (n, NameKind.cell) else (n, k)).lookup x = _
  generalize scope.names = l
  induction l with
  | nil => rfl
  | cons y r ih =>
    obtain ⟨n, k⟩ := y
    rw [List.map_cons, List.lookup_cons]
    cases hx : x == n with
    | true =>
      have e : x = n := eq_of_beq hx
      subst e
      by_cases hc : (k == NameKind.free && env.scope.kind == .function && env.kindOf x == some .cell) = true
      · rw [if_pos hc, List.lookup_cons]
        simp only [beq_self_eq_true]
        show some NameKind.cell = some (ite _ _ _)
        rw [if_pos hc]
      · rw [if_neg hc, List.lookup_cons]
        simp only [beq_self_eq_true]
        show some k = some (ite _ _ _)
        rw [if_neg hc]
    | false =>
      by_cases hc : (k == NameKind.free && env.scope.kind == .function && env.kindOf n == some .cell) = true
      · rw [if_pos hc, List.lookup_cons, hx]; exact ih
      · rw [if_neg hc, List.lookup_cons, hx]; exact ih

section
variable {X : Cx} {pins : List (Addr × Obj)} {σ : St} {H : Hp} {s : Shared}

theorem relabel_free {env : Env} {scope : Scope} {x : Str} (h : scope.names.lookup x = some .free) : (relabel scope env).names.lookup x = some .cell ∨ (relabel scope env).names.lookup x = some .free := by
  rw [relabel_lookup, h]
  by_cases hc : (NameKind.free == NameKind.free && env.scope.kind == .function && env.kindOf x == some .cell) = true
  · exact .inl (by show some (ite _ _ _) = _; rw [if_pos hc])
  · exact .inr (by show some (ite _ _ _) = _; rw [if_neg hc])
theorem of_relabel {env : Env} {scope : Scope} {x : Str} (hn : ∀ y ∈ scope.names, y.2 ≠ .cell) (h : (relabel scope env).names.lookup x = some .cell ∨ (relabel scope env).names.lookup x = some .free) : scope.names.lookup x = some .free := by
  rw [relabel_lookup] at h
  cases e : scope.names.lookup x with
  | none => rw [e] at h; rcases h with h | h <;> cases h
  | some k =>
    rw [e] at h
    have hk := hn _ (PySem.mem_of_lookup e)
    by_cases hf : k = .free
    · rw [hf]
    · have hb : (k == NameKind.free) = false := by simpa using hf
      have hr : Option.map (fun k => if (k == NameKind.free && env.scope.kind == .function && env.kindOf x == some .cell) = true then NameKind.cell else k) (some k) = some k := by
        show some (ite _ _ _) = _
        rw [if_neg (by rw [hb]; simp)]
      rw [hr] at h
      rcases h with h | h
      · cases h; exact absurd rfl hk
      · exact h

theorem inv_comp {scope : Scope} {N' : List Str} {n : Nat} {ix : List Nat} {cl : List (Str × Addr)} {fp : List Addr} {h₁ : Heap} {acc C : Addr} {na : Nat} {m : Str → Option Value} {tk : Nat}
    (I : Inv X pins σ H s) (S : CompScope X scope N' n ix) (hcl1 : ∀ x c, cl.lookup x = some c → X.env.cells.lookup x = some c) (hcl2 : ∀ y ∈ scope.names, y.2 = .free → cl.lookup y.1 = X.env.cells.lookup y.1)
    (hf : ∀ b ∈ fp, FpOk X pins H b) (hlt : ∀ b ∈ fp, b < s.heap.objs.size) (ha : s.heap.objs.size ≤ acc) (hC : s.heap.objs.size ≤ C) (hne : C ≠ acc)
    (k : ∀ b u, s.heap.get? b = some u → h₁.get? b = some u) (hacc : h₁.get? acc = some { cls := .type "list", data := .seq ([] : List Value).toArray na }) (hns : h₁.Ns C m) :
    Inv (X.comp s H N' scope cl C fp) [] (compSt n ix σ) (upd H acc (.lst [])) { s with heap := h₁, toks := tk } := by
  have fr : ∀ b : Addr, s.heap.objs.size ≤ b → H b = none := fun b hb => I.hok.fresh hb
  have cellLt : ∀ x c, cl.lookup x = some c → c < s.heap.objs.size := fun x c e => by
    obtain ⟨v, q⟩ := I.cell x c (hcl1 x c e)
    exact q.lt
  refine ⟨⟨I.ok.mod, S.kind, I.ok.glob, I.ok.blt, hC, fun x y c e1 e2 => I.ok.inj x y c (hcl1 x c e1) (hcl1 y c e2), fun x hx => ?_, fun x c e _ => absurd e Bool.false_ne_true, I.ok.hd, I.ok.frames, .inl rfl, fun b hb => ⟨Nat.ne_of_lt (Nat.lt_of_lt_of_le (hlt b hb) hC), fun x c e => (hf b hb).2.2.2.2.1 x c (hcl1 x c e)⟩,
      I.bs, Nat.le_trans I.ok.bsz I.sz, fun b o e hb => ?_, fun b hb hs => ?_, I.stack, I.stkFree⟩,
    rfl, I.bare, Un.laid k ha (fr acc ha), ⟨m, hns, fun i x v e1 e2 e3 => ?_⟩, fun x c e => ?_, ?_, fun x c e => ?_, fun p hp => absurd (show p ∈ ([] : List (Addr × Obj)) from hp) (by simp), I.hok.laid k ha ⟨Nat.zero_le _, [], na, .nil, hacc⟩, ?_⟩
  · have hx' : scope.names.lookup x = some .free := of_relabel (env := X.env) S.nocell hx
    have hm := PySem.mem_of_lookup hx'
    obtain ⟨c, e⟩ := I.ok.has x (S.free _ hm rfl)
    exact ⟨c, (hcl2 _ hm rfl).trans e⟩
  · rcases (hf b hb).2.2.2.1 with z | z
    · exact I.ok.noex b o e z
    · exact absurd (Nat.lt_of_lt_of_le (Heap.lt_size e) (Nat.le_trans I.ok.bsz z)) (Nat.lt_irrefl _)
  · rcases List.mem_cons.mp (I.stkSub b hs) with z | z
    · exact (hf b hb).2.1 z
    · exact (hf b hb).2.2.1 z
  · -- a name of the frame, seen through its cell
    have hi : n ≤ i := by
      by_cases hi : n ≤ i
      · exact hi
      · unfold compSt at e2
        rw [List.getElem?_append_left (by simp; omega), List.getElem?_replicate] at e2
        split at e2 <;> cases e2
    obtain ⟨j, rfl⟩ : ∃ j, i = n + j := ⟨i - n, by omega⟩
    unfold compSt at e2
    rw [List.getElem?_append_right (by simp), List.length_replicate, Nat.add_sub_cancel_left, List.getElem?_map] at e2
    cases ej : ix[j]? with
    | none => rw [ej] at e2; cases e2
    | some q =>
      rw [ej] at e2
      have e2' : σ.getD q none = some v := Option.some.inj e2
      have e2'' : σ[q]? = some (some v) := by
        rw [List.getD_eq_getElem?_getD] at e2'
        cases eq : σ[q]? with
        | none => rw [eq] at e2'; cases e2'
        | some z => rw [eq] at e2'; exact congrArg some e2'
      obtain ⟨y, h1, h2, h3⟩ := S.at_ j q ej
      have ey : y = x := Option.some.inj (h1.symm.trans e1)
      subst ey
      have hk := S.free _ h3 rfl
      obtain ⟨mX, _, hl⟩ := I.loc
      obtain ⟨u, r, l⟩ := hl q y v h2 e2'' (.inr hk)
      refine ⟨u, r, .inr ?_⟩
      have hkc : X.env.kindOf y = some .cell ∨ X.env.kindOf y = some .free := hk
      have l' : ∃ c, X.env.cells.lookup y = some c ∧ s.heap.IsCell c (some u) := by
        rcases l with ⟨z, _⟩ | ⟨_, c, ec, hc⟩
        · rcases hkc with q | q <;> (rw [q] at z; cases z)
        · exact ⟨c, ec, hc⟩
      obtain ⟨c, ec, o, ho, hd⟩ := l'
      have e3' : Vis (relabel scope X.env) y := e3
      refine ⟨?_, c, (hcl2 _ h3 rfl).trans ec, o, k _ _ ho, hd⟩
      -- its kind in the block
      have nl : scope.names.lookup y ≠ some .local := fun z => ?_
      · cases el : scope.names.lookup y with
        | none =>
          have : (relabel scope X.env).names.lookup y = none := by rw [relabel_lookup, el]; rfl
          rcases e3' with z | z | z <;> (rw [this] at z; cases z)
        | some kk =>
          have hmem := PySem.mem_of_lookup el
          have ncell := S.nocell _ hmem
          have hr : (relabel scope X.env).names.lookup y = some (if (kk == NameKind.free && X.env.scope.kind == .function && X.env.kindOf y == some .cell) = true then .cell else kk) := by rw [relabel_lookup, el]; rfl
          by_cases hkf : kk = .free
          · subst hkf
            exact relabel_free (env := X.env) el
          · have hb : (kk == NameKind.free) = false := by simpa using hkf
            have hr' : (relabel scope X.env).names.lookup y = some kk := by rw [hr, hb]; rfl
            rcases e3' with z | z | z
            · rw [hr'] at z; cases z; exact absurd el nl
            · rw [hr'] at z; cases z; exact absurd rfl ncell
            · rw [hr'] at z; cases z; exact absurd rfl hkf
      · exact S.nodup _ h3 z
  · obtain ⟨v, o, ho, hd⟩ := I.cell x c (hcl1 x c e)
    exact ⟨v, o, k _ _ ho, hd⟩
  · show upd H acc (.lst []) C = none
    rw [upd_ne hne]; exact fr C hC
  · show upd H acc (.lst []) c = none
    have := cellLt x c e
    rw [upd_ne (Nat.ne_of_lt (Nat.lt_of_lt_of_le this ha))]
    exact I.freeC x c (hcl1 x c e)
  · show (compSt n ix σ).length = N'.length
    unfold compSt
    rw [List.length_append, List.length_replicate, List.length_map, S.len]
end
end L2


namespace L2
open PySem PySem.Spec PyProof.Rows

def Wk (σ σ' : St) : Prop := σ.length = σ'.length ∧ ∀ (i : Nat) v, σ[i]? = some (some v) → σ'[i]? = some (some v)
def PTs (Y : Cx) (ifs : List Expr) (t : TT) : Prop :=
  ∀ (pins : List (Addr × Obj)) (s : Shared) (σ : St) (H : Hp) (Q : Bool → Hp → Prop), Inv Y pins σ H s → t σ H Q →
    wpAny (model Y.prog Y.w) Y.A (forIn ifs true fun c r => if r = true then do let ok ← isTrue c Y.env (eval c Y.env); pure (ForInStep.yield ok) else pure (ForInStep.yield r)) (TP Y pins σ Q) Y.xe s
def tNoTest : TT := fun _ H Q => Q true H
theorem pts_nil {Y : Cx} : PTs Y [] tNoTest := fun _ _ _ H _ I h => wpAny_tests_nil ⟨H, I, h⟩
theorem pts_one {Y : Cx} {c : Expr} {t : TT} (h : PT Y c t) : PTs Y [c] t := fun pins s σ H Q I q => wpAny_tests_one (h pins s σ H Q I q)

theorem compLoop_gen {prog : Program} {w : World} {A : Around} {R : Result → Shared → Prop} {s : Shared} {elt target iter : Expr} {ifs : List Expr} {scope : Scope} {pos : Pos} {it acc : Value} {env : Env} (I : Nat → Shared → Prop)
    (turn : ∀ n s, I n s → wpAny (model prog w) A (pyNext it) (fun r s₁ => match r with
      | none => R (.ok .next) s₁
      | some v => wpAny (model prog w) A (letOwnedTupleGo target it v) (fun _ s₂ => wpAny (model prog w) A (assign target env v) (fun _ s₃ =>
          wpAny (model prog w) A (forIn ifs true fun c r => if r = true then do let ok ← isTrue c env (eval c env); pure (ForInStep.yield ok) else pure (ForInStep.yield r)) (fun ok s₄ =>
            if ok = true then wpAny (model prog w) A (eval elt env) (fun x s₅ =>
              wpAny (model prog w) A (call (.builtin "list.append") [acc, x]) (fun _ s₆ => ∃ m, m < n ∧ I m s₆) (fun _ _ => False) s₅) (fun _ _ => False) s₄
            else ∃ m, m < n ∧ I m s₄) (fun _ _ => False) s₃) (fun _ _ => False) s₂) (fun _ _ => False) s₁) (fun _ _ => False) s)
    (n : Nat) (h : I n s) :
    codeAny (model prog w) A (.compLoop (.ListComp elt [⟨target, iter, ifs, 0⟩] scope pos) 0 it acc env) R s := by
  refine codeAny_loop rfl I (fun n s hI => ?_) n h
  show wpAny _ A ((compTurn (.ListComp elt [⟨target, iter, ifs, 0⟩] scope pos) 0 it acc env).onRaise (fun x => do noteFrame x env; theTreesLotGoes x)) _ _ s
  refine wpAny_noted (wpAny_noRaise ?_)
  rw [compTurn_list]
  refine wpAny_bind (wpAny_standAt (wpAny_bind (thn (turn n s hI) fun r s₁ h₁ => ?_)))
  cases r with
  | none => exact wpAny_pure h₁
  | some v =>
    refine wpAny_bind (thn h₁ fun _ s₂ h₂ => wpAny_bind (thn h₂ fun _ s₃ h₃ => wpAny_bind (thn h₃ fun ok s₄ h₄ => ?_)))
    cases ok with
    | false => exact wpAny_pure ⟨rfl, h₄⟩
    | true => exact wpAny_bind (wpAny_bind (thn h₄ fun x s₅ h₅ => wpAny_bind (thn h₅ fun _ s₆ h₆ => wpAny_pure (wpAny_pure ⟨rfl, h₆⟩))))

def LcW (J : It) (H1 : Hp) (g : TG) (tt : TT) (te : TE) (n : Nat) (ix : List Nat) (σ : St) (Q : VK) : Prop := ∀ acc, H1 acc = none →
  ∃ W : Nat → Nat → Hp → Prop, (∃ m, W 0 m (upd H1 acc (.lst []))) ∧ ∀ i m H, W i m H →
    (J.stop i H ∧ Q (.ref acc) H) ∨ (J.go i H ∧ ∀ x H', J.yld i H x H' → g x (compSt n ix σ) H' fun σ2 H2 => Wk (compSt n ix σ) σ2 ∧ tt σ2 H2 fun b H3 =>
      if b = true then te σ2 H3 fun v H4 => ∃ ys, H4 acc = some (.lst ys) ∧ ys.length < sizeLine ∧ ∃ m', m' < m ∧ W (i + 1) m' (upd H4 acc (.lst (ys ++ [v])))
      else ∃ m', m' < m ∧ W (i + 1) m' H3)
def tLc (wi : TI) (g : TG) (tt : TT) (te : TE) (n : Nat) (ix : List Nat) : TE := fun σ H Q => wi σ H fun J H1 => LcW J H1 g tt te n ix σ Q

section
variable {X : Cx} {elt tg iter : Expr} {ifs : List Expr} {scope : Scope} {pos : Pos} {wi : TI} {g : TG} {tt : TT} {te : TE} {N' : List Str} {n : Nat} {ix : List Nat}
theorem lc_core {pins : List (Addr × Obj)} {σ : St} {H2 : Hp} {s2 : Shared} {cl : List (Str × Addr)} {it : Addr} {fp : List Addr} {tn : Nat → Heap → Prop} {J : It} {Q : VK} {R : Value → Addr → Result → Shared → Prop}
    (hc : X.calm = true) (S : CompScope X scope N' n ix)
    (hY : ∀ s₂ H₂ cl C fp, PG (X.comp s₂ H₂ N' scope cl C fp) tg g ∧ PTs (X.comp s₂ H₂ N' scope cl C fp) ifs tt ∧ PE (X.comp s₂ H₂ N' scope cl C fp) elt te)
    (I2 : Inv X pins σ H2 s2) (hcl1 : ∀ x c, cl.lookup x = some c → X.env.cells.lookup x = some c) (hcl2 : ∀ y ∈ scope.names, y.2 = .free → cl.lookup y.1 = X.env.cells.lookup y.1)
    (T : Turn X.prog X.w X.K tg J fp it tn) (st2 : tn 0 s2.heap) (f2 : ∀ b ∈ fp, FpOk X pins H2 b)
    (hW : LcW J H2 g tt te n ix σ Q)
    (hR : ∀ acc C s' H' m, s'.heap.Ns C m → Inv X pins σ H' s' → H' C = none → C ≠ X.env.locals → (C ∈ X.ex ∨ X.s₀.heap.objs.size ≤ C) → (∀ x c, X.env.cells.lookup x = some c → c ≠ C) → (∀ p ∈ X.pn ++ pins, p.1 ≠ C) → C ∉ X.fs → Q (.ref acc) H' → R (.ref acc) C (.ok .next) s') :
    wpAny (model X.prog X.w) X.A (newList []) (fun acc s₃ => wpAny (model X.prog X.w) X.A (newFunctionEnv scope X.env.globals cl [] X.env.qual none .none (some X.env)) (fun cenv s₄ =>
      codeAny (model X.prog X.w) X.A (.compStart (.ListComp elt [⟨tg, iter, ifs, 0⟩] scope pos) 0 (.ref it) acc { cenv with scope := relabel scope X.env }) (R acc cenv.locals) s₄) X.xe s₃) X.xe s2 := by
  refine wpAny_newObj_type (wpAny_newFunctionEnv S.nocell (by intro y hy; simp at hy) (fun h₁ hns₁ hsb₁ => ?_) S.kind)
  dsimp only at hns₁ hsb₁ ⊢
  generalize hH2 : s2.heap.push { cls := .type "list", dict := none, data := .seq ([] : List Value).toArray } = G at hns₁ hsb₁ ⊢
  have hC : G.objs.size = s2.heap.objs.size + 1 := by rw [← hH2, Heap.size_push]
  have hlt : ∀ b ∈ fp, b < s2.heap.objs.size := fun b hb => by
    obtain ⟨o, e, _⟩ := T.obj _ _ st2 b hb
    exact Heap.lt_size e
  have old : ∀ b o, s2.heap.get? b = some o → h₁.get? b = some o := fun b o e => hsb₁.extBut b o (by rw [hC]; exact Nat.ne_of_lt (Nat.lt_succ_of_lt (Heap.lt_size e))) (Heap.get?_push_of_some _ (hH2 ▸ Heap.get?_push_of_some _ e))
  have hacc : h₁.get? s2.heap.objs.size = some { cls := .type "list", dict := none, data := .seq ([] : List Value).toArray } := hsb₁.extBut _ _ (by rw [hC]; exact Nat.ne_of_lt (Nat.lt_succ_self _)) (Heap.get?_push_of_some _ (hH2 ▸ Heap.get?_push_size _ rfl))
  obtain ⟨W, ⟨m0, w0⟩, turn⟩ := hW s2.heap.objs.size (I2.hok.fresh (Nat.le_refl _))
  obtain ⟨hYg, hYt, hYe⟩ := hY s2 H2 cl G.objs.size fp
  have fpY : ∀ {H' : Hp}, (∀ b ∈ fp, H' b = none) → ∀ b ∈ fp, FpOk (X.comp s2 H2 N' scope cl G.objs.size fp) [] H' b := fun {H'} hn b hb => by
    obtain ⟨_, q1, q2, q3, q4, q5⟩ := f2 b hb
    refine ⟨hn b hb, ?_, fun z => ?_, .inl hb, fun x c e => q4 x c (hcl1 x c e), fun p hp => absurd (show p ∈ ([] : List (Addr × Obj)) from hp) (by simp)⟩
    · show b ≠ G.objs.size
      rw [hC]
      exact Nat.ne_of_lt (Nat.lt_succ_of_lt (hlt b hb))
    · rcases List.mem_cons.mp (I2.stkSub b z) with y | y
      · exact q1 y
      · exact q2 y
  have loop : ∀ s₃ : Shared, s₃ = { s2 with heap := h₁, toks := s2.toks + ([] : List (Str × Value)).length } →
      codeAny (model X.prog X.w) X.A (.compLoop (.ListComp elt [⟨tg, iter, ifs, 0⟩] scope pos) 0 (.ref it) (.ref s2.heap.objs.size) (compEnvC scope cl G.objs.size X.env)) (R (.ref s2.heap.objs.size) G.objs.size) s₃ := by
    rintro s₃ rfl
    have I4 := inv_comp (tk := s2.toks + ([] : List (Str × Value)).length) I2 S hcl1 hcl2 f2 hlt (Nat.le_refl _) (by rw [hC]; exact Nat.le_succ _) (by rw [hC]; exact Nat.ne_of_gt (Nat.lt_succ_self _)) old hacc hns₁
    refine compLoop_gen (fun n' s' => ∃ i H', Inv (X.comp s2 H2 N' scope cl G.objs.size fp) [] (compSt n ix σ) H' s' ∧ tn i s'.heap ∧ (∀ b ∈ fp, H' b = none) ∧ W i n' H') ?_ m0
      ⟨0, _, I4, T.keep _ _ _ st2 fun b hb o e => old b o e, fun b hb => ?_, w0⟩
    · rintro n' s3 ⟨i, H3, I3, st3, fr3, w3⟩
      rcases turn i n' H3 w3 with ⟨stop, q⟩ | ⟨go, step⟩
      · refine thn (T.done (X.comp s2 H2 N' scope cl G.objs.size fp) rfl rfl rfl hc i [] s3 _ H3 _ I3 (fpY fr3) st3 stop) fun r s4 ⟨hr, I5⟩ => ?_
        subst hr
        obtain ⟨mC, hnC, _⟩ := I5.loc
        have IX : Inv X pins σ H3 s4 := I2.call' I5.os I5.base I5.hok I5.bare fun b hb => by
          obtain ⟨_, q1, q2, q3, q4, q5⟩ := f2 b hb
          exact ⟨q3, q1, q4, q5⟩
        refine hR _ _ s4 H3 mC hnC IX I5.free ?_ (.inr ?_) (fun x c e z => ?_) (fun p hp z => ?_) (I2.nofs (by rw [hC]; exact Nat.le_succ _)) q
        · rw [hC]
          exact Nat.ne_of_gt (Nat.lt_succ_of_lt I2.lt)
        · rw [hC]
          exact Nat.le_succ_of_le I2.sz
        · obtain ⟨v, q⟩ := I2.cell x c e
          rw [hC] at z
          exact absurd z (Nat.ne_of_lt (Nat.lt_succ_of_lt q.lt))
        · rw [hC] at z
          exact absurd z (Nat.ne_of_lt (Nat.lt_succ_of_lt (Heap.lt_size (I2.pin p hp).1)))
      · refine thn (T.item (X.comp s2 H2 N' scope cl G.objs.size fp) rfl rfl rfl hc i [] s3 _ H3 _ I3 (fpY fr3) st3 go) fun r s4 ⟨u, hr, h4⟩ => ?_
        subst hr
        refine thn h4 fun _ s5 ⟨x, H5, I5, r5, y5, st5, fr5⟩ => ?_
        have I5' := I5.pinned (fpY fr5) (T.obj _ _ st5)
        refine thn (hYg _ s5 _ H5 x u _ I5' r5 (step x H5 y5)) fun _ s6 ⟨σ6, H6, I6, wk, q6⟩ => ?_
        have back : ∀ {H' : Hp} {s' : Shared}, Inv (X.comp s2 H2 N' scope cl G.objs.size fp) ([] ++ pinsAt fp s5.heap) σ6 H' s' →
            Inv (X.comp s2 H2 N' scope cl G.objs.size fp) [] (compSt n ix σ) H' s' ∧ tn (i + 1) s'.heap ∧ ∀ b ∈ fp, H' b = none := fun {H' s'} I7 => by
          refine ⟨I7.unpinned.weak wk.1 wk.2, T.keep _ _ _ st5 fun b hb o e => (I7.pin (b, o) (List.mem_append_right _ (List.mem_append_right _ (mem_pinsAt hb e)))).1, fun b hb => ?_⟩
          obtain ⟨o, e, d⟩ := T.obj _ _ st5 b hb
          exact (I7.pin (b, o) (List.mem_append_right _ (List.mem_append_right _ (mem_pinsAt hb e)))).2.1
        refine thn (hYt _ s6 σ6 H6 _ I6 q6) fun ok s7 ⟨H7, I7, q7⟩ => ?_
        cases ok with
        | false =>
          rw [if_neg Bool.false_ne_true] at q7 ⊢
          obtain ⟨m', hm, w7⟩ := q7
          obtain ⟨b1, b2, b3⟩ := back I7
          exact ⟨m', hm, i + 1, H7, b1, b2, b3, w7⟩
        | true =>
          rw [if_pos rfl] at q7 ⊢
          refine thn (hYe _ s7 σ6 H7 _ I7 q7) fun xv s8 ⟨v8, H8, I8, r8, ys, ha, hz, m', hm, w8⟩ => ?_
          refine thn (mt_append _ s8 σ6 H8 (.ref s2.heap.objs.size) [v8] (.ref s2.heap.objs.size) [xv] (fun _ H' => H' = upd H8 s2.heap.objs.size (.lst (ys ++ [v8]))) I8 rfl (.cons r8 .nil) ⟨_, ys, v8, rfl, rfl, ha, hz, rfl⟩) fun _ s9 ⟨_, H9, I9, _, e9⟩ => ?_
          subst e9
          obtain ⟨b1, b2, b3⟩ := back I9
          exact ⟨m', hm, i + 1, _, b1, b2, b3, w8⟩
    · rw [upd_ne (Nat.ne_of_lt (hlt b hb))]
      exact (f2 b hb).1
  exact codeAny_compStart_list (loop _ rfl) (T.self _ 0 _ _ _ (T.keep _ _ _ st2 fun b hb o e => old b o e) (loop _ rfl))

theorem pe_lc (hc : X.calm = true) (S : CompScope X scope N' n ix) (hi : PI X tg iter wi)
    (hY : ∀ s₂ H₂ cl C fp, PG (X.comp s₂ H₂ N' scope cl C fp) tg g ∧ PTs (X.comp s₂ H₂ N' scope cl C fp) ifs tt ∧ PE (X.comp s₂ H₂ N' scope cl C fp) elt te)
    (hs : ∀ x, foldedSetIterable iter X.env x = pure x := by intro _; rfl) : PE X (.ListComp elt [⟨tg, iter, ifs, 0⟩] scope pos) (tLc wi g tt te n ix) := by
  intro pins s σ H Q I h
  obtain ⟨cl, hcl, hcl1, hcl2⟩ := closure_ok (env := X.env) (scope := scope) fun y hy hf => I.ok.has _ (S.free y hy hf)
  rw [eval_ListComp]
  refine wpAny_comprehension_free (use := none) rfl hs hcl S.kind S.names (thn (hi pins s σ H _ I h) fun v s1 h1 => thn h1 fun itv s2 h2 => ?_)
  obtain ⟨it, fp, tn, J, H2, rfl, I2, T, st2, f2, hW⟩ := h2
  refine lc_core (R := fun acc C => compPost (model X.prog X.w) X.A X.xe none (EP X pins σ Q) acc C) hc S hY I2 hcl1 hcl2 T st2 f2 hW ?_
  intro acc C s' H' m hn IX hf hL h1 h2 h3 h4 q
  exact ⟨m, hn, fun h' sb => ⟨.ref acc, H', IX.turned (t' := s'.toks) (fun b o hb e => sb.extBut b o hb e) hf hL h1 h2 h3, rfl, q⟩⟩

theorem ps_lcset {x : Str} {i : Nat} {pos' spos : Pos} (hsw : swapsWith (.ListComp elt [⟨tg, iter, ifs, 0⟩] scope pos) (some (.Name x pos')) spos.line X.env = pure true) (hN : X.N.Nodup) (hi' : X.N[i]? = some x) (hx : X.env.scope.names.lookup x = some .local)
    (hc : X.calm = true) (S : CompScope X scope N' n ix) (hi : PI X tg iter wi)
    (hY : ∀ s₂ H₂ cl C fp, PG (X.comp s₂ H₂ N' scope cl C fp) tg g ∧ PTs (X.comp s₂ H₂ N' scope cl C fp) ifs tt ∧ PE (X.comp s₂ H₂ N' scope cl C fp) elt te)
    (hs : ∀ x, foldedSetIterable iter X.env x = pure x := by intro _; rfl) : PS X (.Assign [.Name x pos'] (.ListComp elt [⟨tg, iter, ifs, 0⟩] scope pos) spos) (tAsg (tLc wi g tt te n ix) (gName i)) := by
  intro pins s σ H D I h
  obtain ⟨cl, hcl, hcl1, hcl2⟩ := closure_ok (env := X.env) (scope := scope) fun y hy hf => I.ok.has _ (S.free y hy hf)
  rw [exec_Assign_Name_used _ _ _ _ hsw]
  refine wpAny_bind (wpAny_standAt (wpAny_bind ?_))
  show wpAny _ _ (do let _ ← comprehension (.ListComp elt [⟨tg, iter, ifs, 0⟩] scope pos) scope X.env _ (newList []) false (eval iter X.env) (some (assign (.Name x pos') X.env))) _ _ s
  refine wpAny_bind (thn (wpAny_comprehension_free (use := some (assign (.Name x pos') X.env)) (Q := fun _ s' => SP X pins D .next s') rfl hs hcl S.kind S.names (thn (hi pins s σ H _ I h) fun v s1 h1 => thn h1 fun itv s2 h2 => ?_)) fun _ s' hq => wpAny_pure (wpAny_pure hq))
  obtain ⟨it, fp, tn, J, H2, rfl, I2, T, st2, f2, hW⟩ := h2
  refine lc_core (Q := fun x H1 => gName i x σ H1 D.nx) (R := fun acc C => compPost (model X.prog X.w) X.A X.xe (some (assign (.Name x pos') X.env)) (fun _ s' => SP X pins D .next s') acc C) hc S hY I2 hcl1 hcl2 T st2 f2 hW ?_
  intro acc C s' H' m hn IX hf hL h1 h2 h3 h4 q
  show wpAny _ _ (assign (.Name x pos') X.env (.ref acc)) _ _ _
  -- the block's own dict is pinned through the store
  obtain ⟨oC, esC, epC, hoC, hdC, rC⟩ := id hn
  have IP : Inv X (pins ++ [(C, oC)]) σ H' s' := IX.pins_of fun p hp => by
    rcases List.mem_append.mp hp with z | z
    · exact IX.pin p (List.mem_append_right _ z)
    · have e : p = (C, oC) := by simpa using z
      subst e
      exact ⟨hoC, hf, hL, h4, fun v z => by rw [hdC] at z; cases z⟩
  refine thn (pg_name hN hi' (.inl hx) (.inr hx) _ s' σ H' (.ref acc) (.ref acc) D.nx IP rfl q) fun _ s'' ⟨σ', H'', I'', q''⟩ => ?_
  obtain ⟨e1, e2, _⟩ := I''.pin (C, oC) (List.mem_append_right _ (List.mem_append_right _ (by simp)))
  refine ⟨m, ⟨oC, esC, epC, e1, hdC, rC⟩, fun h' sb => ⟨σ', H'', ?_, q''⟩⟩
  exact I''.unpinned.turned (t' := s''.toks) (fun b o hb e => sb.extBut b o hb e) e2 hL h1 h2 h3
end
end L2


namespace L2
open PySem PySem.Spec PyProof.Rows

theorem PE.mono {X : Cx} {e : Expr} {t t' : TE} (h : PE X e t) (m : ∀ σ H Q, t' σ H Q → t σ H Q) : PE X e t' := fun pins s σ H Q I q => h pins s σ H Q I (m σ H Q q)

theorem same_upd {H : Hp} {a : Addr} {o : HO} (h : H a = none) : Same H (upd H a o) := fun b u e => by
  rw [upd_ne (ne_of_none e h)]; exact e
theorem same_updR {H H' : Hp} {a : Addr} {o : HO} (s : Same H H') (h : H a = none) : Same H (upd H' a o) := fun b u e => by
  rw [upd_ne (ne_of_none e h)]; exact s b u e

def SameT (H H' : Hp) : Prop := ∀ b xs, H b = some (.tup xs) → H' b = some (.tup xs)
theorem Same.t {H H' : Hp} (h : Same H H') : SameT H H' := fun b xs e => h b _ e
theorem SameT.trans {H H1 H2 : Hp} (a : SameT H H1) (b : SameT H1 H2) : SameT H H2 := fun c o h => b c o (a c o h)
theorem sameT_lst {H : Hp} {a : Addr} {xs ys : List V} (h : H a = some (.lst xs)) : SameT H (upd H a (.lst ys)) := fun b zs e => by
  rw [upd_ne (ne_of e h (by intro z; cases z))]; exact e

structure Yields (J : It) (Ok : Hp → Prop) (xs : List V) : Prop where
  go : ∀ i H, Ok H → i < xs.length → J.go i H
  yld : ∀ i H x H', Ok H → i < xs.length → J.yld i H x H' → H' = H ∧ xs[i]? = some x
  stop : ∀ H, Ok H → J.stop xs.length H
theorem yields_list {K : PySem.W.Frag} {a : Addr} {xs : List V} : Yields (Itl K a) (fun H => SqL K H a xs) xs :=
  ⟨fun i H q h => ⟨xs, xs[i], q, by simp [h]⟩, fun i H x H' q _ y => ⟨y.1, y.2 xs q⟩, fun H q => ⟨xs, q, Nat.le_refl _⟩⟩
theorem yields_tup {K : PySem.W.Frag} {a : Addr} {xs : List V} : Yields (Itt K a) (fun H => SqT K H a xs) xs :=
  ⟨fun i H q h => ⟨xs, xs[i], q, by simp [h]⟩, fun i H x H' q _ y => ⟨y.1, y.2 xs q⟩, fun H q => ⟨xs, q, Nat.le_refl _⟩⟩
def rangeV (lo : Int) (n : Nat) : List V := (List.range n).map fun (i : Nat) => V.int (lo + (i : Int))
theorem rangeV_len (lo : Int) (n : Nat) : (rangeV lo n).length = n := by simp [rangeV]
theorem rangeV_get {lo : Int} {n i : Nat} (h : i < n) : (rangeV lo n)[i]? = some (V.int (lo + (i : Int))) := by
  simp [rangeV, h]
theorem yields_range {lo : Int} {n : Nat} : Yields (Itr lo n) (fun _ => True) (rangeV lo n) := by
  refine ⟨fun i H _ h => ?_, fun i H x H' _ h y => ?_, fun H _ => ?_⟩
  · rw [rangeV_len] at h; exact h
  · obtain ⟨y1, y2⟩ := y
    rw [rangeV_len] at h
    exact ⟨y1, by rw [rangeV_get h, y2]⟩
  · rw [rangeV_len]; exact Nat.le_refl _

section
variable {J : It} {Ok : Hp → Prop} {xs : List V} {tt : TT} {te : TE} {ix : List Nat} {σ : St} {H1 : Hp} {Q : VK}
theorem lc_grow (Y : Yields J Ok xs) (small : xs.length < sizeLine) (R : V → V → Hp → Prop) (hR : ∀ x v H H', SameT H H' → R x v H → R x v H') (hok : ∀ H, Same H1 H → Ok H)
    (he : ∀ x ∈ xs, ∀ H, Same H1 H → ∀ Q' : VK, (∀ v H', Same H H' → R x v H' → Q' v H') → te (some x :: ix.map fun i => σ.getD i none) H Q')
    (fin : ∀ acc ys H', H1 acc = none → Same H1 H' → H' acc = some (.lst ys) → Paired (fun x v => R x v H') xs ys → Q (.ref acc) H') :
    LcW J H1 (gName 0) tNoTest te 1 ix σ Q := by
  intro acc ha
  refine ⟨fun i m H => m = xs.length - i ∧ i ≤ xs.length ∧ Same H1 H ∧ ∃ ys, H acc = some (.lst ys) ∧ Paired (fun x v => R x v H) (xs.take i) ys, ⟨xs.length, by simp, Nat.zero_le _, same_upd ha, [], upd_same, .nil⟩, ?_⟩
  rintro i m H ⟨rfl, hi, sm, ys, hacc, pr⟩
  have o := hok _ sm
  have hlen : ys.length = i := by rw [← Paired.length pr, List.length_take]; omega
  by_cases hlt : i < xs.length
  · refine .inr ⟨Y.go i _ o hlt, fun x H' y => ?_⟩
    obtain ⟨rfl, hx⟩ := Y.yld i _ x H' o hlt y
    have hmem : x ∈ xs := List.mem_of_getElem? hx
    have htk : xs.take (i + 1) = xs.take i ++ [x] := by
      rw [List.take_succ, hx]; rfl
    refine ⟨⟨rfl, fun j v e => ?_⟩, ?_⟩
    · cases j with
      | zero => cases e
      | succ j => exact e
    · unfold tNoTest
      dsimp only
      rw [if_pos rfl]
      refine he x hmem _ sm _ fun v H4 s4 r4 => ?_
      have h4 : H4 acc = some (.lst ys) := s4 _ _ hacc
      refine ⟨ys, h4, by omega, xs.length - (i + 1), by omega, rfl, hlt, same_updR (sm.trans s4) ha, ys ++ [v], upd_same, ?_⟩
      rw [htk]
      have st : SameT H4 (upd H4 acc (.lst (ys ++ [v]))) := sameT_lst h4
      exact Paired.snoc (Paired.mapP pr fun x' v' r' => hR _ _ _ _ (s4.t.trans st) r') (hR _ _ _ _ st r4)
  · have e : i = xs.length := by omega
    subst e
    refine .inl ⟨Y.stop _ o, ?_⟩
    rw [List.take_length] at pr
    exact fin acc ys H ha sm hacc pr
end
end L2


namespace L2
open PySem PySem.Spec PyProof.Rows

mutual
inductive Is (H : Hp) : V → PyData → Prop
  | non : Is H .non .none
  | bl (b : Bool) : Is H (.bl b) (.bool b)
  | int (i : Int) : Is H (.int i) (.int i)
  | str (x : Str) : Is H (.str x) (.str x)
  | tup {a : Addr} {vs : List V} {ds : List PyData} : H a = some (.tup vs) → IsAll H vs ds → Is H (.ref a) (.tuple ds)
  | lst {a : Addr} {vs : List V} {ds : List PyData} : H a = some (.lst vs) → IsAll H vs ds → Is H (.ref a) (.list ds)
inductive IsAll (H : Hp) : List V → List PyData → Prop
  | nil : IsAll H [] []
  | cons {v : V} {vs : List V} {d : PyData} {ds : List PyData} : Is H v d → IsAll H vs ds → IsAll H (v :: vs) (d :: ds)
end

section
variable {X : Cx} {pins : List (Addr × Obj)} {σ : St} {H : Hp} {s : Shared}

def rEqD : R2 := fun x y H Q => ∃ d e, Is H x d ∧ Is H y e ∧ SeqAt.shaped d = true ∧ SeqAt.shaped e = true ∧ Q (.bl (PyData.eqv d e)) H
def rNeD : R2 := fun x y H Q => ∃ d e, Is H x d ∧ Is H y e ∧ SeqAt.shaped d = true ∧ SeqAt.shaped e = true ∧ Q (.bl (!PyData.eqv d e)) H
end

end L2


namespace L2
open PySem PySem.Spec PyProof.Rows

theorem range_all_getD (f : Nat → Bool) : ∀ (bs : List Bool), (∀ i, i < bs.length → f i = bs.getD i false) → (List.range bs.length).all f = bs.all id := by
  intro bs h
  rw [Bool.eq_iff_iff, List.all_eq_true, List.all_eq_true]
  constructor
  · intro q b hb
    obtain ⟨i, hi, e⟩ := List.getElem_of_mem hb
    have := q i (List.mem_range.mpr hi)
    rw [h i hi, List.getD_eq_getElem?_getD, List.getElem?_eq_getElem hi, e] at this
    exact this
  · intro q i hi
    have hi' := List.mem_range.mp hi
    rw [h i hi', List.getD_eq_getElem?_getD, List.getElem?_eq_getElem hi']
    exact q _ (List.getElem_mem hi')

section
variable {X : Cx}

def rIsi (K : PySem.W.Frag) : List V → Hp → VK → Prop := fun xs H Q => ∃ x T t b, xs = [x, .ty T] ∧ TyOf K H x t ∧ PySem.W.kitOne K t (.type T) = some b ∧ Q (.bl b) H
theorem call_isi : CallR X (.builtin "isinstance") (rIsi X.K) := by
  intro pins s σ H xs us Q I rs h
  obtain ⟨x, T, t, b, rfl, ty, e, q⟩ := h
  obtain ⟨u, c, rfl, ru, rc⟩ := vals2 rs
  cases (show c = Value.type T from rc)
  exact isinst_ok I ru ty e fun tk => ⟨.bl b, H, I.tok tk, rfl, q⟩

def rAll : List V → Hp → VK → Prop := fun xs H Q => ∃ (a : Addr) (bs : List Bool), xs = [.ref a] ∧ H a = some (.lst (bs.map V.bl)) ∧ Q (.bl (bs.all id)) H
theorem call_all (hc : X.calm = true) : CallR X (.builtin "all") rAll := by
  intro pins s σ H xs us Q I rs h
  obtain ⟨a, bs, rfl, ha, q⟩ := h
  obtain ⟨u, rfl, ru⟩ := vals1 rs
  cases (show u = Value.ref a from ru)
  obtain ⟨hz, its, n, rv, ho⟩ := (show ObjOk X.prog X.w H s.heap a (.lst (bs.map V.bl)) from I.hok a _ ha)
  have hl : s.heap.IsList a its.toArray := ⟨_, ho, rfl, n, rfl⟩
  have hh : X.A.in1.handled = none := I.ok.hd hc
  have hlen : its.length = bs.length := by rw [← rv.length, List.length_map]
  have hne : a ≠ s.heap.objs.size := Nat.ne_of_lt (Heap.lt_size ho)
  have hit : ∀ (i : Nat) v, its.toArray[i]? = some v → v = Value.bool (bs.getD i false) := fun i v e => by
    have e' : its[i]? = some v := by simpa using e
    have hi : i < bs.length := by rw [← hlen]; exact (List.getElem?_eq_some_iff.mp e').1
    obtain ⟨u, hu, ru⟩ := rv.get (i := i) (x := V.bl bs[i]) (by rw [List.getElem?_map, List.getElem?_eq_getElem hi]; rfl)
    rw [e'] at hu; cases hu
    cases (show v = Value.bool bs[i] from ru)
    rw [List.getD_eq_getElem?_getD, List.getElem?_eq_getElem hi]
    rfl
  refine call_all_walk (wpAny_pyIter_list hl ⟨s.heap.objs.size, _, _, _, _, _, fun i => bs.getD i false, rfl, Walks.list hh _ a hne its.toArray, ⟨⟨_, Heap.get?_push_size _ rfl, rfl, rfl⟩, hl.push _⟩, ?_, fun h' tk hk => ?_⟩)
  · intro i v s' Q' E' hP hQ
    rw [hit i v hP]
    exact wpAny_truthy_bool hQ
  · refine ⟨.bl (bs.all id), H, I.kept (t' := tk) fun b o e => hk b o ?_ (Heap.get?_push_of_some _ e), ?_, q⟩
    · exact fun hm => absurd (List.mem_singleton.mp hm) (Nat.ne_of_lt (Heap.lt_size e))
    · show Value.bool _ = Value.bool _
      have hs : its.toArray.size = bs.length := by simpa using hlen
      rw [hs, range_all_getD _ bs fun i _ => rfl]

def rInsert : V → List V → Hp → VK → Prop := fun x vs H Q => ∃ l xs i y, x = .ref l ∧ vs = [.int i, y] ∧ H l = some (.lst xs) ∧ 0 ≤ i ∧ i ≤ xs.length ∧ xs.length < sizeLine ∧ Q .non (upd H l (.lst (xs.take i.toNat ++ y :: xs.drop i.toNat)))
end
end L2


namespace L2
open PySem PySem.Spec PyProof.Rows
section
variable {prog : Program} {w : World} {A : Around} {E : Value → Shared → Prop} {s : Shared}

theorem nextT_item {it t : Addr} {i : Nat} {its : Array Value} {x : Value} {Q : Value → Shared → Prop} (hi : s.heap.IsTupleIter it t i) (ht : s.heap.IsTuple t its) (hx : its[i]? = some x)
    (q : ∀ h', h'.IsTupleIter it t (i + 1) → Heap.SameBut it s.heap h' → Q x { s with heap := h' }) : wpAny (model prog w) A (Builtin.SmallTypes.nextOf (.ref it)) Q E s := by
  obtain ⟨o, e1, e2, e3⟩ := id hi
  obtain ⟨u, f1, f2, nu, f3⟩ := ht
  unfold Builtin.SmallTypes.nextOf
  refine wpAny_bind (wpAny_callSpecial?_slot (name := Str.ofString "__next__") hi.typeIs F.slot_tuple_iterator_next (wpAny_call_entry F.slot_tuple_iterator_next hi.typeIs F.entry_tuple_iterator_next ?_ (F.args_tuple_iterator_next_1 _)))
  show wpAny _ _ (field (.ref it) 0 >>= _) _ _ s
  refine wpAny_bind (wpAny_field e1 e3 (x := .ref t) rfl ?_)
  show wpAny _ _ (if (Value.ref t == Value.none) = true then _ else _) _ _ s
  rw [if_neg (show ¬ ((Value.ref t == Value.none) = true) from Bool.false_ne_true)]
  show wpAny _ _ (field (.ref it) 1 >>= _) _ _ s
  refine wpAny_bind (wpAny_field e1 e3 (x := .int i 0) rfl ?_)
  show wpAny _ _ (seqItems? (.ref t) >>= _) _ _ s
  refine wpAny_bind (wpAny_seqItems f1 f3 ?_)
  simp only [Int.toNat_natCast, hx]
  refine wpAny_bind (wpAny_setField e1 e3 (by simp) (wpAny_pure ⟨x, rfl, wpAny_pure (q _ ⟨_, Heap.get?_update_self _ e1 (Obj.isFreed_of_fields (Obj.data_mapFields e3 _)), (Obj.cls_mapFields ..).trans e2, ?_⟩ (Heap.SameBut.update ..))⟩))
  rw [Obj.data_mapFields e3]
  simp [rawInt]
theorem nextT_end {it t : Addr} {i : Nat} {its : Array Value} {Q : Value → Shared → Prop} (hh : A.handled = none) (hi : s.heap.IsTupleIter it t i) (ht : s.heap.IsTuple t its) (hx : its[i]? = none)
    (q : ∀ h' e, Heap.ExtBut it s.heap h' → (∃ o, h'.get? e = some o ∧ o.cls = .type "StopIteration") → E (.ref e) { s with heap := h' }) : wpAny (model prog w) A (Builtin.SmallTypes.nextOf (.ref it)) Q E s := by
  obtain ⟨o, e1, e2, e3⟩ := id hi
  obtain ⟨u, f1, f2, nu, f3⟩ := ht
  unfold Builtin.SmallTypes.nextOf
  refine wpAny_bind (wpAny_callSpecial?_slot (name := Str.ofString "__next__") hi.typeIs F.slot_tuple_iterator_next (wpAny_call_entry F.slot_tuple_iterator_next hi.typeIs F.entry_tuple_iterator_next ?_ (F.args_tuple_iterator_next_1 _)))
  show wpAny _ _ (field (.ref it) 0 >>= _) _ _ s
  refine wpAny_bind (wpAny_field e1 e3 (x := .ref t) rfl ?_)
  show wpAny _ _ (if (Value.ref t == Value.none) = true then _ else _) _ _ s
  rw [if_neg (show ¬ ((Value.ref t == Value.none) = true) from Bool.false_ne_true)]
  show wpAny _ _ (field (.ref it) 1 >>= _) _ _ s
  refine wpAny_bind (wpAny_field e1 e3 (x := .int i 0) rfl ?_)
  show wpAny _ _ (seqItems? (.ref t) >>= _) _ _ s
  refine wpAny_bind (wpAny_seqItems f1 f3 ?_)
  simp only [Int.toNat_natCast, hx]
  refine wpAny_bind (wpAny_rule (wpAny_bind (wpAny_setField e1 e3 (by simp) ?_)))
  show wpAny _ _ (newExc (.type "StopIteration") [] >>= _) _ _ _
  refine wpAny_bind ?_
  simp only [newExc, newTuple]
  refine wpAny_bind (wpAny_newObj_type ?_ (by size_fits))
  refine wpAny_bind (m := firstArgMember _ _) (wpAny_of_eq (a := Value.none) (by first | rfl | (simp only [firstArgMember]; rfl)) ?_)
  refine wpAny_newObj_type ?_ (by size_fits)
  simp only [raiseNew]
  refine wpAny_bind (wpAny_handled ?_)
  first | rw [show A.in1.handled = none from hh] | rw [hh]
  refine wpAny_bind (wpAny_pure (wpAny_throw ?_))
  exact q _ _ (((Heap.SameBut.update ..).extBut.push _).push _) ⟨_, Heap.get?_push_size _ rfl, rfl⟩
end
end L2


namespace L2
open PySem PySem.Spec PyProof.Rows
section
variable {X : Cx} {pins : List (Addr × Obj)} {σ : St} {H : Hp} {s : Shared} {h' : Heap}
theorem Inv.turnedN {t' : Nat} {fp : List Addr} (I : Inv X pins σ H s) (hf : ∀ b ∈ fp, FpOk X pins H b) (k : ∀ b o, b ∉ fp → s.heap.get? b = some o → h'.get? b = some o) : Inv X pins σ H { s with heap := h', toks := t' } := by
  have nit : ∀ b u, H b = some u → b ∉ fp := fun b u e z => by rw [(hf b z).1] at e; cases e
  refine I.step (g' := s.gens) (d' := s.drawn) (ch := fp) (fun b hb => ?_) (fun b o _ _ hc e _ => k b o hc e) (fun b o _ _ hc e _ => ⟨o.slots, k b o hc e⟩) (fun _ _ _ _ n => n)
    (fun b o hc e => ⟨o, k b o hc e⟩) (fun _ _ e => e) (fun _ _ _ e => e) (fun b ps e => ⟨#[], by rw [e]; simp⟩) (fun m hm => ?_) (fun b u e => ?_) I.bare
  · obtain ⟨_, q1, q2, q3, q4, q5⟩ := hf b hb
    exact ⟨q3, q1, q4, q5⟩
  · obtain ⟨o, es, ep, ho, r⟩ := hm
    exact ⟨o, es, ep, k _ o (fun z => (hf _ z).2.1 rfl) ho, r⟩
  · refine (I.hok b u e).stay (fun c v hc q => k c v ?_ q) (fun _ q => q) fun _ _ q => q
    rcases hc with z | z
    · rw [z]; exact nit b u e
    · exact nit c _ z
theorem Inv.trackT {a : Addr} {xs : List V} {its : List Value} (I : Inv X pins σ H s) (hn : H a = none) (hs : X.s₀.heap.objs.size ≤ a) (hL : a ≠ X.env.locals) (hc : ∀ x c, X.env.cells.lookup x = some c → c ≠ a) (hp : ∀ p ∈ X.pn ++ pins, p.1 ≠ a)
    (rv : Vals xs its) (ht : PTup s.heap a its.toArray) (hz : xs.length ≤ sizeLine) : Inv X pins σ (upd H a (.tup xs)) s := by
  have ne : ∀ {b u}, H b = some u → b ≠ a := fun e => ne_of_none e hn
  refine ⟨I.ok, I.os, I.bare, ⟨I.base.keep, I.base.slot, fun b o e n hx => ?_, I.base.there, fun b ys e => ?_, fun b o u e => ?_, fun b ps e => ?_⟩, I.loc, I.cell, ?_, fun x c e => ?_, fun p hp' => ?_, fun b u e => ?_, I.len⟩
  · rw [upd_ne (Nat.ne_of_lt (Nat.lt_of_lt_of_le (Heap.lt_size e) hs))]
    exact I.base.free b o e n hx
  · have q := I.base.tups b ys e
    rw [upd_ne (ne q)]; exact q
  · have q := I.base.frzs b o u e
    rw [upd_ne (ne q)]; exact q
  · obtain ⟨m, q⟩ := I.base.tbls b ps e
    exact ⟨m, by rw [upd_ne (ne q)]; exact q⟩
  · rw [upd_ne (Ne.symm hL)]; exact I.free
  · rw [upd_ne (hc x c e)]; exact I.freeC x c e
  · obtain ⟨q1, q2, q3⟩ := I.pin p hp'
    exact ⟨q1, by rw [upd_ne (hp p hp')]; exact q2, q3⟩
  · by_cases hb : b = a
    · subst hb
      rw [upd_same] at e; cases e
      exact ⟨hz, its, rv, ht⟩
    · rw [upd_ne hb] at e
      exact (I.hok b u e).stay (fun _ _ _ q => q) (fun c q => by rw [upd_ne (ne q)]; exact q) fun c ys q => by rw [upd_ne (ne q)]; exact q
theorem Inv.turnedT {t' : Nat} {fp : List Addr} {xs : List V} {its : List Value} (I : Inv X pins σ H s) (hf : ∀ b ∈ fp, FpOk X pins H b) (k : ∀ b o, b ∉ fp → s.heap.get? b = some o → h'.get? b = some o)
    (rv : Vals xs its) (ht : PTup h' s.heap.objs.size its.toArray) (hz : xs.length ≤ sizeLine) : Inv X pins σ (upd H s.heap.objs.size (.tup xs)) { s with heap := h', toks := t' } := by
  refine (I.turnedN (t' := t') hf k).trackT (I.hok.fresh (Nat.le_refl _)) I.sz (Nat.ne_of_gt I.lt) (fun x c e => ?_) (fun p hp => ?_) rv ht hz
  · obtain ⟨v, q⟩ := I.cell x c e
    exact Nat.ne_of_lt q.lt
  · exact Nat.ne_of_lt (Heap.lt_size (I.pin p hp).1)
end

def Ite (K : PySem.W.Frag) (a : Addr) : It :=
  ⟨fun i H => ∃ xs x, SqT K H a xs ∧ xs[i]? = some x, fun i H v H' => ∃ t x, H t = none ∧ v = .ref t ∧ H' = upd H t (.tup [.int i, x]) ∧ ∀ xs, SqT K H a xs → xs[i]? = some x, fun i H => ∃ xs, SqT K H a xs ∧ xs.length = i⟩
section
variable {X : Cx}
def iEnum (K : PySem.W.Frag) (ta : TA) : TI := fun σ H R => ta σ H fun vs H1 => ∃ a, vs = [.ref a] ∧ (∃ xs, SqT K H1 a xs) ∧ R (Ite K a) H1
end
end L2


namespace L2
open PySem PySem.Spec PyProof.Rows

structure ZipT (h : Heap) (z TI TO i1 i2 a b : Addr) (i : Nat) : Prop where
  z : IsZip h z TI TO .none
  ti : IsPair h TI (.ref i1) (.ref i2)
  to : ∃ x y, IsPair h TO x y
  one : h.IsTupleIter i1 a i
  two : h.IsTupleIter i2 b i
structure ZipNe (z TI TO i1 i2 : Addr) : Prop where
  az : TI ≠ z
  bz : TO ≠ z
  cz : i1 ≠ z
  dz : i2 ≠ z
  ab : TI ≠ TO
  ac : TI ≠ i1
  ad : TI ≠ i2
  bc : TO ≠ i1
  bd : TO ≠ i2
  cd : i1 ≠ i2
section
variable {prog : Program} {w : World} {A : Around} {E : Value → Shared → Prop} {s : Shared} {z TI TO i1 i2 a b : Addr} {i : Nat} {xs ys : Array Value}
theorem pairSet {T : Addr} {p q x : Value} {k : Nat} {Q : Unit → Shared → Prop} (hT : IsPair s.heap T p q) (h : ∀ h', h'.get? T = some { cls := .type "tuple", data := .seq ((#[p, q] : Array Value).setIfInBounds k x) } → Heap.SameBut T s.heap h' → Q () { s with heap := h' }) :
    wpAny (model prog w) A (updateSeq T (·.setIfInBounds k x)) Q E s := wpAny_updateSeq_pair hT h

theorem tupNe {h : Heap} {t j : Addr} {k : Nat} {its : Array Value} {u : Addr} (ht : h.IsTuple t its) (hj : h.IsTupleIter j u k) : t ≠ j := fun e => by
  obtain ⟨o, e1, e2, _⟩ := ht
  obtain ⟨o', f1, f2, _⟩ := hj
  rw [e, f1] at e1; cases e1; rw [f2] at e2; injection e2 with z2; revert z2; decide

theorem zipT_item {x y : Value} {Q : Option Value → Shared → Prop} (D : ZipNe z TI TO i1 i2) (S : ZipT s.heap z TI TO i1 i2 a b i) (ha : s.heap.IsTuple a xs) (hb : s.heap.IsTuple b ys) (haz : a ≠ z ∧ a ≠ TO) (hbz : b ≠ z ∧ b ≠ TO) (hx : xs[i]? = some x) (hy : ys[i]? = some y)
    (q : ∀ h', IsZip h' z TI TO (rawInt s.heap.objs.size) → IsPair h' TI (.ref i1) (.ref i2) → IsPair h' TO x y → h'.IsTupleIter i1 a (i + 1) → h'.IsTupleIter i2 b (i + 1) → IsPair h' s.heap.objs.size x y →
      (∀ c o, c ≠ z → c ≠ TO → c ≠ i1 → c ≠ i2 → s.heap.get? c = some o → h'.get? c = some o) → Q (some (.ref s.heap.objs.size)) { s with heap := h' }) :
    wpAny (model prog w) A (pyNext (.ref z)) Q E s := by
  obtain ⟨hz, hti, ⟨p0, p1, hto⟩, h1, h2⟩ := S
  have ai1 := tupNe ha h1
  have ai2 := tupNe ha h2
  have bi1 := tupNe hb h1
  have bi2 := tupNe hb h2
  have hT : s.TypeIs (.ref z) "zip" := ⟨_, hz, rfl⟩
  unfold pyNext
  refine wpAny_bind (wpAny_attempt (wpAny_callSpecial?_slot (name := Str.ofString "__next__") hT F.slot_zip_next (wpAny_call_entry F.slot_zip_next hT F.entry_zip_next ?_ (F.args_zip_next_1 _))))
  show wpAny _ _ (field (.ref z) 2 >>= _) _ _ _
  refine wpAny_bind (wpAny_field hz rfl (x := .bool false) rfl ?_); show wpAny _ _ (field (.ref z) 3 >>= _) _ _ _
  refine wpAny_bind (wpAny_field hz rfl (x := .ref TI) rfl (wpAny_bind (wpAny_seqItems hti rfl ?_)))
  show wpAny _ _ (Builtin.SmallTypes.ownedTupleIsFree (.ref z) >>= _) _ _ _
  refine wpAny_bind ?_
  unfold Builtin.SmallTypes.ownedTupleIsFree
  refine wpAny_bind (wpAny_field hz rfl (x := .none) rfl (wpAny_pure ?_)); simp only [if_true]
  refine wpAny_bind (wpAny_rule (wpAny_bind (wpAny_field hz rfl (x := .ref TO) rfl (wpAny_bind (wpAny_setField_rec hz (by simp) fun g1 k1 s1 => ?_)))))
  replace k1 : IsZip g1 z TI TO .ellipsis := k1
  refine wpAny_bind ?_
  simp only [List.zipIdx_cons, List.zipIdx_nil, List.forIn_cons, List.forIn_nil]
  -- the first
  refine wpAny_bind (wpAny_bind (wpAny_onRaise ?_)); show wpAny _ _ (Builtin.SmallTypes.nextOf (.ref i1) >>= _) _ _ _
  refine wpAny_bind (nextT_item (h1.extBut s1.extBut D.cz) (ha.extBut s1.extBut haz.1) hx fun g2 j2 s2 => wpAny_pure ?_)
  have t2 : IsPair g2 TO p0 p1 := s2.extBut _ _ D.bc (s1.extBut _ _ D.bz hto)
  refine wpAny_bind (wpAny_seqItems t2 rfl (wpAny_bind (pairSet t2 fun g3 t3 s3 => ?_)))
  replace t3 : IsPair g3 TO x p1 := t3
  refine wpAny_bind (wpAny_letGo (wpAny_pure ?_))
  -- the second
  refine wpAny_bind (wpAny_bind (wpAny_onRaise ?_)); show wpAny _ _ (Builtin.SmallTypes.nextOf (.ref i2) >>= _) _ _ _
  have e3 : ∀ c o, c ≠ z → c ≠ i1 → c ≠ TO → s.heap.get? c = some o → g3.get? c = some o := fun c o c1 c2 c3 e => s3.extBut _ _ c3 (s2.extBut _ _ c2 (s1.extBut _ _ c1 e))
  have h23 : g3.IsTupleIter i2 b i := let ⟨o, ho, r⟩ := h2; ⟨o, e3 _ _ D.dz D.cd.symm D.bd.symm ho, r⟩
  have hb3 : g3.IsTuple b ys := let ⟨o, ho, r⟩ := hb; ⟨o, e3 _ _ hbz.1 bi1 hbz.2 ho, r⟩
  refine wpAny_bind (nextT_item h23 hb3 hy fun g4 j4 s4 => wpAny_pure ?_)
  have t4 : IsPair g4 TO x p1 := s4.extBut _ _ D.bd t3
  refine wpAny_bind (wpAny_seqItems t4 rfl (wpAny_bind (pairSet t4 fun g5 t5 s5 => ?_)))
  replace t5 : IsPair g5 TO x y := t5
  refine wpAny_bind (wpAny_letGo (wpAny_pure (wpAny_pure ?_)))
  -- the tuple that is handed out
  refine wpAny_bind (wpAny_seqItems t5 rfl (wpAny_bind (wpAny_newTuple ?_)))
  have z5 : g5.objs.size = s.heap.objs.size := by rw [s5.1, s4.1, s3.1, s2.1, s1.1]
  have e5 : ∀ c o, c ≠ z → c ≠ TO → c ≠ i1 → c ≠ i2 → s.heap.get? c = some o → g5.get? c = some o := fun c o c1 c2 c3 c4 e => s5.extBut _ _ c2 (s4.extBut _ _ c4 (e3 c o c1 c3 c2 e))
  have k5 : IsZip g5 z TI TO .ellipsis := s5.extBut _ _ D.bz.symm (s4.extBut _ _ D.dz.symm (s3.extBut _ _ D.bz.symm (s2.extBut _ _ D.cz.symm k1)))
  have m1 : g5.IsTupleIter i1 a (i + 1) := ((j2.extBut s3.extBut D.bc.symm).extBut s4.extBut D.cd).extBut s5.extBut D.bc.symm
  have m2 : g5.IsTupleIter i2 b (i + 1) := j4.extBut s5.extBut D.bd.symm
  have zlt : z < g5.objs.size := Heap.lt_size k5
  show wpAny _ _ (Builtin.SmallTypes.ownedTupleHandOut (.ref z) (.ref g5.objs.size) >>= _) _ _ _
  refine wpAny_bind ?_
  unfold Builtin.SmallTypes.ownedTupleHandOut
  have k6 : IsZip (g5.push { cls := .type "tuple", data := .seq #[x, y] }) z TI TO .ellipsis := Heap.get?_push_of_some _ k5
  refine wpAny_bind (wpAny_setField_rec k6 (by simp) fun g7 k7 s7 => ?_)
  replace k7 : IsZip g7 z TI TO (rawInt g5.objs.size) := k7
  refine wpAny_setField_rec k7 (by simp) fun g8 k8 s8 => ?_
  replace k8 : IsZip g8 z TI TO (rawInt g5.objs.size) := k8
  have up : ∀ c o, c ≠ z → g5.get? c = some o → g8.get? c = some o := fun c o c1 e => s8.extBut _ _ c1 (s7.extBut _ _ c1 (Heap.get?_push_of_some _ e))
  have t8 : IsPair g8 g5.objs.size x y := s8.extBut _ _ (Nat.ne_of_gt zlt) (s7.extBut _ _ (Nat.ne_of_gt zlt) (Heap.get?_push_size _ rfl))
  rw [z5] at k8 t8
  refine wpAny_pure ⟨_, rfl, wpAny_pure ?_⟩
  show Q (some (.ref g5.objs.size)) _
  rw [z5]
  exact q g8 k8 (up _ _ D.az (e5 _ _ D.az D.ab D.ac D.ad hti)) (up _ _ D.bz t5) (let ⟨o, ho, r⟩ := m1; ⟨o, up _ _ D.cz ho, r⟩) (let ⟨o, ho, r⟩ := m2; ⟨o, up _ _ D.dz ho, r⟩) t8 fun c o c1 c2 c3 c4 e => up c o c1 (e5 c o c1 c2 c3 c4 e)
end
end L2


namespace L2
open PySem PySem.Spec PyProof.Rows
section
variable {prog : Program} {w : World} {A : Around} {E : Value → Shared → Prop} {s : Shared} {z TI TO i1 i2 a b : Addr} {i : Nat} {xs ys : Array Value}
theorem zipT_end {Q : Option Value → Shared → Prop} (hh : A.in1.handled = none) (D : ZipNe z TI TO i1 i2) (S : ZipT s.heap z TI TO i1 i2 a b i) (ha : s.heap.IsTuple a xs) (hb : s.heap.IsTuple b ys) (haz : a ≠ z ∧ a ≠ TO) (hbz : b ≠ z ∧ b ≠ TO) (hend : xs[i]? = none ∨ ys[i]? = none)
    (q : ∀ h', (∀ c o, c ≠ z → c ≠ TO → c ≠ i1 → c ≠ i2 → s.heap.get? c = some o → h'.get? c = some o) → Q none { s with heap := h' }) :
    wpAny (model prog w) A (pyNext (.ref z)) Q E s := by
  obtain ⟨hz, hti, ⟨p0, p1, hto⟩, h1, h2⟩ := S
  have bi1 := tupNe hb h1
  have hT : s.TypeIs (.ref z) "zip" := ⟨_, hz, rfl⟩
  unfold pyNext
  refine wpAny_bind (wpAny_attempt (wpAny_callSpecial?_slot (name := Str.ofString "__next__") hT F.slot_zip_next (wpAny_call_entry F.slot_zip_next hT F.entry_zip_next ?_ (F.args_zip_next_1 _))))
  show wpAny _ _ (field (.ref z) 2 >>= _) _ _ _
  refine wpAny_bind (wpAny_field hz rfl (x := .bool false) rfl ?_); show wpAny _ _ (field (.ref z) 3 >>= _) _ _ _
  refine wpAny_bind (wpAny_field hz rfl (x := .ref TI) rfl (wpAny_bind (wpAny_seqItems hti rfl ?_)))
  show wpAny _ _ (Builtin.SmallTypes.ownedTupleIsFree (.ref z) >>= _) _ _ _
  refine wpAny_bind ?_
  unfold Builtin.SmallTypes.ownedTupleIsFree
  refine wpAny_bind (wpAny_field hz rfl (x := .none) rfl (wpAny_pure ?_)); simp only [if_true]
  refine wpAny_bind (wpAny_rule (wpAny_bind (wpAny_field hz rfl (x := .ref TO) rfl (wpAny_bind (wpAny_setField_rec hz (by simp) fun g1 k1 s1 => ?_)))))
  replace k1 : IsZip g1 z TI TO .ellipsis := k1
  refine wpAny_bind ?_
  simp only [List.zipIdx_cons, List.zipIdx_nil, List.forIn_cons, List.forIn_nil]
  -- what an exception of an iterator's end comes to
  have fin : ∀ (g : Heap) (e : Addr), IsZip g z TI TO .ellipsis → (∀ c o, c ≠ z → c ≠ TO → c ≠ i1 → c ≠ i2 → s.heap.get? c = some o → g.get? c = some o) → (∃ o, g.get? e = some o ∧ o.cls = .type "StopIteration") →
      wpAny (model prog w) A.in1 (setField (.ref z) 0 .none) (fun _ s' => wpAny (model prog w) A (do if ← isInstance (.ref e) (.type "StopIteration") then pure none else throw (Value.ref e)) Q E s') (fun e' s' => wpAny (model prog w) A (do if ← isInstance e' (.type "StopIteration") then pure none else throw e') Q E s') { s with heap := g } := by
    rintro g e kz kk ⟨oe, f1, f2⟩
    have ez : e ≠ z := fun y => by subst y; rw [kz] at f1; cases f1; injection f2 with z2; revert z2; decide
    refine wpAny_setField_rec kz (by simp) fun g' _ s' => ?_
    refine wpAny_bind (wpAny_isInstance (T := "StopIteration") (b := true) ⟨oe, s'.extBut _ _ ez f1, f2⟩ isSubtype_stop ?_)
    exact wpAny_pure (q g' fun c o c1 c2 c3 c4 y => s'.extBut _ _ c1 (kk c o c1 c2 c3 c4 y))
  refine wpAny_bind (wpAny_bind (wpAny_onRaise ?_)); show wpAny _ _ (Builtin.SmallTypes.nextOf (.ref i1) >>= _) _ _ _
  cases hx : xs[i]? with
  | none =>
    refine wpAny_bind (nextT_end hh (h1.extBut s1.extBut D.cz) (ha.extBut s1.extBut haz.1) hx fun g2 e s2 he => ?_)
    exact fin g2 e (s2 _ _ D.cz.symm k1) (fun c o c1 _ c3 _ y => s2 _ _ c3 (s1.extBut _ _ c1 y)) he
  | some x =>
    have hy : ys[i]? = none := by rcases hend with h | h; rw [hx] at h; cases h; exact h
    refine wpAny_bind (nextT_item (h1.extBut s1.extBut D.cz) (ha.extBut s1.extBut haz.1) hx fun g2 j2 s2 => wpAny_pure ?_)
    have t2 : IsPair g2 TO p0 p1 := s2.extBut _ _ D.bc (s1.extBut _ _ D.bz hto)
    refine wpAny_bind (wpAny_seqItems t2 rfl (wpAny_bind (pairSet t2 fun g3 t3 s3 => ?_)))
    refine wpAny_bind (wpAny_letGo (wpAny_pure ?_))
    refine wpAny_bind (wpAny_bind (wpAny_onRaise ?_)); show wpAny _ _ (Builtin.SmallTypes.nextOf (.ref i2) >>= _) _ _ _
    have e3 : ∀ c o, c ≠ z → c ≠ i1 → c ≠ TO → s.heap.get? c = some o → g3.get? c = some o := fun c o c1 c2 c3 e => s3.extBut _ _ c3 (s2.extBut _ _ c2 (s1.extBut _ _ c1 e))
    have h23 : g3.IsTupleIter i2 b i := let ⟨o, ho, r⟩ := h2; ⟨o, e3 _ _ D.dz D.cd.symm D.bd.symm ho, r⟩
    have hb3 : g3.IsTuple b ys := let ⟨o, ho, r⟩ := hb; ⟨o, e3 _ _ hbz.1 bi1 hbz.2 ho, r⟩
    refine wpAny_bind (nextT_end hh h23 hb3 hy fun g4 e s4 he => ?_)
    exact fin g4 e (s4 _ _ D.dz.symm (s3.extBut _ _ D.bz.symm (s2.extBut _ _ D.cz.symm k1))) (fun c o c1 c2 c3 c4 y => s4 _ _ c4 (e3 c o c1 c3 c2 y)) he

abbrev zT1 (h : Heap) (l1 : Addr) : Heap := h.push { cls := .type "tuple_iterator", data := .fields #[.ref l1, .int 0 0] }
abbrev zT2 (h : Heap) (l1 l2 : Addr) : Heap := (zT1 h l1).push { cls := .type "tuple_iterator", data := .fields #[.ref l2, .int 0 0] }
abbrev zT3 (h : Heap) (l1 l2 : Addr) : Heap := (zT2 h l1 l2).push { cls := .type "tuple", data := .seq #[.ref h.objs.size, .ref (zT1 h l1).objs.size] }
abbrev zT4 (h : Heap) (l1 l2 : Addr) : Heap := (zT3 h l1 l2).push { cls := .type "tuple", data := .seq #[.none, .none] }
abbrev zT5 (h : Heap) (l1 l2 : Addr) : Heap := (zT4 h l1 l2).push { cls := .type "zip", data := .fields #[.none, .bool false, .bool false, .ref (zT2 h l1 l2).objs.size, .ref (zT3 h l1 l2).objs.size] }
theorem zip_newT (l1 l2 : Addr) (xs ys : Array Value) :
    Meets (Builtin.«zip.__new__» ⟨[.type "zip", .ref l1, .ref l2], []⟩) (fun _ R s => s.heap.IsTuple l1 xs ∧ s.heap.IsTuple l2 ys ∧ R (.ok (.ret (.ref (zT4 s.heap l1 l2).objs.size))) { s with heap := zT5 s.heap l1 l2 }) :=
  .of_wp fun prog w A R s h => by
    obtain ⟨hp, g, d, tk, os⟩ := s; obtain ⟨hl1, hl2, h⟩ := h
    have hsub := sub_zip
    have hL1 : Heap.IsTuple (Shared.heap ⟨hp, g, d, tk, os⟩) l1 xs := hl1
    have hL2 : Heap.IsTuple (Shared.heap ⟨hp.push { cls := .type "tuple_iterator", data := .fields #[.ref l1, .int 0 0] }, g, d, tk, os⟩) l2 ys := Heap.IsTuple.push hl2 _
    wp_walk using wpAny_pyIter_tuple hL1, wpAny_pyIter_tuple hL2
    exact ⟨_, rfl, h⟩
theorem call_zipT {l1 l2 : Addr} {Q : Value → Shared → Prop} (hl1 : s.heap.IsTuple l1 xs) (hl2 : s.heap.IsTuple l2 ys)
    (h : ∀ h', ZipT h' (s.heap.objs.size + 4) (s.heap.objs.size + 2) (s.heap.objs.size + 3) s.heap.objs.size (s.heap.objs.size + 1) l1 l2 0 → (∀ c o, s.heap.get? c = some o → h'.get? c = some o) → Q (.ref (s.heap.objs.size + 4)) { s with heap := h' }) :
    wpAny (model prog w) A (call (.type "zip") [.ref l1, .ref l2]) Q E s := by
  refine callType_new F.called_zip (by decide) (F.typeCall_zip_2 _ _) (F.newCall_zip_2 _ _) (fun obj => F.args_object_init_3 obj _ _) F.entry_zip_new (zip_newT l1 l2 xs ys) ⟨hl1, hl2, ?_⟩
  have z1 : (zT1 s.heap l1).objs.size = s.heap.objs.size + 1 := Heap.size_push ..
  have z2 : (zT2 s.heap l1 l2).objs.size = s.heap.objs.size + 2 := by rw [Heap.size_push, z1]
  have z3 : (zT3 s.heap l1 l2).objs.size = s.heap.objs.size + 3 := by rw [Heap.size_push, z2]
  have z4 : (zT4 s.heap l1 l2).objs.size = s.heap.objs.size + 4 := by rw [Heap.size_push, z3]
  have p1 : ∀ {g : Heap} {c o u}, g.get? c = some o → (g.push u).get? c = some o := fun e => Heap.get?_push_of_some _ e
  have g5 : (zT5 s.heap l1 l2).get? (zT4 s.heap l1 l2).objs.size = some _ := Heap.get?_push_size _ rfl
  have g4 : (zT5 s.heap l1 l2).get? (zT3 s.heap l1 l2).objs.size = some _ := p1 (Heap.get?_push_size _ rfl)
  have g3 : (zT5 s.heap l1 l2).get? (zT2 s.heap l1 l2).objs.size = some _ := p1 (p1 (Heap.get?_push_size _ rfl))
  have g2 : (zT5 s.heap l1 l2).get? (zT1 s.heap l1).objs.size = some _ := p1 (p1 (p1 (Heap.get?_push_size _ rfl)))
  have g1 : (zT5 s.heap l1 l2).get? s.heap.objs.size = some _ := p1 (p1 (p1 (p1 (Heap.get?_push_size _ rfl))))
  show _ ∧ _
  rw [z2, z3, z4] at g5
  rw [z1, z2] at g3
  rw [z3] at g4
  rw [z1] at g2
  rw [z4]
  exact ⟨⟨_, g5, rfl⟩, h _ ⟨g5, g3, ⟨_, _, g4⟩, ⟨_, g1, rfl, rfl⟩, ⟨_, g2, rfl, rfl⟩⟩ fun c o x => p1 (p1 (p1 (p1 (p1 x))))⟩
end

def Itz (K : PySem.W.Frag) (a b : Addr) : It :=
  ⟨fun i H => ∃ xs ys x y, SqT K H a xs ∧ SqT K H b ys ∧ xs[i]? = some x ∧ ys[i]? = some y, fun i H v H' => ∃ t x y, H t = none ∧ v = .ref t ∧ H' = upd H t (.tup [x, y]) ∧ ∀ xs ys, SqT K H a xs → SqT K H b ys → xs[i]? = some x ∧ ys[i]? = some y,
    fun i H => ∃ xs ys, SqT K H a xs ∧ SqT K H b ys ∧ (xs[i]? = none ∨ ys[i]? = none)⟩
theorem zipNe_of {z TI TO i1 i2 : Addr} {h : Heap} {a b : Addr} {i : Nat} (S : ZipT h z TI TO i1 i2 a b i) (h1 : TI ≠ TO) (h2 : i1 ≠ i2) : ZipNe z TI TO i1 i2 := by
  obtain ⟨hz, hti, ⟨p0, p1, hto⟩, ⟨o1, e1, c1, d1⟩, ⟨o2, e2, c2, d2⟩⟩ := S
  refine ⟨fun e => ?_, fun e => ?_, fun e => ?_, fun e => ?_, h1, fun e => ?_, fun e => ?_, fun e => ?_, fun e => ?_, h2⟩
  · have q := (show h.get? TI = _ from hti); rw [e, show h.get? z = _ from hz] at q; injection q with q; injection q with q1; injection q1 with q2; revert q2; decide
  · have q := (show h.get? TO = _ from hto); rw [e, show h.get? z = _ from hz] at q; injection q with q; injection q with q1; injection q1 with q2; revert q2; decide
  · rw [e, hz] at e1; cases e1; injection c1 with q2; revert q2; decide
  · rw [e, hz] at e2; cases e2; injection c2 with q2; revert q2; decide
  · rw [← e, hti] at e1; cases e1; injection c1 with q2; revert q2; decide
  · rw [← e, hti] at e2; cases e2; injection c2 with q2; revert q2; decide
  · rw [← e, hto] at e1; cases e1; injection c1 with q2; revert q2; decide
  · rw [← e, hto] at e2; cases e2; injection c2 with q2; revert q2; decide
theorem SqT.fpNe {X : Cx} {pins : List (Addr × Obj)} {σ : St} {H : Hp} {s : Shared} {t c : Addr} {zs : List V} (I : Inv X pins σ H s) (hq : SqT X.K H t zs) (f : FpOk X pins H c) : t ≠ c := by
  rintro rfl
  rcases hq with (h | ⟨o, h⟩) | h
  · rw [f.1] at h; cases h
  · rw [f.1] at h; cases h
  · obtain ⟨o, _, _, hl, _⟩ := h
    have e := I.ok.mod.kin _ _ hl
    rcases f.2.2.2.1 with z | z
    · exact I.ok.noex _ _ e z
    · exact absurd (Nat.lt_of_lt_of_le (Heap.lt_size e) (Nat.le_trans I.ok.bsz z)) (Nat.lt_irrefl _)
theorem turn_zipT {P : Program} {w : World} {K : PySem.W.Frag} {els : List Expr} {kx} {tp : Pos} (a b z TI TO i1 i2 : Addr) (h1 : TI ≠ TO) (h2 : i1 ≠ i2) : Turn P w K (.Tuple els kx tp) (Itz K a b) [z, TI, TO, i1, i2] z (fun i h => ZipT h z TI TO i1 i2 a b i) where
  mem := by simp
  obj := fun i h st c hc => by
    obtain ⟨hz, hti, ⟨p0, p1, hto⟩, ⟨o1, e1, c1, d1⟩, ⟨o2, e2, c2, d2⟩⟩ := st
    simp only [List.mem_cons, List.not_mem_nil, or_false] at hc
    rcases hc with rfl | rfl | rfl | rfl | rfl
    · exact ⟨_, hz, fun v q => by cases q⟩
    · exact ⟨_, hti, fun v q => by cases q⟩
    · exact ⟨_, hto, fun v q => by cases q⟩
    · exact ⟨_, e1, fun v q => by rw [d1] at q; cases q⟩
    · exact ⟨_, e2, fun v q => by rw [d2] at q; cases q⟩
  keep := fun i h h' st k => by
    obtain ⟨hz, hti, ⟨p0, p1, hto⟩, ⟨o1, e1, r1⟩, ⟨o2, e2, r2⟩⟩ := st
    exact ⟨k _ (by simp) _ hz, k _ (by simp) _ hti, ⟨p0, p1, k _ (by simp) _ hto⟩, ⟨o1, k _ (by simp) _ e1, r1⟩, ⟨o2, k _ (by simp) _ e2, r2⟩⟩
  item := by
    intro X hP hw hK hc i pins s σ H E I hf st hg
    subst hP hw hK
    obtain ⟨xs, ys, x, y, hqa, hqb, hx, hy⟩ := hg
    obtain ⟨its, rv, p, _⟩ := I.tuple hqa
    obtain ⟨jts, rw', p', _⟩ := I.tuple hqb
    obtain ⟨u, hu, ru⟩ := rv.get hx
    obtain ⟨v, hv, rvv⟩ := rw'.get hy
    have D := zipNe_of st h1 h2
    obtain ⟨hz, hti, ⟨p0, p1, hto⟩, hi1, hi2⟩ := id st
    have apart : ∀ {t : Addr} {zs : List V}, SqT X.K H t zs → t ≠ z ∧ t ≠ TO := fun hq => ⟨SqT.fpNe I hq (hf z (by simp)), SqT.fpNe I hq (hf TO (by simp))⟩
    refine zipT_item D st p p' (apart hqa) (apart hqb) (by simpa using hu) (by simpa using hv) fun g k1 k2 k3 k4 k5 k6 k7 => ?_
    refine ⟨_, rfl, wpAny_letOwnedTupleGo_zip k1 fun g2 l1 s2 => ?_⟩
    have hne0 : s.heap.objs.size ≠ z := Nat.ne_of_gt (Heap.lt_size hz)
    have keep : ∀ c o, c ∉ [z, TI, TO, i1, i2] → s.heap.get? c = some o → g2.get? c = some o := fun c o hc e => s2.extBut _ _ (fun q => hc (by simp [q])) (k7 c o (fun q => hc (by simp [q])) (fun q => hc (by simp [q])) (fun q => hc (by simp [q])) (fun q => hc (by simp [q])) e)
    refine ⟨.ref s.heap.objs.size, _, I.turnedT (h' := g2) (t' := s.toks) (xs := [x, y]) hf keep (.cons ru (.cons rvv .nil)) ⟨_, s2.extBut _ _ hne0 k6, rfl, ⟨_, rfl⟩, rfl, rfl⟩ (by show 2 ≤ sizeLine; decide), rfl,
      ⟨_, x, y, I.hok.fresh (Nat.le_refl _), rfl, rfl, fun as bs ha hb => ⟨by rw [I.tuple_inj ha hqa]; exact hx, by rw [I.tuple_inj hb hqb]; exact hy⟩⟩, ⟨l1, s2.extBut _ _ D.az k2, ⟨_, _, s2.extBut _ _ D.bz k3⟩, k4.extBut s2.extBut D.cz, k5.extBut s2.extBut D.dz⟩, fun c hc => ?_⟩
    have : c < s.heap.objs.size := by
      obtain ⟨o1, e1, _⟩ := hi1
      obtain ⟨o2, e2, _⟩ := hi2
      simp only [List.mem_cons, List.not_mem_nil, or_false] at hc
      rcases hc with rfl | rfl | rfl | rfl | rfl
      · exact Heap.lt_size hz
      · exact Heap.lt_size hti
      · exact Heap.lt_size hto
      · exact Heap.lt_size e1
      · exact Heap.lt_size e2
    rw [upd_ne (Nat.ne_of_lt this)]
    exact (hf c hc).1
  done := by
    intro X hP hw hK hc i pins s σ H E I hf st hg
    subst hP hw hK
    obtain ⟨xs, ys, hqa, hqb, hx⟩ := hg
    obtain ⟨its, rv, p, _⟩ := I.tuple hqa
    obtain ⟨jts, rw', p', _⟩ := I.tuple hqb
    have D := zipNe_of st h1 h2
    have apart : ∀ {t : Addr} {zs : List V}, SqT X.K H t zs → t ≠ z ∧ t ≠ TO := fun hq => ⟨SqT.fpNe I hq (hf z (by simp)), SqT.fpNe I hq (hf TO (by simp))⟩
    refine zipT_end (I.ok.hd hc) D st p p' (apart hqa) (apart hqb) (hx.elim (fun q => .inl (by simpa using rv.none_of q)) fun q => .inr (by simpa using rw'.none_of q)) fun g k => ⟨rfl, ?_⟩
    exact I.turnedN (t' := s.toks) hf fun c o hc e => k c o (fun q => hc (by simp [q])) (fun q => hc (by simp [q])) (fun q => hc (by simp [q])) (fun q => hc (by simp [q])) e
  self := fun _ _ _ _ _ st h => wpAny_pyIter_zip st.z h
section
variable {X : Cx}
def iZip (K : PySem.W.Frag) (ta : TA) : TI := fun σ H R => ta σ H fun vs H1 => ∃ a b, vs = [.ref a, .ref b] ∧ (∃ xs, SqT K H1 a xs) ∧ (∃ ys, SqT K H1 b ys) ∧ R (Itz K a b) H1
theorem pi_zipT {els : List Expr} {kx} {tp : Pos} {l l' : Expr} {ta : TA} {p pos : Pos} (hg : Gl X "zip") (hm : X.mg "zip" = none) (ha : PA X [l, l'] ta) (hs : starEach [l, l'] X.env = [(false, eval l X.env), (false, eval l' X.env)] := by rfl) (hs2 : starEach [l'] X.env = [(false, eval l' X.env)] := by rfl) :
    PI X (.Tuple els kx tp) (.Call (.Name "zip" p) [l, l'] [] pos) (iZip X.K ta) := by
  intro pins s σ H R I h
  refine Call_ (ld_blt I hg hm boot_zip (PyProof.Rows.callWith_type1 (thn (ha pos pins s σ H _ I h) fun us s1 ⟨vs, H1, I1, r1, q1⟩ => ?_) (by rw [hs, hs2]) (by rw [hs2]; rfl)))
  obtain ⟨a, b, rfl, ⟨xs, hqa⟩, ⟨ys, hqb⟩, q⟩ := q1
  obtain ⟨u, v, rfl, ru, rv⟩ := vals2 r1
  cases (show u = Value.ref a from ru)
  cases (show v = Value.ref b from rv)
  obtain ⟨its, _, p1, _⟩ := I1.tuple hqa
  obtain ⟨jts, _, p2, _⟩ := I1.tuple hqb
  refine call_zipT (show s1.heap.IsTuple a its.toArray from p1) (show s1.heap.IsTuple b jts.toArray from p2) fun h' S hk => wpAny_pyIter_zip S.z ?_
  have I2 : Inv X pins σ H1 { s1 with heap := h' } := I1.kept (t' := s1.toks) hk
  refine ⟨_, _, _, _, H1, rfl, I2, turn_zipT a b _ _ _ _ _ (Nat.ne_of_lt (Nat.lt_succ_self _)) (Nat.ne_of_lt (Nat.lt_succ_self _)), S, fun c hc => ?_, q⟩
  have : s1.heap.objs.size ≤ c := by
    simp only [List.mem_cons, List.not_mem_nil, or_false] at hc
    rcases hc with rfl | rfl | rfl | rfl | rfl <;> first | exact Nat.le_refl _ | exact Nat.le_add_right _ _ | exact Nat.le_succ _ | exact Nat.le_succ_of_le (Nat.le_add_right _ _)
  exact I1.fpOk this (I1.hok.fresh this)
end
end L2


namespace L2
open PySem PySem.Spec PyProof.Rows

theorem fm_congr {α β : Type} {f g : α → Option β} : ∀ {l : List α}, (∀ x ∈ l, f x = g x) → l.filterMap f = l.filterMap g
  | [], _ => rfl
  | a :: l, h => by rw [List.filterMap_cons, List.filterMap_cons, h a List.mem_cons_self, fm_congr fun x hx => h x (List.mem_cons_of_mem _ hx)]
theorem rev_pick (its : List Value) : (List.range its.length).filterMap (fun (k : Nat) => its.toArray[its.length - 1 - k]?) = its.reverse := by
  apply List.ext_getElem?
  intro i
  have e : (List.range its.length).filterMap (fun (k : Nat) => its.toArray[its.length - 1 - k]?) = (List.range its.length).map fun k => its.getD (its.length - 1 - k) .none := by
    rw [← List.filterMap_eq_map]
    apply fm_congr
    intro k hk
    have hk' := List.mem_range.mp hk
    have h1 : its.length - 1 - k < its.length := by omega
    simp [h1]
  rw [e, List.getElem?_map]
  by_cases h : i < its.length
  · rw [List.getElem?_range h, List.getElem?_reverse h]
    have h1 : its.length - 1 - i < its.length := by omega
    simp [h1]
  · rw [List.getElem?_eq_none (by simpa using h), List.getElem?_eq_none (by simpa using h)]
    rfl
section
variable {X : Cx} {e : Expr} {te : TE} {p2 pos : Pos}
def RvR (X : Cx) (r : V → Hp → VK → Prop) : Prop :=
  ∀ (pins : List (Addr × Obj)) (s : Shared) (σ : St) (H : Hp) (x : V) (v vs : Value) (sl : Addr) (Q : VK), Inv X pins σ H s → RelV x v → s.heap.IsSliceOf sl .none .none vs → IsPart vs (some (-1)) → r x H Q →
    ∃ T id, typeLookup (.type T) "__getitem__" = pure (some (.builtin id)) ∧ s.TypeIs v T ∧ wpAny (model X.prog X.w) X.A (getItem v (.ref sl)) (EP X pins σ Q) X.xe s
theorem pe_rev {r : V → Hp → VK → Prop} {j : Nat} {p3 p4 : Pos} (hr : RvR X r) (he : PE X e te) : PE X (.Subscript e (.Slice none none (some (.UnaryOp .USub (.Constant (.int 1) j p3) p4)) p2) pos) (tUn r te) := by
  intro pins s σ H Q I h
  have hst : PO X (some (.UnaryOp .USub (.Constant (.int 1) j p3) p4)) (tPart (tUn (rU fun i => .int (-i)) (tC (.int 1)))) := po_some (pe_un un_neg pe_int)
  refine Subscript_ (thn (he pins s σ H _ I h) fun v s1 ⟨x, H1, I1, r1, q1⟩ => ?_)
  refine wpAny_Slice (thn (po_none pins s1 σ H1 (fun o H' => o = none ∧ r x H' Q) I1 ⟨rfl, q1⟩) fun vl s2 ⟨l, H2, I2, pl, el, q2⟩ => thn (po_none pins s2 σ H2 (fun o H' => o = none ∧ r x H' Q) I2 ⟨rfl, q2⟩) fun vu s3 ⟨u, H3, I3, pu, eu, q3⟩ => ?_)
  subst el eu
  refine thn (hst pins s3 σ H3 (fun o H' => o = some (-1) ∧ r x H' Q) I3 ⟨1, rfl, -1, rfl, rfl, q3⟩) fun vs s4 ⟨o, H4, I4, ps, eo, q4⟩ => ?_
  subst eo
  cases pl
  cases pu
  have I5 : Inv X pins σ H4 { s4 with heap := s4.heap.push { cls := .type "slice", data := .fields #[.none, .none, vs] } } := I4.kept (t' := s4.toks) fun b ob q => Heap.get?_push_of_some _ q
  obtain ⟨T, id, hT, ht, hg⟩ := hr pins { s4 with heap := s4.heap.push { cls := .type "slice", data := .fields #[.none, .none, vs] } } σ H4 x v vs s4.heap.objs.size Q I5 r1 (Heap.IsSliceOf.new ..) ps q4
  show wpAny (model X.prog X.w) X.A (subscriptTail e (.Slice none none (some (.UnaryOp .USub (.Constant (.int 1) j p3) p4)) p2) v (.ref s4.heap.objs.size)) (EP X pins σ Q) X.xe { s4 with heap := s4.heap.push { cls := .type "slice", data := .fields #[.none, .none, vs] } }
  exact tail_any (ops := [v, .ref s4.heap.objs.size]) ht hT hg (by with_unfolding_all rfl)

def rRvL (K : PySem.W.Frag) : V → Hp → VK → Prop := fun x H Q => ∃ a xs, x = .ref a ∧ SqL K H a xs ∧ ∀ p, H p = none → Q (.ref p) (upd H p (.lst xs.reverse))
theorem getItem_tuple_rev {prog : Program} {w : World} {A : Around} {E : Value → Shared → Prop} {s : Shared} {t sl : Addr} {its : List Value} {vs : Value} {Q : Value → Shared → Prop} (ht : IsTup s.heap t its.toArray) (hs : s.heap.IsSliceOf sl .none .none vs) (ps : IsPart vs (some (-1)))
    (h : Q (.ref s.heap.objs.size) { s with heap := s.heap.push { cls := .type "tuple", data := .seq its.reverse.toArray } }) (hsz : its.length ≤ sizeLine) : wpAny (model prog w) A (getItem (.ref t) (.ref sl)) Q E s := by
  have htake : sizeOk (.seq its.reverse.toArray) := by
    show its.reverse.toArray.size ≤ sizeLine
    rw [List.size_toArray, List.length_reverse]; exact hsz
  obtain ⟨os, hos, hcs, hds⟩ := id hs
  have hTs : s.TypeIs (.ref sl) "slice" := ⟨os, hos, hcs⟩
  unfold getItem
  try with_reducible refine wpAny_holding ?_
  first | refine wpAny_bind (wpAny_pure ?_) | skip
  refine wpAny_bind (wpAny_sequenceKey ht.typeIs (by decide) ?_)
  refine wpAny_bind (wpAny_callSpecial?_slot (name := Str.ofString "__getitem__") ht.typeIs PyProof.Rows.slot_tuple_getitem
    (wpAny_call_entry PyProof.Rows.slot_tuple_getitem ht.typeIs entry_tuple_getitem ?_ (args_tuple_getitem _ _)))
  show wpAny _ _ (Builtin.Tuple.tupleItemsOf (.ref t) >>= _) _ _ s
  refine wpAny_bind (tupleItemsOf_ ht ?_)
  refine wpAny_bind (wpAny_typeOf hTs ?_)
  rw [if_pos (by decide)]
  have hap : ∀ {Q' : Int × Int × Nat → Shared → Prop}, Q' ((its.length : Int) - 1, -1, its.length) s → wpAny (model prog w) A.in1 (Builtin.Slice.sliceApplied (.ref sl) (pure ((its.toArray.size : Nat) : Int))) Q' E s := fun {Q'} q => by
    unfold Builtin.Slice.sliceApplied Builtin.Slice.sliceFields
    refine wpAny_bind (wpAny_bind (wpAny_field hos hds (x := .none) rfl (wpAny_bind (wpAny_field hos hds (x := .none) rfl (wpAny_bind (wpAny_field hos hds (x := vs) rfl (wpAny_pure ?_)))))))
    refine wpAny_bind (HT.slicePart_ ps ?_)
    show wpAny _ _ (if ((-1 : Int) == 0) = true then _ else _) _ _ s
    rw [if_neg (by decide)]
    refine wpAny_bind (slicePart_none (wpAny_bind (slicePart_none (wpAny_bind (wpAny_pure ?_)))))
    have e1 : Builtin.Slice.sliceAdjust none none (-1) ((its.toArray.size : Nat) : Int) = ((its.length : Int) - 1, -1) := by
      unfold Builtin.Slice.sliceAdjust; simp
    have e2 : Builtin.Slice.slicePlaces ((its.length : Int) - 1) (-1) (-1) = its.length := by
      unfold Builtin.Slice.slicePlaces
      rw [if_neg (by decide)]
      by_cases h : (its.length : Int) - 1 > -1
      · rw [if_pos h, show (- -1 : Int) = 1 by decide, Int.ediv_one]; omega
      · rw [if_neg h]; omega
    show wpAny _ _ (match Builtin.Slice.sliceAdjust none none (-1) ((its.toArray.size : Nat) : Int) with | (lo, hi) => pure (lo, (-1 : Int), Builtin.Slice.slicePlaces lo hi (-1))) _ _ s
    rw [e1]
    show wpAny _ _ (pure ((its.length : Int) - 1, (-1 : Int), Builtin.Slice.slicePlaces ((its.length : Int) - 1) (-1) (-1))) _ _ s
    rw [e2]
    exact wpAny_pure q
  refine wpAny_bind (hap ?_)
  show wpAny _ _ (if ((its.length : Int) - 1 == 0 && (-1 : Int) == 1 && its.length == its.toArray.size) = true then _ else _) _ _ s
  rw [if_neg (by simp)]
  have e3 : (List.filterMap (fun (k : Nat) => its.toArray[((its.length : Int) - 1 + (k : Int) * -1).toNat]?) (List.range its.length)) = its.reverse := by
    rw [← rev_pick its]
    apply fm_congr
    intro k hk
    have := List.mem_range.mp hk
    have e : ((its.length : Int) - 1 + (k : Int) * -1).toNat = its.length - 1 - k := by omega
    rw [e]
  rw [e3]
  first
    | exact wpAny_bind (m := Builtin.Tuple.tupleExact _) (wpAny_newObj_type (wpAny_pure ⟨_, rfl, wpAny_pure h⟩) htake)
    | exact wpAny_bind (m := Builtin.Tuple.tupleExact _) (wpAny_newObj_type (wpAny_bind (wpAny_pure (wpAny_pure ⟨_, rfl, wpAny_pure h⟩))) htake)
    | exact wpAny_bind (wpAny_bind (m := Builtin.Tuple.tupleExact _) (wpAny_newObj_type (wpAny_pure (wpAny_pure ⟨_, rfl, wpAny_pure h⟩)) htake))
    | exact wpAny_bind (wpAny_bind (m := Builtin.Tuple.tupleExact _) (wpAny_newObj_type (wpAny_pure ⟨_, rfl, wpAny_pure h⟩) htake))
def rRvT (K : PySem.W.Frag) : V → Hp → VK → Prop := fun x H Q => ∃ a xs, x = .ref a ∧ SqT K H a xs ∧ ∀ p, H p = none → Q (.ref p) (upd H p (.tup xs.reverse))
theorem rv_tup : RvR X (rRvT X.K) := by
  intro pins s σ H x v vs sl Q I rx hs ps h
  obtain ⟨a, xs, rfl, hx, q⟩ := h
  cases rx
  obtain ⟨its, r, ht, hz⟩ := I.tuple hx
  have hlen := r.length
  refine ⟨"tuple", _, PyProof.Rows.slot_tuple_getitem.lookup, ht.typeIs, ?_⟩
  refine getItem_tuple_rev ht hs ps ?_ (by omega)
  refine ⟨.ref s.heap.objs.size, _, I.laid (t' := s.toks) (o := .tup xs.reverse) (fun b ob q => Heap.get?_push_of_some _ q) (Nat.le_refl _) ?_, rfl, q _ (I.hok.fresh (Nat.le_refl _))⟩
  exact ⟨by rw [List.length_reverse]; exact hz, _, r.reverse, PTup.new⟩
end
end L2


namespace L2
open PySem PySem.Spec PyProof.Rows
section
variable {X : Cx}
def rRange1 : List V → Hp → VK → Prop := fun xs H Q => ∃ j : Int, xs = [.int j] ∧ ∀ p, H p = none → Q (.ref p) (upd H p (.rng 0 j))
def rListRng : List V → Hp → VK → Prop := fun xs H Q => ∃ (a : Addr) (j : Int), xs = [.ref a] ∧ H a = some (.rng 0 j) ∧ 0 ≤ j ∧ j ≤ 1000 ∧ ∀ p, H p = none → Q (.ref p) (upd H p (.lst (rangeV 0 j.toNat)))
def rCatTT (K : PySem.W.Frag) : R2 := fun x y H Q => ∃ a b xs ys, x = .ref a ∧ y = .ref b ∧ SqT K H a xs ∧ SqT K H b ys ∧ xs.length + ys.length ≤ sizeLine ∧
  ∀ p H', Same H H' → SqT K H' p (xs ++ ys) → (H' p = H p ∨ H' p = some (.tup (xs ++ ys))) → Q (.ref p) H'
end
end L2


namespace L2
open PySem PySem.Spec PyProof.Rows

def cscopeB (sc : Scope) (N : List Str) (scope : Scope) (N' : List Str) (n : Nat) (ix : List Nat) : Bool :=
  scope.kind == .function && scope.names.all (fun y => y.2 != .cell) && scope.names.all (fun y => y.2 != .local || scope.names.lookup y.1 == some .local) &&
  scope.names.all (fun y => y.2 != .free || (sc.names.lookup y.1 == some .cell || sc.names.lookup y.1 == some .free)) && scope.names.all (fun y => y.2 != .free || scope.names.lookup y.1 != some .local) &&
  N'.length == n + ix.length && (List.range ix.length).all fun j => match ix[j]?, N'[n + j]? with
    | some i, some x => N[i]? == some x && scope.names.contains (x, .free)
    | _, _ => false
theorem CompScope.of {X : Cx} {sc : Scope} {N : List Str} {scope : Scope} {N' : List Str} {n : Nat} {ix : List Nat} (h : cscopeB sc N scope N' n ix = true) (hs : X.env.scope = sc) (hN : X.N = N) : CompScope X scope N' n ix := by
  unfold cscopeB at h
  simp only [Bool.and_eq_true, List.all_eq_true] at h
  obtain ⟨⟨⟨⟨⟨⟨h1, h2⟩, h3⟩, h4⟩, h5⟩, h6⟩, h7⟩ := h
  subst hs hN
  refine ⟨eq_of_beq h1, fun y hy => by simpa using h2 y hy, fun y hy hl => ?_, fun y hy hf => ?_, fun y hy hl => ?_, eq_of_beq h6, fun j i e => ?_⟩
  · have := h3 y hy
    rw [hl] at this
    simpa using this
  · have := h4 y hy
    rw [hf] at this
    simpa using this
  · have := h5 _ hy
    rw [hl] at this
    simp at this
  · have hj : j < ix.length := (List.getElem?_eq_some_iff.mp e).1
    have := h7 j (List.mem_range.mpr hj)
    rw [e] at this
    cases hx : N'[n + j]? with
    | none => rw [hx] at this; simp at this
    | some x =>
      rw [hx] at this
      simp only [Bool.and_eq_true] at this
      exact ⟨x, rfl, eq_of_beq this.1, by simpa using this.2⟩

structure Cal (P : Program) (w : World) (K : PySem.W.Frag) (mg : Str → Option Value) (base : Heap) (k : Nat) (x : Str) (ps : List Str) (sp : Sp) : Prop where
  ex : ∃ f fd, FnOk P w K mg base CX0 k f fd ps sp ∧ mg x = some (.ref f) ∧ PySem.W.keepIn K (.ref f) = true ∧ Binds K fd ps []
section
variable {X : Cx} {k : Nat} {ps : List Str} {sp : Sp} {x : Str} {p pos : Pos} {e : Expr} {es : List Expr} {t : TA}
theorem pe_cal (C : Cal X.prog X.w X.K X.mg X.base k x ps sp) (hr : Room k X.A) (hg : Gl X x) (ha : PA X (e :: es) t) (hdb : (x == ("__debug__" : Str)) = false := by decide) (he : starEach (e :: es) X.env = (false, eval e X.env) :: starEach es X.env := by rfl)
    (hpl : (backTo pos (starEach es X.env)).any (·.1) = false := by rfl) : PE X (.Call (.Name x p) (e :: es) [] pos) (fun σ H Q => t σ H fun vs H1 => sp vs H1 Q E0) := by
  obtain ⟨f, fd, F, hm, hk, hb⟩ := C.ex
  exact (pe_call F hr hg hm hk hb .nil pass0 ha hdb he hpl).mono fun σ H Q q => by
    have e : (fun (vs : List V) (H1 : Hp) => sp (vs ++ []) H1 Q E0) = fun vs H1 => sp vs H1 Q E0 := by funext vs H1; rw [List.append_nil]
    show t σ H fun vs H1 => sp (vs ++ []) H1 Q E0
    rw [e]
    exact q
end
structure Top (mg : Str → Option Value) : Prop where
  n_len : mg "len" = none
  n_tuple : mg "tuple" = none
  n_list : mg "list" = none
  n_range : mg "range" = none
  n_int : mg "int" = none
  n_bool : mg "bool" = none
  n_isinstance : mg "isinstance" = none
  n_all : mg "all" = none
  n_zip : mg "zip" = none
  n_enumerate : mg "enumerate" = none
  n_min : mg "min" = none
  n_sum : mg "sum" = none
  n_max : mg "max" = none
  n_abs : mg "abs" = none
  n_sorted : mg "sorted" = none
end L2


namespace L2
open PySem PySem.Spec PyProof.Rows
section
variable {X : Cx}
def rCat2 : R2 := fun x y H Q => ∃ a b xs ys, x = .ref a ∧ y = .ref b ∧ H a = some (.tup xs) ∧ H b = some (.tup ys) ∧ xs.length + ys.length ≤ sizeLine ∧ ∀ p H', Same H H' → H' p = some (.tup (xs ++ ys)) → Q (.ref p) H'
theorem op_cat2 : OpR X (binaryOp .Add) rCat2 := by
  intro pins s σ H x y v u Q I rx ry h
  obtain ⟨a, b, xs, ys, rfl, rfl, ha, hb, hz, q⟩ := h
  have ha' : SqT X.K H a xs := SqT.of ha
  have hb' : SqT X.K H b ys := SqT.of hb
  by_cases hx : xs = []
  · subst hx
    cases rx
    cases ry
    obtain ⟨its, r1, p1, _⟩ := I.tuple ha'
    obtain ⟨its2, r2, p2, _⟩ := I.tuple hb'
    cases r1
    obtain ⟨⟨cls, dd, data, sl⟩, ho, hc, n, hd⟩ := id p1
    obtain ⟨⟨cls2, dd2, data2, sl2⟩, ho2, hc2, n2, hd2⟩ := id p2
    simp only at hc hd hc2 hd2
    subst hc hd hc2 hd2
    exact concat_meets ⟨_, ho, rfl⟩ ⟨_, ho2, rfl⟩ noFill_tuple_add seq_tuple_add PySem.F.slot_tuple_add PySem.F.entry_tuple_add (PySem.F.args_tuple_add_2 _ _)
      (tuple_addW0 a b #[] its2.toArray n n2 dd dd2 sl sl2 rfl) ⟨ho, ho2, ⟨.ref b, H, I, rfl, q b H (Same.refl H) hb⟩⟩
  · refine op_catT pins s σ H _ _ v u Q I rx ry ⟨a, b, xs, ys, rfl, rfl, ha', hb', hx, hz, fun hy => ?_, fun _ p hp => ?_⟩
    · subst hy
      exact q a H (Same.refl H) (by rw [List.append_nil]; exact ha)
    · exact q p _ (same_upd hp) upd_same
end
def spU (f : List Int → List Int) : Sp := fun vs H Q _ => ∃ (a : Addr) (ns : List Int), vs = [.ref a] ∧ H a = some (.tup (ns.map V.int)) ∧ ns.length ≤ 1000 ∧ ∀ p H', Same H H' → H' p = some (.tup ((f ns).map V.int)) → Q (.ref p) H'
def spUI (f : List Int → Int → List Int) : Sp := fun vs H Q _ => ∃ (a : Addr) (ns : List Int) (k : Int), vs = [.ref a, .int k] ∧ H a = some (.tup (ns.map V.int)) ∧ ns.length ≤ 1000 ∧ ∀ p H', Same H H' → H' p = some (.tup ((f ns k).map V.int)) → Q (.ref p) H'
def spB (f : List Int → List Int → List Int) : Sp := fun vs H Q _ => ∃ (a b : Addr) (ns ms : List Int), vs = [.ref a, .ref b] ∧ H a = some (.tup (ns.map V.int)) ∧ H b = some (.tup (ms.map V.int)) ∧ ns.length ≤ 500 ∧ ms.length ≤ 500 ∧
  ∀ p H', Same H H' → H' p = some (.tup ((f ns ms).map V.int)) → Q (.ref p) H'
theorem small1 {n : Nat} (h : n ≤ 1000) : n < sizeLine := Nat.lt_of_le_of_lt h (by decide)
theorem mapI_len (ns : List Int) : (ns.map V.int).length = ns.length := List.length_map ..
theorem filter_true {α : Type} (l : List α) : l.filter (fun _ => true) = l := by simp
end L2


namespace L2
open PySem PySem.Spec PyProof.Rows
def Hand (H : Hp) (p q : Addr) : Prop := ∃ (ns : List Int) (seed : Int), H p = some (.lst [.ref q, .int seed]) ∧ H q = some (.lst (ns.map V.int)) ∧ (∀ n ∈ ns, 0 ≤ n) ∧ ns.length ≤ 63
def Keep (p q : Addr) (H H' : Hp) : Prop := ∀ b o, H b = some o → b ≠ p → b ≠ q → H' b = some o
theorem Keep.refl (p q : Addr) (H : Hp) : Keep p q H H := fun _ _ h _ _ => h
theorem Keep.trans {p q : Addr} {H H1 H2 : Hp} (a : Keep p q H H1) (b : Keep p q H1 H2) : Keep p q H H2 := fun c o h h1 h2 => b c o (a c o h h1 h2) h1 h2
theorem Same.keep {p q : Addr} {H H' : Hp} (s : Same H H') : Keep p q H H' := fun b o h _ _ => s b o h
def spHand (K : PySem.W.Frag) : Sp := fun vs H Q _ => ∃ (a : Addr) (ns : List Int), vs = [.ref a] ∧ SqL K H a (ns.map V.int) ∧ ns.length ≤ 63 ∧ ∀ p q H', Same H H' → Hand H' p q → H p = none → H q = none → Q (.ref p) H'
def spPick : Sp := fun vs H Q _ => ∃ (p q : Addr) (m : Int), vs = [.ref p, .int m] ∧ 0 < m ∧ m < 1073741824 ∧ Hand H p q ∧ ∀ d H', 0 ≤ d → d < m → Hand H' p q → Keep p q H H' → Q (.int d) H'
def spSize : Sp := fun vs H Q _ => ∃ (p q : Addr) (m : Int), vs = [.ref p, .int m] ∧ 9 ≤ m ∧ m < 1000 ∧ Hand H p q ∧ ∀ d H', 0 ≤ d → d ≤ m → Hand H' p q → Keep p q H H' → Q (.int d) H'
def num0 (n : Nat) : List Int := (List.range n).map fun (i : Nat) => (i : Int)
def spAny : Sp := fun vs H Q _ => ∃ (p q : Addr) (m : Nat), vs = [.ref p, .int m] ∧ m ≤ 500 ∧ Hand H p q ∧ ∀ (l : Addr) (ys : List Int) (H' : Hp), ys.Perm (num0 m) → H l = none → H' l = some (.lst (ys.map V.int)) → Hand H' p q → Keep p q H H' → Q (.ref l) H'
def spOrder : Sp := fun vs H Q _ => ∃ (p q : Addr) (m : Nat), vs = [.ref p, .int m] ∧ m ≤ 500 ∧ Hand H p q ∧ ∀ (l : Addr) (ys : List Int) (H' : Hp), ys.Perm (num0 m) → H' l = some (.tup (ys.map V.int)) → Hand H' p q → Keep p q H H' → Q (.ref l) H'
end L2


namespace L2
open PySem PySem.Spec PyProof.Rows
theorem rangeV_num0 (n : Nat) : rangeV 0 n = (num0 n).map V.int := by
  unfold rangeV num0
  rw [List.map_map]
  apply List.map_congr_left
  intro i _
  show V.int (0 + (i : Int)) = V.int (i : Int)
  rw [Int.zero_add]
theorem num0_mem {n : Nat} {x : Int} (h : x ∈ num0 n) : 0 ≤ x ∧ x < n := by
  unfold num0 at h
  obtain ⟨i, hi, rfl⟩ := List.mem_map.mp h
  have := List.mem_range.mp hi
  omega
end L2


namespace L2
open PySem PySem.Spec PyProof.Rows
theorem kit_tt {K : PySem.W.Frag} {a b : String} {r : Bool} (h : (if (Value.type a == Value.type b) = true then some true else if PySem.W.kitMeta b = true then (fastBuiltinMro a).map (·.contains (Value.type b)) else none) = some r) : PySem.W.kitOne K (.type a) (.type b) = some r := h
theorem kit_bool_bool {K : PySem.W.Frag} : PySem.W.kitOne K (.type "bool") (.type "bool") = some true := kit_tt (by decide +kernel)
theorem pg_pair {X : Cx} {i j : Nat} {x y : Str} {px py pt : Pos} {kt : Nat} (hc : X.calm = true) (hN : X.N.Nodup) (hi : X.N[i]? = some x) (hj : X.N[j]? = some y) (hx : Loc X.env.scope x) (hy : Loc X.env.scope y) (fx : X.fn x = true ∨ X.env.scope.names.lookup x = some .local) (fy : X.fn y = true ∨ X.env.scope.names.lookup y = some .local) :
    PG X (.Tuple [.Name x px, .Name y py] kt pt) (gTup X.K 2 (gCons (gName i) (gCons (gName j) gNil))) := pg_tup hc (pgs_cons (pg_name hN hi hx fx) (pgs_cons (pg_name hN hj hy fy) pgs_nil))
theorem pg_pairK {X : Cx} (K : PySem.W.Frag) {i j : Nat} {x y : Str} {px py pt : Pos} {kt : Nat} (hK : X.K = K) (hc : X.calm = true) (hN : X.N.Nodup) (hi : X.N[i]? = some x) (hj : X.N[j]? = some y) (hx : Loc X.env.scope x) (hy : Loc X.env.scope y) (fx : X.fn x = true ∨ X.env.scope.names.lookup x = some .local) (fy : X.fn y = true ∨ X.env.scope.names.lookup y = some .local) :
    PG X (.Tuple [.Name x px, .Name y py] kt pt) (gTup K 2 (gCons (gName i) (gCons (gName j) gNil))) := hK ▸ pg_tup hc (pgs_cons (pg_name hN hi hx fx) (pgs_cons (pg_name hN hj hy fy) pgs_nil))
def Alike (H : Hp) : Nat → V → V → Prop
  | 0, x, y => ∃ a : Int, x = .int a ∧ y = .int a
  | n + 1, x, y => (∃ a : Int, x = .int a ∧ y = .int a) ∨ ∃ a b xs ys, x = .ref a ∧ y = .ref b ∧ H a = some (.tup xs) ∧ H b = some (.tup ys) ∧ xs.length ≤ 1000 ∧ Paired (Alike H n) xs ys
def spSame (n : Nat) : Sp := fun vs H Q _ => ∃ x y, vs = [x, y] ∧ Alike H n x y ∧ ∀ H', Same H H' → Q (.bl true) H'

end L2


namespace L2
open PySem PySem.Spec PyProof.Rows
theorem mem_rangeV {n : Nat} {x : V} (h : x ∈ rangeV 0 n) : ∃ k : Int, x = .int k ∧ 0 ≤ k ∧ k < n := by
  rw [rangeV_num0] at h
  obtain ⟨k, hk, rfl⟩ := List.mem_map.mp h
  exact ⟨k, rfl, num0_mem hk⟩
end L2


namespace L2
open PySem PySem.Spec PyProof.Rows
structure Def (K : PySem.W.Frag) (x : Str) (st : Stmt) : Prop where
  ex : ∃ (f : Addr) (oc : Value) (od an : Option Addr) (kV doc pm cdv ct : Value) (osl : Array (Option Value)), PySem.W.nsIn K mainGlobals x = some (some (.ref f)) ∧
    K.lookup f = some ⟨oc, od, .func (PySem.W.fnOf x x (defArgs st) (defBody st) (defScope st) .none kV doc pm an cdv ct), osl⟩ ∧ PySem.W.codeIn K cdv x = true ∧ PySem.W.keepIn K (.ref f) = true
section
variable {K : PySem.W.Frag} {h : Heap} {mg : Str → Option Value} {x : Str} {st : Stmt}
theorem Def.of {f : Addr} {oc : Value} {od an : Option Addr} {kV doc pm cdv ct : Value} {osl : Array (Option Value)} (a : PySem.W.nsIn K mainGlobals x = some (some (.ref f)))
    (l : K.lookup f = some ⟨oc, od, .func (PySem.W.fnOf x x (defArgs st) (defBody st) (defScope st) .none kV doc pm an cdv ct), osl⟩) (c : PySem.W.codeIn K cdv x = true) (k : PySem.W.keepIn K (.ref f) = true) : Def K x st :=
  ⟨f, oc, od, an, kV, doc, pm, cdv, ct, osl, a, l, c, k⟩
theorem Def.fn (D : Def K x st) (X : K.In h) (G : h.Ns mainGlobals mg) : ∃ f fd, Fun K x x st f fd ∧ mg x = some (.ref f) := by
  obtain ⟨f, oc, od, an, kV, doc, pm, cdv, ct, osl, a, l, c, k⟩ := D.ex
  exact ⟨f, _, fun_mk (st := st) l c k, PySem.W.mg_of X G a⟩
end
structure TopK (K : PySem.W.Frag) : Prop where
  k_len : PySem.W.nsIn K mainGlobals "len" = some none
  k_tuple : PySem.W.nsIn K mainGlobals "tuple" = some none
  k_list : PySem.W.nsIn K mainGlobals "list" = some none
  k_range : PySem.W.nsIn K mainGlobals "range" = some none
  k_int : PySem.W.nsIn K mainGlobals "int" = some none
  k_bool : PySem.W.nsIn K mainGlobals "bool" = some none
  k_isinstance : PySem.W.nsIn K mainGlobals "isinstance" = some none
  k_all : PySem.W.nsIn K mainGlobals "all" = some none
  k_zip : PySem.W.nsIn K mainGlobals "zip" = some none
  k_enumerate : PySem.W.nsIn K mainGlobals "enumerate" = some none
  k_min : PySem.W.nsIn K mainGlobals "min" = some none
  k_sum : PySem.W.nsIn K mainGlobals "sum" = some none
  k_max : PySem.W.nsIn K mainGlobals "max" = some none
  k_abs : PySem.W.nsIn K mainGlobals "abs" = some none
  k_sorted : PySem.W.nsIn K mainGlobals "sorted" = some none
theorem TopK.top {K : PySem.W.Frag} {h : Heap} {mg : Str → Option Value} (T : TopK K) (X : K.In h) (G : h.Ns mainGlobals mg) : Top mg :=
  ⟨PySem.W.mg_none_of X G T.k_len, PySem.W.mg_none_of X G T.k_tuple, PySem.W.mg_none_of X G T.k_list, PySem.W.mg_none_of X G T.k_range, PySem.W.mg_none_of X G T.k_int, PySem.W.mg_none_of X G T.k_bool, PySem.W.mg_none_of X G T.k_isinstance,
   PySem.W.mg_none_of X G T.k_all, PySem.W.mg_none_of X G T.k_zip, PySem.W.mg_none_of X G T.k_enumerate, PySem.W.mg_none_of X G T.k_min, PySem.W.mg_none_of X G T.k_sum, PySem.W.mg_none_of X G T.k_max, PySem.W.mg_none_of X G T.k_abs, PySem.W.mg_none_of X G T.k_sorted⟩
end L2


namespace L2
open PySem PySem.Spec PyProof.Rows
open Sem (wp)
open AutoSeq1 (wpAny_loadPart')
section
variable {prog : Program} {w : World} {A : Around} {E : Value → Shared → Prop} {s : Shared}
end
section
variable {X : Cx}
def tBMT (r : V → List V → Hp → VK → Prop) (to : TE) (t : TA) : TE := fun σ H Q => to σ H fun x H1 => (∃ a xs, x = .ref a ∧ H1 a = some (.tup xs)) ∧ t σ H1 fun xs H2 => r x xs H2 Q
def rTIndex : V → List V → Hp → VK → Prop := fun x vs H Q => ∃ (a : Addr) (ns : List Int) (n : Int), x = .ref a ∧ vs = [.int n] ∧ H a = some (.tup (ns.map V.int)) ∧ n ∈ ns ∧ Q (.int (ns.idxOf n)) H
end
end L2


namespace L2
open PySem PySem.Spec PyProof.Rows
open Sem (wp)
open AutoSeq1 (wpAny_loadPart')
section
variable {prog : Program} {w : World} {A : Around} {E : Value → Shared → Prop} {s : Shared}
end
section
variable {X : Cx} {pos : Pos}
def gLst (K : PySem.W.Frag) (n : Nat) (t : TGs) : TG := fun v σ H Q => ∃ a xs, v = .ref a ∧ SqL K H a xs ∧ xs.length = n ∧ t xs σ H Q
end
section
variable {prog : Program} {w : World} {A : Around} {E : Value → Shared → Prop} {s : Shared}
end
section
variable {X : Cx}
def rTupRng : List V → Hp → VK → Prop := fun xs H Q => ∃ (a : Addr) (j : Int), xs = [.ref a] ∧ H a = some (.rng 0 j) ∧ 0 ≤ j ∧ j ≤ 1000 ∧ ∀ p, H p = none → Q (.ref p) (upd H p (.tup (rangeV 0 j.toNat)))
end
end L2


namespace L2
open PySem PySem.Spec PyProof.Rows
def atO (ns : List Int) (x : Int) : Int := ns.getD x.toNat 0
def invO (ns : List Int) : List Int := (num0 ns.length).map fun x => ((ns.idxOf x : Nat) : Int)
def compO (ns ms : List Int) : List Int := ms.map (atO ns)
def Ord (m : Nat) (ns : List Int) : Prop := ns.Perm (num0 m)
section
variable {m : Nat} {ns ms ks : List Int} {x : Int}
end
def spUndone : Sp := fun vs H Q _ => ∃ (a : Addr) (ns : List Int) (m : Nat), vs = [.ref a] ∧ H a = some (.tup (ns.map V.int)) ∧ Ord m ns ∧ m ≤ 500 ∧ ∀ p H', Same H H' → H' p = some (.tup ((invO ns).map V.int)) → Q (.ref p) H'
def spAfter : Sp := fun vs H Q _ => ∃ (a b : Addr) (ns ms : List Int), vs = [.ref a, .ref b] ∧ H a = some (.tup (ns.map V.int)) ∧ H b = some (.tup (ms.map V.int)) ∧ ns.length ≤ 500 ∧ ms.length ≤ 500 ∧ (∀ y ∈ ms, 0 ≤ y ∧ y < ns.length) ∧
  ∀ p H', Same H H' → H' p = some (.tup ((compO ns ms).map V.int)) → Q (.ref p) H'
end L2


namespace L2
open PySem PySem.Spec PyProof.Rows
def itO (ns : List Int) (x : Int) : Nat → Int
  | 0 => x
  | k + 1 => atO ns (itO ns x k)
def orbO (ns : List Int) (x : Int) (k : Nat) : List Int := (List.range k).map (itO ns x)
structure IsRound (ns : List Int) (x : Int) (row : List Int) : Prop where
  ex : ∃ k, row = orbO ns x (k + 1) ∧ itO ns x (k + 1) = x
  nd : row.Nodup
section
variable {m : Nat} {ns : List Int} {x y : Int}
open Classical in
noncomputable def rowO (ns : List Int) (x : Int) : List Int := if h : ∃ row, IsRound ns x row then choose h else []
noncomputable def stepO (ns : List Int) (acc : List (List Int)) (f : Int) : List (List Int) := if f ∈ acc.flatten then acc else acc ++ [rowO ns f]
noncomputable def walkO (ns fs : List Int) : List (List Int) := fs.foldl (stepO ns) []
noncomputable def roundsO (ns : List Int) : List (List Int) := walkO ns (num0 ns.length)
structure MetO (ns : List Int) (m : Nat) (rows : List (List Int)) : Prop where
  nd : rows.flatten.Nodup
  rng : ∀ y ∈ rows.flatten, 0 ≤ y ∧ y < m
  clo : ∀ y ∈ rows.flatten, atO ns y ∈ rows.flatten
  row : ∀ r ∈ rows, ∃ f : Int, 0 ≤ f ∧ f < m ∧ r = rowO ns f
def flipO (r : List Int) : List Int := r.take 1 ++ (r.drop 1).reverse
end
end L2


namespace L2
open PySem PySem.Spec PyProof.Rows
section
variable {X : Cx}
def rExtendT : V → List V → Hp → VK → Prop := fun x vs H Q => ∃ l b xs zs, x = .ref l ∧ vs = [.ref b] ∧ H l = some (.lst xs) ∧ H b = some (.tup zs) ∧ xs.length + zs.length ≤ sizeLine ∧ Q .non (upd H l (.lst (xs ++ zs)))
def rSorted : List V → Hp → VK → Prop := fun xs H Q => ∃ (l : Addr) (ns : List Int), xs = [.ref l] ∧ H l = some (.lst (ns.map V.int)) ∧ ns.length < 64 ∧
  ∀ p (ns' : List Int), ns'.Perm ns → ns'.Pairwise (· ≤ ·) → H p = none → Q (.ref p) (upd H p (.lst (ns'.map V.int)))
end
section
variable {prog : Program} {w : World} {A : Around} {E : Value → Shared → Prop} {s : Shared}
theorem getItem_tuple_whole {t sl : Addr} {items : Array Value} {vl vu : Value} {lo hi : Option Int} {Q : Value → Shared → Prop} (ht : IsTup s.heap t items) (hs : s.heap.IsSliceOf sl vl vu .none) (pl : IsPart vl lo) (pu : IsPart vu hi)
    (hw : HT.sIx items.size 0 lo = 0 ∧ HT.sIx items.size items.size hi = items.size) (h : Q (.ref t) s) : wpAny (model prog w) A (getItem (.ref t) (.ref sl)) Q E s := by
  obtain ⟨os, hos, hcs, hds⟩ := id hs
  have hTs : s.TypeIs (.ref sl) "slice" := ⟨os, hos, hcs⟩
  unfold getItem
  try with_reducible refine wpAny_holding ?_
  first | refine wpAny_bind (wpAny_pure ?_) | skip
  refine wpAny_bind (wpAny_sequenceKey ht.typeIs (by decide) ?_)
  refine wpAny_bind (wpAny_callSpecial?_slot (name := Str.ofString "__getitem__") ht.typeIs PyProof.Rows.slot_tuple_getitem
    (wpAny_call_entry PyProof.Rows.slot_tuple_getitem ht.typeIs entry_tuple_getitem ?_ (args_tuple_getitem _ _)))
  show wpAny _ _ (Builtin.Tuple.tupleItemsOf (.ref t) >>= _) _ _ s
  refine wpAny_bind (tupleItemsOf_ ht ?_)
  refine wpAny_bind (wpAny_typeOf hTs ?_)
  rw [if_pos (by decide)]
  refine wpAny_bind (HT.sliceApplied_gen hs pl pu ?_)
  show wpAny _ _ (if (((HT.sIx items.size 0 lo : Nat) : Int) == 0 && (1 : Int) == 1 && (HT.sIx items.size items.size hi - HT.sIx items.size 0 lo) == items.size) = true then _ else _) _ _ s
  rw [if_pos (by rw [hw.1, hw.2]; simp)]
  unfold Builtin.Tuple.tupleIsExact
  refine wpAny_bind (wpAny_bind (wpAny_typeOf ht.typeIs (wpAny_pure ?_)))
  rw [if_pos (by decide)]
  refine wpAny_bind (wpAny_rule ?_)
  exact wpAny_pure ⟨_, rfl, wpAny_pure h⟩
end
section
variable {X : Cx} {e : Expr} {te : TE} {p2 pos : Pos}
def rRv0 : V → Hp → VK → Prop := fun x H Q => ∃ a xs, x = .ref a ∧ H a = some (.tup xs) ∧ 1 ≤ xs.length ∧ ∀ p, H p = none → Q (.ref p) (upd H p (.tup (xs.drop 1).reverse))
def rTake1 : V → Option Int → Option Int → Hp → VK → Prop := fun x lo hi H Q => ∃ a xs, x = .ref a ∧ lo = none ∧ hi = some 1 ∧ H a = some (.tup xs) ∧ 1 ≤ xs.length ∧ ∀ p H', Same H H' → H' p = some (.tup (xs.take 1)) → Q (.ref p) H'
end
end L2


namespace L2
open PySem PySem.Spec PyProof.Rows
abbrev RowsAt (H : Hp) (zs : List Addr) (rows : List (List Int)) : Prop := Paired (fun (z : Addr) (r : List Int) => H z = some (.tup (r.map V.int))) zs rows
theorem RowsAt.sameT {H H' : Hp} {zs : List Addr} {rows : List (List Int)} (h : RowsAt H zs rows) (s : SameT H H') : RowsAt H' zs rows := Paired.mapP h fun _ _ q => s _ _ q
theorem RowsAt.same {H H' : Hp} {zs : List Addr} {rows : List (List Int)} (h : RowsAt H zs rows) (s : Same H H') : RowsAt H' zs rows := h.sameT s.t
structure Bits (bs : List Bool) (m : Nat) (S : List Int) : Prop where
  len : bs.length = m
  bit : ∀ i, i < m → bs[i]? = some (decide ((i : Int) ∈ S))
def spRoundFrom : Sp := fun vs H Q _ => ∃ (a : Addr) (ns : List Int) (m : Nat) (x : Int), vs = [.ref a, .int x] ∧ H a = some (.tup (ns.map V.int)) ∧ Ord m ns ∧ m ≤ 500 ∧ 0 ≤ x ∧ x < m ∧ ∀ p H', Same H H' → H' p = some (.tup ((rowO ns x).map V.int)) → Q (.ref p) H'
def spRoundsMet : Sp := fun vs H Q _ => ∃ (a l : Addr) (ns fs : List Int) (m : Nat), vs = [.ref a, .ref l] ∧ H a = some (.tup (ns.map V.int)) ∧ H l = some (.lst (fs.map V.int)) ∧ Ord m ns ∧ m ≤ 500 ∧ (∀ f ∈ fs, 0 ≤ f ∧ f < m) ∧
  ∀ p zs H', Same H H' → H' p = some (.lst (zs.map V.ref)) → RowsAt H' zs (walkO ns fs) → Q (.ref p) H'
def spRounds : Sp := fun vs H Q _ => ∃ (a : Addr) (ns : List Int) (m : Nat), vs = [.ref a] ∧ H a = some (.tup (ns.map V.int)) ∧ Ord m ns ∧ m ≤ 500 ∧ ∀ p zs H', Same H H' → H' p = some (.tup (zs.map V.ref)) → RowsAt H' zs (roundsO ns) → Q (.ref p) H'
theorem mapR_len (zs : List Addr) : (zs.map V.ref).length = zs.length := List.length_map ..
end L2


namespace L2
open PySem PySem.Spec PyProof.Rows
inductive Ents (P : Params) : List DictEntry → List (Str × Addr) → Prop
  | nil : Ents P [] []
  | cons {x : Str} {t : Tok} {f : Addr} {es : List DictEntry} {kvs : List (Str × Addr)} : Ents P es kvs → Ents P (⟨PyData.keyHash P x, .str x t, .ref f⟩ :: es) ((x, f) :: kvs)
structure GDict (K : PySem.W.Frag) (P : Params) (C : Addr) (kvs : List (Str × Addr)) : Prop where
  ex : ∃ es n, K.lookup C = some { cls := .type "dict", data := .dict es n } ∧ Ents P es.toList kvs
  nd : (kvs.map (·.1)).Nodup
section
variable {X : Cx}
def rGd (K : PySem.W.Frag) (P : Params) : R2 := fun x y H Q => ∃ C kvs z f, x = .ref C ∧ y = .str z ∧ GDict K P C kvs ∧ kvs.lookup z = some f ∧ Q (.ref f) H
end
structure CalF (P : Program) (w : World) (K : PySem.W.Frag) (mg : Str → Option Value) (base : Heap) (k : Nat) (f : Addr) (ps : List Str) (sp : Sp) : Prop where
  ex : ∃ fd, FnOk P w K mg base CX0 k f fd ps sp ∧ PySem.W.keepIn K (.ref f) = true ∧ Binds K fd ps []
section
variable {X : Cx} {k : Nat} {x : Str} {p pos : Pos} {e : Expr} {es : List Expr} {t : TA} {tf : TE}
def tCallV (P : Program) (w : World) (K : PySem.W.Frag) (mg : Str → Option Value) (base : Heap) (k : Nat) (tf : TE) (t : TA) : TE := fun σ H Q => tf σ H fun v H1 => ∃ f ps sp, v = .ref f ∧ CalF P w K mg base k f ps sp ∧ t σ H1 fun vs H2 => sp vs H2 Q E0
def rSumL : List V → Hp → VK → Prop := fun xs H Q => ∃ (l : Addr) (ns : List Int), xs = [.ref l] ∧ H l = some (.lst (ns.map V.int)) ∧ Q (.int ns.sum) H
end
end L2


namespace L2
open PySem PySem.Spec PyProof.Rows
abbrev lc2 (elt tg iter : Expr) (ifs : List Expr) (tg2 iter2 : Expr) (ifs2 : List Expr) (scope : Scope) (pos : Pos) : Expr := .ListComp elt [⟨tg, iter, ifs, 0⟩, ⟨tg2, iter2, ifs2, 0⟩] scope pos
section
variable {prog : Program} {w : World} {A : Around} {R : Result → Shared → Prop} {s : Shared} {elt tg iter tg2 iter2 : Expr} {ifs ifs2 : List Expr} {scope : Scope} {pos : Pos} {it acc : Value} {env : Env}
end
end L2


namespace L2
open PySem PySem.Spec PyProof.Rows
def InW (J : It) (H1 : Hp) (g : TG) (tt : TT) (te : TE) (acc : Addr) (σ : St) (Kt : Hp → Prop) : Prop :=
  ∃ V : Nat → Nat → Hp → Prop, (∃ m, V 0 m H1) ∧ ∀ i m H, V i m H →
    (J.stop i H ∧ Kt H) ∨ (J.go i H ∧ ∀ x H', J.yld i H x H' → g x σ H' fun σ2 H2 => Wk σ σ2 ∧ tt σ2 H2 fun b H3 =>
      if b = true then te σ2 H3 fun v H4 => ∃ ys, H4 acc = some (.lst ys) ∧ ys.length < sizeLine ∧ ∃ m', m' < m ∧ V (i + 1) m' (upd H4 acc (.lst (ys ++ [v])))
      else ∃ m', m' < m ∧ V (i + 1) m' H3)
def LcW2 (J : It) (H1 : Hp) (g : TG) (tt : TT) (wi2 : TI) (g2 : TG) (tt2 : TT) (te : TE) (n : Nat) (ix : List Nat) (σ : St) (Q : VK) : Prop := ∀ acc, H1 acc = none →
  ∃ W : Nat → Nat → Hp → Prop, (∃ m, W 0 m (upd H1 acc (.lst []))) ∧ ∀ i m H, W i m H →
    (J.stop i H ∧ Q (.ref acc) H) ∨ (J.go i H ∧ ∀ x H', J.yld i H x H' → g x (compSt n ix σ) H' fun σ2 H2 => Wk (compSt n ix σ) σ2 ∧ tt σ2 H2 fun b H3 =>
      if b = true then wi2 σ2 H3 fun J2 H4 => InW J2 H4 g2 tt2 te acc σ2 fun H5 => ∃ m', m' < m ∧ W (i + 1) m' H5
      else ∃ m', m' < m ∧ W (i + 1) m' H3)
def tLc2 (wi : TI) (g : TG) (tt : TT) (wi2 : TI) (g2 : TG) (tt2 : TT) (te : TE) (n : Nat) (ix : List Nat) : TE := fun σ H Q => wi σ H fun J H1 => LcW2 J H1 g tt wi2 g2 tt2 te n ix σ Q
section
variable {X : Cx} {elt tg iter tg2 iter2 : Expr} {ifs ifs2 : List Expr} {scope : Scope} {pos : Pos} {wi wi2 : TI} {g g2 : TG} {tt tt2 : TT} {te : TE} {N' : List Str} {n : Nat} {ix : List Nat}
end
end L2


namespace L2
open PySem PySem.Spec PyProof.Rows
def Itel (K : PySem.W.Frag) (a : Addr) : It :=
  ⟨fun i H => ∃ xs x, SqL K H a xs ∧ xs[i]? = some x, fun i H v H' => ∃ t x, H t = none ∧ v = .ref t ∧ H' = upd H t (.tup [.int i, x]) ∧ ∀ xs, SqL K H a xs → xs[i]? = some x, fun i H => ∃ xs, SqL K H a xs ∧ xs.length = i⟩
theorem turn_enumL {P : Program} {w : World} {K : PySem.W.Frag} {els : List Expr} {kx} {tp : Pos} (a e it : Addr) (hne : e ≠ it) : Turn P w K (.Tuple els kx tp) (Itel K a) [e, it] e (fun i h => (∃ old, IsEnum h e it i old) ∧ h.IsListIter it a i) where
  mem := by simp
  obj := fun i h st b hb => by
    obtain ⟨⟨old, he⟩, o, ho, hc, hd⟩ := st
    rcases List.mem_cons.mp hb with rfl | hb
    · exact ⟨_, he, fun v z => by cases z⟩
    · rw [List.mem_singleton.mp hb]
      exact ⟨o, ho, fun v z => by rw [hd] at z; cases z⟩
  keep := fun i h h' st k => by
    obtain ⟨⟨old, he⟩, o, ho, r⟩ := st
    exact ⟨⟨old, k e (by simp) _ he⟩, o, k it (by simp) _ ho, r⟩
  item := by
    intro X hP hw hK hc i pins s σ H E I hf st hg
    subst hP hw hK
    obtain ⟨xs, x, hq, hx⟩ := hg
    obtain ⟨its, rv, p, hz⟩ := I.list hq
    obtain ⟨u, hu, ru⟩ := rv.get hx
    obtain ⟨⟨old, he⟩, hi⟩ := st
    obtain ⟨o, ho, hcl, hd⟩ := id hi
    have hT : s.heap.IsList a its.toArray := p.isList
    have hai : a ≠ it := fun z => by
      obtain ⟨o', e1, e2, _⟩ := p.isList
      rw [z, ho] at e1; cases e1; rw [hcl] at e2; injection e2 with z2; revert z2; decide
    have hae : e ≠ a := fun z => by
      obtain ⟨o', e1, e2, _⟩ := p.isList
      rw [← z, he] at e1; cases e1; injection e2 with z2; revert z2; decide
    have hlt : i < its.toArray.size := by
      have := (List.getElem?_eq_some_iff.mp hu).1
      simpa using this
    have hh : X.A.in1.handled = none := I.ok.hd hc
    refine wpAny_pyNext_enum_itemD (Draws.list hh it a hai its.toArray) he ⟨hi, hT⟩ hlt hne (by simp [hne, hae]) fun x' h1 tk hP1 ho1 hs1 hT1 hz1 hk1 => ?_
    have ex : x' = u := by
      have q : its[i]? = some x' := by simpa using hP1
      rw [hu] at q; exact (Option.some.inj q).symm
    subst ex
    refine ⟨_, rfl, wpAny_letOwnedTupleGo_enum ho1 fun h2 he2 hs2 => ?_⟩
    have hne0 : s.heap.objs.size ≠ e := Nat.ne_of_gt (Heap.lt_size he)
    have keep : ∀ b o, b ∉ [e, it] → s.heap.get? b = some o → h2.get? b = some o := fun b o hb e0 => (hs2.2 b fun z => hb (by simp [z])).trans (hk1 b o (fun z => hb (by simp [z])) (fun z => hb (by simp [z])) e0)
    refine ⟨.ref s.heap.objs.size, _, I.turnedT (h' := h2) (t' := tk + 1) (xs := [.int i, x]) hf keep (.cons ⟨tk, rfl⟩ (.cons ru .nil)) ⟨_, (hs2.2 _ hne0).trans hT1, rfl, ⟨_, rfl⟩, rfl, rfl⟩ (by show 2 ≤ sizeLine; decide), rfl, ⟨_, x, I.hok.fresh (Nat.le_refl _), rfl, rfl, fun ys hy => by rw [I.list_inj hy hq]; exact hx⟩, ⟨⟨_, by simpa using he2⟩, ?_⟩, fun b hb => ?_⟩
    · obtain ⟨⟨o1, e1, r1⟩, _⟩ := hs1
      exact ⟨o1, (hs2.2 it (Ne.symm hne)).trans e1, r1⟩
    · rcases List.mem_cons.mp hb with rfl | hb'
      · rw [upd_ne (Nat.ne_of_lt (Heap.lt_size he))]; exact (hf _ hb).1
      · have e9 := List.mem_singleton.mp hb'
        subst e9
        rw [upd_ne (Nat.ne_of_lt (Heap.lt_size ho))]; exact (hf _ hb).1
  done := by
    intro X hP hw hK hc i pins s σ H E I hf st hg
    subst hP hw hK
    obtain ⟨xs, hq, hx⟩ := hg
    obtain ⟨its, rv, p, hz⟩ := I.list hq
    obtain ⟨⟨old, he⟩, hi⟩ := st
    obtain ⟨o, ho, hcl, hd⟩ := id hi
    have hT : s.heap.IsList a its.toArray := p.isList
    have hai : a ≠ it := fun z => by
      obtain ⟨o', e1, e2, _⟩ := p.isList
      rw [z, ho] at e1; cases e1; rw [hcl] at e2; injection e2 with z2; revert z2; decide
    have hh : X.A.in1.handled = none := I.ok.hd hc
    have hl : its.toArray.size = i := by rw [List.size_toArray, ← rv.length, hx]
    refine wpAny_pyNext_enum_endD (Draws.list hh it a hai its.toArray) he (by rw [hl]; exact ⟨hi, hT⟩) fun h1 hk => ⟨rfl, ?_⟩
    exact I.turnedN (t' := s.toks) hf fun b o hb e0 => hk b o (fun z => hb (by simp [z])) e0
  self := fun _ _ _ _ _ st h => by
    obtain ⟨⟨old, he⟩, _⟩ := st
    exact wpAny_pyIter_enum he h
section
variable {X : Cx}
def iEnumL (K : PySem.W.Frag) (ta : TA) : TI := fun σ H R => ta σ H fun vs H1 => ∃ a, vs = [.ref a] ∧ (∃ xs, SqL K H1 a xs) ∧ R (Itel K a) H1
theorem pi_enumL {els : List Expr} {kx} {tp : Pos} {l : Expr} {ta : TA} {p pos : Pos} (hg : Gl X "enumerate") (hm : X.mg "enumerate" = none) (ha : PA X [l] ta) (hs : starEach [l] X.env = [(false, eval l X.env)] := by rfl) :
    PI X (.Tuple els kx tp) (.Call (.Name "enumerate" p) [l] [] pos) (iEnumL X.K ta) := by
  intro pins s σ H R I h
  refine Call_ (ld_blt I hg hm boot_enumerate (PyProof.Rows.callWith_type1 (thn (ha pos pins s σ H _ I h) fun us s1 ⟨vs, H1, I1, r1, q1⟩ => ?_) hs rfl))
  obtain ⟨a, rfl, ⟨xs, hq⟩, q⟩ := q1
  obtain ⟨u, rfl, ru⟩ := vals1 r1
  cases (show u = Value.ref a from ru)
  obtain ⟨its, rv, p', hz⟩ := I1.list hq
  refine call_enumerate_list p'.isList fun h' he hi hsz hk => wpAny_pyIter_enum he ?_
  have I2 : Inv X pins σ H1 { s1 with heap := h' } := I1.kept (t' := s1.toks) hk
  refine ⟨s1.heap.objs.size + 1, [s1.heap.objs.size + 1, s1.heap.objs.size], _, _, H1, rfl, I2, turn_enumL a _ _ (Nat.ne_of_gt (Nat.lt_succ_self _)), ⟨⟨_, he⟩, hi⟩, fun b hb => ?_, q⟩
  rcases List.mem_cons.mp hb with rfl | hb
  · exact I1.fpOk (Nat.le_succ _) (I1.hok.fresh (Nat.le_succ _))
  · rw [List.mem_singleton.mp hb]
    exact I1.fpOk (Nat.le_refl _) (I1.hok.fresh (Nat.le_refl _))
end
end L2


namespace L2
open PySem PySem.Spec PyProof.Rows
def pairs2 (xs : List V) (ys : V → List V) (p : V → V → Bool) : List (V × V) := xs.flatMap fun x => ((ys x).filter (p x)).map fun y => (x, y)
end L2


namespace L2
open PySem PySem.Spec PyProof.Rows
section
variable {X : Cx}
def rSlA : V → Option Int → Option Int → Hp → VK → Prop := fun x lo hi H Q => ∃ a xs, x = .ref a ∧ H a = some (.tup xs) ∧ ∀ p H', Same H H' → H' p = some (.tup (cutV xs lo hi)) → Q (.ref p) H'
theorem sl_tupA : SlR X rSlA := by
  intro pins s σ H x v vl vu lo hi sl Q I rx hs pl pu h
  obtain ⟨a, xs, rfl, ha, q⟩ := h
  by_cases hw : HT.sIx xs.length 0 lo = 0 ∧ HT.sIx xs.length xs.length hi = xs.length
  · cases rx
    obtain ⟨its, r, ht, hz⟩ := I.tuple (SqT.of (K := X.K) ha)
    have hl : its.toArray.size = xs.length := by rw [List.size_toArray]; exact r.length.symm
    refine ⟨"tuple", _, PyProof.Rows.slot_tuple_getitem.lookup, ht.typeIs, ?_⟩
    refine getItem_tuple_whole ht hs pl pu (by rw [hl]; exact hw) ⟨.ref a, H, I, rfl, q a H (Same.refl H) ?_⟩
    unfold cutV
    rw [hw.1, hw.2, List.drop_zero, Nat.sub_zero, List.take_length]
    exact ha
  · exact sl_tup pins s σ H _ v vl vu lo hi sl Q I rx hs pl pu ⟨a, xs, rfl, SqT.of ha, hw, fun p hp => q p _ (same_upd hp) upd_same⟩
theorem op_is_bl : OpR X (compareOp .Is) (fun x y H Q => ∃ a b, x = .bl a ∧ y = .bl b ∧ Q (.bl (a == b)) H) := by
  intro pins s σ H x y v u Q I rx ry h
  obtain ⟨a, b, rfl, rfl, q⟩ := h
  cases (show v = Value.bool a from rx)
  cases (show u = Value.bool b from ry)
  refine wpAny_pure ⟨.bl (a == b), H, I, ?_, q⟩
  show Value.bool _ = Value.bool _
  cases a <;> cases b <;> rfl
end
theorem for_enumL {K : PySem.W.Frag} {a : Addr} {xs : List V} {g : TG} {tb : TS} {D : Ends} {σ : L2.St} {H : Hp} (Pv : Nat → L2.St → Hp → Prop) (h0 : Pv 0 σ H) (hl : ∀ i σ H, i ≤ xs.length → Pv i σ H → SqL K H a xs)
    (hs : ∀ i x t σ H, xs[i]? = some x → Pv i σ H → H t = none → g (.ref t) σ (upd H t (.tup [.int i, x])) fun σ2 H2 => tb { D with nx := Pv (i + 1), ct := Pv (i + 1), bk := D.nx } σ2 H2) (hd : ∀ σ H, Pv xs.length σ H → D.nx σ H) :
    ∃ W : Nat → Nat → L2.St → Hp → Prop, (∃ m, W 0 m σ H) ∧ ∀ i m σ H, W i m σ H →
      ((Itel K a).stop i H ∧ D.nx σ H) ∨ ((Itel K a).go i H ∧ ∃ N : L2.St → Hp → Prop, (∀ σ' H', N σ' H' → ∃ m', m' < m ∧ W (i + 1) m' σ' H') ∧ ∀ x H', (Itel K a).yld i H x H' → g x σ H' fun σ2 H2 => tb { D with nx := N, ct := N, bk := D.nx } σ2 H2) := by
  refine ⟨fun i m σ H => m = xs.length - i ∧ i ≤ xs.length ∧ Pv i σ H, ⟨xs.length, by simp, Nat.zero_le _, h0⟩, ?_⟩
  rintro i m σ H ⟨rfl, hi, p⟩
  have q := hl i σ H hi p
  by_cases hlt : i < xs.length
  · refine .inr ⟨⟨xs, xs[i], q, by simp [hlt]⟩, Pv (i + 1), fun σ' H' p' => ⟨xs.length - (i + 1), by omega, rfl, hlt, p'⟩, fun x H' y => ?_⟩
    obtain ⟨t, x', ht, rfl, rfl, y⟩ := y
    exact hs i x' t σ _ (y xs q) p ht
  · have e : i = xs.length := by omega
    subst e
    exact .inl ⟨⟨xs, q, rfl⟩, hd σ H p⟩
section
variable {X : Cx} {elt tg iter tg2 iter2 : Expr} {ifs ifs2 : List Expr} {scope : Scope} {pos : Pos} {wi wi2 : TI} {g g2 : TG} {tt tt2 : TT} {te : TE} {N' : List Str} {n : Nat} {ix : List Nat}
end
end L2


namespace L2
open PySem PySem.Spec PyProof.Rows
def freeO (m : Nat) (b : List Int) : List Int := (num0 m).filter fun x => decide (x ∉ b)
def stepA (m : Nat) (L : List (List Int)) : List (List Int) := L.flatMap fun b => (freeO m b).map fun x => b ++ [x]
def iterA (m : Nat) (L : List (List Int)) : Nat → List (List Int)
  | 0 => L
  | k + 1 => stepA m (iterA m L k)
def allP : Nat → List Int → List (List Int)
  | 0, _ => [[]]
  | n + 1, left => (List.range left.length).flatMap fun k => (allP n (left.take k ++ left.drop (k + 1))).map fun r => left.getD k 0 :: r
def allA (m : Nat) : List (List Int) := iterA m [[]] m
structure Beg (m k : Nat) (b : List Int) : Prop where
  len : b.length = k
  nd : b.Nodup
  rng : ∀ y ∈ b, 0 ≤ y ∧ y < m
  free : (freeO m b).length + k = m
def facD (m : Nat) : Nat → Nat
  | 0 => 1
  | k + 1 => facD m k * (m - k)
end L2


namespace L2
open PySem PySem.Spec PyProof.Rows
theorem flat_ints (S : List Int) : (S.map V.int).all flatV = true := by
  rw [List.all_eq_true]
  intro x hx
  obtain ⟨n, _, rfl⟩ := List.mem_map.mp hx
  rfl
end L2
namespace L2
open PySem PySem.Spec PyProof.Rows
theorem RowsAt.get {H : Hp} : ∀ {zs : List Addr} {rows : List (List Int)}, RowsAt H zs rows → ∀ {i : Nat} {z : Addr}, zs[i]? = some z → ∃ r, rows[i]? = some r ∧ H z = some (.tup (r.map V.int))
  | _, _, .nil, _, _, h => by simp at h
  | _, _, .cons r _, 0, _, h => by simp at h; subst h; exact ⟨_, rfl, r⟩
  | _, _, .cons _ t, i + 1, _, h => RowsAt.get t (i := i) (by simpa using h)
def RFlip (x v : V) (H : Hp) : Prop := ∃ (z z' : Addr) (r : List Int), x = .ref z ∧ H z = some (.tup (r.map V.int)) ∧ v = .ref z' ∧ H z' = some (.tup ((flipO r).map V.int))
end L2


namespace L2
open PySem PySem.Spec PyProof.Rows
section
variable {X : Cx}
def rMaxL : List V → Hp → VK → Prop := fun xs H Q => ∃ (l : Addr) (ns : List Int), xs = [.ref l] ∧ H l = some (.lst (ns.map V.int)) ∧ ns ≠ [] ∧ ∀ M, M ∈ ns → (∀ a ∈ ns, a ≤ M) → Q (.int M) H
def rMaxT : List V → Hp → VK → Prop := fun xs H Q => ∃ (l : Addr) (ns : List Int), xs = [.ref l] ∧ H l = some (.tup (ns.map V.int)) ∧ ns ≠ [] ∧ ∀ M, M ∈ ns → (∀ a ∈ ns, a ≤ M) → Q (.int M) H
end
def enF (p : Nat → V → Bool) (f : Nat → V → V) : Nat → List V → List V
  | _, [] => []
  | i, x :: t => (if p i x then [f i x] else []) ++ enF p f (i + 1) t
theorem lc_zip {K : PySem.W.Frag} {a b : Addr} {xs ys : List V} {tt : TT} {te : TE} {ix : List Nat} {σ : L2.St} {H1 : Hp} {Q : VK} (Fx : ∀ {H}, Same H1 H → SqT K H a xs) (Fy : ∀ {H}, Same H1 H → SqT K H b ys) (small : (xs.zip ys).length ≤ 1000) (p : V × V → Bool) (f : V × V → V)
    (ht : ∀ xy ∈ xs.zip ys, ∀ H, Same H1 H → ∀ Q' : Bool → Hp → Prop, Q' (p xy) H → tt (some xy.1 :: some xy.2 :: ix.map fun i => σ.getD i none) H Q')
    (he : ∀ xy ∈ xs.zip ys, p xy = true → ∀ H, Same H1 H → ∀ Q' : VK, Q' (f xy) H → te (some xy.1 :: some xy.2 :: ix.map fun i => σ.getD i none) H Q')
    (fin : ∀ acc H', H1 acc = none → Same H1 H' → H' acc = some (.lst (((xs.zip ys).filter p).map f)) → Q (.ref acc) H') :
    LcW (Itz K a b) H1 (gTup K 2 (gCons (gName 0) (gCons (gName 1) gNil))) tt te 2 ix σ Q := by
  intro acc ha
  refine ⟨fun i m H => m = (xs.zip ys).length - i ∧ i ≤ (xs.zip ys).length ∧ Same H1 H ∧ H acc = some (.lst ((((xs.zip ys).take i).filter p).map f)), ⟨(xs.zip ys).length, by simp, Nat.zero_le _, same_upd ha, upd_same⟩, ?_⟩
  rintro i m H ⟨rfl, hi, sm, hacc⟩
  by_cases hlt : i < (xs.zip ys).length
  · have hl2 : i < xs.length ∧ i < ys.length := by rw [List.length_zip] at hlt; omega
    refine .inr ⟨⟨xs, ys, xs[i], ys[i], Fx sm, Fy sm, List.getElem?_eq_getElem hl2.1, List.getElem?_eq_getElem hl2.2⟩, fun v H' y => ?_⟩
    obtain ⟨t, x, y, hn, rfl, rfl, hv⟩ := y
    obtain ⟨e1, e2⟩ := hv xs ys (Fx sm) (Fy sm)
    have ez : (xs.zip ys)[i]? = some (x, y) := by rw [List.getElem?_zip_eq_some]; exact ⟨e1, e2⟩
    have hmem : (x, y) ∈ xs.zip ys := List.mem_of_getElem? ez
    have htk : (xs.zip ys).take (i + 1) = (xs.zip ys).take i ++ [(x, y)] := by rw [List.take_succ, ez]; rfl
    refine ⟨t, _, rfl, SqT.of upd_same, rfl, x, _, rfl, y, _, rfl, rfl, ⟨rfl, fun j v e => ?_⟩, ?_⟩
    · match j, e with
      | 0, e => cases e
      | 1, e => cases e
      | j + 2, e => exact e
    · have sm2 := sm.trans (same_upd (o := .tup [x, y]) hn)
      have hacc2 := same_upd (o := .tup [x, y]) hn _ _ hacc
      refine ht (x, y) hmem _ sm2 _ ?_
      cases hp : p (x, y) with
      | false =>
        rw [if_neg Bool.false_ne_true]
        refine ⟨(xs.zip ys).length - (i + 1), by omega, rfl, hlt, sm2, ?_⟩
        rw [htk, List.filter_append]
        simpa [hp] using hacc2
      | true =>
        rw [if_pos rfl]
        refine he (x, y) hmem hp _ sm2 _ ⟨_, hacc2, small1 ?_, (xs.zip ys).length - (i + 1), by omega, rfl, hlt, same_updR sm2 ha, ?_⟩
        · rw [List.length_map]
          refine Nat.le_trans (List.length_filter_le _ _) ?_
          rw [List.length_take]
          omega
        · rw [upd_same, htk, List.filter_append, List.map_append]
          simp [hp]
  · have e : i = (xs.zip ys).length := by omega
    subst e
    rw [List.take_length] at hacc
    refine .inl ⟨⟨xs, ys, Fx sm, Fy sm, ?_⟩, fin acc H ha sm hacc⟩
    rw [List.length_zip]
    rcases Nat.le_total xs.length ys.length with h | h
    · exact .inl (List.getElem?_eq_none (by omega))
    · exact .inr (List.getElem?_eq_none (by omega))
end L2


namespace L2
open PySem PySem.Spec PyProof.Rows
def en2 (ys : Nat → V → List V) (p : Nat → V → V → Bool) (c : V) : Nat → List V → List V
  | _, [] => []
  | i, x :: t => ((ys i x).filter (p i x)).map (fun _ => c) ++ en2 ys p c (i + 1) t
end L2


namespace L2
open PySem PySem.Spec PyProof.Rows
def sumR (n : Nat) (g : Nat → Int) : Int := ((List.range n).map g).sum
def staysO (ns : List Int) : Int := sumR ns.length fun k => if atO ns k = k then 1 else 0
def risesO (ns : List Int) : Int := sumR (ns.length - 1) fun k => if atO ns k < atO ns (k + 1 : Nat) then 1 else 0
def highsO (ns : List Int) : Int := sumR ns.length fun k => if (ns.take (k + 1)).all (fun a => decide (a ≤ atO ns k)) then 1 else 0
def crossedO (ns : List Int) : Int := sumR ns.length fun k => (((ns.take k).filter fun a => decide (atO ns k < a)).length : Int)
def patO (L : List Int) (x : Int) : List Int := if L.countP (fun a => decide (a < x)) = L.length then L ++ [x] else L.set (L.countP fun a => decide (a < x)) x
def patsO (ns : List Int) : List Int := ns.foldl patO []
def longestO (ns : List Int) : Int := (patsO ns).length
def qN (q : Nat → Int → Bool) : Nat → V → Bool := fun i v => match v with | .int n => q i n | _ => false
def qZ (q : Int → Int → Bool) : V × V → Bool := fun xy => match xy with | (.int a, .int b) => q a b | _ => false
def qC : Nat → V → V → Bool := fun _ x y => match x, y with | .int a, .int b => decide (a < b) | _, _ => false
structure Heaps (ns : List Int) (L : List Int) (es : List Int) : Prop where
  inc : L.Pairwise (· < ·)
  len : es.length = ns.length
  up : ∀ (j : Nat) a, L[j]? = some a → ∃ k : Nat, ns[k]? = some a ∧ es[k]? = some ((j : Int) + 1)
  dn : ∀ (k : Nat) e, es[k]? = some e → ∃ (j : Nat) (a b : Int), e = (j : Int) + 1 ∧ L[j]? = some a ∧ ns[k]? = some b ∧ a ≤ b
end L2


namespace L2
open PySem PySem.Spec PyProof.Rows
def Cx.compZ (X : Cx) (s₂ : Shared) (H₂ : Hp) (N' : List Str) (scope : Scope) (cl : List (Str × Addr)) (C : Addr) (fp : List Addr) (z : Str) (Z : Addr) : Cx :=
  { X with N := N', s₀ := s₂, H₀ := H₂, env := compEnvC scope ((z, Z) :: cl) C X.env, outer := X.stack, stack := X.stack, ex := fp, fn := fun x => x == z, pn := [], xe := fun _ _ => False }
structure CompScopeZ (X : Cx) (scope : Scope) (N' : List Str) (n : Nat) (ix : List Nat) (z : Str) : Prop where
  kind : scope.kind = .function
  onecell : ∀ y ∈ scope.names, y.2 = .cell → y.1 = z
  nz : ∀ y : Str, (y, NameKind.free) ∈ scope.names → y ≠ z
  cf : ∀ (a : Addr) (cl : List (Str × Addr)), cellsFrom a scope.names cl = (z, a) :: cl
  pc : ∀ h : Heap, pushCells h scope.names = h.push { cls := .type "cell", data := .cell none }
  names : ∀ y ∈ scope.names, y.2 = .local → scope.names.lookup y.1 = some .local
  free : ∀ y ∈ scope.names, y.2 = .free → X.env.scope.names.lookup y.1 = some .cell ∨ X.env.scope.names.lookup y.1 = some .free
  nodup : ∀ y : Str, (y, NameKind.free) ∈ scope.names → scope.names.lookup y = some .local → False
  len : N'.length = n + ix.length
  at_ : ∀ (j i : Nat), ix[j]? = some i → ∃ x, N'[n + j]? = some x ∧ X.N[i]? = some x ∧ (x, NameKind.free) ∈ scope.names
theorem newEnvZ {M : Model} {A : Around} {E : Value → Shared → Prop} {s : Shared} {z : Str} {scope : Scope} {globals : Addr} {cl : List (Str × Addr)} {qual : Str} {env : Env} {Q : Env → Shared → Prop} (hcf : ∀ a, cellsFrom a scope.names cl = (z, a) :: cl)
    (hpc : ∀ h : Heap, pushCells h scope.names = h.push { cls := .type "cell", data := .cell none })
    (hQ : ∀ env' : Env, env' = { scope, locals := s.heap.objs.size, globals, cells := (z, s.heap.objs.size + 1) :: cl, qual, func := none, code := env.code, frame := env.frame, builtins := env.builtins } →
      Q env' { s with heap := (s.heap.push { cls := .type "dict", data := .dict #[] }).push { cls := .type "cell", data := .cell none } }) :
    wpAny M A (newFunctionEnv scope globals cl [] qual none .none (some env)) Q E s := by
  simp only [newFunctionEnv, Option.isSome_some, if_true]
  refine wpAny_bind (wpAny_alloc ?_)
  refine wpAny_bind (wpAny_layCells _ (fun name kind cells => by cases hkc : kind == NameKind.cell <;> simp [hkc]) _ _ _ _ ?_)
  rw [hcf, hpc]
  simp only [List.forIn_nil]
  have hz : (s.heap.push { cls := .type "dict", data := .dict #[] }).objs.size = s.heap.objs.size + 1 := Heap.size_push ..
  refine wpAny_bind (wpAny_pure (wpAny_pure ?_))
  exact hQ _ (by simp only [hz])
section
variable {X : Cx} {pins : List (Addr × Obj)} {σ : St} {H : Hp} {s : Shared}
theorem of_relabelZ {env : Env} {scope : Scope} {x z : Str} (hn : ∀ y ∈ scope.names, y.2 = .cell → y.1 = z) (hxz : x ≠ z) (h : (relabel scope env).names.lookup x = some .cell ∨ (relabel scope env).names.lookup x = some .free) : scope.names.lookup x = some .free := by
  rw [relabel_lookup] at h
  cases e : scope.names.lookup x with
  | none => rw [e] at h; rcases h with h | h <;> cases h
  | some k =>
    rw [e] at h
    have hk : k ≠ .cell := fun q => hxz (hn _ (PySem.mem_of_lookup e) q)
    by_cases hf : k = .free
    · rw [hf]
    · have hb : (k == NameKind.free) = false := by simpa using hf
      have hr : Option.map (fun k => if (k == NameKind.free && env.scope.kind == .function && env.kindOf x == some .cell) = true then NameKind.cell else k) (some k) = some k := by
        show some (ite _ _ _) = _
        rw [if_neg (by rw [hb]; simp)]
      rw [hr] at h
      rcases h with h | h
      · cases h; exact absurd rfl hk
      · exact h

theorem inv_compZ {z : Str} {Z : Addr} {scope : Scope} {N' : List Str} {n : Nat} {ix : List Nat} {cl : List (Str × Addr)} {fp : List Addr} {h₁ : Heap} {acc C : Addr} {na : Nat} {m : Str → Option Value} {tk : Nat}
    (I : Inv X pins σ H s) (S : CompScopeZ X scope N' n ix z) (hcl1 : ∀ x c, cl.lookup x = some c → X.env.cells.lookup x = some c) (hcl2 : ∀ y ∈ scope.names, y.2 = .free → cl.lookup y.1 = X.env.cells.lookup y.1)
    (hf : ∀ b ∈ fp, FpOk X pins H b) (hlt : ∀ b ∈ fp, b < s.heap.objs.size) (ha : s.heap.objs.size ≤ acc) (hC : s.heap.objs.size ≤ C) (hne : C ≠ acc) (hZ : s.heap.objs.size ≤ Z) (hZC : Z ≠ C) (hZa : Z ≠ acc) (hZc : h₁.IsCell Z none)
    (k : ∀ b u, s.heap.get? b = some u → h₁.get? b = some u) (hacc : h₁.get? acc = some { cls := .type "list", data := .seq ([] : List Value).toArray na }) (hns : h₁.Ns C m) :
    Inv (X.compZ s H N' scope cl C fp z Z) [] (compSt n ix σ) (upd H acc (.lst [])) { s with heap := h₁, toks := tk } := by
  have fr : ∀ b : Addr, s.heap.objs.size ≤ b → H b = none := fun b hb => I.hok.fresh hb
  have cellLt : ∀ x c, cl.lookup x = some c → c < s.heap.objs.size := fun x c e => by
    obtain ⟨v, q⟩ := I.cell x c (hcl1 x c e)
    exact q.lt
  have look : ∀ x c, List.lookup x ((z, Z) :: cl) = some c → (x = z ∧ c = Z) ∨ (x ≠ z ∧ cl.lookup x = some c) := fun x c e => by
    rw [List.lookup_cons] at e
    cases hb : x == z with
    | true =>
      rw [hb] at e
      exact .inl ⟨eq_of_beq hb, (Option.some.inj e).symm⟩
    | false =>
      rw [hb] at e
      exact .inr ⟨fun q => by (rw [q, beq_self_eq_true] at hb; cases hb), e⟩
  have look2 : ∀ x, x ≠ z → List.lookup x ((z, Z) :: cl) = cl.lookup x := fun x hx => by
    rw [List.lookup_cons]
    have hb : (x == z) = false := beq_eq_false_iff_ne.mpr hx
    rw [hb]
  have nZ : ∀ x c, cl.lookup x = some c → c ≠ Z := fun x c e q => absurd (cellLt x c e) (by rw [q]; exact Nat.not_lt.mpr hZ)
  refine ⟨⟨I.ok.mod, S.kind, I.ok.glob, I.ok.blt, hC, fun x y c e1 e2 => ?inj, fun x hx => ?has, fun x c e e' => ?cab, I.ok.hd, I.ok.frames, .inl rfl, fun b hb => ⟨Nat.ne_of_lt (Nat.lt_of_lt_of_le (hlt b hb) hC), fun x c e => ?exf⟩,
      I.bs, Nat.le_trans I.ok.bsz I.sz, fun b o e hb => ?noex, fun b hb hs => ?exfs, I.stack, I.stkFree⟩,
    rfl, I.bare, Un.laid k ha (fr acc ha), ⟨m, hns, fun i x v e1 e2 e3 => ?loc⟩, fun x c e => ?cell, ?free, fun x c e => ?freeC, fun p hp => absurd (show p ∈ ([] : List (Addr × Obj)) from hp) (by simp), I.hok.laid k ha ⟨Nat.zero_le _, [], na, .nil, hacc⟩, ?len⟩
  case inj =>
    rcases look x c e1 with ⟨h1, h2⟩ | ⟨h1, h2⟩ <;> rcases look y c e2 with ⟨h3, h4⟩ | ⟨h3, h4⟩
    · rw [h1, h3]
    · exact absurd h2 (nZ y c h4)
    · exact absurd h4 (nZ x c h2)
    · exact I.ok.inj x y c (hcl1 x c h2) (hcl1 y c h4)
  case has =>
    by_cases hxz : x = z
    · exact ⟨Z, by show List.lookup x ((z, Z) :: cl) = _; rw [hxz, List.lookup_cons, beq_self_eq_true]⟩
    · have hx' : scope.names.lookup x = some .free := of_relabelZ (env := X.env) S.onecell hxz hx
      have hm := PySem.mem_of_lookup hx'
      obtain ⟨c, e⟩ := I.ok.has x (S.free _ hm rfl)
      exact ⟨c, by show List.lookup x ((z, Z) :: cl) = _; rw [look2 x hxz]; exact (hcl2 _ hm rfl).trans e⟩
  case cab =>
    rcases look x c e' with ⟨_, h2⟩ | ⟨h1, _⟩
    · rw [h2]; exact hZ
    · exact absurd (eq_of_beq (show (x == z) = true from e)) h1
  case exf =>
    rcases look x c e with ⟨_, h2⟩ | ⟨_, h2⟩
    · rw [h2]; exact Nat.ne_of_gt (Nat.lt_of_lt_of_le (hlt b hb) hZ)
    · exact (hf b hb).2.2.2.2.1 x c (hcl1 x c h2)
  case noex =>
    rcases (hf b hb).2.2.2.1 with z | z
    · exact I.ok.noex b o e z
    · exact absurd (Nat.lt_of_lt_of_le (Heap.lt_size e) (Nat.le_trans I.ok.bsz z)) (Nat.lt_irrefl _)
  case exfs =>
    rcases List.mem_cons.mp (I.stkSub b hs) with z | z
    · exact (hf b hb).2.1 z
    · exact (hf b hb).2.2.1 z
  case loc =>
    have hi : n ≤ i := by
      by_cases hi : n ≤ i
      · exact hi
      · unfold compSt at e2
        rw [List.getElem?_append_left (by simp; omega), List.getElem?_replicate] at e2
        split at e2 <;> cases e2
    obtain ⟨j, rfl⟩ : ∃ j, i = n + j := ⟨i - n, by omega⟩
    unfold compSt at e2
    rw [List.getElem?_append_right (by simp), List.length_replicate, Nat.add_sub_cancel_left, List.getElem?_map] at e2
    cases ej : ix[j]? with
    | none => rw [ej] at e2; cases e2
    | some q =>
      rw [ej] at e2
      have e2' : σ.getD q none = some v := Option.some.inj e2
      have e2'' : σ[q]? = some (some v) := by
        rw [List.getD_eq_getElem?_getD] at e2'
        cases eq : σ[q]? with
        | none => rw [eq] at e2'; cases e2'
        | some z => rw [eq] at e2'; exact congrArg some e2'
      obtain ⟨y, h1, h2, h3⟩ := S.at_ j q ej
      have ey : y = x := Option.some.inj (h1.symm.trans e1)
      subst ey
      have hk := S.free _ h3 rfl
      obtain ⟨mX, _, hl⟩ := I.loc
      obtain ⟨u, r, l⟩ := hl q y v h2 e2'' (.inr hk)
      refine ⟨u, r, .inr ?_⟩
      have hkc : X.env.kindOf y = some .cell ∨ X.env.kindOf y = some .free := hk
      have l' : ∃ c, X.env.cells.lookup y = some c ∧ s.heap.IsCell c (some u) := by
        rcases l with ⟨z, _⟩ | ⟨_, c, ec, hc⟩
        · rcases hkc with q | q <;> (rw [q] at z; cases z)
        · exact ⟨c, ec, hc⟩
      obtain ⟨c, ec, o, ho, hd⟩ := l'
      have e3' : Vis (relabel scope X.env) y := e3
      have hyz : y ≠ z := S.nz y h3
      refine ⟨?_, c, by show List.lookup y ((z, Z) :: cl) = _; rw [look2 y hyz]; exact (hcl2 _ h3 rfl).trans ec, o, k _ _ ho, hd⟩
      -- its kind in the block
      have nl : scope.names.lookup y ≠ some .local := fun z => ?_
      · cases el : scope.names.lookup y with
        | none =>
          have : (relabel scope X.env).names.lookup y = none := by rw [relabel_lookup, el]; rfl
          rcases e3' with z | z | z <;> (rw [this] at z; cases z)
        | some kk =>
          have hmem := PySem.mem_of_lookup el
          have ncell : kk ≠ .cell := fun q => hyz (S.onecell _ hmem q)
          have hr : (relabel scope X.env).names.lookup y = some (if (kk == NameKind.free && X.env.scope.kind == .function && X.env.kindOf y == some .cell) = true then .cell else kk) := by rw [relabel_lookup, el]; rfl
          by_cases hkf : kk = .free
          · subst hkf
            exact relabel_free (env := X.env) el
          · have hb : (kk == NameKind.free) = false := by simpa using hkf
            have hr' : (relabel scope X.env).names.lookup y = some kk := by rw [hr, hb]; rfl
            rcases e3' with z | z | z
            · rw [hr'] at z; cases z; exact absurd el nl
            · rw [hr'] at z; cases z; exact absurd rfl ncell
            · rw [hr'] at z; cases z; exact absurd rfl hkf
      · exact S.nodup _ h3 z
  case cell =>
    rcases look x c e with ⟨_, h2⟩ | ⟨_, h2⟩
    · rw [h2]; exact ⟨none, hZc⟩
    · obtain ⟨v, o, ho, hd⟩ := I.cell x c (hcl1 x c h2)
      exact ⟨v, o, k _ _ ho, hd⟩
  case free =>
    show upd H acc (.lst []) C = none
    rw [upd_ne hne]; exact fr C hC
  case freeC =>
    show upd H acc (.lst []) c = none
    rcases look x c e with ⟨_, h2⟩ | ⟨_, h2⟩
    · rw [h2, upd_ne hZa]; exact fr Z hZ
    · have := cellLt x c h2
      rw [upd_ne (Nat.ne_of_lt (Nat.lt_of_lt_of_le this ha))]
      exact I.freeC x c (hcl1 x c h2)
  case len =>
    show (compSt n ix σ).length = N'.length
    unfold compSt
    rw [List.length_append, List.length_replicate, List.length_map, S.len]
end
section
variable {X : Cx} {elt tg iter : Expr} {ifs : List Expr} {scope : Scope} {pos : Pos} {wi : TI} {g : TG} {tt : TT} {te : TE} {N' : List Str} {n : Nat} {ix : List Nat}
theorem lc_coreZ {z : Str} {pins : List (Addr × Obj)} {σ : St} {H2 : Hp} {s2 : Shared} {cl : List (Str × Addr)} {it : Addr} {fp : List Addr} {tn : Nat → Heap → Prop} {J : It} {Q : VK} {R : Value → Addr → Result → Shared → Prop}
    (hc : X.calm = true) (S : CompScopeZ X scope N' n ix z)
    (hY : ∀ s₂ H₂ cl C fp Z, PG (X.compZ s₂ H₂ N' scope cl C fp z Z) tg g ∧ PTs (X.compZ s₂ H₂ N' scope cl C fp z Z) ifs tt ∧ PE (X.compZ s₂ H₂ N' scope cl C fp z Z) elt te)
    (I2 : Inv X pins σ H2 s2) (hcl1 : ∀ x c, cl.lookup x = some c → X.env.cells.lookup x = some c) (hcl2 : ∀ y ∈ scope.names, y.2 = .free → cl.lookup y.1 = X.env.cells.lookup y.1)
    (T : Turn X.prog X.w X.K tg J fp it tn) (st2 : tn 0 s2.heap) (f2 : ∀ b ∈ fp, FpOk X pins H2 b)
    (hW : LcW J H2 g tt te n ix σ Q)
    (hR : ∀ acc C s' H' m, s'.heap.Ns C m → Inv X pins σ H' s' → H' C = none → C ≠ X.env.locals → (C ∈ X.ex ∨ X.s₀.heap.objs.size ≤ C) → (∀ x c, X.env.cells.lookup x = some c → c ≠ C) → (∀ p ∈ X.pn ++ pins, p.1 ≠ C) → C ∉ X.fs → Q (.ref acc) H' → R (.ref acc) C (.ok .next) s') :
    wpAny (model X.prog X.w) X.A (newList []) (fun acc s₃ => wpAny (model X.prog X.w) X.A (newFunctionEnv scope X.env.globals cl [] X.env.qual none .none (some X.env)) (fun cenv s₄ =>
      codeAny (model X.prog X.w) X.A (.compStart (.ListComp elt [⟨tg, iter, ifs, 0⟩] scope pos) 0 (.ref it) acc { cenv with scope := relabel scope X.env }) (R acc cenv.locals) s₄) X.xe s₃) X.xe s2 := by
  refine wpAny_newObj_type (newEnvZ (z := z) (fun a => S.cf a cl) S.pc fun env' he' => ?_)
  subst he'
  dsimp only
  generalize hH2 : s2.heap.push { cls := .type "list", dict := none, data := .seq ([] : List Value).toArray } = G
  have hC : G.objs.size = s2.heap.objs.size + 1 := by rw [← hH2, Heap.size_push]
  generalize hh1 : (G.push { cls := .type "dict", data := .dict #[] }).push { cls := .type "cell", data := .cell none } = h₁
  have hkp : ∀ b o, G.get? b = some o → h₁.get? b = some o := fun b o e => hh1 ▸ Heap.get?_push_of_some _ (Heap.get?_push_of_some _ e)
  have hns₁ : h₁.Ns G.objs.size fun _ => none := hh1 ▸ (Heap.Ns.new G (.type "dict")).keeps fun b o e => Heap.get?_push_of_some _ e
  have hZc : h₁.IsCell (G.objs.size + 1) none := by
    rw [← hh1]
    refine ⟨{ cls := .type "cell", data := .cell none }, ?_, rfl⟩
    have := Heap.get?_push_size (G.push { cls := .type "dict", data := .dict #[] }) (o := { cls := .type "cell", data := .cell none }) rfl
    rwa [Heap.size_push] at this
  have hlt : ∀ b ∈ fp, b < s2.heap.objs.size := fun b hb => by
    obtain ⟨o, e, _⟩ := T.obj _ _ st2 b hb
    exact Heap.lt_size e
  have old : ∀ b o, s2.heap.get? b = some o → h₁.get? b = some o := fun b o e => hkp b o (hH2 ▸ Heap.get?_push_of_some _ e)
  have hacc : h₁.get? s2.heap.objs.size = some { cls := .type "list", dict := none, data := .seq ([] : List Value).toArray } := hkp _ _ (hH2 ▸ Heap.get?_push_size _ rfl)
  obtain ⟨W, ⟨m0, w0⟩, turn⟩ := hW s2.heap.objs.size (I2.hok.fresh (Nat.le_refl _))
  obtain ⟨hYg, hYt, hYe⟩ := hY s2 H2 cl G.objs.size fp (G.objs.size + 1)
  have fpY : ∀ {H' : Hp}, (∀ b ∈ fp, H' b = none) → ∀ b ∈ fp, FpOk (X.compZ s2 H2 N' scope cl G.objs.size fp z (G.objs.size + 1)) [] H' b := fun {H'} hn b hb => by
    obtain ⟨_, q1, q2, q3, q4, q5⟩ := f2 b hb
    refine ⟨hn b hb, ?_, fun z => ?_, .inl hb, fun x c e => ?_, fun p hp => absurd (show p ∈ ([] : List (Addr × Obj)) from hp) (by simp)⟩
    · show b ≠ G.objs.size
      rw [hC]
      exact Nat.ne_of_lt (Nat.lt_succ_of_lt (hlt b hb))
    · rcases List.mem_cons.mp (I2.stkSub b z) with y | y
      · exact q1 y
      · exact q2 y
    · have e' : List.lookup x ((z, G.objs.size + 1) :: cl) = some c := e
      rw [List.lookup_cons] at e'
      cases hb' : x == z with
      | true =>
        rw [hb'] at e'
        have e2 : G.objs.size + 1 = c := Option.some.inj e'
        rw [← e2, hC]
        have := hlt b hb
        exact Nat.ne_of_gt (Nat.lt_of_lt_of_le this (Nat.le_trans (Nat.le_succ _) (Nat.le_succ _)))
      | false =>
        rw [hb'] at e'
        exact q4 x c (hcl1 x c e')
  have loop : ∀ s₃ : Shared, s₃ = { s2 with heap := h₁ } →
      codeAny (model X.prog X.w) X.A (.compLoop (.ListComp elt [⟨tg, iter, ifs, 0⟩] scope pos) 0 (.ref it) (.ref s2.heap.objs.size) (compEnvC scope ((z, G.objs.size + 1) :: cl) G.objs.size X.env)) (R (.ref s2.heap.objs.size) G.objs.size) s₃ := by
    rintro s₃ rfl
    have I4 := inv_compZ (Z := G.objs.size + 1) (tk := s2.toks) I2 S hcl1 hcl2 f2 hlt (Nat.le_refl _) (by rw [hC]; exact Nat.le_succ _) (by rw [hC]; exact Nat.ne_of_gt (Nat.lt_succ_self _)) (by rw [hC]; exact Nat.le_trans (Nat.le_succ _) (Nat.le_succ _)) (Nat.ne_of_gt (Nat.lt_succ_self _)) (by rw [hC]; exact Nat.ne_of_gt (Nat.lt_succ_of_lt (Nat.lt_succ_self _))) hZc old hacc hns₁
    refine compLoop_gen (fun n' s' => ∃ i H', Inv (X.compZ s2 H2 N' scope cl G.objs.size fp z (G.objs.size + 1)) [] (compSt n ix σ) H' s' ∧ tn i s'.heap ∧ (∀ b ∈ fp, H' b = none) ∧ W i n' H') ?_ m0
      ⟨0, _, I4, T.keep _ _ _ st2 fun b hb o e => old b o e, fun b hb => ?_, w0⟩
    · rintro n' s3 ⟨i, H3, I3, st3, fr3, w3⟩
      rcases turn i n' H3 w3 with ⟨stop, q⟩ | ⟨go, step⟩
      · refine thn (T.done (X.compZ s2 H2 N' scope cl G.objs.size fp z (G.objs.size + 1)) rfl rfl rfl hc i [] s3 _ H3 _ I3 (fpY fr3) st3 stop) fun r s4 ⟨hr, I5⟩ => ?_
        subst hr
        obtain ⟨mC, hnC, _⟩ := I5.loc
        have IX : Inv X pins σ H3 s4 := I2.call' I5.os I5.base I5.hok I5.bare fun b hb => by
          obtain ⟨_, q1, q2, q3, q4, q5⟩ := f2 b hb
          exact ⟨q3, q1, q4, q5⟩
        refine hR _ _ s4 H3 mC hnC IX I5.free ?_ (.inr ?_) (fun x c e z => ?_) (fun p hp z => ?_) (I2.nofs (by rw [hC]; exact Nat.le_succ _)) q
        · rw [hC]
          exact Nat.ne_of_gt (Nat.lt_succ_of_lt I2.lt)
        · rw [hC]
          exact Nat.le_succ_of_le I2.sz
        · obtain ⟨v, q⟩ := I2.cell x c e
          rw [hC] at z
          exact absurd z (Nat.ne_of_lt (Nat.lt_succ_of_lt q.lt))
        · rw [hC] at z
          exact absurd z (Nat.ne_of_lt (Nat.lt_succ_of_lt (Heap.lt_size (I2.pin p hp).1)))
      · refine thn (T.item (X.compZ s2 H2 N' scope cl G.objs.size fp z (G.objs.size + 1)) rfl rfl rfl hc i [] s3 _ H3 _ I3 (fpY fr3) st3 go) fun r s4 ⟨u, hr, h4⟩ => ?_
        subst hr
        refine thn h4 fun _ s5 ⟨x, H5, I5, r5, y5, st5, fr5⟩ => ?_
        have I5' := I5.pinned (fpY fr5) (T.obj _ _ st5)
        refine thn (hYg _ s5 _ H5 x u _ I5' r5 (step x H5 y5)) fun _ s6 ⟨σ6, H6, I6, wk, q6⟩ => ?_
        have back : ∀ {H' : Hp} {s' : Shared}, Inv (X.compZ s2 H2 N' scope cl G.objs.size fp z (G.objs.size + 1)) ([] ++ pinsAt fp s5.heap) σ6 H' s' →
            Inv (X.compZ s2 H2 N' scope cl G.objs.size fp z (G.objs.size + 1)) [] (compSt n ix σ) H' s' ∧ tn (i + 1) s'.heap ∧ ∀ b ∈ fp, H' b = none := fun {H' s'} I7 => by
          refine ⟨I7.unpinned.weak wk.1 wk.2, T.keep _ _ _ st5 fun b hb o e => (I7.pin (b, o) (List.mem_append_right _ (List.mem_append_right _ (mem_pinsAt hb e)))).1, fun b hb => ?_⟩
          obtain ⟨o, e, d⟩ := T.obj _ _ st5 b hb
          exact (I7.pin (b, o) (List.mem_append_right _ (List.mem_append_right _ (mem_pinsAt hb e)))).2.1
        refine thn (hYt _ s6 σ6 H6 _ I6 q6) fun ok s7 ⟨H7, I7, q7⟩ => ?_
        cases ok with
        | false =>
          rw [if_neg Bool.false_ne_true] at q7 ⊢
          obtain ⟨m', hm, w7⟩ := q7
          obtain ⟨b1, b2, b3⟩ := back I7
          exact ⟨m', hm, i + 1, H7, b1, b2, b3, w7⟩
        | true =>
          rw [if_pos rfl] at q7 ⊢
          refine thn (hYe _ s7 σ6 H7 _ I7 q7) fun xv s8 ⟨v8, H8, I8, r8, ys, ha, hz, m', hm, w8⟩ => ?_
          refine thn (mt_append _ s8 σ6 H8 (.ref s2.heap.objs.size) [v8] (.ref s2.heap.objs.size) [xv] (fun _ H' => H' = upd H8 s2.heap.objs.size (.lst (ys ++ [v8]))) I8 rfl (.cons r8 .nil) ⟨_, ys, v8, rfl, rfl, ha, hz, rfl⟩) fun _ s9 ⟨_, H9, I9, _, e9⟩ => ?_
          subst e9
          obtain ⟨b1, b2, b3⟩ := back I9
          exact ⟨m', hm, i + 1, _, b1, b2, b3, w8⟩
    · rw [upd_ne (Nat.ne_of_lt (hlt b hb))]
      exact (f2 b hb).1
  exact codeAny_compStart_list (loop _ rfl) (T.self _ 0 _ _ _ (T.keep _ _ _ st2 fun b hb o e => old b o e) (loop _ rfl))

end
end L2


namespace L2
open PySem PySem.Spec PyProof.Rows
mutual
inductive IsK (K : PySem.W.Frag) (H : Hp) : V → PyData → Prop
  | non : IsK K H .non .none
  | bl (b : Bool) : IsK K H (.bl b) (.bool b)
  | int (i : Int) : IsK K H (.int i) (.int i)
  | str (x : Str) : IsK K H (.str x) (.str x)
  | tup {a : Addr} {vs : List V} {ds : List PyData} : SqT K H a vs → IsAllK K H vs ds → IsK K H (.ref a) (.tuple ds)
  | lst {a : Addr} {vs : List V} {ds : List PyData} : H a = some (.lst vs) → IsAllK K H vs ds → IsK K H (.ref a) (.list ds)
inductive IsAllK (K : PySem.W.Frag) (H : Hp) : List V → List PyData → Prop
  | nil : IsAllK K H [] []
  | cons {v : V} {vs : List V} {d : PyData} {ds : List PyData} : IsK K H v d → IsAllK K H vs ds → IsAllK K H (v :: vs) (d :: ds)
end

section
variable {X : Cx} {pins : List (Addr × Obj)} {σ : St} {H : Hp} {s : Shared}

def rEqK (K : PySem.W.Frag) : R2 := fun x y H Q => ∃ d e, IsK K H x d ∧ IsK K H y e ∧ SeqAt.shaped d = true ∧ SeqAt.shaped e = true ∧ Q (.bl (PyData.eqv d e)) H
def rNeK (K : PySem.W.Frag) : R2 := fun x y H Q => ∃ d e, IsK K H x d ∧ IsK K H y e ∧ SeqAt.shaped d = true ∧ SeqAt.shaped e = true ∧ Q (.bl (!PyData.eqv d e)) H
end


def rIsiA (K : PySem.W.Frag) : List V → Hp → VK → Prop := fun xs H Q => ∃ x T t b, xs = [x, .ty T] ∧ (TyOf K H x t ∨ ∃ a ys, x = .ref a ∧ SqT K H a ys ∧ t = .type "tuple") ∧ PySem.W.kitOne K t (.type T) = some b ∧ Q (.bl b) H
abbrev RowsK (K : PySem.W.Frag) (H : Hp) (zs : List Addr) (rows : List (List Int)) : Prop := Paired (fun (z : Addr) (r : List Int) => SqT K H z (r.map V.int)) zs rows
def AlikeK (K : PySem.W.Frag) (H : Hp) : Nat → V → V → Prop
  | 0, x, y => ∃ a : Int, x = .int a ∧ y = .int a
  | n + 1, x, y => (∃ a : Int, x = .int a ∧ y = .int a) ∨ ∃ a b xs ys, x = .ref a ∧ y = .ref b ∧ SqT K H a xs ∧ SqT K H b ys ∧ xs.length ≤ 1000 ∧ Paired (AlikeK K H n) xs ys
def spSameK (K : PySem.W.Frag) (n : Nat) : Sp := fun vs H Q _ => ∃ x y, vs = [x, y] ∧ AlikeK K H n x y ∧ ∀ H', Same H H' → Q (.bl true) H'
end L2


namespace L2
open PySem PySem.Spec PyProof.Rows
def Pot (H : Hp) (p q : Addr) : Prop := ∃ (ns : List Int) (seed turn : Int), H p = some (.lst [.ref q, .int seed, .int turn]) ∧ H q = some (.lst (ns.map V.int)) ∧ (∀ n ∈ ns, 0 ≤ n) ∧ ns.length ≤ 63
def spPot (K : PySem.W.Frag) : Sp := fun vs H Q _ => ∃ (a : Addr) (ns : List Int), vs = [.ref a] ∧ SqL K H a (ns.map V.int) ∧ ns.length ≤ 63 ∧ ∀ p q H', Same H H' → Pot H' p q → H p = none → H q = none → Q (.ref p) H'
def spTake : Sp := fun vs H Q _ => ∃ (p q : Addr) (m : Int), vs = [.ref p, .int m] ∧ 0 < m ∧ m < 1073741824 ∧ Pot H p q ∧ ∀ d H', 0 ≤ d → d < m → Pot H' p q → Keep p q H H' → Q (.int d) H'
theorem op_mulW {X : Cx} : OpR X (binaryOp .Mult) (rI (fun i j => IntMulOk i j) fun i j => .int (i * j)) := opI fun _ _ _ _ _ _ _ hc q => mul_int q hc
end L2
namespace L2
open PySem PySem.Spec PyProof.Rows
def atZ (ns : List Int) (k : Int) : Int := if k < 0 then 0 else ns.getD k.toNat 0
def spNumAt (K : PySem.W.Frag) : Sp := fun vs H Q _ => ∃ (a : Addr) (ns : List Int) (k : Int), vs = [.ref a, .int k] ∧ SqT K H a (ns.map V.int) ∧ Q (.int (atZ ns k)) H
end L2
namespace L2
open PySem PySem.Spec PyProof.Rows
def roundsRow (m : Nat) (ns : List Int) : List Int := (num0 (m + 1)).map fun k => atZ ns (k - 1) + ((m : Int) - 1) * atZ ns k
def staysRow (m : Nat) (ns : List Int) : List Int := (num0 (m + 1)).map fun k => atZ ns (k - 1) + ((m : Int) - 1 - k) * atZ ns k + (k + 1) * atZ ns (k + 1)
def risesRow (m : Nat) (ns : List Int) : List Int := (num0 m).map fun k => (k + 1) * atZ ns k + ((m : Int) - k) * atZ ns (k - 1)
def spRow (K : PySem.W.Frag) (B : Nat) (g : Nat → List Int → List Int) : Sp := fun vs H Q _ => ∃ (m : Nat) (a : Addr) (ns : List Int), vs = [.int m, .ref a] ∧ 1 ≤ m ∧ m ≤ B ∧ SqT K H a (ns.map V.int) ∧ ns.length ≤ 1000 ∧ ∀ p H', Same H H' → H' p = some (.tup ((g m ns).map V.int)) → Q (.ref p) H'
end L2
namespace L2
open PySem PySem.Spec PyProof.Rows
section
variable {X : Cx}
def rSlK (K : PySem.W.Frag) : V → Option Int → Option Int → Hp → VK → Prop := fun x lo hi H Q => ∃ a xs, x = .ref a ∧ SqT K H a xs ∧ ∀ p H', Same H H' → SqT K H' p (cutV xs lo hi) → Q (.ref p) H'
def rSumT (K : PySem.W.Frag) : List V → Hp → VK → Prop := fun xs H Q => ∃ (l : Addr) (ns : List Int), xs = [.ref l] ∧ SqT K H l (ns.map V.int) ∧ Q (.int ns.sum) H
end
def win (ns : List Int) (lo : Int) (n : Nat) : Int := ((List.range n).map fun (i : Nat) => atZ ns (lo + (i : Int))).sum
end L2
namespace L2
open PySem PySem.Spec PyProof.Rows
def crossedRow (m : Nat) (ns : List Int) : List Int := (num0 (m * (m - 1) / 2 + 1)).map fun k => win ns (k - (m : Int) + 1) m
end L2
namespace L2
open PySem PySem.Spec PyProof.Rows
def kinds5 : List Str := ["rounds", "stays", "rises", "highs", "crossed"]
def rowOf (kind : Str) (m : Nat) (ns : List Int) : List Int :=
  if kind = "crossed" then crossedRow m ns else if kind = "rises" then risesRow m ns else if kind = "stays" then staysRow m ns else roundsRow m ns
def bOf (kind : Str) : Nat := if kind = "crossed" then 24 else 60
def spNext (K : PySem.W.Frag) : Sp := fun vs H Q _ => ∃ (kind : Str) (m : Nat) (a : Addr) (ns : List Int), vs = [.str kind, .int m, .ref a] ∧ kind ∈ kinds5 ∧ 1 ≤ m ∧ m ≤ bOf kind ∧ SqT K H a (ns.map V.int) ∧ ns.length ≤ 1000 ∧ ∀ p H', Same H H' → H' p = some (.tup ((rowOf kind m ns).map V.int)) → Q (.ref p) H'
def rowZ (kind : Str) : Nat → List Int
  | 0 => [1]
  | n + 1 => rowOf kind (n + 1) (rowZ kind n)
def rowsZ (kind : Str) (n : Nat) : List (List Int) := (List.range (n + 1)).map (rowZ kind)
def spSteps (K : PySem.W.Frag) : Sp := fun vs H Q _ => ∃ (kind : Str) (m : Nat), vs = [.str kind, .int m] ∧ kind ∈ kinds5 ∧ m ≤ bOf kind ∧ ∀ p zs H', Same H H' → H' p = some (.tup (zs.map V.ref)) → RowsK K H' zs (rowsZ kind m) → Q (.ref p) H'
def spTold (K : PySem.W.Frag) : Sp := fun vs H Q _ => ∃ (kind : Str) (m : Nat), vs = [.str kind, .int m] ∧ kind ∈ kinds5 ∧ m ≤ bOf kind ∧ ∀ p H', Same H H' → SqT K H' p ((rowZ kind m).map V.int) → Q (.ref p) H'
end L2
namespace L2
end L2
namespace L2
open PySem PySem.Spec PyProof.Rows
def wideZ (n : Nat) (ns : List Int) : List Int := List.replicate (n + 1) 0 ++ ns ++ List.replicate (n * (n + 1) + 2) 0
end L2
namespace L2
open PySem PySem.Spec PyProof.Rows
end L2
namespace L2
open PySem PySem.Spec PyProof.Rows
theorem sqT_ofK {K : PySem.W.Frag} {a : Addr} {xs : List V} {its : Array Value} {n : Nat} (l : K.lookup a = some { cls := .type "tuple", data := .seq its n }) (hz : its.size ≤ sizeLine) (r : Vals xs its.toList) : ∀ H, SqT K H a xs := fun _ => .inr ⟨_, its, n, l, rfl, rfl, hz, r⟩
end L2


namespace L2
open PySem PySem.Spec PyProof.Rows
structure TopX (mg : Str → Option Value) : Prop where
  n_str : mg "str" = none
  n_repr : mg "repr" = none
  n_divmod : mg "divmod" = none
structure TopXK (K : PySem.W.Frag) : Prop where
  k_str : PySem.W.nsIn K mainGlobals "str" = some none
  k_repr : PySem.W.nsIn K mainGlobals "repr" = some none
  k_divmod : PySem.W.nsIn K mainGlobals "divmod" = some none
theorem TopXK.top {K : PySem.W.Frag} {h : Heap} {mg : Str → Option Value} (T : TopXK K) (X : K.In h) (G : h.Ns mainGlobals mg) : TopX mg :=
  ⟨PySem.W.mg_none_of X G T.k_str, PySem.W.mg_none_of X G T.k_repr, PySem.W.mg_none_of X G T.k_divmod⟩
def Pot2 (H : Hp) (p : Addr) : Prop := ∃ own mixed : Int, H p = some (.lst [.int own, .int mixed]) ∧ 0 ≤ own ∧ 0 ≤ mixed ∧ mixed < 18446744073709551557
def spPot2 (K : PySem.W.Frag) : Sp := fun vs H Q _ => ∃ (a : Addr) (ns : List Int) (k : Int), vs = [.ref a, .int k] ∧ SqL K H a (ns.map V.int) ∧ 0 ≤ k ∧ k ≤ 1000 ∧ ∀ p H', Same H H' → Pot2 H' p → H p = none → Q (.ref p) H'
def spNext2 : Sp := fun vs H Q _ => ∃ (p : Addr) (m : Int), vs = [.ref p, .int m] ∧ 0 < m ∧ m < 1073741824 ∧ Pot2 H p ∧ ∀ d H', 0 ≤ d → d < m → Pot2 H' p → Keep p p H H' → Q (.int d) H'
def spOf2 : Sp := fun vs H Q _ => ∃ (p l : Addr) (xs : List V), vs = [.ref p, .ref l] ∧ H l = some (.lst xs) ∧ l ≠ p ∧ 0 < xs.length ∧ xs.length ≤ 1000 ∧ Pot2 H p ∧ ∀ x ∈ xs, ∀ H', Pot2 H' p → Keep p p H H' → Q x H'
def spNumber2 : Sp := fun vs H Q _ => ∃ (p l : Addr) (ns : List Int), vs = [.ref p, .ref l] ∧ H l = some (.lst (ns.map V.int)) ∧ l ≠ p ∧ 0 < ns.length ∧ ns.length ≤ 1000 ∧ (∀ n ∈ ns, n < 1073741824) ∧ Pot2 H p ∧ ∀ n ∈ ns, ∀ d H', (0 < n → 0 ≤ d ∧ d < n) → (¬ 0 < n → d = -n) → Pot2 H' p → Keep p p H H' → Q (.int d) H'
end L2
namespace L2
open PySem PySem.Spec PyProof.Rows
def AlikeW (H : Hp) : Nat → V → V → Prop
  | 0, x, y => ∃ a : Int, x = .int a ∧ y = .int a
  | n + 1, x, y => (∃ a : Int, x = .int a ∧ y = .int a) ∨ ∃ a b xs ys, x = .ref a ∧ y = .ref b ∧ H a = some (.tup xs) ∧ H b = some (.tup ys) ∧ xs.length < sizeLine ∧ Paired (AlikeW H n) xs ys
def spSameW (n : Nat) : Sp := fun vs H Q _ => ∃ x y, vs = [x, y] ∧ AlikeW H n x y ∧ ∀ H', Same H H' → Q (.bl true) H'
end L2
namespace L2
open PySem PySem.Spec PyProof.Rows
def numF (lo : Int) (n : Nat) : List Int := (List.range n).map fun (i : Nat) => lo + (i : Int)
def prsAt (m : Nat) (k : Int) : List (Int × Int) := (numF (k + 1) ((m : Int) - (k + 1)).toNat).map fun j => (k, j)
def prsZ (m i : Nat) : List (Int × Int) := (num0 i).flatMap (prsAt m)
def rowP (kj : Int × Int) : List Int := [kj.1, kj.2]
def onesZ (n : Nat) : List (List Int) := (num0 n).map fun k => [k]
def partsZ (kind : Str) (m : Nat) : List (List Int) := if kind = "crossed" then (prsZ m m).map rowP else if kind = "rises" then onesZ (m - 1) else onesZ m
def RTab (g : Int → List Int) (x v : V) (H : Hp) : Prop := ∃ (k : Int) (z : Addr), x = .int k ∧ v = .ref z ∧ H z = some (.tup ((g k).map V.int))
def RPrs (xy : V × V) (v : V) (H : Hp) : Prop := ∃ (k j : Int) (z : Addr), xy = (.int k, .int j) ∧ v = .ref z ∧ H z = some (.tup [.int k, .int j])
def ysP (m : Nat) : V → List V := fun x => match x with | .int k => rangeV (k + 1) ((m : Int) - (k + 1)).toNat | _ => []
def spParts : Sp := fun vs H Q _ => ∃ (kind : Str) (m : Nat), vs = [.str kind, .int m] ∧ kind ∈ kinds5 ∧ m ≤ 60 ∧ ∀ p zs H', Same H H' → H' p = some (.tup (zs.map V.ref)) → RowsAt H' zs (partsZ kind m) → Q (.ref p) H'
def spPart (rows : Nat → List (List Int)) : Sp := fun vs H Q _ => ∃ (m : Nat), vs = [.int m] ∧ m ≤ 60 ∧ ∀ p zs H', Same H H' → H' p = some (.tup (zs.map V.ref)) → RowsAt H' zs (rows m) → Q (.ref p) H'
def spLawParts : Sp := fun vs H Q _ => ∃ (kind : Str) (m : Nat), vs = [.str kind, .int m] ∧ kind ∈ kinds5 ∧ m ≤ 60 ∧ ∀ p zs H', Same H H' → H' p = some (.lst (zs.map V.ref)) → RowsAt H' zs (partsZ kind m) → Q (.ref p) H'
end L2
namespace L2
open PySem PySem.Spec PyProof.Rows
end L2


namespace L2
open PySem PySem.Spec PyProof.Rows
def Shows (d : PyData) : Prop := d.showable = true ∧ d.depth ≤ 60 ∧ d.shown.length ≤ sizeLine
def rReprK (K : PySem.W.Frag) : List V → Hp → VK → Prop := fun xs H Q => ∃ x d, xs = [x] ∧ IsK K H x d ∧ Shows d ∧ Q (.str d.shown) H
def Shw (n : Int) : Prop := n.natAbs.log2 < 1920
theorem shw_of {n : Int} (h0 : 0 ≤ n) (h1 : n < 2 ^ 1900) : Shw n := by
  unfold Shw
  by_cases h : n.natAbs = 0
  · rw [h]; decide
  · rw [Nat.log2_lt h]
    have e : ((2 : Int) ^ 1900) = ((2 ^ 1900 : Nat) : Int) := by norm_cast
    rw [e] at h1
    have h3 : (2 : Nat) ^ 1900 ≤ 2 ^ 1920 := Nat.pow_le_pow_right (by decide) (by decide)
    generalize (2 : Nat) ^ 1900 = M at *
    generalize (2 : Nat) ^ 1920 = N at *
    omega
theorem shw_small {n : Int} (h0 : 0 ≤ n) (h1 : n < 18446744073709551616) : Shw n := by
  refine shw_of h0 (Int.lt_of_lt_of_le h1 ?_)
  have e : ((2 : Int) ^ 1900) = ((2 ^ 1900 : Nat) : Int) := by norm_cast
  rw [e]
  have : (18446744073709551616 : Nat) ≤ 2 ^ 1900 := by decide +kernel
  omega
end L2
namespace L2
open PySem PySem.Spec PyProof.Rows
theorem op_fdivW {X : Cx} : OpR X (binaryOp .FloorDiv) (rI (fun _ j => 0 < j ∧ j < 10000000000000000000000000000000000000000) fun i j => .int (i / j)) := opI fun i j _ _ _ _ _ hc q => by
  have e : i / j = i.fdiv j := (Int.fdiv_eq_ediv_of_nonneg _ (Int.le_of_lt hc.1)).symm
  rw [e] at q
  refine floordiv_int (by omega) q (.inl (PyProof.noPylong_of_log2 ?_))
  have h0 : j.natAbs ≠ 0 := by omega
  rw [Nat.log2_lt h0]
  have h3 : (2 : Nat) ^ 133 ≤ 2 ^ 9000 := Nat.pow_le_pow_right (by decide) (by decide)
  refine Nat.lt_of_lt_of_le ?_ h3
  have h1 := hc.2
  have e2 : (2 : Nat) ^ 133 = 10889035741470030830827987437816582766592 := by decide
  omega
def Pot3 (H : Hp) (p : Addr) (n : Nat) : Prop := ∃ own seed turn : Int, H p = some (.lst [.int own, .int seed, .int turn]) ∧ 0 ≤ own ∧ 0 ≤ seed ∧ seed < 2305843009222000000 ∧ 0 ≤ turn ∧ turn ≤ n
theorem Pot3.same {p : Addr} {n : Nat} {H H' : Hp} (h : Pot3 H p n) (s : Same H H') : Pot3 H' p n := by
  obtain ⟨o, m, t, h1, h2⟩ := h
  exact ⟨o, m, t, s _ _ h1, h2⟩
theorem Pot3.more {p : Addr} {n m : Nat} {H : Hp} (h : Pot3 H p n) (l : n ≤ m) : Pot3 H p m := by
  obtain ⟨o, s, t, h1, h2, h3, h4, h5, h6⟩ := h
  exact ⟨o, s, t, h1, h2, h3, h4, h5, by omega⟩
theorem Pot3.keepT {p : Addr} {n : Nat} {H H' : Hp} (h : Pot3 H p n) (k : Keep p p H H') {a : Addr} {xs : List V} (ha : H a = some (.tup xs)) : H' a = some (.tup xs) := by
  obtain ⟨o, m, t, h1, h2⟩ := h
  have : a ≠ p := ne_of ha h1 (by intro z; cases z)
  exact k a _ ha this this
theorem Pot3.ne_new {p l : Addr} {n : Nat} {H : Hp} (h : Pot3 H p n) (hl : H l = none) : l ≠ p := by
  obtain ⟨o, m, t, h1, h2⟩ := h
  intro e
  rw [e, h1] at hl
  cases hl
def spBegin (K : PySem.W.Frag) : Sp := fun vs H Q _ => ∃ (a : Addr) (ns : List Int) (k : Int), vs = [.ref a, .int k] ∧ SqL K H a (ns.map V.int) ∧ 0 ≤ k ∧ k ≤ 1000 ∧ ∀ p H', Same H H' → Pot3 H' p 0 → H p = none → Q (.ref p) H'
def spDraw : Sp := fun vs H Q _ => ∃ (p : Addr) (m : Int) (n : Nat), vs = [.ref p, .int m] ∧ 0 < m ∧ m < 10000000000000000000000000000000000000000 ∧ Pot3 H p n ∧ n < 1000000 ∧ ∀ d H', 0 ≤ d → d < m → Pot3 H' p (n + 1) → Keep p p H H' → Q (.int d) H'
end L2


namespace L2
open PySem PySem.Spec PyProof.Rows
def dieF (S : Int) : List Int → Int → Int → Nat → Option (Int × Nat)
  | [], v, w, t => if w < S then none else some (v, t)
  | c :: cs, v, w, t => if w < S then (if S ≤ 2 * v + c then dieF S cs (2 * v + c - S) (2 * w - S) (t + 1) else dieF S cs (2 * v + c) (2 * w) (t + 1)) else some (v, t)
def dieR (S : Int) (cs : List Int) : Option (Int × Nat) := dieF S cs 0 1 0
def IsDie (H : Hp) (x : V) : Option (Int × Nat) → Prop
  | none => x = .non
  | some (v, t) => ∃ z, x = .ref z ∧ H z = some (.tup ([v, (t : Int)].map V.int))
def dataDie : Option (Int × Nat) → PyData
  | none => .none
  | some (v, t) => .tuple ([v, (t : Int)].map PyData.int)
def Coins (cs : List Int) : Prop := (∀ c ∈ cs, c = 0 ∨ c = 1) ∧ cs.length ≤ 700
def spDie : Sp := fun vs H Q _ => ∃ (S : Int) (a : Addr) (cs : List Int), vs = [.int S, .ref a] ∧ 1 ≤ S ∧ H a = some (.tup (cs.map V.int)) ∧ Coins cs ∧ ∀ x H', Same H H' → IsDie H' x (dieR S cs) → Q x H'
def spSides : Sp := fun vs H Q _ => ∃ (p : Addr) (n : Nat), vs = [.ref p] ∧ Pot3 H p n ∧ n < 900000 ∧ ∀ S H', 1 ≤ S → S ≤ 1000000000000000000000000000000 → Pot3 H' p (n + 8) → Keep p p H H' → Q (.int S) H'
def spCoins : Sp := fun vs H Q _ => ∃ (p : Addr) (n : Nat) (top : Int), vs = [.ref p, .int top] ∧ 0 ≤ top ∧ top ≤ 600 ∧ Pot3 H p n ∧ n < 900000 ∧ ∀ (z : Addr) (cs : List Int) (H' : Hp), H' z = some (.tup (cs.map V.int)) → (∀ c ∈ cs, c = 0 ∨ c = 1) → cs.length ≤ 600 → Pot3 H' p (n + 2000) → Keep p p H H' → Q (.ref z) H'
theorem at_list {ns : List Int} {d : Int} (h0 : 0 ≤ d) (h1 : d < ns.length) : ∃ n ∈ ns, atI (ns.map V.int) d = some (.int n) := by
  have hd : d.toNat < ns.length := by omega
  refine ⟨ns[d.toNat], List.getElem_mem _, ?_⟩
  have := atI_nat (xs := ns.map V.int) (j := d.toNat) (v := .int ns[d.toNat]) (by rw [List.getElem?_map, List.getElem?_eq_getElem hd]; rfl)
  rwa [show ((d.toNat : Nat) : Int) = d by omega] at this
end L2
namespace L2
open PySem PySem.Spec PyProof.Rows
theorem take_min {α : Type} (l : List α) (k : Nat) : l.take (min k l.length) = l.take k := by
  by_cases h : k ≤ l.length
  · rw [Nat.min_eq_left h]
  · rw [Nat.min_eq_right (by omega), List.take_length, List.take_of_length_le (by omega)]
theorem cutV_takeI (ns : List Int) (k : Nat) : cutV (ns.map V.int) none (some (k : Int)) = (ns.take k).map V.int := by
  unfold cutV
  rw [HT.sIx_none, HT.sIx_nat, List.drop_zero, Nat.sub_zero, take_min, List.map_take]
end L2


namespace L2
open PySem PySem.Spec PyProof.Rows
def waysZ (S : Int) (m : Nat) : List Int := [2 ^ m / S, 2 ^ m % S]
def spWays : Sp := fun vs H Q _ => ∃ (S : Int) (m : Nat), vs = [.int S, .int m] ∧ 1 ≤ S ∧ S < 10000000000000000000000000000000000000000 ∧ m ≤ 1000 ∧ ∀ z H', Same H H' → H' z = some (.tup ((waysZ S m).map V.int)) → Q (.ref z) H'
def bitsZ (m : Nat) (n : Int) : List Int := (num0 m).map fun p => Builtin.bitAnd (n / 2 ^ p.toNat) 1
def atD (S : Int) : Option (Int × Nat) → Int
  | none => S
  | some (v, _) => v
def goneZ (S : Int) (m : Nat) : Nat → List Int
  | 0 => List.replicate (S.toNat + 1) 0
  | i + 1 => (goneZ S m i).set (atD S (dieR S (bitsZ m i))).toNat ((goneZ S m i).getD (atD S (dieR S (bitsZ m i))).toNat 0 + 1)
def spGone : Sp := fun vs H Q _ => ∃ (S : Int) (m : Nat), vs = [.int S, .int m] ∧ 1 ≤ S ∧ S ≤ 100 ∧ m ≤ 10 ∧ ∀ z H', Same H H' → H' z = some (.lst ((goneZ S m (2 ^ m)).map V.int)) → Q (.ref z) H'
end L2


namespace L2
open PySem PySem.Spec PyProof.Rows
def Itd (hi : Int) (n : Nat) : It := ⟨fun i _ => i < n, fun i H x H' => H' = H ∧ x = .int (hi - i), fun i _ => n ≤ i⟩
section
variable {X : Cx} {tg : Expr}
def iRngD (ta : TA) : TI := fun σ H R => ta σ H fun vs H1 => ∃ i j : Int, vs = [.int i, .int j, .int (-1)] ∧ (-(2 ^ 62) ≤ i ∧ i < 2 ^ 62 ∧ -(2 ^ 62) ≤ j ∧ j < 2 ^ 62) ∧ R (Itd i (i - j).toNat) H1
end
section
variable {X : Cx}
def rLIndex : V → List V → Hp → VK → Prop := fun x vs H Q => ∃ (a : Addr) (ns : List Int) (n : Int), x = .ref a ∧ vs = [.int n] ∧ H a = some (.lst (ns.map V.int)) ∧ n ∈ ns ∧ ns.length ≤ 100000 ∧ Q (.int (ns.idxOf n)) H
end
end L2


namespace L2
open PySem PySem.Spec PyProof.Rows
def exO (l : List Int) (i j : Nat) : List Int := (l.set i (l.getD j 0)).set j (l.getD i 0)
def Thr (ts : List Int) : Prop := ∀ k, k < ts.length → 0 ≤ ts.getD k 0 ∧ ts.getD k 0 ≤ k
def swZ (n : Nat) (ts : List Int) : Nat → List Int
  | 0 => num0 n
  | i + 1 => exO (swZ n ts i) i (ts.getD i 0).toNat
def swappedZ (ts : List Int) : List Int := swZ ts.length ts ts.length
def dnL (o : List Int) : Nat → List Int
  | 0 => o
  | j + 1 => exO (dnL o j) (o.length - 1 - j) ((dnL o j).idxOf ((o.length - 1 - j : Nat) : Int))
def swapsZ (o : List Int) : List Int := (List.range o.length).map fun k => (((dnL o (o.length - 1 - k)).idxOf (k : Int) : Nat) : Int)
end L2


namespace L2
open PySem PySem.Spec PyProof.Rows
def spSize3 : Sp := fun vs H Q _ => ∃ (p : Addr) (n : Nat) (top : Int), vs = [.ref p, .int top] ∧ 9 ≤ top ∧ top ≤ 600 ∧ Pot3 H p n ∧ n < 950000 ∧ ∀ d H', 0 ≤ d → d ≤ top → Pot3 H' p (n + 2) → Keep p p H H' → Q (.int d) H'
def spThrows : Sp := fun vs H Q _ => ∃ (p : Addr) (n : Nat) (top : Int), vs = [.ref p, .int top] ∧ 9 ≤ top ∧ top ≤ 100 ∧ Pot3 H p n ∧ n < 900000 ∧ ∀ (z : Addr) (ts : List Int) (H' : Hp), H' z = some (.tup (ts.map V.int)) → Thr ts → ts.length ≤ top.toNat → Pot3 H' p (n + 1000) → Keep p p H H' → Q (.ref z) H'
def spOrd3 : Sp := fun vs H Q _ => ∃ (p : Addr) (n : Nat) (top : Int), vs = [.ref p, .int top] ∧ 9 ≤ top ∧ top ≤ 100 ∧ Pot3 H p n ∧ n < 900000 ∧ ∀ (z : Addr) (os : List Int) (m : Nat) (H' : Hp), H' z = some (.tup (os.map V.int)) → Ord m os → m ≤ top.toNat → Pot3 H' p (n + 1000) → Keep p p H H' → Q (.ref z) H'
def spTr (g : List Int → List Int) : Sp := fun vs H Q _ => ∃ (a : Addr) (ts : List Int), vs = [.ref a] ∧ H a = some (.tup (ts.map V.int)) ∧ Thr ts ∧ ts.length ≤ 100 ∧ ∀ z H', Same H H' → H' z = some (.tup ((g ts).map V.int)) → Q (.ref z) H'
def spOr (g : List Int → List Int) : Sp := fun vs H Q _ => ∃ (a : Addr) (os : List Int) (m : Nat), vs = [.ref a] ∧ H a = some (.tup (os.map V.int)) ∧ Ord m os ∧ m ≤ 100 ∧ ∀ z H', Same H H' → H' z = some (.tup ((g os).map V.int)) → Q (.ref z) H'
def spFits : Sp := fun vs H Q _ => ∃ (a : Addr) (ts : List Int), vs = [.ref a] ∧ H a = some (.tup (ts.map V.int)) ∧ Thr ts ∧ ∀ H', Same H H' → Q (.bl true) H'
theorem ints_get {ns : List Int} {i : Nat} {x : V} (h : (ns.map V.int)[i]? = some x) : i < ns.length ∧ x = .int (ns.getD i 0) := by
  rw [List.getElem?_map] at h
  cases e : ns[i]? with
  | none => rw [e] at h; cases h
  | some n =>
    rw [e] at h
    refine ⟨(List.getElem?_eq_some_iff.mp e).1, ?_⟩
    rw [List.getD_eq_getElem?_getD, e]
    exact (Option.some.inj h).symm
end L2
namespace L2
open PySem PySem.Spec PyProof.Rows
end L2


namespace PyProof.Rows
open PySem PySem.Spec
section
variable {prog : Program} {w : World} {A : Around} {E : Value → Shared → Prop} {s : Shared}
end
end PyProof.Rows
namespace L2
open PySem PySem.Spec PyProof.Rows
def rSortedT (K : PySem.W.Frag) : List V → Hp → VK → Prop := fun xs H Q => ∃ (l : Addr) (ns : List Int), xs = [.ref l] ∧ SqT K H l (ns.map V.int) ∧ ns.length < 64 ∧
  ∀ p (ns' : List Int), ns'.Perm ns → ns'.Pairwise (· ≤ ·) → H p = none → Q (.ref p) (upd H p (.lst (ns'.map V.int)))
end L2


namespace L2
open PySem PySem.Spec PyProof.Rows
def leftZ (n : Nat) (ts : List Int) : Nat → List Int
  | 0 => num0 n
  | j + 1 => (leftZ n ts j).eraseIdx ((n - 1 - j : Nat) - ts.getD (n - 1 - j) 0).toNat
def popZ (n : Nat) (ts : List Int) (p : Nat) : Int := (leftZ n ts (n - 1 - p)).getD ((p : Int) - ts.getD p 0).toNat 0
def ordZ (ts : List Int) : List Int := (List.range ts.length).map (popZ ts.length ts)
def cntZ (o : List Int) : List Int := (List.range o.length).map fun p => (((o.take p).countP fun y => decide (o.getD p 0 < y) : Nat) : Int)
end L2


namespace L2
open PySem PySem.Spec PyProof.Rows
def zscopeB (sc : Scope) (N : List Str) (scope : Scope) (N' : List Str) (n : Nat) (ix : List Nat) (z : Str) : Bool :=
  scope.kind == .function && scope.names.all (fun y => y.2 != .cell || y.1 == z) && scope.names.all (fun y => y.2 != .free || y.1 != z) && scope.names.all (fun y => y.2 != .local || scope.names.lookup y.1 == some .local) &&
  scope.names.all (fun y => y.2 != .free || (sc.names.lookup y.1 == some .cell || sc.names.lookup y.1 == some .free)) && scope.names.all (fun y => y.2 != .free || scope.names.lookup y.1 != some .local) &&
  N'.length == n + ix.length && (List.range ix.length).all fun j => match ix[j]?, N'[n + j]? with
    | some i, some x => N[i]? == some x && scope.names.contains (x, .free)
    | _, _ => false
theorem CompScopeZ.of {X : Cx} {sc : Scope} {N : List Str} {scope : Scope} {N' : List Str} {n : Nat} {ix : List Nat} {z : Str} (h : zscopeB sc N scope N' n ix z = true) (hs : X.env.scope = sc) (hN : X.N = N) (hcf : ∀ (a : Addr) (cl : List (Str × Addr)), cellsFrom a scope.names cl = (z, a) :: cl)
    (hpc : ∀ h : Heap, pushCells h scope.names = h.push { cls := .type "cell", data := .cell none }) : CompScopeZ X scope N' n ix z := by
  unfold zscopeB at h
  simp only [Bool.and_eq_true, List.all_eq_true] at h
  obtain ⟨⟨⟨⟨⟨⟨⟨h1, h2⟩, h2'⟩, h3⟩, h4⟩, h5⟩, h6⟩, h7⟩ := h
  subst hs hN
  refine ⟨eq_of_beq h1, fun y hy hc => ?_, fun y hy => ?_, hcf, hpc, fun y hy hl => ?_, fun y hy hf => ?_, fun y hy hl => ?_, eq_of_beq h6, fun j i e => ?_⟩
  · have := h2 y hy
    rw [hc] at this
    simpa using this
  · have := h2' _ hy
    simpa using this
  · have := h3 y hy
    rw [hl] at this
    simpa using this
  · have := h4 y hy
    rw [hf] at this
    simpa using this
  · have := h5 _ hy
    rw [hl] at this
    simp at this
  · have hj : j < ix.length := (List.getElem?_eq_some_iff.mp e).1
    have := h7 j (List.mem_range.mpr hj)
    rw [e] at this
    cases hx : N'[n + j]? with
    | none => rw [hx] at this; simp at this
    | some x =>
      rw [hx] at this
      simp only [Bool.and_eq_true] at this
      exact ⟨x, rfl, eq_of_beq this.1, by simpa using this.2⟩
end L2


namespace L2
open PySem PySem.Spec PyProof.Rows
def rBitLen : V → List V → Hp → VK → Prop := fun x vs H Q => ∃ i, x = .int i ∧ vs = [] ∧ Q (.int (Builtin.Int.intBits i)) H
def ctZ (cs : List Int) : Nat → Option (List Int × Nat)
  | 0 => some ([], 0)
  | k + 1 => match ctZ cs k with
    | none => none
    | some (l, t) => match dieR ((k : Int) + 1) (cs.drop t) with
      | none => none
      | some (v, u) => some (l ++ [v], t + u)
def figZ (b : Nat) (n : Int) : List Int := (List.range b).map fun i => Builtin.bitAnd (n / 2 ^ (b - 1 - i)) 1
def figK (k : Nat) (n : Int) : List Int := figZ (Builtin.Int.intBits (k : Int)) n
def coinsZ (ts : List Int) : Nat → List Int
  | 0 => []
  | i + 1 => coinsZ ts i ++ figK i (ts.getD i 0)
end L2
namespace L2
open PySem PySem.Spec PyProof.Rows
def IsCt (H : Hp) (x : V) : Option (List Int × Nat) → Prop
  | none => x = .non
  | some (l, t) => ∃ z y, x = .ref z ∧ H z = some (.tup [.ref y, .int t]) ∧ H y = some (.tup (l.map V.int))
def dataCt : Option (List Int × Nat) → PyData
  | none => .none
  | some (l, t) => .tuple [.tuple (l.map PyData.int), .int t]
def spCt : Sp := fun vs H Q _ => ∃ (m : Nat) (a : Addr) (cs : List Int), vs = [.int m, .ref a] ∧ m ≤ 100 ∧ H a = some (.tup (cs.map V.int)) ∧ Coins cs ∧ ∀ x H', Same H H' → IsCt H' x (ctZ cs m) → Q x H'
def spOne : Sp := fun vs H Q _ => ∃ (S : Int) (a : Addr) (cs : List Int) (f : Nat), vs = [.int S, .ref a, .int f] ∧ 1 ≤ S ∧ H a = some (.tup (cs.map V.int)) ∧ Coins cs ∧ f ≤ cs.length ∧ ∀ x H', Same H H' → IsDie H' x (dieF S (cs.drop f) 0 1 f) → Q x H'
def spFig : Sp := fun vs H Q _ => ∃ (n : Int) (b : Nat), vs = [.int n, .int b] ∧ 0 ≤ n ∧ b ≤ 500 ∧ ∀ p H', Same H H' → H' p = some (.lst ((figZ b n).map V.int)) → H p = none → Q (.ref p) H'
end L2


namespace L2
open PySem PySem.Spec PyProof.Rows
section
variable {X : Cx}
def rMinT : List V → Hp → VK → Prop := fun xs H Q => ∃ (l : Addr) (ns : List Int), xs = [.ref l] ∧ H l = some (.tup (ns.map V.int)) ∧ ns ≠ [] ∧ ∀ M, M ∈ ns → (∀ a ∈ ns, M ≤ a) → Q (.int M) H
end
def markZ (os : List Int) (p : Nat) : Int :=
  if (os.take p).all (fun a => decide (a < os.getD p 0)) then 3 else if (os.take p).all (fun a => decide (os.getD p 0 < a)) then 0 else if os.getD (p - 1) 0 < os.getD p 0 then 2 else 1
def marksZ (os : List Int) : List Int := (numF 1 (os.length - 1)).map fun k => markZ os k.toNat
def spMark : Sp := fun vs H Q _ => ∃ (a : Addr) (os : List Int) (p : Int), vs = [.ref a, .int p] ∧ H a = some (.tup (os.map V.int)) ∧ 1 ≤ p ∧ p < os.length ∧ ∀ H', Same H H' → Q (.int (markZ os p.toNat)) H'
def spUrn (K : PySem.W.Frag) : Sp := fun vs H Q _ => ∃ (a : Addr) (ns : List Int), vs = [.ref a] ∧ SqL K H a (ns.map V.int) ∧ ∀ p H', Same H H' → Pot3 H' p 0 → H p = none → Q (.ref p) H'
def spOrdU : Sp := fun vs H Q _ => ∃ (p : Addr) (n m : Nat), vs = [.ref p, .int m] ∧ m ≤ 100 ∧ Pot3 H p n ∧ n < 900000 ∧ ∀ (z : Addr) (os : List Int) (H' : Hp), H' z = some (.tup (os.map V.int)) → Ord m os → Pot3 H' p (n + 200) → Keep p p H H' → Q (.ref z) H'
theorem far_mul (i : Nat) (hi : i ≤ 63) : IntMulOk (((10 : Int) ^ (60 : Int).toNat) ^ i) ((10 : Int) ^ (60 : Int).toNat) := by
  have h10 : Builtin.Int.intBits (10 : Int) ≤ 4 := intBits_le_iff.mpr (by decide)
  have h1 : Builtin.Int.intBits ((10 : Int) ^ (60 : Int).toNat) ≤ 241 := intBits_pow_le h10 60
  have h2 : Builtin.Int.intBits (((10 : Int) ^ (60 : Int).toNat) ^ i) ≤ 241 * i + 1 := intBits_pow_le h1 i
  exact IntMulOk.of_le h2 h1 (by omega)
theorem far_mul2 (x : Int) (i : Nat) (hi : i ≤ 63) : IntMulOk (x % (10 : Int) ^ (60 : Int).toNat) (((10 : Int) ^ (60 : Int).toNat) ^ i) := by
  have h10 : Builtin.Int.intBits (10 : Int) ≤ 4 := intBits_le_iff.mpr (by decide)
  have h1 : Builtin.Int.intBits ((10 : Int) ^ (60 : Int).toNat) ≤ 241 := intBits_pow_le h10 60
  have h2 : Builtin.Int.intBits (((10 : Int) ^ (60 : Int).toNat) ^ i) ≤ 241 * i + 1 := intBits_pow_le h1 i
  have h3 : Builtin.Int.intBits (x % (10 : Int) ^ (60 : Int).toNat) ≤ 241 := by
    have hp : (0 : Int) < (10 : Int) ^ (60 : Int).toNat := by decide
    have a0 := Int.emod_nonneg x (Int.ne_of_gt hp)
    have a1 := Int.emod_lt_of_pos x hp
    have b := intBits_le_iff.mp h1
    refine intBits_le_iff.mpr ?_
    generalize x % (10 : Int) ^ (60 : Int).toNat = y at *
    generalize (10 : Int) ^ (60 : Int).toNat = F at *
    omega
  exact IntMulOk.of_le h3 h2 (by omega)
end L2


namespace L2
open PySem PySem.Spec PyProof.Rows
section
variable {X : Cx} {elt tg iter : Expr} {ifs : List Expr} {scope : Scope} {pos : Pos} {wi : TI} {g : TG} {tt : TT} {te : TE} {N' : List Str} {n : Nat} {ix : List Nat}
theorem ps_lcsetZ {x z : Str} {i : Nat} {pos' spos : Pos} (hsw : swapsWith (.ListComp elt [⟨tg, iter, ifs, 0⟩] scope pos) (some (.Name x pos')) spos.line X.env = pure true) (hN : X.N.Nodup) (hi' : X.N[i]? = some x) (hx : X.env.scope.names.lookup x = some .local)
    (hc : X.calm = true) (S : CompScopeZ X scope N' n ix z) (hi : PI X tg iter wi)
    (hY : ∀ s₂ H₂ cl C fp Z, PG (X.compZ s₂ H₂ N' scope cl C fp z Z) tg g ∧ PTs (X.compZ s₂ H₂ N' scope cl C fp z Z) ifs tt ∧ PE (X.compZ s₂ H₂ N' scope cl C fp z Z) elt te)
    (hs : ∀ x, foldedSetIterable iter X.env x = pure x := by intro _; rfl) : PS X (.Assign [.Name x pos'] (.ListComp elt [⟨tg, iter, ifs, 0⟩] scope pos) spos) (tAsg (tLc wi g tt te n ix) (gName i)) := by
  intro pins s σ H D I h
  obtain ⟨cl, hcl, hcl1, hcl2⟩ := closure_ok (env := X.env) (scope := scope) fun y hy hf => I.ok.has _ (S.free y hy hf)
  rw [exec_Assign_Name_used _ _ _ _ hsw]
  refine wpAny_bind (wpAny_standAt (wpAny_bind ?_))
  show wpAny _ _ (do let _ ← comprehension (.ListComp elt [⟨tg, iter, ifs, 0⟩] scope pos) scope X.env _ (newList []) false (eval iter X.env) (some (assign (.Name x pos') X.env))) _ _ s
  refine wpAny_bind (thn (wpAny_comprehension_free (use := some (assign (.Name x pos') X.env)) (Q := fun _ s' => SP X pins D .next s') rfl hs hcl S.kind S.names (thn (hi pins s σ H _ I h) fun v s1 h1 => thn h1 fun itv s2 h2 => ?_)) fun _ s' hq => wpAny_pure (wpAny_pure hq))
  obtain ⟨it, fp, tn, J, H2, rfl, I2, T, st2, f2, hW⟩ := h2
  refine lc_coreZ (Q := fun x H1 => gName i x σ H1 D.nx) (R := fun acc C => compPost (model X.prog X.w) X.A X.xe (some (assign (.Name x pos') X.env)) (fun _ s' => SP X pins D .next s') acc C) hc S hY I2 hcl1 hcl2 T st2 f2 hW ?_
  intro acc C s' H' m hn IX hf hL h1 h2 h3 h4 q
  show wpAny _ _ (assign (.Name x pos') X.env (.ref acc)) _ _ _
  obtain ⟨oC, esC, epC, hoC, hdC, rC⟩ := id hn
  have IP : Inv X (pins ++ [(C, oC)]) σ H' s' := IX.pins_of fun p hp => by
    rcases List.mem_append.mp hp with z | z
    · exact IX.pin p (List.mem_append_right _ z)
    · have e : p = (C, oC) := by simpa using z
      subst e
      exact ⟨hoC, hf, hL, h4, fun v z => by rw [hdC] at z; cases z⟩
  refine thn (pg_name hN hi' (.inl hx) (.inr hx) _ s' σ H' (.ref acc) (.ref acc) D.nx IP rfl q) fun _ s'' ⟨σ', H'', I'', q''⟩ => ?_
  obtain ⟨e1, e2, _⟩ := I''.pin (C, oC) (List.mem_append_right _ (List.mem_append_right _ (by simp)))
  refine ⟨m, ⟨oC, esC, epC, e1, hdC, rC⟩, fun h' sb => ⟨σ', H'', ?_, q''⟩⟩
  exact I''.unpinned.turned (t' := s''.toks) (fun b o hb e => sb.extBut b o hb e) e2 hL h1 h2 h3
end
theorem Pot3.upd {H : Hp} {p a : Addr} {n : Nat} {o : HO} (h : Pot3 H p n) (e : a ≠ p) : Pot3 (upd H a o) p n := by
  obtain ⟨u, s, t, h1, h2⟩ := h
  exact ⟨u, s, t, by rw [upd_ne (Ne.symm e)]; exact h1, h2⟩
theorem Keep.upd {p q a : Addr} {H H' : Hp} {o : HO} (k : Keep p q H H') (e : H a = none) : Keep p q H (upd H' a o) := fun b o' h h1 h2 => by
  have : b ≠ a := fun z => by rw [z, e] at h; cases h
  rw [upd_ne this]
  exact k b o' h h1 h2
theorem lc_potI {J : It} {Ok : Hp → Prop} {xs : List V} {tt : TT} {te : TE} {ix : List Nat} {σ : L2.St} {H1 : Hp} {Q : VK} (Y : Yields J Ok xs) (small : xs.length < sizeLine) {p : Addr} {c k : Nat} (hp : Pot3 H1 p c) (full : Bool) (D : Int → Prop) (hok : ∀ H, Keep p p H1 H → Ok H)
    (he : ∀ i x H, xs[i]? = some x → Keep p p H1 H → Pot3 H p (c + k * i) → ∀ (QF : Hp → Prop) (QT : VK), (full = false → ∀ H', Keep p p H H' → Pot3 H' p (c + k * (i + 1)) → QF H') → (∀ (d : Int) H', Keep p p H H' → Pot3 H' p (c + k * (i + 1)) → D d → QT (.int d) H') →
      tt (some x :: ix.map fun i => σ.getD i none) H fun b H3 => if b = true then te (some x :: ix.map fun i => σ.getD i none) H3 QT else QF H3)
    (fin : ∀ acc (ds : List Int) H', H1 acc = none → acc ≠ p → Keep p p H1 H' → Pot3 H' p (c + k * xs.length) → H' acc = some (.lst (ds.map V.int)) → ds.length ≤ xs.length → (full = true → ds.length = xs.length) → (∀ d ∈ ds, D d) → Q (.ref acc) H') :
    LcW J H1 (gName 0) tt te 1 ix σ Q := by
  intro acc ha
  have hap := hp.ne_new ha
  refine ⟨fun i m H => m = xs.length - i ∧ i ≤ xs.length ∧ Keep p p H1 H ∧ Pot3 H p (c + k * i) ∧ ∃ ds : List Int, H acc = some (.lst (ds.map V.int)) ∧ ds.length ≤ i ∧ (full = true → ds.length = i) ∧ ∀ d ∈ ds, D d, ⟨xs.length, by simp, Nat.zero_le _, (same_upd ha).keep, hp.same (same_upd ha), [], upd_same, Nat.le_refl _, fun _ => rfl, fun _ h => by cases h⟩, ?_⟩
  rintro i m H ⟨rfl, hi, kp, hpot, ds, hacc, hl, hf, hD⟩
  have o := hok _ kp
  by_cases hlt : i < xs.length
  · refine .inr ⟨Y.go i _ o hlt, fun x H' y => ?_⟩
    obtain ⟨rfl, hx⟩ := Y.yld i _ x H' o hlt y
    refine ⟨⟨rfl, fun j v e => ?_⟩, ?_⟩
    · cases j with
      | zero => cases e
      | succ j => exact e
    · refine he i x H' hx kp hpot (fun H3 => ∃ m', m' < xs.length - i ∧ _) (fun v H4 => ∃ ys, H4 acc = some (.lst ys) ∧ ys.length < sizeLine ∧ ∃ m', m' < xs.length - i ∧ _) (fun hF H3 k3 p3 => ?_) (fun d H4 k4 p4 hd => ?_)
      · exact ⟨xs.length - (i + 1), by omega, rfl, hlt, kp.trans k3, p3, ds, k3 _ _ hacc hap hap, by omega, (fun z => by rw [hF] at z; cases z), hD⟩
      · have h4 := k4 _ _ hacc hap hap
        refine ⟨_, h4, by rw [mapI_len]; omega, xs.length - (i + 1), by omega, rfl, hlt, (kp.trans k4).upd ha, p4.upd hap, ds ++ [d], by rw [upd_same, List.map_append]; rfl, by simp; omega, (fun z => by have := hf z; simp; omega), fun d' hd' => ?_⟩
        rcases List.mem_append.mp hd' with h | h
        · exact hD d' h
        · rw [List.mem_singleton.mp h]; exact hd
  · have e : i = xs.length := by omega
    subst e
    exact .inl ⟨Y.stop _ o, fin acc ds H ha hap kp hpot hacc hl hf hD⟩
theorem paired_keep {α β : Type} {F G : α → β → Prop} : ∀ {l₁ : List α} {l₂ : List β}, Paired F l₁ l₂ → (∀ a b, a ∈ l₁ → F a b → G a b) → Paired G l₁ l₂
  | _, _, .nil, _ => .nil
  | _, _, .cons p q, h => .cons (h _ _ (List.mem_cons_self) p) (paired_keep q fun a b m f => h a b (List.mem_cons_of_mem _ m) f)
def LRows (H : Hp) (zs : List Addr) (rows : List (List Int)) : Prop := Paired (fun z r => H z = some (.lst (r.map V.int))) zs rows
theorem lc_potR {J : It} {Ok : Hp → Prop} {xs : List V} {te : TE} {ix : List Nat} {σ : L2.St} {H1 : Hp} {Q : VK} (Y : Yields J Ok xs) (small : xs.length < sizeLine) {p : Addr} {c k : Nat} (hp : Pot3 H1 p c) (D : List Int → Prop) (hok : ∀ H, Keep p p H1 H → Ok H)
    (he : ∀ i x H, xs[i]? = some x → Keep p p H1 H → Pot3 H p (c + k * i) → ∀ (QT : VK), (∀ (a : Addr) (r : List Int) H', H a = none → H' a = some (.lst (r.map V.int)) → Keep p p H H' → Pot3 H' p (c + k * (i + 1)) → D r → QT (.ref a) H') → te (some x :: ix.map fun i => σ.getD i none) H QT)
    (fin : ∀ acc (zs : List Addr) (rows : List (List Int)) H', H1 acc = none → acc ≠ p → Keep p p H1 H' → Pot3 H' p (c + k * xs.length) → H' acc = some (.lst (zs.map V.ref)) → LRows H' zs rows → (∀ z ∈ zs, z ≠ p) → rows.length = xs.length → (∀ r ∈ rows, D r) → Q (.ref acc) H') :
    LcW J H1 (gName 0) tNoTest te 1 ix σ Q := by
  intro acc ha
  have hap := hp.ne_new ha
  refine ⟨fun i m H => m = xs.length - i ∧ i ≤ xs.length ∧ Keep p p H1 H ∧ Pot3 H p (c + k * i) ∧ ∃ (zs : List Addr) (rows : List (List Int)), H acc = some (.lst (zs.map V.ref)) ∧ LRows H zs rows ∧ (∀ z ∈ zs, z ≠ p ∧ z ≠ acc) ∧ rows.length = i ∧ ∀ d ∈ rows, D d, ⟨xs.length, by simp, Nat.zero_le _, (same_upd ha).keep, hp.same (same_upd ha), [], [], upd_same, .nil, fun _ h => (by cases h), rfl, fun _ h => by cases h⟩, ?_⟩
  rintro i m H ⟨rfl, hi, kp, hpot, zs, rows, hacc, hr, hz, hl, hD⟩
  have o := hok _ kp
  have hzl := Paired.length hr
  by_cases hlt : i < xs.length
  · refine .inr ⟨Y.go i _ o hlt, fun x H' y => ?_⟩
    obtain ⟨rfl, hx⟩ := Y.yld i _ x H' o hlt y
    refine ⟨⟨rfl, fun j v e => ?_⟩, ?_⟩
    · cases j with
      | zero => cases e
      | succ j => exact e
    · unfold tNoTest
      dsimp only
      rw [if_pos rfl]
      refine he i x H' hx kp hpot _ (fun a r H4 a0 a4 k4 p4 hd => ?_)
      have h4 := k4 _ _ hacc hap hap
      have haa : a ≠ acc := fun e => by rw [e, hacc] at a0; cases a0
      have hap' : a ≠ p := hpot.ne_new a0
      refine ⟨_, h4, by rw [List.length_map]; omega, xs.length - (i + 1), by omega, rfl, hlt, (kp.trans k4).upd ha, p4.upd hap, zs ++ [a], rows ++ [r], by rw [upd_same, List.map_append]; rfl, ?_, fun z h => ?_, by simp; omega, fun d' hd' => ?_⟩
      · refine Paired.snoc (paired_keep hr fun z r' hzm h => ?_) ?_
        · obtain ⟨q1, q2⟩ := hz z hzm
          rw [upd_ne q2]
          exact k4 _ _ h q1 q1
        · rw [upd_ne haa]; exact a4
      · rcases List.mem_append.mp h with h | h
        · exact hz z h
        · rw [List.mem_singleton.mp h]; exact ⟨hap', haa⟩
      · rcases List.mem_append.mp hd' with h | h
        · exact hD d' h
        · rw [List.mem_singleton.mp h]; exact hd
  · have e : i = xs.length := by omega
    subst e
    exact .inl ⟨Y.stop _ o, fin acc zs rows H ha hap kp hpot hacc hr (fun z h => (hz z h).1) hl hD⟩
def IsMach (H : Hp) (z : Addr) (N : Nat) (rows : List (List Int)) (ends : List Int) : Prop := ∃ (R E : Addr) (zs : List Addr), H z = some (.tup [.ref R, .ref E]) ∧ H R = some (.tup (zs.map V.ref)) ∧ RowsAt H zs rows ∧ H E = some (.tup (ends.map V.int)) ∧ rows.length = N ∧ 0 < N ∧ ∀ r ∈ rows, r.length = 4 ∧ ∀ d ∈ r, 0 ≤ d ∧ d < N
def goZ (rows : List (List Int)) (ms : List Int) : Int := ms.foldl (fun s m => (rows.getD s.toNat []).getD m.toNat 0) 0
def Mrk (ms : List Int) : Prop := ∀ m ∈ ms, 0 ≤ m ∧ m < 4
def metB (rows : List (List Int)) (ends os : List Int) : Bool := inV (.int (goZ rows (marksZ os))) (ends.map V.int)
def spGoes : Sp := fun vs H Q _ => ∃ (z a : Addr) (N : Nat) (rows : List (List Int)) (ends ms : List Int), vs = [.ref z, .ref a] ∧ IsMach H z N rows ends ∧ H a = some (.tup (ms.map V.int)) ∧ Mrk ms ∧ ∀ H', Same H H' → Q (.int (goZ rows ms)) H'
def spStA : Sp := fun vs H Q _ => ∃ (z a : Addr) (N : Nat) (rows : List (List Int)) (ends os : List Int) (m : Nat), vs = [.ref z, .ref a] ∧ IsMach H z N rows ends ∧ H a = some (.tup (os.map V.int)) ∧ Ord m os ∧ m ≤ 100 ∧ ∀ H', Same H H' → Q (.int (goZ rows (marksZ os))) H'
def spMet : Sp := fun vs H Q _ => ∃ (z a : Addr) (N : Nat) (rows : List (List Int)) (ends os : List Int) (m : Nat), vs = [.ref z, .ref a] ∧ IsMach H z N rows ends ∧ H a = some (.tup (os.map V.int)) ∧ Ord m os ∧ m ≤ 100 ∧ ∀ H', Same H H' → Q (.bl (metB rows ends os)) H'
def spMach : Sp := fun vs H Q _ => ∃ (p : Addr) (n : Nat) (most : Int), vs = [.ref p, .int most] ∧ 0 < most ∧ most ≤ 40 ∧ Pot3 H p n ∧ n < 900000 ∧ ∀ (z : Addr) (N : Nat) (rows : List (List Int)) (ends : List Int) (H' : Hp), IsMach H' z N rows ends → Pot3 H' p (n + 1000) → Keep p p H H' → Q (.ref z) H'
theorem Pot3.sameT {p : Addr} {n : Nat} {H H' : Hp} (h : Pot3 H p n) (k : Keep p p H H') : SameT H H' := fun _ _ ha => h.keepT k ha
end L2


namespace L2
open PySem PySem.Spec PyProof.Rows

section
variable {κ : Type} [DecidableEq κ]
def valV (kvs : List (κ × V)) (k : κ) : Option V := (kvs.find? fun kv => decide (kv.1 = k)).map (·.2)
def putK (kvs : List (κ × V)) (k : κ) (v : V) : List (κ × V) :=
  if (kvs.any fun kv => decide (kv.1 = k)) = true then kvs.map (fun kv => if kv.1 = k then (kv.1, v) else kv) else kvs ++ [(k, v)]
def dropK (kvs : List (κ × V)) (k : κ) : List (κ × V) := kvs.filter fun kv => decide (kv.1 ≠ k)

end


abbrev KT (H : Hp) : List (List Key × V) → List (List Key × Addr × Value) → Prop := Paired fun p q => p.1 = q.1 ∧ H q.2.1 = some (.tup (p.1.map kV)) ∧ RelV p.2 q.2.2
section
variable {P : Program} {w : World} {H : Hp} {h : Heap} {a : Addr}
end

def DGet (H : Hp) (a : Addr) (y : V) (r : Option V) : Prop :=
  (∃ kvs k, Rd H a (.dK kvs) ∧ y = kV k ∧ r = valV kvs k) ∨ ∃ kvs k b, Rd H a (.dT kvs) ∧ y = .ref b ∧ H b = some (.tup (k.map kV)) ∧ r = valV kvs k
def DPut (H : Hp) (a : Addr) (y v : V) (H' : Hp) : Prop :=
  (∃ kvs k, H a = some (.dK kvs) ∧ y = kV k ∧ kvs.length < sizeLine ∧ H' = upd H a (.dK (putK kvs k v))) ∨
  ∃ kvs k b, H a = some (.dT kvs) ∧ y = .ref b ∧ H b = some (.tup (k.map kV)) ∧ kvs.length < sizeLine ∧ H' = upd H a (.dT (putK kvs k v))
section
variable {X : Cx} {pins : List (Addr × Obj)} {σ : St} {H : Hp} {s : Shared} {a : Addr} {y v : V} {u r : Value} {o : Option V} {A : Around} {E : Value → Shared → Prop}

theorem Inv.big (I : Inv X pins σ H s) : sysModules < s.heap.objs.size := by
  have h : mainGlobals < s.heap.objs.size := (I.mod.glob.keeps I.bk).lt
  exact Nat.lt_trans (by decide) h

end

section
variable {X : Cx} {pins : List (Addr × Obj)} {σ : St} {H : Hp} {s : Shared} {a : Addr} {kvs : List (Key × V)} {k : Key} {u : Value} {A : Around} {E : Value → Shared → Prop}
end


def NoSl (i : Expr) : Prop := ∀ ov iv, subscripted i false ov iv = operate [ov, iv] (getItem ov iv)
def tDGet (td ty : TE) : TE := fun σ H Q => td σ H fun x H1 => ty σ H1 fun y H2 => ∃ a v, x = .ref a ∧ DGet H2 a y (some v) ∧ Q v H2
def tDIn (ty td : TE) : TE := fun σ H Q => ty σ H fun y H1 => td σ H1 fun x H2 => ∃ a o, x = .ref a ∧ DGet H2 a y o ∧ Q (.bl o.isSome) H2
def tDNotIn (ty td : TE) : TE := fun σ H Q => ty σ H fun y H1 => td σ H1 fun x H2 => ∃ a o, x = .ref a ∧ DGet H2 a y o ∧ Q (.bl (!o.isSome)) H2
def sDPut (td ty tv : TE) : TS := fun D σ H => tv σ H fun v H1 => td σ H1 fun x H2 => ty σ H2 fun y H3 => ∃ a H4, x = .ref a ∧ DPut H3 a y v H4 ∧ D.nx σ H4
def sDAug (td ty tv : TE) (rd : V → V → Hp → VK → Prop) : TS := fun D σ H => td σ H fun x H1 => ty σ H1 fun y H2 => ∃ a v, x = .ref a ∧ DGet H2 a y (some v) ∧
  tv σ H2 fun y2 H3 => rd v y2 H3 fun z H4 => ∃ H5, DPut H4 a y z H5 ∧ D.nx σ H5
def sDDel (td ty : TE) : TS := fun D σ H => td σ H fun x H1 => ty σ H1 fun y H2 => ∃ a kvs k, x = .ref a ∧ H2 a = some (.dK kvs) ∧ y = kV k ∧ (valV kvs k).isSome = true ∧ D.nx σ (upd H2 a (.dK (dropK kvs k)))

section
variable {X : Cx} {o i e value : Expr} {pos pos' tpos : Pos} {td ty tv : TE}
end


theorem dk_empty {P : Program} {w : World} {H : Hp} (h : Heap) (hb : sysModules < h.objs.size) : ObjOk P w H (h.push { cls := .type "dict", data := .dict #[] }) h.objs.size (.dK []) :=
  ⟨Nat.zero_le _, beq_eq_false_iff_ne.mpr (Ne.symm (Nat.ne_of_lt hb)), [], .nil, Heap.DictOf.new h⟩
def tDNewK : TE := fun _ H Q => ∀ p, H p = none → Q (.ref p) (upd H p (.dK []))
def tDNewT : TE := fun _ H Q => ∀ p, H p = none → Q (.ref p) (upd H p (.dT []))
section
variable {X : Cx} {pos : Pos}
theorem pe_dnewK : PE X (.Dict [] [] pos) tDNewK := fun pins s σ H Q I h =>
  wpAny_Dict_empty ⟨.ref s.heap.objs.size, _, I.laid (a := s.heap.objs.size) (o := .dK []) (t' := s.toks) (fun _ _ q => Heap.get?_push_of_some _ q) (Nat.le_refl _) (dk_empty s.heap I.big), rfl, h _ (I.hok.fresh (Nat.le_refl _))⟩
end

def tPairs : List (TE × TE) → St → Hp → (List (V × V) → Hp → Prop) → Prop
  | [], _, H, Q => Q [] H
  | (tk, tv) :: r, σ, H, Q => tk σ H fun x H1 => tv σ H1 fun y H2 => tPairs r σ H2 fun ps H3 => Q ((x, y) :: ps) H3
abbrev VV : List (V × V) → List (Value × Value) → Prop := Paired fun p q => RelV p.1 q.1 ∧ RelV p.2 q.2
def PPs (X : Cx) (pos : Pos) (keys : List (Option Expr)) (values : List Expr) (trs : List (TE × TE)) : Prop :=
  ∀ (pins : List (Addr × Obj)) (s : Shared) (σ : St) (H : Hp) (Q : List (V × V) → Hp → Prop), Inv X pins σ H s → tPairs trs σ H Q →
    wpAny (model X.prog X.w) X.A (evalPairs (pairTrees keys values X.env pos)) (fun vs s' => ∃ ps H', Inv X pins σ H' s' ∧ VV ps vs ∧ Q ps H') X.xe s
def mergeK (kvs more : List (Key × V)) : List (Key × V) := more.foldl (fun acc kv => putK acc kv.1 kv.2) kvs
def tDisp (trs : List (TE × TE)) : TE := fun σ H Q => ∀ p, H p = none → tPairs trs σ (upd H p (.dK [])) fun ps H2 => H2 p = some (.dK []) ∧ ∃ kvs : List (Key × V), ps = kvs.map (fun kv => (kV kv.1, kv.2)) ∧ kvs.length ≤ 15 ∧ Q (.ref p) (upd H2 p (.dK (mergeK [] kvs)))
structure M1 (X : Cx) (o : Expr) (m : Str) (apos : Pos) (e : Expr) (cpos : Pos) : Prop where
  base : attributeBase o m X.env (eval o X.env) = eval o X.env
  few : ((backTo cpos (starEach [e] X.env)).all (fun x => !x.1) && (backToKw cpos (keywordEach [] X.env)).all (fun x => x.1.isSome)
    && decide (([e] : List Expr).length + ([] : List Keyword).length + (if ([] : List Keyword).isEmpty then 0 else 1) < 30)) = true
  line : (apos.endLine == cpos.line) = true
  trees : backTo cpos (starEach [e] X.env) = [(false, eval e X.env)]
structure M2 (X : Cx) (o : Expr) (m : Str) (apos : Pos) (e f : Expr) (cpos : Pos) : Prop where
  base : attributeBase o m X.env (eval o X.env) = eval o X.env
  few : ((backTo cpos (starEach [e, f] X.env)).all (fun x => !x.1) && (backToKw cpos (keywordEach [] X.env)).all (fun x => x.1.isSome)
    && decide (([e, f] : List Expr).length + ([] : List Keyword).length + (if ([] : List Keyword).isEmpty then 0 else 1) < 30)) = true
  line : (apos.endLine == cpos.line) = true
  trees : backTo cpos (starEach [e, f] X.env) = [(false, eval e X.env), (false, eval f X.env)]

def IsD (H : Hp) (a : Addr) : Prop := (∃ kvs, Rd H a (.dK kvs)) ∨ ∃ kvs, Rd H a (.dT kvs)
section
variable {X : Cx} {pins : List (Addr × Obj)} {σ : St} {H : Hp} {s : Shared} {a : Addr} {y d : V} {u r : Value} {o : Option V} {A : Around} {E : Value → Shared → Prop}
end

def tDGet1 (td ty : TE) : TE := fun σ H Q => td σ H fun x H1 => ∃ a, x = .ref a ∧ IsD H1 a ∧ ty σ H1 fun y H2 => ∃ o, DGet H2 a y o ∧ Q (o.getD .non) H2
def tDGet2 (td ty tx : TE) : TE := fun σ H Q => td σ H fun x H1 => ∃ a, x = .ref a ∧ IsD H1 a ∧ ty σ H1 fun y H2 => tx σ H2 fun z H3 => ∃ o, DGet H3 a y o ∧ Q (o.getD z) H3
def tDPop1 (td ty : TE) : TE := fun σ H Q => td σ H fun x H1 => ∃ a, x = .ref a ∧ IsD H1 a ∧ ty σ H1 fun y H2 => ∃ kvs k v, H2 a = some (.dK kvs) ∧ y = kV k ∧ valV kvs k = some v ∧ Q v (upd H2 a (.dK (dropK kvs k)))
def tDPop2 (td ty tx : TE) : TE := fun σ H Q => td σ H fun x H1 => ∃ a, x = .ref a ∧ IsD H1 a ∧ ty σ H1 fun y H2 => tx σ H2 fun z H3 => ∃ kvs k, H3 a = some (.dK kvs) ∧ y = kV k ∧
  (∀ v, valV kvs k = some v → Q v (upd H3 a (.dK (dropK kvs k)))) ∧ (valV kvs k = none → Q z H3)
section
variable {X : Cx} {o e f : Expr} {apos cpos : Pos} {td ty tx : TE}
end

section
variable {X : Cx} {pins : List (Addr × Obj)} {σ : St} {H : Hp} {s : Shared} {a : Addr} {kvs : List (Key × V)} {A : Around} {E : Value → Shared → Prop}
end


section
variable {X : Cx} {pins : List (Addr × Obj)} {σ : St} {H : Hp} {s : Shared} {a : Addr} {y : V} {u : Value} {A : Around} {E : Value → Shared → Prop}
end
end L2


namespace L2
open PySem PySem.Spec PyProof.Rows
def kD : Key → PyData
  | .inl i => .int i
  | .inr x => .str x
mutual
inductive IsY (S : Addr → Prop) (H : Hp) : V → PyData → Prop
  | non : IsY S H .non .none
  | bl (b : Bool) : IsY S H (.bl b) (.bool b)
  | int (i : Int) : IsY S H (.int i) (.int i)
  | str (x : Str) : IsY S H (.str x) (.str x)
  | tup {a : Addr} {vs : List V} {ds : List PyData} : H a = some (.tup vs) → IsAllY S H vs ds → IsY S H (.ref a) (.tuple ds)
  | lst {a : Addr} {vs : List V} {ds : List PyData} : H a = some (.lst vs) → S a → IsAllY S H vs ds → IsY S H (.ref a) (.list ds)
  | d0 {a : Addr} : H a = some (.dK []) → IsY S H (.ref a) (.dict [])
  | d1 {a : Addr} {k : Key} {v : V} {d : PyData} : H a = some (.dK [(k, v)]) → IsY S H v d → IsY S H (.ref a) (.dict [(kD k, d)])
inductive IsAllY (S : Addr → Prop) (H : Hp) : List V → List PyData → Prop
  | nil : IsAllY S H [] []
  | cons {v : V} {vs : List V} {d : PyData} {ds : List PyData} : IsY S H v d → IsAllY S H vs ds → IsAllY S H (v :: vs) (d :: ds)
end
def tyD : PyData → String
  | .none => "NoneType" | .bool _ => "bool" | .int _ => "int" | .str _ => "str" | .list _ => "list" | .tuple _ => "tuple" | .dict _ => "dict"
def kinds7 : List String := ["NoneType", "bool", "int", "str", "list", "tuple", "dict"]
theorem tyD_in (d : PyData) : tyD d ∈ kinds7 := by cases d <;> simp [tyD, kinds7]
theorem IsY.ty {K : PySem.W.Frag} {S : Addr → Prop} {H : Hp} {v : V} {d : PyData} (h : IsY S H v d) : TyOf K H v (.type (tyD d)) := by
  cases h with
  | non => exact .non
  | bl b => exact .bl b
  | int i => exact .int i
  | str x => exact .str x
  | tup e _ => exact .tup e
  | lst e _ _ => exact .lst e
  | d0 e => exact .dK e
  | d1 e _ => exact .dK e
theorem kit7 {K : PySem.W.Frag} {t : String} (h : t ∈ kinds7) :
    PySem.W.kitOne K (.type t) (.type "int") = some (t == "bool" || t == "int") ∧ PySem.W.kitOne K (.type t) (.type "bool") = some (t == "bool") ∧ PySem.W.kitOne K (.type t) (.type "tuple") = some (t == "tuple") := by
  have : t = "NoneType" ∨ t = "bool" ∨ t = "int" ∨ t = "str" ∨ t = "list" ∨ t = "tuple" ∨ t = "dict" := by simpa [kinds7] using h
  rcases this with rfl | rfl | rfl | rfl | rfl | rfl | rfl <;> exact ⟨kit_tt (by decide +kernel), kit_tt (by decide +kernel), kit_tt (by decide +kernel)⟩
mutual
theorem IsY.map {S S' : Addr → Prop} {H H' : Hp} (hS : ∀ a, S a → S' a) (ht : ∀ a xs, H a = some (.tup xs) → H' a = some (.tup xs)) (hl : ∀ a xs, S a → H a = some (.lst xs) → H' a = some (.lst xs)) (hd : ∀ a xs, H a = some (.dK xs) → H' a = some (.dK xs)) : ∀ {v : V} {d : PyData}, IsY S H v d → IsY S' H' v d
  | _, _, .non => .non
  | _, _, .bl b => .bl b
  | _, _, .int i => .int i
  | _, _, .str x => .str x
  | _, _, .tup e al => .tup (ht _ _ e) (IsAllY.map hS ht hl hd al)
  | _, _, .lst e s al => .lst (hl _ _ s e) (hS _ s) (IsAllY.map hS ht hl hd al)
  | _, _, .d0 e => .d0 (hd _ _ e)
  | _, _, .d1 e al => .d1 (hd _ _ e) (IsY.map hS ht hl hd al)
theorem IsAllY.map {S S' : Addr → Prop} {H H' : Hp} (hS : ∀ a, S a → S' a) (ht : ∀ a xs, H a = some (.tup xs) → H' a = some (.tup xs)) (hl : ∀ a xs, S a → H a = some (.lst xs) → H' a = some (.lst xs)) (hd : ∀ a xs, H a = some (.dK xs) → H' a = some (.dK xs)) : ∀ {vs : List V} {ds : List PyData}, IsAllY S H vs ds → IsAllY S' H' vs ds
  | _, _, .nil => .nil
  | _, _, .cons h t => .cons (IsY.map hS ht hl hd h) (IsAllY.map hS ht hl hd t)
end
theorem IsY.same {S : Addr → Prop} {H H' : Hp} (s : Same H H') {v : V} {d : PyData} (h : IsY S H v d) : IsY S H' v d := IsY.map (fun _ z => z) (fun a _ => s a _) (fun a _ _ => s a _) (fun a _ => s a _) h
theorem IsAllY.same {S : Addr → Prop} {H H' : Hp} (s : Same H H') {v : List V} {d : List PyData} (h : IsAllY S H v d) : IsAllY S H' v d := IsAllY.map (fun _ z => z) (fun a _ => s a _) (fun a _ _ => s a _) (fun a _ => s a _) h
theorem IsY.wide {S S' : Addr → Prop} {H : Hp} (hS : ∀ a, S a → S' a) {v : V} {d : PyData} (h : IsY S H v d) : IsY S' H v d := IsY.map hS (fun _ _ e => e) (fun _ _ _ e => e) (fun _ _ e => e) h
theorem IsY.keep {S : Addr → Prop} {H H' : Hp} {p q : Addr} {ps qs : List V} (k : Keep p q H H') (hp : H p = some (.lst ps)) (hq : H q = some (.lst qs)) (hS : ∀ a, S a → a ≠ p ∧ a ≠ q) {v : V} {d : PyData} (h : IsY S H v d) : IsY S H' v d :=
  IsY.map (fun _ z => z) (fun a _ e => k a _ e (ne_of e hp (by intro z; cases z)) (ne_of e hq (by intro z; cases z))) (fun a _ s e => k a _ e (hS a s).1 (hS a s).2) (fun a _ e => k a _ e (ne_of e hp (by intro z; cases z)) (ne_of e hq (by intro z; cases z))) h
theorem IsAllY.append {S : Addr → Prop} {H : Hp} : ∀ {v w : List V} {d e : List PyData}, IsAllY S H v d → IsAllY S H w e → IsAllY S H (v ++ w) (d ++ e)
  | _, _, _, _, .nil, h => h
  | _, _, _, _, .cons a t, h => .cons a (IsAllY.append t h)
theorem IsAllY.ints {S : Addr → Prop} {H : Hp} : ∀ ns : List Int, IsAllY S H (ns.map V.int) (ns.map PyData.int)
  | [] => .nil
  | n :: r => .cons (.int n) (IsAllY.ints r)
theorem IsY.intT {S : Addr → Prop} {H : Hp} {a : Addr} {ns : List Int} (h : H a = some (.tup (ns.map V.int))) : IsY S H (.ref a) (.tuple (ns.map PyData.int)) := .tup h (IsAllY.ints ns)
theorem IsAllY.len {S : Addr → Prop} {H : Hp} : ∀ {v : List V} {d : List PyData}, IsAllY S H v d → v.length = d.length
  | _, _, .nil => rfl
  | _, _, .cons _ t => by rw [List.length_cons, List.length_cons, IsAllY.len t]
theorem IsAllY.at {S : Addr → Prop} {H : Hp} : ∀ {v : List V} {d : List PyData} {i : Nat} {x : V}, IsAllY S H v d → v[i]? = some x → ∃ e, d[i]? = some e ∧ IsY S H x e
  | _, _, _, _, .nil, h => by simp at h
  | _, _, 0, _, .cons a _, h => by
    simp at h
    subst h
    exact ⟨_, rfl, a⟩
  | _, _, i + 1, _, .cons _ t, h => by
    obtain ⟨e, h1, h2⟩ := IsAllY.at (i := i) t (by simpa using h)
    exact ⟨e, by simpa using h1, h2⟩
def OkD (m k : Nat) (d : PyData) : Prop := d.showable = true ∧ d.leavesShort 1921 = true ∧ d.bulk ≤ m ∧ d.depth ≤ k
def OkDs (m k : Nat) (ds : List PyData) : Prop := PyData.showableAll ds = true ∧ PyData.leavesShortAll 1921 ds = true ∧ PyData.bulkAll ds ≤ m ∧ PyData.depthAll ds ≤ k
section
variable {X : Cx} {pins : List (Addr × Obj)} {σ : St} {H : Hp} {s : Shared}
end
def rReprD : List V → Hp → VK → Prop := fun xs H Q => ∃ (S : Addr → Prop) (x : V) (d : PyData), xs = [x] ∧ IsY S H x d ∧ (d.hasDict = true → ∀ a, S a → a ≠ sysModules) ∧ Shows d ∧ Q (.str d.shown) H
def tLstN (t : TA) : TE := fun σ H Q => t σ H fun xs H1 => xs.length ≤ sizeLine ∧ ∀ l, H1 l = none → l ≠ sysModules → Q (.ref l) (upd H1 l (.lst xs))
theorem pe_lstN {X : Cx} {pos : Pos} {es : List Expr} {t : TA} (h : PA X es t) : PE X (.List es pos) (tLstN t) := by
  intro pins s σ H Q I hq
  refine wpAny_List_spliced (thn (h pos pins s σ H _ I hq) fun us s1 ⟨xs, H1, I1, r, z, q⟩ => ⟨by rw [← r.length]; exact z, ?_⟩)
  have hf : H1 s1.heap.objs.size = none := I1.hok.fresh (Nat.le_refl _)
  refine ⟨.ref s1.heap.objs.size, upd H1 s1.heap.objs.size (.lst xs), I1.laid (t' := s1.toks) (fun b u e => Heap.get?_push_of_some _ e) (Nat.le_refl _) ?_, rfl, q _ hf (Nat.ne_of_gt I1.big)⟩
  exact ⟨z, us, 0, r, Heap.get?_push_size _ rfl⟩
def tD1 (k1 : Str) (t1 : TE) : TE := fun σ H Q => ∀ d, H d = none → t1 σ (upd H d (.dK [])) fun v1 H1 => H1 d = some (.dK []) ∧ Q (.ref d) (upd H1 d (.dK [(.inr k1, v1)]))
end L2
namespace L2
open PySem PySem.Spec PyProof.Rows
theorem atI_any {xs : List V} {d : Int} (h0 : 0 ≤ d) (h1 : d < xs.length) : ∃ x, xs[d.toNat]? = some x ∧ atI xs d = some x := by
  have hd : d.toNat < xs.length := by omega
  refine ⟨xs[d.toNat], List.getElem?_eq_getElem hd, ?_⟩
  have := atI_nat (xs := xs) (j := d.toNat) (v := xs[d.toNat]) (List.getElem?_eq_getElem hd)
  rwa [show ((d.toNat : Nat) : Int) = d by omega] at this
theorem IsAllY.pick {S : Addr → Prop} {H : Hp} {xs : List V} {ds : List PyData} (h : IsAllY S H xs ds) {d : Int} (h0 : 0 ≤ d) (h1 : d < xs.length) : ∃ x e, atI xs d = some x ∧ e ∈ ds ∧ IsY S H x e := by
  obtain ⟨x, hx, e⟩ := atI_any h0 h1
  obtain ⟨e', he, hy⟩ := h.at hx
  exact ⟨x, e', e, List.mem_of_getElem? he, hy⟩
end L2
namespace L2
open PySem PySem.Spec PyProof.Rows
theorem cut_ints {ts : List Int} (lo hi : Option Int) (P : Int → Prop) (h : ∀ n ∈ ts, P n) : ∃ us : List Int, cutV (ts.map V.int) lo hi = us.map V.int ∧ (∀ n ∈ us, P n) ∧ us.length ≤ ts.length := by
  unfold cutV
  rw [← List.map_drop, ← List.map_take]
  exact ⟨_, rfl, fun n hn => h n (List.mem_of_mem_drop (List.mem_of_mem_take hn)), by rw [List.length_take, List.length_drop]; omega⟩
theorem okd_strs : ∀ n : Nat, n < 200 → (PyData.str (toString (n : Int))).showable = true ∧ (PyData.str (toString (n : Int))).leavesShort 1921 = true ∧ (PyData.str (toString (n : Int))).bulk ≤ 3 := by
  decide +kernel
theorem okd_str {n : Int} {m k : Nat} (h0 : 0 ≤ n) (h1 : n < 200) (hm : 3 ≤ m) : OkD m k (.str (toString n)) := by
  obtain ⟨a, b, c⟩ := okd_strs n.toNat (by omega)
  rw [Int.toNat_of_nonneg h0] at a b c
  exact ⟨a, b, Nat.le_trans c hm, Nat.zero_le _⟩
theorem mid_isY {S : Addr → Prop} {H : Hp} {us ws : List Int} {x : V} {e : PyData} {z : Addr} (hz : H z = some (.tup (us.map V.int ++ [x] ++ ws.map V.int))) (y : IsY S H x e) : IsY S H (.ref z) (.tuple (us.map PyData.int ++ [e] ++ ws.map PyData.int)) :=
  .tup hz (((IsAllY.ints us).append (.cons y .nil)).append (IsAllY.ints ws))
end L2
namespace L2
open PySem PySem.Spec PyProof.Rows
end L2
namespace L2
open PySem PySem.Spec PyProof.Rows
theorem op_isnot_bl {X : Cx} : OpR X (compareOp .IsNot) (fun x y H Q => ∃ a b, x = .bl a ∧ y = .bl b ∧ Q (.bl (!(a == b))) H) := by
  intro pins s σ H x y v u Q I rx ry h
  obtain ⟨a, b, rfl, rfl, q⟩ := h
  cases (show v = Value.bool a from rx)
  cases (show u = Value.bool b from ry)
  refine wpAny_pure ⟨.bl (!(a == b)), H, I, ?_, q⟩
  show Value.bool _ = Value.bool _
  cases a <;> cases b <;> rfl
end L2


namespace L2
open PySem PySem.Spec PyProof.Rows
def rLCount : V → List V → Hp → VK → Prop := fun x vs H Q => ∃ (a : Addr) (ns : List Int) (n : Int), x = .ref a ∧ vs = [.int n] ∧ H a = some (.lst (ns.map V.int)) ∧ Q (.int (ns.countP fun m => m == n : Nat)) H
open Classical in
noncomputable def ordV (ys : List V) : Bool := decide (∃ ns : List Int, ys = ns.map V.int ∧ ns.Perm (num0 ns.length))
def Kn (K : PySem.W.Frag) (H : Hp) (y : V) : Prop := ∃ t : String, TyOf K H y (.type t) ∧ t ∈ kinds7
theorem IsY.kn {K : PySem.W.Frag} {S : Addr → Prop} {H : Hp} {x : V} {d : PyData} (h : IsY S H x d) : Kn K H x := ⟨_, h.ty, tyD_in d⟩
theorem tyI {K : PySem.W.Frag} {H : Hp} {y : V} {t : String} (h : TyOf K H y (.type t)) : t = "int" ↔ ∃ n : Int, y = .int n := by
  cases h <;> simp
def isIv : V → Bool
  | .int _ => true
  | _ => false
def spWhA (K : PySem.W.Frag) : Sp := fun vs H Q _ => ∃ x, vs = [x] ∧ Kn K H x ∧ Q (.bl (isIv x)) H
theorem isIv_iff {y : V} : isIv y = true ↔ ∃ n : Int, y = .int n := by
  cases y <;> simp [isIv]
def AnyT (p q : Addr) (H : Hp) (x : V) : Prop := ∃ S d, IsY S H x d ∧ OkD 400 60 d ∧ (∀ a, S a → a ≠ p ∧ a ≠ q) ∧ (d.hasDict = true → ∀ a, S a → a ≠ sysModules)
theorem lc_growB {J : It} {Ok : Hp → Prop} {xs : List V} {te : TE} {ix : List Nat} {σ : L2.St} {H1 : Hp} {Q : VK} (Y : Yields J Ok xs) (small : xs.length < sizeLine) (g : V → Bool) (hok : ∀ H, Same H1 H → Ok H)
    (he : ∀ x ∈ xs, ∀ H, Same H1 H → ∀ Q' : VK, (∀ H', Same H H' → Q' (.bl (g x)) H') → te (some x :: ix.map fun i => σ.getD i none) H Q')
    (fin : ∀ acc H', H1 acc = none → Same H1 H' → H' acc = some (.lst ((xs.map g).map V.bl)) → Q (.ref acc) H') : LcW J H1 (gName 0) tNoTest te 1 ix σ Q := by
  refine lc_grow Y small (fun x v _ => v = .bl (g x)) (fun _ _ _ _ _ h => h) hok (fun x hx H' s' Q' q => he x hx H' s' Q' fun H2 s2 => q _ H2 s2 rfl) fun acc ys H' hacc sm hys pr => ?_
  have e : ys = (xs.map g).map V.bl := by
    clear hys he fin small Y hok
    induction pr with
    | nil => rfl
    | cons r _ ih => rw [r, ih]; rfl
  rw [e] at hys
  exact fin acc H' hacc sm hys
def notStar : Expr → Bool
  | .Starred _ _ => false
  | _ => true
theorem star_cons {e : Expr} {es : List Expr} {env : Env} (h : notStar e = true) : starEach (e :: es) env = (false, eval e env) :: starEach es env := by
  cases e <;> first | rfl | cases h
theorem pa_consQ {X : Cx} {e : Expr} {es : List Expr} {te : TE} {t : TA} (ha : PE X e te) (hr : PA X es t) (h : notStar e = true := by rfl) : PA X (e :: es) (tCons te t) := pa_cons ha hr (star_cons h)
end L2


namespace L2
open PySem PySem.Spec PyProof.Rows
def lit : Nat → Expr → Option PyData
  | 0, _ => none
  | _ + 1, .Constant .none _ _ => some .none
  | _ + 1, .Constant (.bool b) _ _ => some (.bool b)
  | _ + 1, .Constant (.int i) _ _ => some (.int i)
  | _ + 1, .Constant (.str x) _ _ => some (.str x)
  | _ + 1, .UnaryOp .USub (.Constant (.int i) _ _) _ => some (.int (-i))
  | n + 1, .Tuple es _ _ => if es.length ≤ 100 then (es.mapM (lit n)).map PyData.tuple else none
  | n + 1, .List es _ => if es.length ≤ 100 then (es.mapM (lit n)).map PyData.list else none
  | _ + 1, .Dict [] [] _ => some (.dict [])
  | _ + 1, _ => none
def Fr (H : Hp) : Addr → Prop := fun a => H a = none ∧ a ≠ sysModules
theorem Fr.back {H H' : Hp} (s : Same H H') {a : Addr} (h : Fr H' a) : Fr H a := ⟨s.free h.1, h.2⟩
def tLit (d : PyData) : TE := fun _ H Q => ∀ x H', Same H H' → IsY (Fr H) H' x d → Q x H'
def tLits (ds : List PyData) : TA := fun _ H Q => ∀ xs H', Same H H' → IsAllY (Fr H) H' xs ds → Q xs H'
theorem PE.weak {X : Cx} {e : Expr} {t t' : TE} (h : PE X e t) (m : ∀ σ H Q, t' σ H Q → t σ H Q) : PE X e t' := fun pins s σ H Q I q => h pins s σ H Q I (m σ H Q q)
theorem PA.weak {X : Cx} {e : List Expr} {t t' : TA} (h : PA X e t) (m : ∀ σ H Q, t' σ H Q → t σ H Q) : PA X e t' := fun pos pins s σ H Q I q => h pos pins s σ H Q I (m σ H Q q)
theorem IsAllY.wide {S S' : Addr → Prop} {H : Hp} (hS : ∀ a, S a → S' a) {v : List V} {d : List PyData} (h : IsAllY S H v d) : IsAllY S' H v d := IsAllY.map hS (fun _ _ e => e) (fun _ _ _ e => e) (fun _ _ e => e) h
theorem lit_star {n : Nat} {e : Expr} {d : PyData} (h : lit n e = some d) : notStar e = true := by
  cases n with
  | zero => cases h
  | succ n => cases e <;> first | rfl | cases h
theorem pa_lits {X : Cx} {n : Nat} (ih : ∀ e d, lit n e = some d → PE X e (tLit d)) : ∀ (es : List Expr) (ds : List PyData), es.mapM (lit n) = some ds → PA X es (tLits ds)
  | [], ds, h => by
    simp at h
    subst h
    exact PA.weak pa_nil fun σ H Q q => q [] H (Same.refl H) .nil
  | e :: es, ds, h => by
    rw [List.mapM_cons] at h
    cases h1 : lit n e with
    | none => rw [h1] at h; cases h
    | some d =>
      rw [h1] at h
      cases h2 : es.mapM (lit n) with
      | none => rw [h2] at h; cases h
      | some ds' =>
        rw [h2] at h
        cases h
        refine PA.weak (pa_consQ (ih e d h1) (pa_lits ih es ds' h2) (lit_star h1)) fun σ H Q q x H1 s1 y1 xs H2 s2 y2 => ?_
        exact q _ H2 (s1.trans s2) (.cons (y1.same s2) (y2.wide fun a h => h.back s1))
theorem mapM_len {α β : Type} {f : α → Option β} : ∀ {l : List α} {r : List β}, l.mapM f = some r → r.length = l.length
  | [], r, h => by simp at h; subst h; rfl
  | a :: l, r, h => by
    rw [List.mapM_cons] at h
    cases h1 : f a with
    | none => rw [h1] at h; cases h
    | some b =>
      rw [h1] at h
      cases h2 : l.mapM f with
      | none => rw [h2] at h; cases h
      | some r' =>
        rw [h2] at h
        cases h
        rw [List.length_cons, List.length_cons, mapM_len h2]
theorem pe_lit {X : Cx} : ∀ (n : Nat) (e : Expr) (d : PyData), lit n e = some d → PE X e (tLit d)
  | 0, _, _, h => by cases h
  | n + 1, e, d, h => by
    have ih := pe_lit (X := X) n
    unfold lit at h
    split at h
    · cases ‹_ + 1 = 0›
    · cases h
      exact PE.weak pe_non fun σ H Q q => q _ H (Same.refl H) .non
    · cases h
      exact PE.weak pe_bl fun σ H Q q => q _ H (Same.refl H) (.bl _)
    · cases h
      exact PE.weak pe_int fun σ H Q q => q _ H (Same.refl H) (.int _)
    · cases h
      exact PE.weak pe_str fun σ H Q q => q _ H (Same.refl H) (.str _)
    · cases h
      exact PE.weak (pe_un un_neg pe_int) fun σ H Q q => ⟨_, rfl, q _ H (Same.refl H) (.int _)⟩
    · rename_i k es _ _ heq
      cases heq
      split at h
      · rename_i hl
        cases h2 : es.mapM (lit n) with
        | none => rw [h2] at h; cases h
        | some ds =>
          rw [h2] at h
          cases h
          refine PE.weak (pe_tup (pa_lits ih es ds h2)) fun σ H Q q xs H1 s1 y1 => ?_
          have hz : xs.length ≤ sizeLine := by rw [y1.len, mapM_len h2, sizeLine_eq]; omega
          refine ⟨hz, fun t ht => q _ _ (s1.trans (same_upd ht)) (.tup upd_same (y1.same (same_upd ht)))⟩
      · cases h
    · rename_i k es _ heq
      cases heq
      split at h
      · rename_i hl
        cases h2 : es.mapM (lit n) with
        | none => rw [h2] at h; cases h
        | some ds =>
          rw [h2] at h
          cases h
          refine PE.weak (pe_lstN (pa_lits ih es ds h2)) fun σ H Q q xs H1 s1 y1 => ?_
          have hz : xs.length ≤ sizeLine := by rw [y1.len, mapM_len h2, sizeLine_eq]; omega
          refine ⟨hz, fun t ht hn => q _ _ (s1.trans (same_upd ht)) (.lst upd_same ⟨s1.free ht, hn⟩ (y1.same (same_upd ht)))⟩
      · cases h
    · cases h
      exact PE.weak pe_dnewK fun σ H Q q d hd => q _ _ (same_upd hd) (.d0 upd_same)
    · cases h
end L2


namespace L2
open PySem PySem.Spec PyProof.Rows
theorem lc_growI {J : It} {Ok : Hp → Prop} {xs : List V} {te : TE} {ix : List Nat} {σ : L2.St} {H1 : Hp} {Q : VK} (Y : Yields J Ok xs) (small : xs.length < sizeLine) (bs : List Bool) (hbs : bs.length = xs.length) (hok : ∀ H, Same H1 H → Ok H)
    (he : ∀ (i : Nat) (x : V) (b : Bool) (H : Hp), xs[i]? = some x → bs[i]? = some b → Same H1 H → ∀ (QT : VK), (∀ H', Same H H' → QT (.bl b) H') → te (some x :: ix.map fun i => σ.getD i none) H QT)
    (fin : ∀ acc H', H1 acc = none → Same H1 H' → H' acc = some (.lst (bs.map V.bl)) → Q (.ref acc) H') :
    LcW J H1 (gName 0) tNoTest te 1 ix σ Q := by
  intro acc ha
  refine ⟨fun i m H => m = xs.length - i ∧ i ≤ xs.length ∧ Same H1 H ∧ H acc = some (.lst ((bs.take i).map V.bl)), ⟨xs.length, by simp, Nat.zero_le _, same_upd ha, upd_same⟩, ?_⟩
  rintro i m H ⟨rfl, hi, sm, hacc⟩
  have o := hok _ sm
  by_cases hlt : i < xs.length
  · refine .inr ⟨Y.go i _ o hlt, fun x H' y => ?_⟩
    obtain ⟨rfl, hx⟩ := Y.yld i _ x H' o hlt y
    refine ⟨⟨rfl, fun j v e => ?_⟩, ?_⟩
    · cases j with
      | zero => cases e
      | succ j => exact e
    · unfold tNoTest
      dsimp only
      rw [if_pos rfl]
      have hb : bs[i]? = some bs[i] := List.getElem?_eq_getElem (by omega)
      refine he i x bs[i] H' hx hb sm _ (fun H4 s4 => ?_)
      have h4 := s4 _ _ hacc
      refine ⟨_, h4, by rw [List.length_map, List.length_take]; omega, xs.length - (i + 1), by omega, rfl, hlt, fun b o' hb' => ?_, ?_⟩
      · have hba : b ≠ acc := fun e => by rw [e, ha] at hb'; cases hb'
        rw [upd_ne hba]
        exact s4 b _ (sm b _ hb')
      · rw [upd_same, List.take_succ, hb, List.map_append]
        rfl
  · have e : i = xs.length := by omega
    subst e
    rw [← hbs, List.take_length] at hacc
    exact .inl ⟨Y.stop _ o, fin acc H ha sm hacc⟩
def whD : PyData → Bool
  | .int _ => true
  | _ => false
def inD (m : Int) : PyData → Bool
  | .int n => decide (0 ≤ n) && decide (n < m)
  | _ => false
def wholesD : PyData → Bool
  | .tuple ds => ds.all whD
  | _ => false
def belowD (m : Int) : PyData → Bool
  | .tuple ds => ds.all (inD m)
  | _ => false
def rowD (m : Int) : PyData → Bool
  | .tuple ds => ds.all (inD m) && decide (ds.length = 4)
  | _ => false
def risL : List Int → Bool
  | a :: b :: r => decide (a < b) && risL (b :: r)
  | _ => true
def asI : PyData → Int
  | .int n => n
  | _ => 0
def risD : PyData → Bool
  | .tuple es => risL (es.map asI)
  | _ => false
def machD : PyData → Bool
  | .tuple [.tuple rows, e] => rows.all (rowD rows.length) && (decide (0 < rows.length) && (belowD rows.length e && risD e))
  | _ => false
theorem inD_wh {m : Int} {d : PyData} (h : inD m d = true) : whD d = true := by
  cases d <;> first | rfl | cases h
theorem ints_of {S : Addr → Prop} {H : Hp} : ∀ {vs : List V} {ds : List PyData}, IsAllY S H vs ds → ds.all whD = true → vs = (ds.map asI).map V.int
  | _, _, .nil, _ => rfl
  | _, _, .cons (d := d) h t, a => by
    rw [List.all_cons, Bool.and_eq_true] at a
    rw [ints_of t a.2]
    cases h with
    | int i => rfl
    | _ => cases a.1
def Sz (n : Nat) (d : PyData) : Prop := d.bulk ≤ n
theorem bulk_lenY : ∀ ds : List PyData, ds.length ≤ PyData.bulkAll ds
  | [] => Nat.zero_le _
  | d :: r => by
    have := bulk_lenY r
    simp only [PyData.bulkAll, List.length_cons]; omega
theorem Sz.tup {n : Nat} {ds : List PyData} (h : Sz n (.tuple ds)) : ds.length ≤ n ∧ ∀ d ∈ ds, Sz n d := by
  have h : PyData.bulkAll ds ≤ n := by simpa only [Sz, PyData.bulk] using h
  induction ds with
  | nil => exact ⟨Nat.zero_le _, fun _ h => by cases h⟩
  | cons d r ih =>
    simp only [PyData.bulkAll] at h
    have := ih (by simpa only [Sz, PyData.bulk] using (by omega : PyData.bulkAll r ≤ n)) (by omega)
    have hl := bulk_lenY r
    refine ⟨by rw [List.length_cons]; omega, fun e he => ?_⟩
    rcases List.mem_cons.mp he with rfl | he
    · show e.bulk ≤ n
      omega
    · exact this.2 e he
def spWhsD : Sp := fun vs H Q _ => ∃ S x d, vs = [x] ∧ IsY S H x d ∧ Sz 1000 d ∧ ∀ H', Same H H' → Q (.bl (wholesD d)) H'
def spBelD : Sp := fun vs H Q _ => ∃ S x d m, vs = [x, .int m] ∧ IsY S H x d ∧ Sz 1000 d ∧ ∀ H', Same H H' → Q (.bl (belowD m d)) H'
def spRisL : Sp := fun vs H Q _ => ∃ (a : Addr) (ns : List Int), vs = [.ref a] ∧ H a = some (.tup (ns.map V.int)) ∧ ns.length ≤ 1000 ∧ ∀ H', Same H H' → Q (.bl (risL ns)) H'
def spMaD : Sp := fun vs H Q _ => ∃ S x d, vs = [x] ∧ IsY S H x d ∧ Sz 1000 d ∧ ∀ H', Same H H' → Q (.bl (machD d)) H'
theorem IsY.isT {S : Addr → Prop} {H : Hp} {x : V} {d : PyData} (h : IsY S H x d) : (∃ a vs ds, x = .ref a ∧ d = .tuple ds ∧ H a = some (.tup vs) ∧ IsAllY S H vs ds) ∨ (tyD d ≠ "tuple" ∧ ∀ ds, d ≠ .tuple ds) := by
  cases h with
  | tup e al => exact .inl ⟨_, _, _, rfl, rfl, e, al⟩
  | _ => exact .inr ⟨(by simp [tyD]), fun _ => (by intro z; cases z)⟩
theorem cut_tailY (ns : List Int) : cutV (ns.map V.int) (some 1) none = (ns.drop 1).map V.int := by
  unfold cutV
  rw [show (1 : Int) = ((1 : Nat) : Int) from rfl, HT.sIx_nat, HT.sIx_none, mapI_len]
  cases ns with
  | nil => rfl
  | cons x t =>
    rw [Nat.min_eq_left (by simp), List.map_drop, List.take_of_length_le (by simp)]
def ltP : V × V → Bool
  | (.int a, .int b) => decide (a < b)
  | _ => false
theorem risL_zip : ∀ ns : List Int, (((ns.map V.int).zip ((ns.drop 1).map V.int)).map ltP).all id = risL ns
  | [] => rfl
  | [_] => rfl
  | a :: b :: r => by
    have := risL_zip (b :: r)
    simp only [List.drop_succ_cons, List.drop_zero, List.map_cons, List.zip_cons_cons, List.all_cons, risL, id] at this ⊢
    rw [this]
    rfl
theorem call_len_seqKY {X : Cx} (K : PySem.W.Frag) (hK : X.K = K) : CallR X (.builtin "len") (fun xs H Q => ∃ p ys, xs = [.ref p] ∧ (SqL K H p ys ∨ SqT K H p ys) ∧ Q (.int ys.length) H) := hK ▸ call_len_seq
end L2


namespace L2
open PySem PySem.Spec PyProof.Rows
structure PEw (X : Cx) (e : Expr) (t : TE) : Prop where
  h : PE X e t
structure PAw (X : Cx) (e : List Expr) (t : TA) : Prop where
  h : PA X e t
structure PTw (X : Cx) (e : Expr) (t : TT) : Prop where
  h : PT X e t
structure PWw (X : Cx) (e : Expr) (t : TT) : Prop where
  h : PW X e t
structure PSw (X : Cx) (e : Stmt) (t : TS) : Prop where
  h : PS X e t
structure PSsw (X : Cx) (e : List Stmt) (t : TS) : Prop where
  h : PSs X e t
end L2
namespace Wr
open PySem PySem.Spec PyProof.Rows L2
theorem pss_cons {X : Cx} {st : PySem.Stmt} {rest : List PySem.Stmt} {t u : TS} (h1 : PSw X st t) (h2 : PSsw X rest u) : PSsw X (st :: rest) (tSeq t u) := ⟨L2.pss_cons h1.h h2.h⟩
theorem pss_one {X : Cx} {st : PySem.Stmt} {t : TS} (h1 : PSw X st t) : PSsw X [st] t := ⟨L2.pss_one h1.h⟩
theorem pss_nil {X : Cx} : PSsw X [] tNext := ⟨L2.pss_nil ⟩
theorem ps_set {X : Cx} {pos : PySem.Pos} {i : Nat} {x : Str} {e : Expr} {te : TE} {pos' : Pos} (hN : X.N.Nodup) (hi : X.N[i]? = some x) (hx : Loc X.env.scope x) (he : PEw X e te) (hs : swapsWith e (some (.Name x pos')) pos.line X.env = pure false := by rfl) (hf : X.fn x = true ∨ X.env.scope.names.lookup x = some .local := by first | exact .inl rfl | exact .inr rfl | assumption) : PSw X (.Assign [.Name x pos'] e pos) (tAsg te (gName i)) := ⟨L2.ps_set hN hi hx he.h hs hf⟩
theorem ps_asg {X : Cx} {pos : PySem.Pos} {tg e : Expr} {te : TE} {g : TG} (he : PEw X e te) (hg : PG X tg g) (hs : swapsWithSole [tg] e pos.line X.env = pure false := by rfl) (hw : swappedStores [tg] e X.env = pure none := by rfl) (h1 : (assignEach [tg] X.env).map (·.2) = [assign tg X.env] := by rfl) : PSw X (.Assign [tg] e pos) (tAsg te g) := ⟨L2.ps_asg he.h hg hs hw h1⟩
theorem ps_for {X : Cx} {tg : PySem.Expr} {iter : Expr} {body : List Stmt} {wi : TI} {g : TG} {tb : TS} {pos : Pos} (hp : PassesOwn (model X.prog X.w) X.A X.env X.xe) (hc : X.calm = true) (hi : PI X tg iter wi) (hg : PG X tg g) (hb : PSsw X body tb) (hs : ∀ x, foldedSetIterable iter X.env x = pure x := by intro _; rfl) : PSw X (.For tg iter body [] pos) (tFor wi g tb) := ⟨L2.ps_for hp hc hi hg hb.h hs⟩
theorem ps_if {X : Cx} {t u : TS} {pos : PySem.Pos} {c : Expr} {a b : List Stmt} {tc : TT} (hc : PTw X c tc) (ha : PSsw X a t) (hb : PSsw X b u) : PSw X (.If c a b pos) (tIfS tc t u) := ⟨L2.ps_if hc.h ha.h hb.h⟩
theorem ps_ret {X : Cx} {e : PySem.Expr} {te : TE} {pos : PySem.Pos} (he : PEw X e te) : PSw X (.Return (some e) pos) (tRet te) := ⟨L2.ps_ret he.h⟩
theorem ps_expr {X : Cx} {e : PySem.Expr} {te : TE} {pos : PySem.Pos} (he : PEw X e te) (hs : swapsWith e none pos.line X.env = pure false := by rfl) : PSw X (.Expr e pos) (tDrop te) := ⟨L2.ps_expr he.h hs⟩
theorem pe_int {X : Cx} {i j pos} : PEw X (.Constant (.int i) j pos) (tC (.int i)) := ⟨L2.pe_int ⟩
theorem pe_bl {X : Cx} {b j pos} : PEw X (.Constant (.bool b) j pos) (tC (.bl b)) := ⟨L2.pe_bl ⟩
theorem pe_non {X : Cx} {j pos} : PEw X (.Constant .none j pos) (tC .non) := ⟨L2.pe_non ⟩
theorem pv {X : Cx} (i : Nat) {x : Str} {pos : Pos} (hN : X.N[i]? = some x := by rfl) (hv : Vis X.env.scope x := by first | exact Or.inl rfl | exact Or.inr (Or.inl rfl) | exact Or.inr (Or.inr rfl)) (hd : (x == ("__debug__" : Str)) = false := by decide) (hcd : (x == ("__classdict__" : Str)) = false := by decide) : PEw X (.Name x pos) (tVar i) := ⟨L2.pv i hN hv hd hcd⟩
theorem pe_ix {X : Cx} {a b : PySem.Expr} {ta tb : TE} {pos : PySem.Pos} {r : R2} (hr : IxR X r) (ha : PEw X a ta) (hb : PEw X b tb) (hs : PlainIx b) : PEw X (.Subscript a b pos) (tOp r ta tb) := ⟨L2.pe_ix hr ha.h hb.h hs⟩
theorem pe_slice {X : Cx} {e : PySem.Expr} {te : TE} {lo hi : Option PySem.Expr} {tl th : TO} {pos p2 : PySem.Pos} {r : V → Option Int → Option Int → Hp → VK → Prop} (hr : SlR X r) (he : PEw X e te) (hl : PO X lo tl) (hu : PO X hi th) : PEw X (.Subscript e (.Slice lo hi none p2) pos) (tSl r te tl th) := ⟨L2.pe_slice hr he.h hl hu⟩
theorem po_some {X : Cx} {e : PySem.Expr} {te : TE} (h : PEw X e te) : PO X (some e) (tPart te) := L2.po_some h.h
theorem pe_rev {X : Cx} {e : PySem.Expr} {te : TE} {p2 pos : PySem.Pos} {r : V → Hp → VK → Prop} {j : Nat} {p3 p4 : Pos} (hr : RvR X r) (he : PEw X e te) : PEw X (.Subscript e (.Slice none none (some (.UnaryOp .USub (.Constant (.int 1) j p3) p4)) p2) pos) (tUn r te) := ⟨L2.pe_rev hr he.h⟩
theorem pe_op {X : Cx} {a b : PySem.Expr} {ta tb : TE} {pos : PySem.Pos} {op : Operator} {r : R2} (ho : OpR X (binaryOp op) r) (ha : PEw X a ta) (hb : PEw X b tb) : PEw X (.BinOp a op b pos) (tOp r ta tb) := ⟨L2.pe_op ho ha.h hb.h⟩
theorem pe_un {X : Cx} {a : PySem.Expr} {ta : TE} {pos : PySem.Pos} {op : UnaryOp} {r : V → Hp → VK → Prop} (ho : UnR X (unaryOp op) r) (ha : PEw X a ta) : PEw X (.UnaryOp op a pos) (tUn r ta) := ⟨L2.pe_un ho ha.h⟩
theorem pe_cmpR {X : Cx} {a b : PySem.Expr} {ta tb : TE} {pos : PySem.Pos} {op : CmpOp} {r : R2} (ho : OpR X (compareOp op) r) (ha : PEw X a ta) (hb : PEw X b tb) (hm : behindInMarks op b = false) : PEw X (.Compare a [op] [b] pos) (tOp r ta tb) := ⟨L2.pe_cmpR ho ha.h hb.h hm⟩
theorem pe_ifExp {X : Cx} {a b : PySem.Expr} {ta tb : TE} {pos : PySem.Pos} {tA : TT} {c : Expr} (hc : PTw X c tA) (ha : PEw X a ta) (hb : PEw X b tb) : PEw X (.IfExp c a b pos) (tIf tA ta tb) := ⟨L2.pe_ifExp hc.h ha.h hb.h⟩
theorem pe_lst {X : Cx} {es : List PySem.Expr} {t : TA} {pos : PySem.Pos} (h : PAw X es t) : PEw X (.List es pos) (tLst t) := ⟨L2.pe_lst h.h⟩
theorem pe_lstN {X : Cx} {pos : Pos} {es : List Expr} {t : TA} (h : PAw X es t) : PEw X (.List es pos) (tLstN t) := ⟨L2.pe_lstN h.h⟩
theorem pe_tup {X : Cx} {es : List PySem.Expr} {t : TA} {pos : PySem.Pos} {x1} (h : PAw X es t) : PEw X (.Tuple es x1 pos) (tTup t) := ⟨L2.pe_tup h.h⟩
theorem pe_cal {X : Cx} {k : Nat} {ps : List PySem.Str} {sp : Sp} {x : PySem.Str} {p pos : PySem.Pos} {e : PySem.Expr} {es : List PySem.Expr} {t : TA} (C : Cal X.prog X.w X.K X.mg X.base k x ps sp) (hr : Room k X.A) (hg : Gl X x) (ha : PAw X (e :: es) t) (hdb : (x == ("__debug__" : Str)) = false := by decide) (he : starEach (e :: es) X.env = (false, eval e X.env) :: starEach es X.env := by rfl) (hpl : (backTo pos (starEach es X.env)).any (·.1) = false := by rfl) : PEw X (.Call (.Name x p) (e :: es) [] pos) (fun σ H Q => t σ H fun vs H1 => sp vs H1 Q E0) := ⟨L2.pe_cal C hr hg ha.h hdb he hpl⟩
theorem pe_callB {X : Cx} {x : PySem.Str} {p pos : PySem.Pos} {e : PySem.Expr} {es : List PySem.Expr} {t : TA} {id : String} {r : List V → Hp → VK → Prop} (hc : CallR X (.builtin id) r) (hg : Gl X x) (hm : X.mg x = none) (hv : bootBuiltins x = some (.builtin id)) (ha : PAw X (e :: es) t) (hn : x ≠ "__name__" := by decide) (hdb : (x == ("__debug__" : Str)) = false := by decide) (he : starEach (e :: es) X.env = (false, eval e X.env) :: starEach es X.env := by rfl) (hpl : (backTo pos (starEach es X.env)).any (·.1) = false := by rfl) : PEw X (.Call (.Name x p) (e :: es) [] pos) (tCB r t) := ⟨L2.pe_callB hc hg hm hv ha.h hn hdb he hpl⟩
theorem pe_callTy {X : Cx} {x : PySem.Str} {p pos : PySem.Pos} {e : PySem.Expr} {es : List PySem.Expr} {t : TA} {T : String} {r : List V → Hp → VK → Prop} (hc : CallR X (.type T) r) (hg : Gl X x) (hm : X.mg x = none) (hv : bootBuiltins x = some (.type T)) (ha : PAw X (e :: es) t) (hn : x ≠ "__name__" := by decide) (hdb : (x == ("__debug__" : Str)) = false := by decide) (he : starEach (e :: es) X.env = (false, eval e X.env) :: starEach es X.env := by rfl) (hpl : (backTo pos (starEach es X.env)).any (·.1) = false := by rfl) : PEw X (.Call (.Name x p) (e :: es) [] pos) (tCB r t) := ⟨L2.pe_callTy hc hg hm hv ha.h hn hdb he hpl⟩
theorem pe_bm {X : Cx} {o e : PySem.Expr} {es : List PySem.Expr} {to : TE} {t : TA} {name : PySem.Str} {apos cpos : PySem.Pos} {T id : String} {r : V → List V → Hp → VK → Prop} (pa : PlainAttrs T) (slot : Slot T name id) (hty : typeOf (.builtin id) = pure (.type "method_descriptor")) (hm : MtR X id r) (ho : PEw X o to) (ha : PAw X (e :: es) t) (hbase : attributeBase o name X.env (eval o X.env) = eval o X.env := by rfl) (hfew : ((backTo cpos (starEach (e :: es) X.env)).all (fun x => !x.1) && (backToKw cpos (keywordEach [] X.env)).all (fun x => x.1.isSome)
      && decide ((e :: es).length + ([] : List Keyword).length + (if ([] : List Keyword).isEmpty then 0 else 1) < 30)) = true := by rfl) (hline : (apos.endLine == cpos.line) = true := by rfl) (hs : starEach (e :: es) X.env = (false, eval e X.env) :: starEach es X.env := by rfl) (hplain : (backTo cpos (starEach es X.env)).any (·.1) = false := by rfl) : PEw X (.Call (.Attribute o name apos) (e :: es) [] cpos) (tBM X.K T r to t) := ⟨L2.pe_bm pa slot hty hm ho.h ha.h hbase hfew hline hs hplain⟩
theorem pe_bltn {X : Cx} {x : Str} {v : V} {u : Value} {pos : Pos} (hg : Gl X x) (hm : X.mg x = none) (hv : bootBuiltins x = some u) (r : RelV v u) (hn : x ≠ "__name__" := by decide) (hd : (x == ("__debug__" : Str)) = false := by decide) : PEw X (.Name x pos) (tC v) := ⟨L2.pe_bltn hg hm hv r hn hd⟩
theorem pa_nil {X : Cx} : PAw X [] tNil := ⟨L2.pa_nil ⟩
theorem pa_cons {X : Cx} {e : PySem.Expr} {es : List PySem.Expr} {te : TE} {t : TA} (ha : PEw X e te) (hr : PAw X es t) (hs : starEach (e :: es) X.env = (false, eval e X.env) :: starEach es X.env := by rfl) : PAw X (e :: es) (tCons te t) := ⟨L2.pa_cons ha.h hr.h hs⟩
theorem pt_cmpR {X : Cx} {a b : PySem.Expr} {ta tb : TE} {pos : PySem.Pos} {op : CmpOp} {r : R2} (ho : OpR X (compareOp op) r) (ha : PEw X a ta) (hb : PEw X b tb) (hm : behindInMarks op b = false) : PTw X (.Compare a [op] [b] pos) (tTest (tOp r ta tb)) := ⟨L2.pt_cmpR ho ha.h hb.h hm⟩
theorem pt_not {X : Cx} {a : PySem.Expr} {pos : PySem.Pos} {tA : TT} (ha : PTw X a tA) : PTw X (.UnaryOp .Not a pos) (tNot tA) := ⟨L2.pt_not ha.h⟩
theorem pt_val {X : Cx} {e : Expr} {t : TE} (h : PEw X e t) (he : ∀ whole, isTrue e X.env whole = (do let v ← whole; standAt e.pos; holding [v] (truthy v)) := by intro _; rfl) : PTw X e (tB t) := ⟨L2.pt_val h.h he⟩
theorem pw_or {X : Cx} {a b : PySem.Expr} {pos : PySem.Pos} {tA tB' : TT} {rest : List PySem.Expr} (ha : PTw X a tA) (hb : PWw X (.BoolOp .Or (b :: rest) pos) tB') : PWw X (.BoolOp .Or (a :: b :: rest) pos) (tOr tA tB') := ⟨L2.pw_or ha.h hb.h⟩
theorem pw_or1 {X : Cx} {a : PySem.Expr} {pos : PySem.Pos} {tA : TT} (ha : PTw X a tA) : PWw X (.BoolOp .Or [a] pos) tA := ⟨L2.pw_or1 ha.h⟩
theorem pi_list {X : Cx} {tg : PySem.Expr} {l : Expr} {tl : TE} (hl : PEw X l tl) : PI X tg l (iList X.K tl) := L2.pi_list hl.h
theorem pi_range1 {X : Cx} {tg : PySem.Expr} {a : Expr} {ta : TA} {p pos : Pos} (hg : Gl X "range") (hm : X.mg "range" = none) (ha : PAw X [a] ta) (hs : starEach [a] X.env = [(false, eval a X.env)] := by rfl) : PI X tg (.Call (.Name "range" p) [a] [] pos) (iRng1 ta) := L2.pi_range1 hg hm ha.h hs
theorem PWpt {X : Cx} {e : Expr} {t : TT} (h : PWw X e t) : PTw X e t := ⟨L2.PW.pt h.h⟩
theorem pe_L {X : Cx} {e : Expr} {d : PyData} (h : lit 9 e = some d := by rfl) : PEw X e (tLit d) := ⟨L2.pe_lit 9 e d h⟩
theorem pe_lc {X : Cx} {elt tg iter : Expr} {ifs : List Expr} {scope : Scope} {pos : Pos} {wi : TI} {g : TG} {tt : TT} {te : TE} {N' : List Str} {n : Nat} {ix : List Nat} (hc : X.calm = true) (hk : CompScope X scope N' n ix) (hi : PI X tg iter wi)
    (hb : ∀ (s₂ : Shared) (H₂ : Hp) (cl : List (Str × Addr)) (C : Addr) (fp : List Addr), PG (Cx.comp X s₂ H₂ N' scope cl C fp) tg g ∧ PTs (Cx.comp X s₂ H₂ N' scope cl C fp) ifs tt ∧ PEw (Cx.comp X s₂ H₂ N' scope cl C fp) elt te)
    (hs : ∀ x, foldedSetIterable iter X.env x = pure x := by intro _; rfl) : PEw X (.ListComp elt [⟨tg, iter, ifs, 0⟩] scope pos) (tLc wi g tt te n ix) :=
  ⟨L2.pe_lc hc hk hi (fun a b c d e => ⟨(hb a b c d e).1, (hb a b c d e).2.1, (hb a b c d e).2.2.h⟩) hs⟩
end Wr


namespace K47
open PySem PySem.Spec PyProof.Rows L2
def top (i : Nat) : Stmt := PySem.Challenge.pw_shuffletold_k47_machines_of_anything.main.body.getD i (.Pass ⟨0, 0, 0, 0⟩)
end K47


namespace K47
open PySem PySem.Spec PyProof.Rows L2
abbrev s__law_urn : Stmt := top 9
abbrev s__law_take : Stmt := top 10
section
variable {P : Program} {w : World} {K : PySem.W.Frag} {mg : Str → Option Value} {base : Heap}
theorem sc__law_urn : FnScope ["_law_script", "_law_digits", "_law_weight", "_law_mixed", "_law_k", "_law_cell"] ["_law_script"] (defScope s__law_urn) := ⟨rfl, rfl, rfl, by decide +kernel, rfl, by decide +kernel, by decide +kernel⟩
set_option maxHeartbeats 8000000 in
theorem ok__law_urn {f : Addr} {fd : FuncData} (F : Fun K "_law_urn" "_law_urn" s__law_urn f fd) (T : Top mg) : FnOk P w K mg base CX0 1 f fd ["_law_script"] (spUrn K) := by
  refine F.ok sc__law_urn (fun vs H Q E h => ?_) (fun cdv A outer s H vs Q E hr h => ?_)
  · obtain ⟨a, ns, rfl, _⟩ := h
    rfl
  · obtain ⟨a, ns, rfl, hS, k⟩ := h
    refine ⟨_, (pss_cons (ps_asg (pe_tup (pa_cons pe_int (pa_cons pe_int (pa_cons pe_int pa_nil)))) (pg_tup rfl (pgs_cons (pg_name (i := 1) sc__law_urn.nd rfl (Or.inl rfl) (Or.inl rfl)) (pgs_cons (pg_name (i := 2) sc__law_urn.nd rfl (Or.inl rfl) (Or.inl rfl)) (pgs_cons (pg_name (i := 3) sc__law_urn.nd rfl (Or.inl rfl) (Or.inl rfl)) pgs_nil)))))
      (pss_cons (ps_for PassesOwn.never rfl (pi_enumL rfl T.n_enumerate (pa_cons (pe_slice sl_list (pv 0) po_none (po_some pe_int)) pa_nil)) (pg_pair (i := 4) (j := 5) rfl sc__law_urn.nd rfl rfl (Or.inl rfl) (Or.inl rfl) (Or.inl rfl) (Or.inl rfl))
        (pss_cons (ps_set (i := 3) sc__law_urn.nd rfl (Or.inl rfl) (pe_op op_mod (pe_op op_pow (pe_op op_add (pe_op op_add (pe_op op_add (pe_op op_mul (pv 3) pe_int) (pe_op op_mod (pv 5) pe_int)) (pe_op op_mul pe_int (pv 4))) pe_int) pe_int) pe_int))
        (pss_one (ps_if (pt_cmpR op_ge (pe_callB call_abs (by rfl) T.n_abs boot_abs (pa_cons (pv 5) pa_nil)) (pe_op op_pow pe_int pe_int) (nomark _))
          (pss_cons (ps_set (i := 1) sc__law_urn.nd rfl (Or.inl rfl) (pe_op op_add (pv 1) (pe_op op_mulW (pe_op op_mod (pe_callB call_abs (by rfl) T.n_abs boot_abs (pa_cons (pv 5) pa_nil)) (pe_op op_pow pe_int pe_int)) (pv 2))))
          (pss_one (ps_set (i := 2) sc__law_urn.nd rfl (Or.inl rfl) (pe_op op_mulW (pv 2) (pe_op op_pow pe_int pe_int)))))
          pss_nil))))
      (pss_one (ps_ret (pe_lst (pa_cons (pv 1) (pa_cons (pv 3) (pa_cons pe_int pa_nil)))))))), ?_⟩
    refine ⟨by show 3 ≤ sizeLine; decide, fun t0 ht0 => ⟨t0, _, rfl, SqT.of upd_same, rfl, _, _, rfl, _, _, rfl, _, _, rfl, rfl, ?_⟩⟩
    have s0 := same_upd (o := .tup [.int 0, .int 1, .int 5]) ht0
    refine ⟨_, rfl, 63, rfl, a, _, rfl, s0.seq hS, fun l hl => ⟨l, rfl, ⟨_, SqL.of upd_same⟩, ?_⟩⟩
    have s1 := same_upd (o := .lst (cutV (ns.map V.int) none (some 63))) hl
    have ecut : cutV (ns.map V.int) none (some 63) = (ns.take 63).map V.int := cutV_takeI ns 63
    have Ft : (0 : Int) < (10 : Int) ^ (60 : Int).toNat := by decide
    refine for_enumL (K := K) (xs := (ns.take 63).map V.int) (fun i σ G => ∃ (dg mx : Int) (j : Nat) (c4 c5 : Option V), σ = [some (.ref a), some (.int dg), some (.int (((10 : Int) ^ (60 : Int).toNat) ^ j)), some (.int mx), c4, c5] ∧ Same H G ∧ G l = some (.lst ((ns.take 63).map V.int)) ∧ 0 ≤ dg ∧ 0 ≤ mx ∧ mx < 2305843009213693951 ∧ j ≤ i) ?_ ?_ ?_ ?_
    · exact ⟨0, 5, 0, none, none, by rw [Int.pow_zero]; rfl, s0.trans s1, by rw [upd_same, ecut], by decide, by decide, by decide, Nat.le_refl _⟩
    · rintro i σ G _ ⟨dg, mx, j, c4, c5, rfl, _, hG, _⟩
      exact SqL.of hG
    · rintro i x t σ G hx ⟨dg, mx, j, c4, c5, rfl, sm, hG, d0, m0, m1, hj⟩ ht'
      obtain ⟨hi, rfl⟩ := ints_get hx
      have hi63 : i < 63 := by rw [List.length_take] at hi; omega
      generalize (ns.take 63).getD i 0 = c
      have st := same_upd (o := .tup [.int (i : Int), .int c]) ht'
      have r0 := Int.emod_nonneg c (by decide : (2305843009213693951 : Int) ≠ 0)
      have r1 := Int.emod_lt_of_pos c (by decide : (0 : Int) < 2305843009213693951)
      refine ⟨t, _, rfl, SqT.of upd_same, rfl, _, _, rfl, _, _, rfl, rfl, ?_⟩
      refine ⟨_, rfl, _, _, rfl, rfl, .inr ⟨by decide, by decide⟩, _, rfl, _, _, rfl, rfl, (by show (0 : Int) < 2305843009213693951; decide), _, _, rfl, rfl, _, rfl, _, _, rfl, rfl, .inl ⟨by decide, by decide⟩, _, _, rfl, rfl, _, _, rfl, rfl, _, _, rfl, rfl, ⟨by decide, by decide, ?_⟩, _, _, rfl, rfl, (by show (0 : Int) < 2305843009213693951; decide), ?_⟩
      · generalize c % 2305843009213693951 = r at *
        omega
      have q0 := Int.emod_nonneg ((mx * 3 + c % 2305843009213693951 + 97 * (i : Int) + 1) ^ (3 : Int).toNat) (by decide : (2305843009213693951 : Int) ≠ 0)
      have q1 := Int.emod_lt_of_pos ((mx * 3 + c % 2305843009213693951 + 97 * (i : Int) + 1) ^ (3 : Int).toNat) (by decide : (0 : Int) < 2305843009213693951)
      refine ⟨_, rfl, c, rfl, _, _, rfl, rfl, ⟨by decide, by decide, by decide⟩, _, _, rfl, rfl, _, rfl, ?_⟩
      refine ite2 (fun _ => ?_) (fun _ => ?_)
      · refine ⟨_, rfl, _, rfl, c, rfl, _, _, rfl, rfl, ⟨by decide, by decide, by decide⟩, _, _, rfl, rfl, Ft, _, rfl, _, _, rfl, rfl, far_mul2 _ j (by omega), _, _, rfl, rfl, ?_⟩
        refine ⟨_, rfl, _, _, rfl, rfl, ⟨by decide, by decide, by decide⟩, _, _, rfl, rfl, far_mul j (by omega), ?_⟩
        refine ⟨dg + (if c < 0 then -c else c) % (10 : Int) ^ (60 : Int).toNat * ((10 : Int) ^ (60 : Int).toNat) ^ j, _, j + 1, some (.int (i : Int)), some (.int c), ?_, sm.trans st, st _ _ hG, ?_, q0, q1, by omega⟩
        · rw [Int.pow_succ]
          rfl
        · exact Int.add_nonneg d0 (Int.mul_nonneg (Int.emod_nonneg _ (Int.ne_of_gt Ft)) (Int.le_of_lt (Int.pow_pos Ft)))
      · exact ⟨_, _, j, _, _, rfl, sm.trans st, st _ _ hG, d0, q0, q1, by omega⟩
    · rintro σ G ⟨dg, mx, j, c4, c5, rfl, sm, hG, d0, m0, m1, hj⟩
      refine ⟨_, rfl, _, rfl, by show 3 ≤ sizeLine; decide, fun p hp => ?_⟩
      exact k p _ (sm.trans (same_upd hp)) ⟨_, _, _, upd_same, d0, m0, by omega, Int.le_refl _, Int.le_refl _⟩ (sm.free hp)
theorem sc__law_take : FnScope ["_law_urn_here", "_law_many", "_law_digit"] ["_law_urn_here", "_law_many"] (defScope s__law_take) := ⟨rfl, rfl, rfl, by decide +kernel, rfl, by decide +kernel, by decide +kernel⟩
set_option maxHeartbeats 8000000 in
theorem ok__law_take {f : Addr} {fd : FuncData} (F : Fun K "_law_take" "_law_take" s__law_take f fd) : FnOk P w K mg base CX0 1 f fd ["_law_urn_here", "_law_many"] spDraw := by
  refine F.ok sc__law_take (fun vs H Q E h => ?_) (fun cdv A outer s H vs Q E hr h => ?_)
  · obtain ⟨p, m, n, rfl, _⟩ := h
    rfl
  · obtain ⟨p, m, n, rfl, hm0, hm1, ⟨own, seed, turn, hp, o0, s0, s1, t0, t1⟩, hn, k⟩ := h
    refine ⟨_, (pss_cons (ps_if (pt_cmpR op_gt (pe_ix ix_list (pv 0) pe_int (fun _ _ => rfl)) pe_int (nomark _))
        (pss_cons (ps_set (i := 2) sc__law_take.nd rfl (Or.inl rfl) (pe_op op_mod (pe_ix ix_list (pv 0) pe_int (fun _ _ => rfl)) (pv 1)))
        (pss_cons (ps_asg (pe_op op_fdivW (pe_ix ix_list (pv 0) pe_int (fun _ _ => rfl)) (pv 1)) (pg_sub (pv 0) pe_int set_list))
        (pss_one (ps_ret (pv 2)))))
        pss_nil)
      (pss_cons (ps_asg (pe_op op_add (pe_ix ix_list (pv 0) pe_int (fun _ _ => rfl)) pe_int) (pg_sub (pv 0) pe_int set_list))
      (pss_cons (ps_asg (pe_op op_mod (pe_op op_pow (pe_op op_add (pe_ix ix_list (pv 0) pe_int (fun _ _ => rfl)) (pe_op op_mul pe_int (pe_ix ix_list (pv 0) pe_int (fun _ _ => rfl)))) pe_int) pe_int) (pg_sub (pv 0) pe_int set_list))
      (pss_one (ps_ret (pe_op op_mod (pe_op op_fdiv (pe_ix ix_list (pv 0) pe_int (fun _ _ => rfl)) pe_int) (pv 1))))))), ?_⟩
    refine ⟨_, rfl, p, _, 0, _, rfl, rfl, SqL.of hp, atI_nat (j := 0) rfl, _, _, rfl, rfl, _, rfl, ?_⟩
    refine ite2 (fun _ => ?_) (fun _ => ?_)
    · refine ⟨_, rfl, p, _, 0, _, rfl, rfl, SqL.of hp, atI_nat (j := 0) rfl, _, rfl, _, _, rfl, rfl, hm0, ?_⟩
      refine ⟨_, rfl, p, _, 0, _, rfl, rfl, SqL.of hp, atI_nat (j := 0) rfl, _, rfl, _, _, rfl, rfl, ⟨hm0, hm1⟩, _, rfl, p, _, 0, 0, rfl, rfl, hp, rfl, ?_⟩
      refine ⟨_, rfl, ?_⟩
      refine k _ _ (Int.emod_nonneg _ (by omega)) (Int.emod_lt_of_pos _ hm0) ⟨_, _, _, upd_same, Int.ediv_nonneg o0 (by omega), s0, s1, t0, by omega⟩ fun b o hb h1 _ => ?_
      rw [upd_ne h1]
      exact hb
    · refine ⟨_, rfl, p, _, 2, _, rfl, rfl, SqL.of hp, atI_nat (j := 2) rfl, _, _, rfl, rfl, _, rfl, p, _, 2, 2, rfl, rfl, hp, rfl, ?_⟩
      have hp2 : (upd H p (.lst ([V.int own, V.int seed, V.int turn].set 2 (V.int (turn + 1))))) p = some (.lst [V.int own, V.int seed, V.int (turn + 1)]) := by rw [upd_same]; rfl
      refine ⟨_, rfl, p, _, 1, _, rfl, rfl, SqL.of hp2, atI_nat (j := 1) rfl, _, rfl, p, _, 2, _, rfl, rfl, SqL.of hp2, atI_nat (j := 2) rfl, _, _, rfl, rfl, .inl ⟨by decide, by decide⟩, _, _, rfl, rfl, _, _, rfl, rfl, ⟨by decide, by decide, by omega⟩, _, _, rfl, rfl, (by show (0 : Int) < 2305843009213693951; decide), _, rfl, p, _, 1, 1, rfl, rfl, hp2, rfl, ?_⟩
      have q0 := Int.emod_nonneg ((seed + 982451653 * (turn + 1)) ^ (3 : Int).toNat) (by decide : (2305843009213693951 : Int) ≠ 0)
      have q1 := Int.emod_lt_of_pos ((seed + 982451653 * (turn + 1)) ^ (3 : Int).toNat) (by decide : (0 : Int) < 2305843009213693951)
      refine ⟨_, rfl, p, _, 1, _, rfl, rfl, SqL.of upd_same, atI_nat (j := 1) rfl, _, _, rfl, rfl, ⟨by decide, by decide⟩, _, rfl, _, _, rfl, rfl, hm0, ?_⟩
      refine k _ _ (Int.emod_nonneg _ (by omega)) (Int.emod_lt_of_pos _ hm0) ⟨_, _, _, upd_same, o0, q0, by omega, by omega, by omega⟩ fun b o hb h1 _ => ?_
      rw [upd_ne h1, upd_ne h1]
      exact hb
end
end K47


namespace L2
open PySem PySem.Spec PyProof.Rows
theorem op_inK {X : Cx} (K : PySem.W.Frag) (hK : X.K = K) : OpR X (compareOp .In) (rIn K false) := hK ▸ op_in_seq
theorem call_tupK {X : Cx} (K : PySem.W.Frag) (hK : X.K = K) : CallR X (.type "tuple") (fun xs H Q => ∃ p ys, xs = [.ref p] ∧ ((SqL K H p ys ∧ ∀ l, H l = none → Q (.ref l) (upd H l (.tup ys))) ∨ (SqT K H p ys ∧ Q (.ref p) H))) := hK ▸ call_tuple_of
theorem range_at {n i : Nat} {x : V} (h : (rangeV 0 n)[i]? = some x) : x = .int (i : Int) ∧ i < n := by
  have hi := (List.getElem?_eq_some_iff.mp h).1
  rw [rangeV_len] at hi
  unfold rangeV at h
  rw [List.getElem?_map, List.getElem?_range hi] at h
  cases h
  exact ⟨by show V.int (0 + (i : Int)) = _; rw [Int.zero_add], hi⟩
theorem paired_mem {α β : Type} {F : α → β → Prop} : ∀ {l₁ : List α} {l₂ : List β}, Paired F l₁ l₂ → ∀ {a : α}, a ∈ l₁ → ∃ b, F a b
  | _, _, .nil, _, h => by cases h
  | _, _, .cons p q, a, h => by
    rcases List.mem_cons.mp h with rfl | h
    · exact ⟨_, p⟩
    · exact paired_mem q h
def RTup (H0 : Hp) (x v : V) (H : Hp) : Prop := ∀ z (r : List Int), x = .ref z → H0 z = some (.lst (r.map V.int)) → ∃ b, v = .ref b ∧ H b = some (.tup (r.map V.int))
theorem rows_tup {H0 H : Hp} : ∀ {zs : List Addr} {rows : List (List Int)} {ys : List V}, LRows H0 zs rows → Paired (fun x v => RTup H0 x v H) (zs.map V.ref) ys → ∃ zs', ys = zs'.map V.ref ∧ RowsAt H zs' rows
  | [], [], [], _, _ => ⟨[], rfl, .nil⟩
  | z :: zs, r :: rows, v :: ys, .cons p q, .cons p' q' => by
    obtain ⟨b, rfl, hb⟩ := p' z r rfl p
    obtain ⟨zs', rfl, h'⟩ := rows_tup q q'
    exact ⟨b :: zs', rfl, .cons hb h'⟩
def spMachN : Sp := fun vs H Q _ => ∃ (p : Addr) (n : Nat) (most : Int), vs = [.ref p, .int most] ∧ 0 < most ∧ most ≤ 40 ∧ Pot3 H p n ∧ n < 900000 ∧ ∀ (z : Addr) (N : Nat) (rows : List (List Int)) (ends : List Int) (H' : Hp), IsMach H' z N rows ends → (N : Int) ≤ most → ends.length ≤ 40 → (∀ d ∈ ends, 0 ≤ d ∧ d < 190) → Pot3 H' p (n + 1000) → Keep p p H H' → Q (.ref z) H'
end L2
namespace K47
open PySem PySem.Spec PyProof.Rows L2
abbrev s__law_machine : Stmt := top 12
section
variable {P : Program} {w : World} {K : PySem.W.Frag} {mg : Str → Option Value} {base : Heap}
theorem sc__law_machine : FnScope ["_law_urn_here", "_law_most", "_law_way", "_law_many", "_law_rows", "_law_kept", "_law_ends"] ["_law_urn_here", "_law_most"] (defScope s__law_machine) := ⟨rfl, rfl, rfl, by decide +kernel, rfl, by decide +kernel, by decide +kernel⟩
set_option maxHeartbeats 16000000 in
theorem ok__law_machine {f : Addr} {fd : FuncData} (F : Fun K "_law_machine" "_law_machine" s__law_machine f fd) (T : Top mg) (C_law_take : Cal P w K mg base 1 "_law_take" ["_law_urn_here", "_law_many"] spDraw) : FnOk P w K mg base CX0 2 f fd ["_law_urn_here", "_law_most"] spMachN := by
  refine F.ok sc__law_machine (fun vs H Q E h => ?_) (fun cdv A outer s H vs Q E hr h => ?_)
  · obtain ⟨p, n, most, rfl, _⟩ := h
    rfl
  · obtain ⟨p, n, most, rfl, m0, m1, hp, hn, k⟩ := h
    refine ⟨_, (pss_cons (ps_set (i := 2) sc__law_machine.nd rfl (Or.inl rfl) (pe_cal C_law_take (hr.mono (by decide)) rfl (pa_cons (pv 0) (pa_cons pe_int pa_nil))))
      (pss_cons (ps_set (i := 3) sc__law_machine.nd rfl (Or.inr rfl) (pe_op op_add pe_int (pe_cal C_law_take (hr.mono (by decide)) rfl (pa_cons (pv 0) (pa_cons (pv 1) pa_nil)))))
      (pss_cons (ps_set (i := 4) sc__law_machine.nd rfl (Or.inl rfl) (pe_ifExp (pt_cmpR op_gt (pv 2) pe_int (nomark _)) (pe_lc (N' := ["_law_state", "_law_urn_here", "_law_many"]) (n := 1) (ix := [0, 3]) rfl (CompScope.of (sc := defScope s__law_machine) (N := ["_law_urn_here", "_law_most", "_law_way", "_law_many", "_law_rows", "_law_kept", "_law_ends"]) (by decide +kernel) rfl rfl) (pi_range1 rfl T.n_range (pa_cons (pv 3) pa_nil)) (fun _ _ _ _ _ => ⟨(pg_name (i := 0) (show (["_law_state", "_law_urn_here", "_law_many"] : List Str).Nodup by decide +kernel) rfl (Or.inl rfl)), pts_nil, (pe_lc (N' := ["_law_mark", "_law_urn_here", "_law_many"]) (n := 1) (ix := [1, 2]) rfl (CompScope.of (N := ["_law_state", "_law_urn_here", "_law_many"]) rfl rfl rfl) (pi_range1 rfl T.n_range (pa_cons pe_int pa_nil)) (fun _ _ _ _ _ => ⟨(pg_name (i := 0) (show (["_law_mark", "_law_urn_here", "_law_many"] : List Str).Nodup by decide +kernel) rfl (Or.inl rfl)), pts_nil, (pe_cal C_law_take (hr.mono (by decide)) rfl (pa_cons (pv 1) (pa_cons (pv 2) pa_nil)))⟩))⟩)) (pe_lst pa_nil)))
      (pss_cons (ps_set (i := 5) sc__law_machine.nd rfl (Or.inr rfl) (pe_ifExp (pt_cmpR op_eq (pv 2) pe_int (nomark _)) (pe_lc (N' := ["_law_mark", "_law_urn_here"]) (n := 1) (ix := [0]) rfl (CompScope.of (sc := defScope s__law_machine) (N := ["_law_urn_here", "_law_most", "_law_way", "_law_many", "_law_rows", "_law_kept", "_law_ends"]) (by decide +kernel) rfl rfl) (pi_range1 rfl T.n_range (pa_cons pe_int pa_nil)) (fun _ _ _ _ _ => ⟨(pg_name (i := 0) (show (["_law_mark", "_law_urn_here"] : List Str).Nodup by decide +kernel) rfl (Or.inl rfl)), (pts_one (pt_cmpR op_eq (pe_cal C_law_take (hr.mono (by decide)) rfl (pa_cons (pv 1) (pa_cons pe_int pa_nil))) pe_int (nomark _))), (pv 0)⟩)) (pe_lst pa_nil)))
      (pss_cons (ps_if (pt_cmpR op_eq (pv 2) pe_int (nomark _))
        (pss_one (ps_lcsetZ (i := 4) (z := "_law_state") rfl sc__law_machine.nd rfl rfl (N' := ["_law_state", "_law_kept", "_law_many"]) (n := 1) (ix := [5, 3]) rfl (CompScopeZ.of (sc := defScope s__law_machine) (N := ["_law_urn_here", "_law_most", "_law_way", "_law_many", "_law_rows", "_law_kept", "_law_ends"]) (by decide +kernel) rfl rfl (fun _ _ => rfl) (fun _ => rfl)) (pi_range1 rfl T.n_range (pa_cons (pv 3) pa_nil)) (fun _ _ _ _ _ _ => ⟨(pg_name (i := 0) (show (["_law_state", "_law_kept", "_law_many"] : List Str).Nodup by decide +kernel) rfl (Or.inr rfl) (Or.inl rfl)), pts_nil, (pe_lc (N' := ["_law_mark", "_law_state", "_law_kept", "_law_many"]) (n := 1) (ix := [0, 1, 2]) rfl (CompScope.of (N := ["_law_state", "_law_kept", "_law_many"]) rfl rfl rfl) (pi_range1 rfl T.n_range (pa_cons pe_int pa_nil)) (fun _ _ _ _ _ => ⟨(pg_name (i := 0) (show (["_law_mark", "_law_state", "_law_kept", "_law_many"] : List Str).Nodup by decide +kernel) rfl (Or.inl rfl)), pts_nil, (pe_ifExp (pt_cmpR (op_inK K rfl) (pv 0) (pv 2) (by rfl)) (pe_callB (call_min2 rfl) (by rfl) T.n_min boot_min (pa_cons (pe_op op_sub (pv 3) pe_int) (pa_cons (pe_op op_add (pv 1) pe_int) pa_nil))) (pv 1))⟩))⟩)))
        pss_nil)
      (pss_cons (ps_if (pt_cmpR op_eq (pv 2) pe_int (nomark _))
        (pss_one (ps_lcset (i := 4) rfl sc__law_machine.nd rfl rfl (N' := ["_law_state", "_law_many"]) (n := 1) (ix := [3]) rfl (CompScope.of (sc := defScope s__law_machine) (N := ["_law_urn_here", "_law_most", "_law_way", "_law_many", "_law_rows", "_law_kept", "_law_ends"]) (by decide +kernel) rfl rfl) (pi_range1 rfl T.n_range (pa_cons (pv 3) pa_nil)) (fun _ _ _ _ _ => ⟨(pg_name (i := 0) (show (["_law_state", "_law_many"] : List Str).Nodup by decide +kernel) rfl (Or.inl rfl)), pts_nil, (pe_op op_rep (pe_lst (pa_cons (pe_op op_mod (pe_op op_add (pv 0) pe_int) (pv 1)) pa_nil)) pe_int)⟩)))
        pss_nil)
      (pss_cons (ps_lcset (i := 6) rfl sc__law_machine.nd rfl rfl (N' := ["_law_state", "_law_urn_here"]) (n := 1) (ix := [0]) rfl (CompScope.of (sc := defScope s__law_machine) (N := ["_law_urn_here", "_law_most", "_law_way", "_law_many", "_law_rows", "_law_kept", "_law_ends"]) (by decide +kernel) rfl rfl) (pi_range1 rfl T.n_range (pa_cons (pv 3) pa_nil)) (fun _ _ _ _ _ => ⟨(pg_name (i := 0) (show (["_law_state", "_law_urn_here"] : List Str).Nodup by decide +kernel) rfl (Or.inl rfl)), (pts_one (pt_cmpR op_eq (pe_cal C_law_take (hr.mono (by decide)) rfl (pa_cons (pv 1) (pa_cons pe_int pa_nil))) pe_int (nomark _))), (pv 0)⟩))
      (pss_one (ps_ret (pe_tup (pa_cons (pe_callTy call_tuple_of (by rfl) T.n_tuple boot_tuple (pa_cons (pe_lc (N' := ["_law_row"]) (n := 1) (ix := []) rfl (CompScope.of (sc := defScope s__law_machine) (N := ["_law_urn_here", "_law_most", "_law_way", "_law_many", "_law_rows", "_law_kept", "_law_ends"]) (by decide +kernel) rfl rfl) (pi_list (pv 4)) (fun _ _ _ _ _ => ⟨(pg_name (i := 0) (show (["_law_row"] : List Str).Nodup by decide +kernel) rfl (Or.inl rfl)), pts_nil, (pe_callTy (call_tupK K rfl) (by rfl) T.n_tuple boot_tuple (pa_cons (pv 0) pa_nil))⟩)) pa_nil)) (pa_cons (pe_callTy call_tuple_of (by rfl) T.n_tuple boot_tuple (pa_cons (pv 6) pa_nil)) pa_nil)))))))))))), ?fin⟩
    case fin =>
      refine ⟨_, rfl, p, 5, n, rfl, by decide, by decide, hp, by omega, fun way H1 a1 b1 hp1 kp1 => ?_⟩
      refine ⟨_, rfl, _, rfl, p, most, n + 1, rfl, m0, by omega, hp1, by omega, fun d2 H2 a2 b2 hp2 kp2 => ?_⟩
      refine ⟨1, d2, rfl, rfl, ?_⟩
      show gName 3 (V.int (1 + d2)) _ _ _
      obtain ⟨N, hN⟩ : ∃ N : Nat, 1 + d2 = (N : Int) := ⟨(1 + d2).toNat, by omega⟩
      rw [hN]
      have N0 : 0 < N := by omega
      have N40 : N ≤ 40 := by omega
      have K2 := kp1.trans kp2
      refine ⟨_, rfl, _, _, rfl, rfl, _, rfl, ?_⟩
      have hway : 1 < way ∨ way = 0 ∨ way = 1 := by omega
      rcases hway with hw | rfl | rfl
      case' inl =>
        rw [decide_eq_true hw]
        refine iteT ⟨_, rfl, _, rfl, by omega, by omega, ?_⟩
        rw [Int.toNat_natCast]
        refine lc_potR (yields_range (lo := 0) (n := N)) (small1 (by rw [rangeV_len]; omega)) (c := n + 2) (k := 4) hp2 (fun r => r.length = 4 ∧ ∀ d ∈ r, 0 ≤ d ∧ d < (N : Int)) (fun _ _ => trivial) (fun i x G hx kG pG QT q => ?_) fun L zs rows G L0 Lp kG pG hL hR hzp hl hD => ?_
        · have hi := (range_at hx).2
          refine ⟨_, rfl, by decide, by decide, ?_⟩
          refine lc_potI (yields_range (lo := 0) (n := 4)) (small1 (by decide)) (k := 1) pG true (fun d => 0 ≤ d ∧ d < (N : Int)) (fun _ _ => trivial) (fun j y G2 hy kG2 pG2 QF QT2 _ q2 => ?_) fun acc ds G2 acc0 _ kG2 pG2 hG2 _ hfull hD => ?_
          · unfold tNoTest
            dsimp only
            rw [if_pos rfl]
            have hj := (range_at hy).2
            refine ⟨_, rfl, _, rfl, p, N, _, rfl, by omega, by omega, pG2, by omega, fun d G3 d0 d1 hp3 kp3 => ?_⟩
            exact q2 d G3 kp3 (hp3.more (by omega)) ⟨d0, d1⟩
          · refine q acc ds G2 acc0 hG2 kG2 (pG2.more (by rw [rangeV_len]; omega)) ⟨?_, hD⟩
            rw [hfull rfl, rangeV_len]
        rw [rangeV_len] at pG hl
        refine ⟨_, rfl, rfl, _, rfl, ?_⟩
        rw [decide_eq_false (fun e => by have := V.int.inj e; omega)]
        refine iteF ⟨Nat.zero_le _, fun kk hkk => ?_⟩
        refine ⟨_, rfl, rfl, _, rfl, ?_⟩
        rw [decide_eq_false (fun e => by have := V.int.inj e; omega)]
        refine iteF ?_
        refine ⟨_, rfl, rfl, _, rfl, ?_⟩
        rw [decide_eq_false (fun e => by have := V.int.inj e; omega)]
        refine iteF ?_
        have hL' := same_upd (o := .lst []) hkk _ _ hL
        have hR' : LRows (upd G kk (.lst [])) zs rows := Paired.mapP hR fun _ _ h => same_upd hkk _ _ h
        have pG' : Pot3 (upd G kk (.lst [])) p (n + 200) := (pG.same (same_upd hkk)).more (by omega)
        have kG' : Keep p p H (upd G kk (.lst [])) := (K2.trans kG).trans (same_upd hkk).keep
        generalize upd G kk (.lst []) = G' at hL' hR' pG' kG' ⊢
      case' inr.inl =>
        rw [decide_eq_false (by decide)]
        refine iteF ⟨Nat.zero_le _, fun l0 hl0 => ?_⟩
        refine ⟨_, rfl, rfl, _, rfl, ?_⟩
        rw [decide_eq_true rfl]
        refine iteT ⟨_, rfl, by decide, by decide, ?_⟩
        refine lc_potI (yields_range (lo := 0) (n := 4)) (small1 (by decide)) (c := n + 2) (k := 1) (hp2.same (same_upd hl0)) false (fun _ => True) (fun _ _ => trivial) (fun j y G2 hy kG2 pG2 QF QT2 q1 q2 => ?_) fun kk ks G2 acc0 hkp kG2 pG2 hG2 hkl _ _ => ?_
        · obtain ⟨rfl, hj⟩ := range_at hy
          refine ⟨_, rfl, p, 2, _, rfl, by decide, by decide, pG2, by omega, fun d G3 d0 d1 hp3 kp3 => ⟨rfl, _, rfl, ?_⟩⟩
          refine ite2 (fun _ => ⟨_, rfl, ?_⟩) (fun _ => ?_)
          · exact q2 _ G3 kp3 (hp3.more (by omega)) trivial
          · exact q1 rfl G3 kp3 (hp3.more (by omega))
        rw [rangeV_len] at pG2 hkl
        refine ⟨_, rfl, rfl, _, rfl, ?_⟩
        rw [decide_eq_true rfl]
        refine iteT ⟨_, rfl, _, rfl, by omega, by omega, ?_⟩
        rw [Int.toNat_natCast]
        refine lc_potR (yields_range (lo := 0) (n := N)) (small1 (by rw [rangeV_len]; omega)) (k := 0) pG2 (fun r => r.length = 4 ∧ ∀ d ∈ r, 0 ≤ d ∧ d < (N : Int)) (fun _ _ => trivial) (fun i x G hx kG pG QT q => ?_) fun L zs rows G L0 Lp kG pG hL hR hzp hl hD => ?_
        · obtain ⟨rfl, hi⟩ := range_at hx
          have hkk := kG _ _ hG2 hkp hkp
          refine ⟨_, rfl, by decide, by decide, ?_⟩
          refine lc_potI (yields_range (lo := 0) (n := 4)) (small1 (by decide)) (k := 0) pG true (fun d => 0 ≤ d ∧ d < (N : Int)) (fun _ _ => trivial) (fun j y G3 hy kG3 pG3 QF QT2 _ q2 => ?_) fun acc ds G3 acc0' _ kG3 pG3 hG3 _ hfull hD => ?_
          · unfold tNoTest
            dsimp only
            rw [if_pos rfl]
            obtain ⟨rfl, hj⟩ := range_at hy
            refine ⟨_, rfl, _, rfl, kk, _, rfl, .inl (SqL.of (kG3 _ _ hkk hkp hkp)), rfl, flat_ints _, _, rfl, ?_⟩
            refine ite2 (fun _ => ?_) (fun _ => ?_)
            · refine ⟨_, rfl, _, _, rfl, rfl, _, rfl, _, _, rfl, rfl, _, _, rfl, ?_⟩
              refine q2 _ G3 (Keep.refl _ _ _) (pG3.more (by omega)) ?_
              constructor <;> split <;> omega
            · exact ⟨_, rfl, q2 _ G3 (Keep.refl _ _ _) (pG3.more (by omega)) ⟨by omega, by omega⟩⟩
          · refine q acc ds G3 acc0' hG3 kG3 (pG3.more (by omega)) ⟨?_, hD⟩
            rw [hfull rfl, rangeV_len]
        rw [rangeV_len] at pG hl
        refine ⟨_, rfl, rfl, _, rfl, ?_⟩
        rw [decide_eq_false (by decide)]
        refine iteF ?_
        have hL' := hL
        have hR' := hR
        have pG' : Pot3 G p (n + 200) := pG.more (by omega)
        have kG' : Keep p p H G := ((K2.trans (same_upd hl0).keep).trans kG2).trans kG
        generalize G = G' at hL' hR' pG' kG' ⊢
      case' inr.inr =>
        rw [decide_eq_false (by decide)]
        refine iteF ⟨Nat.zero_le _, fun l0 hl0 => ?_⟩
        refine ⟨_, rfl, rfl, _, rfl, ?_⟩
        rw [decide_eq_false (by decide)]
        refine iteF ⟨Nat.zero_le _, fun kk hkk => ?_⟩
        refine ⟨_, rfl, rfl, _, rfl, ?_⟩
        rw [decide_eq_false (by decide)]
        refine iteF ?_
        refine ⟨_, rfl, rfl, _, rfl, ?_⟩
        rw [decide_eq_true rfl]
        refine iteT ⟨_, rfl, _, rfl, by omega, by omega, ?_⟩
        rw [Int.toNat_natCast]
        refine lc_potR (yields_range (lo := 0) (n := N)) (small1 (by rw [rangeV_len]; omega)) (c := n + 2) (k := 0) ((hp2.same (same_upd hl0)).same (same_upd hkk)) (fun r => r.length = 4 ∧ ∀ d ∈ r, 0 ≤ d ∧ d < (N : Int)) (fun _ _ => trivial) (fun i x G hx kG pG QT q => ?_) fun L zs rows G L0 Lp kG pG hL hR hzp hl hD => ?_
        · obtain ⟨rfl, hi⟩ := range_at hx
          have e0 := Int.emod_nonneg ((i : Int) + 1) (show (N : Int) ≠ 0 by omega)
          have e1 := Int.emod_lt_of_pos ((i : Int) + 1) (show (0 : Int) < N by omega)
          refine ⟨_, rfl, _, _, rfl, rfl, _, rfl, _, _, rfl, rfl, by show (0 : Int) < N; omega, by show 1 ≤ sizeLine; decide, fun t ht => ?_⟩
          refine ⟨t, 4, _, rfl, rfl, upd_same, by decide, by decide, by show 1 * 4 ≤ sizeLine; decide, fun a ha => ?_⟩
          refine q a [((i : Int) + 1) % N, ((i : Int) + 1) % N, ((i : Int) + 1) % N, ((i : Int) + 1) % N] _ ((same_upd ht).free ha) upd_same ((same_upd ht).trans (same_upd ha)).keep (((pG.same (same_upd ht)).same (same_upd ha)).more (by omega)) ⟨rfl, fun d hd => ?_⟩
          have : d = ((i : Int) + 1) % N := by simpa using hd
          rw [this]
          exact ⟨e0, e1⟩
        rw [rangeV_len] at pG hl
        have hL' := hL
        have hR' := hR
        have pG' : Pot3 G p (n + 200) := pG.more (by omega)
        have kG' : Keep p p H G := ((K2.trans (same_upd hl0).keep).trans (same_upd hkk).keep).trans kG
        generalize G = G' at hL' hR' pG' kG' ⊢
      all_goals
        refine ⟨_, rfl, _, rfl, by omega, by omega, ?_⟩
        rw [Int.toNat_natCast]
        refine lc_potI (yields_range (lo := 0) (n := N)) (small1 (by rw [rangeV_len]; omega)) (k := 1) pG' false (fun d => 0 ≤ d ∧ d < 190) (fun _ _ => trivial) (fun j y G2 hy kG2 pG2 QF QT2 q1 q2 => ?_) fun ea es G2 ea0 eap kG2 pG2 hes hel _ hDe => ?_
        · obtain ⟨rfl, hj⟩ := range_at hy
          refine ⟨_, rfl, p, 2, _, rfl, by decide, by decide, pG2, by omega, fun d G3 d0 d1 hp3 kp3 => ⟨rfl, _, rfl, ?_⟩⟩
          refine ite2 (fun _ => ⟨_, rfl, ?_⟩) (fun _ => ?_)
          · exact q2 _ G3 kp3 (hp3.more (by omega)) ⟨by omega, by omega⟩
          · exact q1 rfl G3 kp3 (hp3.more (by omega))
        rw [rangeV_len] at pG2 hel
        have hL2 := kG2 _ _ hL' Lp Lp
        have hR2 : LRows G2 zs rows := paired_keep hR' fun z r hz h => kG2 _ _ h (hzp z hz) (hzp z hz)
        refine ⟨_, rfl, L, rfl, ⟨_, SqL.of hL2⟩, ?_⟩
        have hzl := Paired.length hR2
        refine lc_grow (yields_list (xs := zs.map V.ref)) (small1 (by rw [List.length_map]; omega)) (RTup G2) (fun x v Ha Hb s h z r e e' => ?_) (fun Ga sa => SqL.of (sa _ _ hL2)) (fun x hx Ga sa Q' q => ?_) fun acc ys G3 acc0 s3 hacc pr => ?_
        · obtain ⟨b, q1, q2⟩ := h z r e e'
          exact ⟨b, q1, s _ _ q2⟩
        · obtain ⟨z, hz, rfl⟩ := List.mem_map.mp hx
          obtain ⟨r, hr'⟩ := paired_mem hR2 hz
          refine ⟨_, rfl, z, _, rfl, .inl ⟨SqL.of (sa _ _ hr'), fun b hb => ?_⟩⟩
          refine q _ _ (same_upd hb) fun z' r' e e' => ?_
          cases e
          have e2 : r.map V.int = r'.map V.int := by
            have e3 := hr'.symm.trans e'
            injection e3 with e3
            injection e3
          exact ⟨b, rfl, by rw [← e2]; exact upd_same⟩
        · obtain ⟨zs', rfl, hrows⟩ := rows_tup hR2 pr
          refine ⟨acc, _, rfl, .inl ⟨SqL.of hacc, fun R hR0 => ?_⟩⟩
          refine ⟨_, rfl, ea, _, rfl, .inl ⟨SqL.of (same_upd hR0 _ _ (s3 _ _ hes)), fun E' hE0 => ?_⟩⟩
          refine ⟨by show 2 ≤ sizeLine; decide, fun z hz => ?_⟩
          have t1 := same_upd (o := .tup (zs'.map V.ref)) hR0
          have t2 := same_upd (o := .tup (es.map V.int)) hE0
          have t3 := same_upd (o := .tup [.ref R, .ref E']) hz
          refine k z N rows es _ ⟨R, E', zs', upd_same, (t2.trans t3) _ _ upd_same, hrows.same (t1.trans (t2.trans t3)), t3 _ _ upd_same, hl, N0, hD⟩ (by omega) (by omega) hDe ((pG2.same (s3.trans (t1.trans (t2.trans t3)))).more (by omega)) ((kG'.trans kG2).trans (s3.trans (t1.trans (t2.trans t3))).keep)
end
end K47


namespace L2
open PySem PySem.Spec PyProof.Rows
def ltV (m : Int) : V → Bool
  | .int n => decide (0 ≤ n) && decide (n < m)
  | _ => false
theorem all_in {m : Int} : ∀ {ds : List PyData}, ds.all whD = true → ((((ds.map asI).map V.int).map (ltV m)).all id) = ds.all (inD m)
  | [], _ => rfl
  | d :: r, h => by
    rw [List.all_cons, Bool.and_eq_true] at h
    have := all_in (m := m) h.2
    rw [List.map_cons, List.map_cons, List.map_cons, List.all_cons, this, List.all_cons]
    cases d with
    | int n => rfl
    | _ => cases h.1
theorem in_wh {m : Int} {ds : List PyData} (h : ds.all whD = false) : ds.all (inD m) = false := by
  cases e : ds.all (inD m) with
  | false => rfl
  | true =>
    have : ds.all whD = true := List.all_eq_true.mpr fun d hd => inD_wh (List.all_eq_true.mp e d hd)
    rw [this] at h
    cases h
theorem wh_int {S : Addr → Prop} {H : Hp} {x : V} {d : PyData} (h : IsY S H x d) : isIv x = whD d := by
  cases h <;> rfl
end L2
namespace K47
open PySem PySem.Spec PyProof.Rows L2
abbrev s_is_whole : Stmt := top 1
abbrev s_are_wholes : Stmt := top 2
abbrev s_are_below : Stmt := top 3
abbrev s_are_rising : Stmt := top 4
abbrev s_is_machine : Stmt := top 7
abbrev s__law_whole : Stmt := top 13
section
variable {P : Program} {w : World} {K : PySem.W.Frag} {mg : Str → Option Value} {base : Heap}
theorem sc_is_whole : FnScope ["thing"] ["thing"] (defScope s_is_whole) := ⟨rfl, rfl, rfl, by decide +kernel, rfl, by decide +kernel, by decide +kernel⟩
set_option maxHeartbeats 8000000 in
theorem ok_is_whole {f : Addr} {fd : FuncData} (F : Fun K "is_whole" "is_whole" s_is_whole f fd) (T : Top mg) : FnOk P w K mg base CX0 1 f fd ["thing"] (spWhA K) := by
  refine F.ok sc_is_whole (fun vs H Q E h => ?_) (fun cdv A outer s H vs Q E hr h => ?_)
  · obtain ⟨x, rfl, _⟩ := h
    rfl
  · obtain ⟨x, rfl, ⟨t, ht, hm⟩, k⟩ := h
    refine ⟨_, (pss_one (ps_ret (pe_and (pe_callB call_isi (by rfl) T.n_isinstance boot_isinstance (pa_cons (pv 0) (pa_cons (pe_bltn (v := .ty "int") rfl T.n_int boot_int rfl) pa_nil))) (pe_one (pe_not (pe_callB call_isi (by rfl) T.n_isinstance boot_isinstance (pa_cons (pv 0) (pa_cons (pe_bltn (v := .ty "bool") rfl T.n_bool boot_bool rfl) pa_nil)))))))), ?_⟩
    obtain ⟨k1, k2, _⟩ := kit7 (K := K) hm
    have hi := (tyI ht).trans isIv_iff.symm
    refine ⟨_, rfl, _, _, _, _, rfl, ht, k1, _, rfl, ?_⟩
    by_cases hb : t = "bool"
    · subst hb
      refine iteT ⟨_, rfl, _, _, _, _, rfl, ht, k2, _, rfl, ?_⟩
      have : isIv x = false := by
        cases e : isIv x with
        | false => rfl
        | true => exact absurd (hi.mpr e) (by decide)
      rw [this] at k
      exact k
    · by_cases hI : t = "int"
      · subst hI
        refine iteT ⟨_, rfl, _, _, _, _, rfl, ht, k2, _, rfl, ?_⟩
        rw [hi.mp rfl] at k
        exact k
      · have e0 : (t == "bool" || t == "int") = false := by
          rw [beq_eq_false_iff_ne.mpr hb, beq_eq_false_iff_ne.mpr hI]
          rfl
        have : isIv x = false := by
          cases e : isIv x with
          | false => rfl
          | true => exact absurd (hi.mpr e) hI
        rw [this] at k
        rw [e0]
        exact iteF k
theorem sc__law_whole : FnScope ["_law_thing"] ["_law_thing"] (defScope s__law_whole) := ⟨rfl, rfl, rfl, by decide +kernel, rfl, by decide +kernel, by decide +kernel⟩
set_option maxHeartbeats 8000000 in
theorem ok__law_whole {f : Addr} {fd : FuncData} (F : Fun K "_law_whole" "_law_whole" s__law_whole f fd) (T : Top mg) : FnOk P w K mg base CX0 1 f fd ["_law_thing"] (spWhA K) := by
  refine F.ok sc__law_whole (fun vs H Q E h => ?_) (fun cdv A outer s H vs Q E hr h => ?_)
  · obtain ⟨x, rfl, _⟩ := h
    rfl
  · obtain ⟨x, rfl, ⟨t, ht, hm⟩, k⟩ := h
    refine ⟨_, (pss_one (ps_ret (pe_and (pe_callB call_isi (by rfl) T.n_isinstance boot_isinstance (pa_cons (pv 0) (pa_cons (pe_bltn (v := .ty "int") rfl T.n_int boot_int rfl) pa_nil))) (pe_one (pe_not (pe_callB call_isi (by rfl) T.n_isinstance boot_isinstance (pa_cons (pv 0) (pa_cons (pe_bltn (v := .ty "bool") rfl T.n_bool boot_bool rfl) pa_nil)))))))), ?_⟩
    obtain ⟨k1, k2, _⟩ := kit7 (K := K) hm
    have hi := (tyI ht).trans isIv_iff.symm
    refine ⟨_, rfl, _, _, _, _, rfl, ht, k1, _, rfl, ?_⟩
    by_cases hb : t = "bool"
    · subst hb
      refine iteT ⟨_, rfl, _, _, _, _, rfl, ht, k2, _, rfl, ?_⟩
      have : isIv x = false := by
        cases e : isIv x with
        | false => rfl
        | true => exact absurd (hi.mpr e) (by decide)
      rw [this] at k
      exact k
    · by_cases hI : t = "int"
      · subst hI
        refine iteT ⟨_, rfl, _, _, _, _, rfl, ht, k2, _, rfl, ?_⟩
        rw [hi.mp rfl] at k
        exact k
      · have e0 : (t == "bool" || t == "int") = false := by
          rw [beq_eq_false_iff_ne.mpr hb, beq_eq_false_iff_ne.mpr hI]
          rfl
        have : isIv x = false := by
          cases e : isIv x with
          | false => rfl
          | true => exact absurd (hi.mpr e) hI
        rw [this] at k
        rw [e0]
        exact iteF k
theorem sc_are_wholes : FnScope ["thing"] ["thing"] (defScope s_are_wholes) := ⟨rfl, rfl, rfl, by decide +kernel, rfl, by decide +kernel, by decide +kernel⟩
set_option maxHeartbeats 8000000 in
theorem ok_are_wholes {f : Addr} {fd : FuncData} (F : Fun K "are_wholes" "are_wholes" s_are_wholes f fd) (T : Top mg) (Cis_whole : Cal P w K mg base 1 "is_whole" ["thing"] (spWhA K)) : FnOk P w K mg base CX0 2 f fd ["thing"] spWhsD := by
  refine F.ok sc_are_wholes (fun vs H Q E h => ?_) (fun cdv A outer s H vs Q E hr h => ?_)
  · obtain ⟨S, x, d, rfl, _⟩ := h
    rfl
  · obtain ⟨S, x, d, rfl, y, sz, k⟩ := h
    refine ⟨_, (pss_one (ps_ret (pe_and (pe_callB call_isi (by rfl) T.n_isinstance boot_isinstance (pa_cons (pv 0) (pa_cons (pe_bltn (v := .ty "tuple") rfl T.n_tuple boot_tuple rfl) pa_nil))) (pe_one (pe_callB (call_all rfl) (by rfl) T.n_all boot_all (pa_cons (pe_lc (N' := ["number"]) (n := 1) (ix := []) rfl (CompScope.of (sc := defScope s_are_wholes) (N := ["thing"]) (by decide +kernel) rfl rfl) (pi_tup (pv 0)) (fun _ _ _ _ _ => ⟨(pg_name (i := 0) (show (["number"] : List Str).Nodup by decide +kernel) rfl (Or.inl rfl)), pts_nil, (pe_cal Cis_whole (hr.mono (by decide)) rfl (pa_cons (pv 0) pa_nil))⟩)) pa_nil)))))), ?_⟩
    obtain ⟨_, _, k3⟩ := kit7 (K := K) (tyD_in d)
    refine ⟨_, rfl, _, _, _, _, rfl, y.ty, k3, _, rfl, ?_⟩
    rcases y.isT with ⟨a, vs, ds, rfl, rfl, ha, al⟩ | ⟨hne, hn⟩
    · refine iteT ?_
      refine ⟨_, rfl, a, rfl, ⟨_, SqT.of ha⟩, ?_⟩
      have hl : vs.length ≤ 1000 := by rw [al.len]; exact sz.tup.1
      refine lc_growI (yields_tup (K := K) (a := a) (xs := vs)) (small1 hl) (ds.map whD) (by rw [List.length_map, al.len]) (fun G sm => SqT.of (sm _ _ ha)) (fun i v b G hv hb sm Q' q => ?_) fun acc G hacc sm hG => ?_
      · obtain ⟨e, he, ye⟩ := al.at hv
        rw [List.getElem?_map, he] at hb
        cases hb
        refine ⟨_, rfl, v, rfl, (ye.same sm).kn, ?_⟩
        rw [wh_int ye]
        exact q G (Same.refl G)
      · refine ⟨acc, _, rfl, hG, ?_⟩
        have := k G sm
        rw [show wholesD (.tuple ds) = (ds.map whD).all id by rw [List.all_map]; rfl] at this
        exact this
    · rw [beq_eq_false_iff_ne.mpr hne]
      refine iteF ?_
      have := k H (Same.refl H)
      rw [show wholesD d = false by cases d <;> first | rfl | exact absurd rfl (hn _)] at this
      exact this
theorem sc_are_below : FnScope ["thing", "many"] ["thing", "many"] (defScope s_are_below) := ⟨rfl, rfl, rfl, by decide +kernel, rfl, by decide +kernel, by decide +kernel⟩
set_option maxHeartbeats 8000000 in
theorem ok_are_below {f : Addr} {fd : FuncData} (F : Fun K "are_below" "are_below" s_are_below f fd) (T : Top mg) (Care_wholes : Cal P w K mg base 2 "are_wholes" ["thing"] spWhsD) : FnOk P w K mg base CX0 3 f fd ["thing", "many"] spBelD := by
  refine F.ok sc_are_below (fun vs H Q E h => ?_) (fun cdv A outer s H vs Q E hr h => ?_)
  · obtain ⟨S, x, d, m, rfl, _⟩ := h
    rfl
  · obtain ⟨S, x, d, m, rfl, y, sz, k⟩ := h
    refine ⟨_, (pss_one (ps_ret (pe_and (pe_cal Care_wholes (hr.mono (by decide)) rfl (pa_cons (pv 0) pa_nil)) (pe_one (pe_callB (call_all rfl) (by rfl) T.n_all boot_all (pa_cons (pe_lc (N' := ["number", "many"]) (n := 1) (ix := [1]) rfl (CompScope.of (sc := defScope s_are_below) (N := ["thing", "many"]) (by decide +kernel) rfl rfl) (pi_tup (pv 0)) (fun _ _ _ _ _ => ⟨(pg_name (i := 0) (show (["number", "many"] : List Str).Nodup by decide +kernel) rfl (Or.inl rfl)), pts_nil, (pe_chain op_le op_lt pe_int (pv 0) (pv 1))⟩)) pa_nil)))))), ?_⟩
    refine ⟨_, rfl, S, x, d, rfl, y, sz, fun H1 s1 => ⟨_, rfl, ?_⟩⟩
    rcases y.isT with ⟨a, vs, ds, rfl, rfl, ha, al⟩ | ⟨hne, hn⟩
    · by_cases hw : ds.all whD = true
      · rw [show wholesD (.tuple ds) = true from hw]
        refine iteT ?_
        have ev := ints_of al hw
        subst ev
        have hl : ((ds.map asI).map V.int).length ≤ 1000 := by rw [List.length_map, List.length_map]; exact sz.tup.1
        refine ⟨_, rfl, a, rfl, ⟨_, SqT.of (s1 _ _ ha)⟩, ?_⟩
        refine lc_growB (yields_tup (K := K) (a := a) (xs := (ds.map asI).map V.int)) (small1 hl) (ltV m) (fun G sm => SqT.of (sm _ _ (s1 _ _ ha))) (fun v hv G sm Q' q => ?_) fun acc G hacc sm hG => ?_
        · obtain ⟨n, _, rfl⟩ := List.mem_map.mp hv
          refine ⟨_, rfl, _, _, rfl, rfl, _, rfl, ?_⟩
          have := q G (Same.refl G)
          by_cases h0 : 0 ≤ n
          · rw [decide_eq_true h0]
            refine iteT ⟨_, rfl, _, _, rfl, rfl, ?_⟩
            rw [show ltV m (.int n) = decide (n < m) by show (decide (0 ≤ n) && decide (n < m)) = _; rw [decide_eq_true h0, Bool.true_and]] at this
            exact this
          · rw [decide_eq_false h0]
            refine iteF ?_
            rw [show ltV m (.int n) = false by show (decide (0 ≤ n) && decide (n < m)) = _; rw [decide_eq_false h0, Bool.false_and]] at this
            exact this
        · refine ⟨acc, _, rfl, hG, ?_⟩
          have := k G (s1.trans sm)
          rw [show belowD m (.tuple ds) = _ from (all_in hw).symm] at this
          exact this
      · have hw : ds.all whD = false := by simpa using hw
        rw [show wholesD (.tuple ds) = false from hw]
        refine iteF ?_
        have := k H1 s1
        rw [show belowD m (.tuple ds) = false from in_wh hw] at this
        exact this
    · rw [show wholesD d = false by cases d <;> first | rfl | exact absurd rfl (hn _)]
      refine iteF ?_
      have := k H1 s1
      rw [show belowD m d = false by cases d <;> first | rfl | exact absurd rfl (hn _)] at this
      exact this
theorem sc_are_rising : FnScope ["numbers"] ["numbers"] (defScope s_are_rising) := ⟨rfl, rfl, rfl, by decide +kernel, rfl, by decide +kernel, by decide +kernel⟩
set_option maxHeartbeats 8000000 in
theorem ok_are_rising {f : Addr} {fd : FuncData} (F : Fun K "are_rising" "are_rising" s_are_rising f fd) (T : Top mg) : FnOk P w K mg base CX0 1 f fd ["numbers"] spRisL := by
  refine F.ok sc_are_rising (fun vs H Q E h => ?_) (fun cdv A outer s H vs Q E hr h => ?_)
  · obtain ⟨a, ns, rfl, _⟩ := h
    rfl
  · obtain ⟨a, ns, rfl, ha, hl, k⟩ := h
    refine ⟨_, (pss_one (ps_ret (pe_callB (call_all rfl) (by rfl) T.n_all boot_all (pa_cons (pe_lc (N' := ["ahead", "behind"]) (n := 2) (ix := []) rfl (CompScope.of (sc := defScope s_are_rising) (N := ["numbers"]) (by decide +kernel) rfl rfl) (pi_zipT rfl T.n_zip (pa_cons (pv 0) (pa_cons (pe_slice sl_tupA (pv 0) (po_some pe_int) po_none) pa_nil))) (fun _ _ _ _ _ => ⟨(pg_pairK K (i := 0) (j := 1) rfl rfl (show (["ahead", "behind"] : List Str).Nodup by decide +kernel) rfl rfl (Or.inl rfl) (Or.inl rfl) (Or.inr rfl) (Or.inr rfl)), pts_nil, (pe_cmpR op_lt (pv 0) (pv 1) (nomark _))⟩)) pa_nil)))), ?_⟩
    refine ⟨_, rfl, _, rfl, 1, rfl, a, _, rfl, ha, fun b H1 s1 hb => ⟨a, b, rfl, ⟨_, SqT.of (s1 _ _ ha)⟩, ⟨_, SqT.of hb⟩, ?_⟩⟩
    rw [cut_tailY] at hb
    refine lc_zip (xs := ns.map V.int) (ys := (ns.drop 1).map V.int) (fun s' => SqT.of (s' _ _ (s1 _ _ ha))) (fun s' => SqT.of (s' _ _ hb)) (by rw [List.length_zip, mapI_len]; omega) (fun _ => true) (fun p => .bl (ltP p)) (fun _ _ _ _ _ q => q) (fun xy hxy _ H' s' Q' q => ?_) fun acc H' hacc s' hl' => ?_
    · obtain ⟨x, y⟩ := xy
      obtain ⟨u, _, rfl⟩ := List.mem_map.mp (List.of_mem_zip hxy).1
      obtain ⟨v, _, rfl⟩ := List.mem_map.mp (List.of_mem_zip hxy).2
      exact ⟨_, rfl, _, rfl, _, _, rfl, rfl, q⟩
    rw [filter_true] at hl'
    refine ⟨acc, (((ns.map V.int).zip ((ns.drop 1).map V.int)).map ltP), rfl, by rw [hl', List.map_map]; rfl, ?_⟩
    rw [risL_zip]
    exact k _ (s1.trans s')
end
end K47


namespace L2
open PySem PySem.Spec PyProof.Rows
theorem map_ltP (Z : List (V × V)) : Z.map (fun p => V.bl (ltP p)) = (Z.map ltP).map V.bl := by
  rw [List.map_map]
  rfl
theorem machD_len {ds : List PyData} (h : ¬ds.length = 2) : machD (.tuple ds) = false := by
  match ds with
  | [] => rfl
  | [a] => cases a <;> rfl
  | [_, _] => exact absurd rfl h
  | a :: _ :: _ :: _ => cases a <;> rfl
theorem item_ok {K : PySem.W.Frag} {S : Addr → Prop} {H1 : Hp} {u : V} {o : PyData} {R : Addr} {vr : List V} {n : Nat} {Q' : VK} (yo : IsY S H1 u o) (hR : True → SqT K H1 R vr) (lR : vr.length = n) (q : ∀ H', Same H1 H' → Q' (.bl (inD n o)) H') :
    tAndV (fun σ H Q => tCons (tVar 0) tNil σ H fun vs H1 => spWhA K vs H1 Q E0) (tChain (rI0 fun i j => V.bl (decide (i ≤ j))) (rI0 fun i j => V.bl (decide (i < j))) (tC (V.int 0)) (tVar 0) (tCB (fun xs H Q => ∃ p ys, xs = [V.ref p] ∧ (SqL K H p ys ∨ SqT K H p ys) ∧ Q (V.int (ys.length : Int)) H) (tCons (tVar 1) tNil))) [some u, some (V.ref R)] H1 Q' := by
  have qq := q H1 (Same.refl H1)
  refine ⟨u, rfl, u, rfl, yo.kn, _, rfl, ?_⟩
  rw [wh_int yo]
  cases yo with
  | int i =>
    have e : inD (n : Int) (.int i) = (decide (0 ≤ i) && decide (i < (n : Int))) := rfl
    rw [e] at qq
    refine iteT ⟨_, rfl, _, _, rfl, rfl, _, rfl, ?_⟩
    by_cases h0 : 0 ≤ i
    · rw [decide_eq_true h0] at qq ⊢
      rw [Bool.true_and] at qq
      refine iteT ⟨_, rfl, R, _, rfl, .inr (hR trivial), _, _, rfl, rfl, ?_⟩
      rw [lR]
      exact qq
    · rw [decide_eq_false h0] at qq ⊢
      rw [Bool.false_and] at qq
      exact iteF qq
  | _ => exact iteF qq
end L2
namespace K47
open PySem PySem.Spec PyProof.Rows L2
abbrev s__law_due : Stmt := top 14
section
variable {P : Program} {w : World} {K : PySem.W.Frag} {mg : Str → Option Value} {base : Heap}
theorem sc_is_machine : FnScope ["thing", "rows", "ends", "states"] ["thing"] (defScope s_is_machine) := ⟨rfl, rfl, rfl, by decide +kernel, rfl, by decide +kernel, by decide +kernel⟩
set_option maxHeartbeats 8000000 in
theorem ok_is_machine {f : Addr} {fd : FuncData} (F : Fun K "is_machine" "is_machine" s_is_machine f fd) {M : Addr} (T : Top mg) (hMk : mg "MARKS" = some (.ref M)) (hMs : ∀ H, SqT K H M (([0, 1, 2, 3] : List Int).map V.int)) (Care_below : Cal P w K mg base 3 "are_below" ["thing", "many"] spBelD) (Care_rising : Cal P w K mg base 1 "are_rising" ["numbers"] spRisL) : FnOk P w K mg base CX0 4 f fd ["thing"] spMaD := by
  refine F.ok sc_is_machine (fun vs H Q E h => ?_) (fun cdv A outer s H vs Q E hr h => ?_)
  · obtain ⟨S, x, d, rfl, _⟩ := h
    rfl
  · obtain ⟨S, x, d, rfl, y, sz, k⟩ := h
    refine ⟨_, (pss_cons (ps_if (PW.pt (pw_or (pt_not (pt_val (pe_callB call_isi (by rfl) T.n_isinstance boot_isinstance (pa_cons (pv 0) (pa_cons (pe_bltn (v := .ty "tuple") rfl T.n_tuple boot_tuple rfl) pa_nil))))) (pw_or (pt_cmpR op_ne (pe_callB call_len_seq (by rfl) T.n_len PySem.boot_len (pa_cons (pv 0) pa_nil)) pe_int (nomark _)) (pw_or1 (pt_not (pt_val (pe_callB call_isi (by rfl) T.n_isinstance boot_isinstance (pa_cons (pe_ix ix_tup (pv 0) pe_int (fun _ _ => rfl)) (pa_cons (pe_bltn (v := .ty "tuple") rfl T.n_tuple boot_tuple rfl) pa_nil)))))))))
        (pss_one (ps_ret pe_bl))
        pss_nil)
      (pss_cons (ps_asg (pv 0) (pg_pair (i := 1) (j := 2) rfl sc_is_machine.nd rfl rfl (Or.inl rfl) (Or.inl rfl) (Or.inl rfl) (Or.inl rfl)))
      (pss_cons (ps_set (i := 3) sc_is_machine.nd rfl (Or.inr rfl) (pe_callB call_len_seq (by rfl) T.n_len PySem.boot_len (pa_cons (pv 1) pa_nil)))
      (pss_cons (ps_if (pt_not (pt_val (pe_callB (call_all rfl) (by rfl) T.n_all boot_all (pa_cons (pe_lc (N' := ["row", "states"]) (n := 1) (ix := [3]) rfl (CompScope.of (sc := defScope s_is_machine) (N := ["thing", "rows", "ends", "states"]) (by decide +kernel) rfl rfl) (pi_tup (pv 1)) (fun _ _ _ _ _ => ⟨(pg_name (i := 0) (show (["row", "states"] : List Str).Nodup by decide +kernel) rfl (Or.inl rfl)), pts_nil, (pe_and (pe_cal Care_below (hr.mono (by decide)) rfl (pa_cons (pv 0) (pa_cons (pv 1) pa_nil))) (pe_one (pe_cmpR op_eq (pe_callB (call_len_seqKY K rfl) (by rfl) T.n_len PySem.boot_len (pa_cons (pv 0) pa_nil)) (pe_callB (call_len_seqKY K rfl) (by rfl) T.n_len PySem.boot_len (pa_cons (pe_glob (v := .ref M) rfl hMk rfl) pa_nil)) (nomark _))))⟩)) pa_nil))))
        (pss_one (ps_ret pe_bl))
        pss_nil)
      (pss_one (ps_ret (pe_and (pe_cmpR op_gt (pv 3) pe_int (nomark _)) (pe_and (pe_cal Care_below (hr.mono (by decide)) rfl (pa_cons (pv 2) (pa_cons (pv 3) pa_nil))) (pe_one (pe_cal Care_rising (hr.mono (by decide)) rfl (pa_cons (pv 2) pa_nil))))))))))), ?_⟩
    obtain ⟨kA, kB, k3⟩ := kit7 (K := K) (tyD_in d)
    refine ⟨_, rfl, _, _, _, _, rfl, y.ty, k3, _, rfl, ?_⟩
    rcases y.isT with ⟨a, vs, ds, rfl, rfl, ha, al⟩ | ⟨hne, hn⟩
    rotate_left
    · rw [beq_eq_false_iff_ne.mpr hne]
      have := k H (Same.refl H)
      rw [show machD d = false by cases d <;> first | rfl | exact absurd rfl (hn _)] at this
      exact iteT (iteT this)
    refine iteF ?_
    refine ⟨_, rfl, a, _, rfl, .inr (SqT.of ha), rfl, _, rfl, ite2 (fun h2 => ?_) (fun h2 => ?_)⟩
    · have h2 : ¬vs.length = 2 := by
        intro e
        rw [e] at h2
        cases h2
      rw [al.len] at h2
      have := k H (Same.refl H)
      rw [show machD (.tuple ds) = false from machD_len h2] at this
      exact iteT this
    have h2 : vs.length = 2 := by
      by_cases e : vs.length = 2
      · exact e
      · exact absurd (show (!decide (V.int (vs.length : Int) = V.int 2)) = true by rw [decide_eq_false fun z => e (by have := V.int.inj z; omega)]; rfl) h2
    obtain ⟨v0, v1, rfl⟩ : ∃ v0 v1, vs = [v0, v1] := by
      match vs, h2 with
      | [a, b], _ => exact ⟨a, b, rfl⟩
    cases al with
    | cons y0 t0 =>
      cases t0 with
      | cons y1 t1 =>
        cases t1
        rename_i d0 d1
        obtain ⟨kA0, kB0, k30⟩ := kit7 (K := K) (tyD_in d0)
        refine ⟨_, rfl, a, _, 0, v0, rfl, rfl, SqT.of ha, rfl, _, _, _, _, rfl, y0.ty, k30, _, rfl, ?_⟩
        rcases y0.isT with ⟨R, vr, rows, rfl, rfl, hR, ar⟩ | ⟨hne, hn⟩
        rotate_left
        · rw [beq_eq_false_iff_ne.mpr hne]
          have := k H (Same.refl H)
          rw [show machD (.tuple [d0, d1]) = false by cases d0 <;> first | rfl | exact absurd rfl (hn _)] at this
          exact iteT this
        refine iteF ?_
        refine ⟨_, rfl, a, _, rfl, SqT.of ha, rfl, _, _, rfl, _, _, rfl, rfl, ?_⟩
        refine ⟨_, rfl, R, _, rfl, .inr (SqT.of hR), ?_⟩
        have szr : Sz 1000 (.tuple rows) := sz.tup.2 _ List.mem_cons_self
        have sz1 : Sz 1000 d1 := sz.tup.2 _ (by simp)
        have lR : vr.length = rows.length := ar.len
        rw [lR]
        refine ⟨_, rfl, R, rfl, ⟨_, SqT.of hR⟩, ?_⟩
        refine lc_growI (yields_tup (K := K) (a := R) (xs := vr)) (small1 (by rw [lR]; exact szr.tup.1)) (rows.map (rowD rows.length)) (by rw [List.length_map, lR]) (fun G sm => SqT.of (sm _ _ hR)) (fun i v b G hv hb sm Q' q => ?_) fun acc G hacc sm hG => ?_
        · obtain ⟨e, he, ye⟩ := ar.at hv
          rw [List.getElem?_map, he] at hb
          cases hb
          have sze := szr.tup.2 e (List.mem_of_getElem? he)
          refine ⟨_, rfl, _, rfl, S, v, e, _, rfl, ye.same sm, sze, fun G1 s1 => ⟨_, rfl, ?_⟩⟩
          have qq := q G1 s1
          rcases ye.isT with ⟨z, vz, r, rfl, rfl, hz, az⟩ | ⟨hne, hn⟩
          · by_cases hb : r.all (inD rows.length) = true
            · rw [show belowD rows.length (.tuple r) = true from hb]
              refine iteT ⟨_, rfl, z, _, rfl, .inr (SqT.of (s1 _ _ (sm _ _ hz))), M, _, rfl, .inr (hMs _), rfl, ?_⟩
              rw [show rowD rows.length (.tuple r) = decide (V.int (vz.length : Int) = V.int ((([0, 1, 2, 3] : List Int).map V.int).length : Int)) by
                show (r.all (inD rows.length) && decide (r.length = 4)) = _
                rw [hb, Bool.true_and, az.len]
                by_cases h4 : r.length = 4
                · rw [h4]; rfl
                · rw [decide_eq_false h4, decide_eq_false fun z => h4 (by have h5 : (r.length : Int) = 4 := V.int.inj z; omega)]] at qq
              exact qq
            · have hb : r.all (inD rows.length) = false := by simpa using hb
              rw [show belowD rows.length (.tuple r) = false from hb]
              rw [show rowD rows.length (.tuple r) = false by show (r.all (inD rows.length) && decide (r.length = 4)) = _; rw [hb, Bool.false_and]] at qq
              exact iteF qq
          · rw [show belowD rows.length e = false by cases e <;> first | rfl | exact absurd rfl (hn _)]
            rw [show rowD rows.length e = false by cases e <;> first | rfl | exact absurd rfl (hn _)] at qq
            exact iteF qq
        refine ⟨acc, _, rfl, hG, _, rfl, ?_⟩
        rw [List.all_map]
        have eM : machD (.tuple [.tuple rows, d1]) = (rows.all (rowD rows.length) && (decide (0 < rows.length) && (belowD rows.length d1 && risD d1))) := rfl
        by_cases hall : rows.all (rowD rows.length) = true
        rotate_left
        · have hall : rows.all (rowD rows.length) = false := by simpa using hall
          have := k G sm
          rw [eM, hall, Bool.false_and] at this
          have e2 : rows.all (id ∘ rowD rows.length) = false := hall
          rw [e2]
          exact iteT this
        have e2 : rows.all (id ∘ rowD rows.length) = true := hall
        rw [e2]
        refine iteF ?_
        refine ⟨_, rfl, _, _, rfl, rfl, _, rfl, ?_⟩
        rw [eM, hall, Bool.true_and] at k
        by_cases h0 : 0 < rows.length
        rotate_left
        · rw [decide_eq_false (show ¬((0 : Int) < (rows.length : Int)) by omega)]
          have := k G sm
          rw [decide_eq_false h0, Bool.false_and] at this
          exact iteF this
        rw [decide_eq_true (show ((0 : Int) < (rows.length : Int)) by omega)]
        rw [decide_eq_true h0, Bool.true_and] at k
        refine iteT ?_
        refine ⟨_, rfl, _, rfl, S, v1, d1, _, rfl, y1.same sm, sz1, fun G1 s1 => ⟨_, rfl, ?_⟩⟩
        by_cases hb : belowD rows.length d1 = true
        rotate_left
        · have hb : belowD rows.length d1 = false := by simpa using hb
          have := k G1 (sm.trans s1)
          rw [hb, Bool.false_and] at this
          rw [hb]
          exact iteF this
        rw [hb]
        refine iteT ?_
        rcases y1.isT with ⟨E', ve, es, rfl, rfl, hE, ae⟩ | ⟨hne, hn⟩
        · have hw : es.all whD = true := List.all_eq_true.mpr fun e he => inD_wh (List.all_eq_true.mp hb e he)
          have ev := ints_of ae hw
          subst ev
          refine ⟨_, rfl, E', es.map asI, rfl, s1 _ _ (sm _ _ hE), by rw [List.length_map]; exact sz1.tup.1, fun G2 s2 => ?_⟩
          have := k G2 (sm.trans (s1.trans s2))
          rw [hb, Bool.true_and] at this
          exact this
        · exact absurd hb (by rw [show belowD rows.length d1 = false by cases d1 <;> first | rfl | exact absurd rfl (hn _)]; decide)
theorem sc__law_due : FnScope ["_law_thing", "_law_rows", "_law_ends", "_law_row"] ["_law_thing"] (defScope s__law_due) := ⟨rfl, rfl, rfl, by decide +kernel, rfl, by decide +kernel, by decide +kernel⟩
set_option maxHeartbeats 8000000 in
theorem ok__law_due {f : Addr} {fd : FuncData} (F : Fun K "_law_due" "_law_due" s__law_due f fd) (T : Top mg) (C_law_whole : Cal P w K mg base 1 "_law_whole" ["_law_thing"] (spWhA K)) : FnOk P w K mg base CX0 2 f fd ["_law_thing"] spMaD := by
  refine F.ok sc__law_due (fun vs H Q E h => ?_) (fun cdv A outer s H vs Q E hr h => ?_)
  · obtain ⟨S, x, d, rfl, _⟩ := h
    rfl
  · obtain ⟨S, x, d, rfl, y, sz, k⟩ := h
    refine ⟨_, (pss_cons (ps_if (PW.pt (pw_or (pt_not (pt_val (pe_callB call_isi (by rfl) T.n_isinstance boot_isinstance (pa_cons (pv 0) (pa_cons (pe_bltn (v := .ty "tuple") rfl T.n_tuple boot_tuple rfl) pa_nil))))) (pw_or1 (pt_cmpR op_ne (pe_callB call_len_seq (by rfl) T.n_len PySem.boot_len (pa_cons (pv 0) pa_nil)) pe_int (nomark _)))))
        (pss_one (ps_ret pe_bl))
        pss_nil)
      (pss_cons (ps_asg (pv 0) (pg_pair (i := 1) (j := 2) rfl sc__law_due.nd rfl rfl (Or.inr rfl) (Or.inl rfl) (Or.inl rfl) (Or.inl rfl)))
      (pss_cons (ps_if (PW.pt (pw_or (pt_not (pt_val (pe_callB call_isi (by rfl) T.n_isinstance boot_isinstance (pa_cons (pv 1) (pa_cons (pe_bltn (v := .ty "tuple") rfl T.n_tuple boot_tuple rfl) pa_nil))))) (pw_or (pt_not (pt_val (pe_callB call_isi (by rfl) T.n_isinstance boot_isinstance (pa_cons (pv 2) (pa_cons (pe_bltn (v := .ty "tuple") rfl T.n_tuple boot_tuple rfl) pa_nil))))) (pw_or1 (pt_cmpR op_eq (pe_callB call_len_seq (by rfl) T.n_len PySem.boot_len (pa_cons (pv 1) pa_nil)) pe_int (nomark _))))))
        (pss_one (ps_ret pe_bl))
        pss_nil)
      (pss_cons (ps_for PassesOwn.never rfl (pi_tup (pv 1)) (pg_name (i := 3) sc__law_due.nd rfl (Or.inl rfl))
        (pss_cons (ps_if (PW.pt (pw_or (pt_not (pt_val (pe_callB call_isi (by rfl) T.n_isinstance boot_isinstance (pa_cons (pv 3) (pa_cons (pe_bltn (v := .ty "tuple") rfl T.n_tuple boot_tuple rfl) pa_nil))))) (pw_or1 (pt_cmpR op_ne (pe_callB call_len_seq (by rfl) T.n_len PySem.boot_len (pa_cons (pv 3) pa_nil)) pe_int (nomark _)))))
          (pss_one (ps_ret pe_bl))
          pss_nil)
        (pss_one (ps_if (pt_not (pt_val (pe_callB (call_all rfl) (by rfl) T.n_all boot_all (pa_cons (pe_lc (N' := ["_law_one", "_law_rows"]) (n := 1) (ix := [1]) rfl (CompScope.of (sc := defScope s__law_due) (N := ["_law_thing", "_law_rows", "_law_ends", "_law_row"]) (by decide +kernel) rfl rfl) (pi_tup (pv 3)) (fun _ _ _ _ _ => ⟨(pg_name (i := 0) (show (["_law_one", "_law_rows"] : List Str).Nodup by decide +kernel) rfl (Or.inl rfl)), pts_nil, (pe_and (pe_cal C_law_whole (hr.mono (by decide)) rfl (pa_cons (pv 0) pa_nil)) (pe_one (pe_chain op_le op_lt pe_int (pv 0) (pe_callB (call_len_seqKY K rfl) (by rfl) T.n_len PySem.boot_len (pa_cons (pv 1) pa_nil)))))⟩)) pa_nil))))
          (pss_one (ps_ret pe_bl))
          pss_nil))))
      (pss_cons (ps_if (pt_not (pt_val (pe_callB (call_all rfl) (by rfl) T.n_all boot_all (pa_cons (pe_lc (N' := ["_law_one", "_law_rows"]) (n := 1) (ix := [1]) rfl (CompScope.of (sc := defScope s__law_due) (N := ["_law_thing", "_law_rows", "_law_ends", "_law_row"]) (by decide +kernel) rfl rfl) (pi_tup (pv 2)) (fun _ _ _ _ _ => ⟨(pg_name (i := 0) (show (["_law_one", "_law_rows"] : List Str).Nodup by decide +kernel) rfl (Or.inl rfl)), pts_nil, (pe_and (pe_cal C_law_whole (hr.mono (by decide)) rfl (pa_cons (pv 0) pa_nil)) (pe_one (pe_chain op_le op_lt pe_int (pv 0) (pe_callB (call_len_seqKY K rfl) (by rfl) T.n_len PySem.boot_len (pa_cons (pv 1) pa_nil)))))⟩)) pa_nil))))
        (pss_one (ps_ret pe_bl))
        pss_nil)
      (pss_one (ps_ret (pe_callB (call_all rfl) (by rfl) T.n_all boot_all (pa_cons (pe_lc (N' := ["_law_one", "_law_other"]) (n := 2) (ix := []) rfl (CompScope.of (sc := defScope s__law_due) (N := ["_law_thing", "_law_rows", "_law_ends", "_law_row"]) (by decide +kernel) rfl rfl) (pi_zipT rfl T.n_zip (pa_cons (pv 2) (pa_cons (pe_slice sl_tupA (pv 2) (po_some pe_int) po_none) pa_nil))) (fun _ _ _ _ _ => ⟨(pg_pairK K (i := 0) (j := 1) rfl rfl (show (["_law_one", "_law_other"] : List Str).Nodup by decide +kernel) rfl rfl (Or.inl rfl) (Or.inl rfl) (Or.inr rfl) (Or.inr rfl)), pts_nil, (pe_cmpR op_lt (pv 0) (pv 1) (nomark _))⟩)) pa_nil))))))))), ?_⟩
    obtain ⟨kA, kB, k3⟩ := kit7 (K := K) (tyD_in d)
    refine ⟨_, rfl, _, _, _, _, rfl, y.ty, k3, _, rfl, ?_⟩
    rcases y.isT with ⟨a, vs, ds, rfl, rfl, ha, al⟩ | ⟨hne, hn⟩
    rotate_left
    · rw [beq_eq_false_iff_ne.mpr hne]
      have := k H (Same.refl H)
      rw [show machD d = false by cases d <;> first | rfl | exact absurd rfl (hn _)] at this
      exact iteT (iteT this)
    refine iteF ?_
    refine ⟨_, rfl, a, _, rfl, .inr (SqT.of ha), rfl, _, rfl, ite2 (fun h2 => ?_) (fun h2 => ?_)⟩
    · have h2 : ¬vs.length = 2 := by
        intro e
        rw [e] at h2
        cases h2
      rw [al.len] at h2
      have := k H (Same.refl H)
      rw [show machD (.tuple ds) = false from machD_len h2] at this
      exact this
    have h2 : vs.length = 2 := by
      by_cases e : vs.length = 2
      · exact e
      · exact absurd (show (!decide (V.int (vs.length : Int) = V.int 2)) = true by rw [decide_eq_false fun z => e (by have := V.int.inj z; omega)]; rfl) h2
    obtain ⟨v0, v1, rfl⟩ : ∃ v0 v1, vs = [v0, v1] := by
      match vs, h2 with
      | [a, b], _ => exact ⟨a, b, rfl⟩
    cases al with
    | cons y0 t0 =>
      cases t0 with
      | cons y1 t1 =>
        cases t1
        rename_i d0 d1
        obtain ⟨kA0, kB0, k30⟩ := kit7 (K := K) (tyD_in d0)
        obtain ⟨kA1, kB1, k31⟩ := kit7 (K := K) (tyD_in d1)
        refine ⟨_, rfl, a, _, rfl, SqT.of ha, rfl, _, _, rfl, _, _, rfl, rfl, ?_⟩
        refine ⟨_, rfl, _, _, _, _, rfl, y0.ty, k30, _, rfl, ?_⟩
        rcases y0.isT with ⟨R, vr, rows, rfl, rfl, hR, ar⟩ | ⟨hne, hn⟩
        rotate_left
        · rw [beq_eq_false_iff_ne.mpr hne]
          have := k H (Same.refl H)
          rw [show machD (.tuple [d0, d1]) = false by cases d0 <;> first | rfl | exact absurd rfl (hn _)] at this
          exact iteT (iteT this)
        refine iteF ?_
        have eM : machD (.tuple [.tuple rows, d1]) = (rows.all (rowD rows.length) && (decide (0 < rows.length) && (belowD rows.length d1 && risD d1))) := rfl
        have szr : Sz 1000 (.tuple rows) := sz.tup.2 _ List.mem_cons_self
        have sz1 : Sz 1000 d1 := sz.tup.2 _ (by simp)
        have lR : vr.length = rows.length := ar.len
        refine ⟨_, rfl, _, _, _, _, rfl, y1.ty, k31, _, rfl, ?_⟩
        rcases y1.isT with ⟨E', ve, es, rfl, rfl, hE, ae⟩ | ⟨hne, hn⟩
        rotate_left
        · rw [beq_eq_false_iff_ne.mpr hne]
          have := k H (Same.refl H)
          rw [eM, show belowD rows.length d1 = false by cases d1 <;> first | rfl | exact absurd rfl (hn _), Bool.false_and, Bool.and_false, Bool.and_false] at this
          exact iteT (iteT this)
        refine iteF ?_
        refine ⟨_, rfl, R, _, rfl, .inr (SqT.of hR), rfl, _, rfl, ite2 (fun h0 => ?_) (fun h0 => ?_)⟩
        · have h0 : vr.length = 0 := by
            have := of_decide_eq_true h0
            have := V.int.inj this
            omega
          have := k H (Same.refl H)
          rw [eM, decide_eq_false (show ¬0 < rows.length by omega), Bool.false_and, Bool.and_false] at this
          exact this
        have h0 : 0 < rows.length := by
          rcases Nat.eq_zero_or_pos rows.length with e | e
          · exact absurd (decide_eq_true (by rw [lR, e]; rfl)) h0
          · exact e
        rw [decide_eq_true h0, Bool.true_and] at eM
        refine ⟨_, rfl, R, rfl, ⟨_, SqT.of hR⟩, ?_⟩
        refine for_tup (K := K) (a := R) (xs := vr) (fun i σ G => ∃ c : Option V, σ = [some (.ref a), some (.ref R), some (.ref E'), c] ∧ Same H G ∧ ∀ j e, j < i → rows[j]? = some e → rowD rows.length e = true) ?_ ?_ ?_ ?_
        · exact ⟨_, rfl, Same.refl H, fun _ _ h => absurd h (Nat.not_lt_zero _)⟩
        · rintro i σ G _ ⟨c, rfl, sm, _⟩
          exact SqT.of (sm _ _ hR)
        · rintro i v σ G hv ⟨c, rfl, sm, hj⟩
          obtain ⟨e, he, ye⟩ := ar.at hv
          have sze := szr.tup.2 e (List.mem_of_getElem? he)
          have fl : rowD rows.length e = false → machD (.tuple [.tuple rows, .tuple es]) = false := fun z => by
            rw [eM, show rows.all (rowD rows.length) = false from List.all_eq_false.mpr ⟨e, List.mem_of_getElem? he, by rw [z]; decide⟩, Bool.false_and]
          obtain ⟨kAe, kBe, k3e⟩ := kit7 (K := K) (tyD_in e)
          refine ⟨_, rfl, _, _, _, _, rfl, (ye.same sm).ty, k3e, _, rfl, ?_⟩
          rcases ye.isT with ⟨z, vz, r, rfl, rfl, hz, az⟩ | ⟨hne, hn⟩
          rotate_left
          · rw [beq_eq_false_iff_ne.mpr hne]
            have := k G sm
            rw [fl (by cases e <;> first | rfl | exact absurd rfl (hn _))] at this
            exact iteT (iteT this)
          refine iteF ?_
          have eR : rowD rows.length (.tuple r) = (r.all (inD rows.length) && decide (r.length = 4)) := rfl
          refine ⟨_, rfl, z, _, rfl, .inr (SqT.of (sm _ _ hz)), rfl, _, rfl, ite2 (fun h4 => ?_) (fun h4 => ?_)⟩
          · have h4 : ¬r.length = 4 := by
              intro e
              rw [az.len, e] at h4
              cases h4
            have := k G sm
            rw [fl (by rw [eR, decide_eq_false h4, Bool.and_false])] at this
            exact this
          have h4 : r.length = 4 := by
            by_cases e : r.length = 4
            · exact e
            · exact absurd (show (!decide (V.int (vz.length : Int) = V.int 4)) = true by rw [decide_eq_false fun z => e (by have := V.int.inj z; rw [az.len] at this; omega)]; rfl) h4
          refine ⟨_, rfl, z, rfl, ⟨_, SqT.of (sm _ _ hz)⟩, ?_⟩
          refine lc_growI (yields_tup (K := K) (a := z) (xs := vz)) (small1 (by rw [az.len]; omega)) (r.map (inD rows.length)) (by rw [List.length_map, az.len]) (fun G1 sm1 => SqT.of (sm1 _ _ (sm _ _ hz))) (fun j u b G1 hu hb sm1 Q' q => ?_) fun acc G1 hacc sm1 hG => ?_
          · obtain ⟨o, ho, yo⟩ := az.at hu
            rw [List.getElem?_map, ho] at hb
            cases hb
            exact item_ok (yo.same (sm.trans sm1)) (fun z => SqT.of ((sm.trans sm1) _ _ hR)) lR q
          refine ⟨acc, _, rfl, hG, _, rfl, ?_⟩
          rw [List.all_map]
          by_cases hall : r.all (inD rows.length) = true
          · have e2 : r.all (id ∘ inD rows.length) = true := hall
            rw [e2]
            refine iteF ⟨_, rfl, sm.trans sm1, fun j e hji hej => ?_⟩
            by_cases ej : j = i
            · subst ej
              rw [he] at hej
              cases hej
              rw [eR, hall, decide_eq_true h4]
              rfl
            · exact hj j e (by omega) hej
          · have hall : r.all (inD rows.length) = false := by simpa using hall
            have e2 : r.all (id ∘ inD rows.length) = false := hall
            rw [e2]
            have := k G1 (sm.trans sm1)
            rw [fl (by rw [eR, hall, Bool.false_and])] at this
            exact iteT this
        · rintro σ G ⟨c, rfl, sm, hj⟩
          have hrows : rows.all (rowD rows.length) = true := List.all_eq_true.mpr fun e he => by
            obtain ⟨j, hj'⟩ := List.getElem?_of_mem he
            exact hj j e (by rw [lR]; exact (List.getElem?_eq_some_iff.mp hj').1) hj'
          rw [eM, hrows, Bool.true_and] at k
          refine ⟨_, rfl, E', rfl, ⟨_, SqT.of (sm _ _ hE)⟩, ?_⟩
          refine lc_growI (yields_tup (K := K) (a := E') (xs := ve)) (small1 (by rw [ae.len]; exact sz1.tup.1)) (es.map (inD rows.length)) (by rw [List.length_map, ae.len]) (fun G1 sm1 => SqT.of (sm1 _ _ (sm _ _ hE))) (fun j u b G1 hu hb sm1 Q' q => ?_) fun acc G1 hacc sm1 hG => ?_
          · obtain ⟨o, ho, yo⟩ := ae.at hu
            rw [List.getElem?_map, ho] at hb
            cases hb
            exact item_ok (yo.same (sm.trans sm1)) (fun z => SqT.of ((sm.trans sm1) _ _ hR)) lR q
          refine ⟨acc, _, rfl, hG, _, rfl, ?_⟩
          rw [List.all_map]
          by_cases hall : es.all (inD rows.length) = true
          rotate_left
          · have hall : es.all (inD rows.length) = false := by simpa using hall
            have e2 : es.all (id ∘ inD rows.length) = false := hall
            rw [e2]
            have := k G1 (sm.trans sm1)
            rw [show belowD rows.length (.tuple es) = false from hall, Bool.false_and] at this
            exact iteT this
          have e2 : es.all (id ∘ inD rows.length) = true := hall
          rw [e2]
          refine iteF ?_
          rw [show belowD rows.length (.tuple es) = true from hall, Bool.true_and] at k
          have hw : es.all whD = true := List.all_eq_true.mpr fun e he => inD_wh (List.all_eq_true.mp hall e he)
          have ev := ints_of ae hw
          subst ev
          have S1 := sm.trans sm1
          have hel : (es.map asI).length ≤ 1000 := by rw [List.length_map]; exact sz1.tup.1
          refine ⟨_, rfl, _, rfl, 1, rfl, E', _, rfl, S1 _ _ hE, fun b G2 s2 hb => ⟨E', b, rfl, ⟨_, SqT.of (s2 _ _ (S1 _ _ hE))⟩, ⟨_, SqT.of hb⟩, ?_⟩⟩
          rw [cut_tailY] at hb
          refine lc_zip (xs := (es.map asI).map V.int) (ys := ((es.map asI).drop 1).map V.int) (fun s' => SqT.of (s' _ _ (s2 _ _ (S1 _ _ hE)))) (fun s' => SqT.of (s' _ _ hb)) (by rw [List.length_zip, mapI_len]; omega) (fun _ => true) (fun p => .bl (ltP p)) (fun _ _ _ _ _ q => q) (fun xy hxy _ H' s' Q' q => ?_) fun acc H' hacc s' hl' => ?_
          · obtain ⟨x, y⟩ := xy
            obtain ⟨u, _, rfl⟩ := List.mem_map.mp (List.of_mem_zip hxy).1
            obtain ⟨v, _, rfl⟩ := List.mem_map.mp (List.of_mem_zip hxy).2
            exact ⟨_, rfl, _, rfl, _, _, rfl, rfl, q⟩
          rw [filter_true] at hl'
          refine ⟨acc, ((((es.map asI).map V.int).zip (((es.map asI).drop 1).map V.int)).map ltP), rfl, by rw [hl', map_ltP], ?_⟩
          rw [risL_zip]
          exact k _ (S1.trans (s2.trans s'))
end
end K47


namespace L2
open PySem PySem.Spec PyProof.Rows
abbrev New (H0 : Hp) : Addr → Prop := fun a => H0 a = none
def An (n : Nat) (H0 H : Hp) (x : V) : Prop := ∃ d, IsY (New H0) H x d ∧ Sz n d
theorem Pot3.old {c : Nat} {p a : Addr} {H : Hp} (hp : Pot3 H p c) (h : H a = none) : a ≠ p := fun e => by
  obtain ⟨o, m, t, h1, _⟩ := hp
  rw [e, h1] at h
  cases h
theorem An.keep {n c c0 : Nat} {p : Addr} {H0 H H' : Hp} {x : V} (h : An n H0 H x) (h0 : Pot3 H0 p c0) (hp : Pot3 H p c) (k : Keep p p H H') : An n H0 H' x := by
  obtain ⟨d, y, r⟩ := h
  obtain ⟨o, m, t, h1, _⟩ := hp
  exact ⟨d, y.keep k h1 h1 fun a z => ⟨h0.old z, h0.old z⟩, r⟩
theorem new_back {c : Nat} {p a : Addr} {H G : Hp} (k : Keep p p H G) (hp : Pot3 G p c) (h : G a = none) : H a = none := by
  cases e : H a with
  | none => rfl
  | some o => rw [k a o e (hp.old h) (hp.old h)] at h; cases h
def spOfA : Sp := fun vs H Q _ => ∃ (p l : Addr) (n : Nat) (xs : List V), vs = [.ref p, .ref l] ∧ Pot3 H p n ∧ n < 900000 ∧ H l = some (.lst xs) ∧ l ≠ p ∧ 0 < xs.length ∧ xs.length < 1000 ∧ ∀ x H', x ∈ xs → Pot3 H' p (n + 1) → Keep p p H H' → Q x H'
def spOddM : Sp := fun vs H Q _ => ∃ (p : Addr) (n : Nat) (N m : Int), vs = [.ref p, .int N, .int m] ∧ Pot3 H p n ∧ n < 900000 ∧ 0 ≤ N ∧ N < 190 ∧ ∀ x H', An 5 H H' x → Pot3 H' p (n + 1) → Keep p p H H' → Q x H'
def spRowC : Sp := fun vs H Q _ => ∃ (p a : Addr) (n : Nat) (ns : List Int) (m : Int), vs = [.ref p, .ref a, .int m] ∧ Pot3 H p n ∧ n < 890000 ∧ H a = some (.tup (ns.map V.int)) ∧ (∀ d ∈ ns, 0 ≤ d ∧ d < 190) ∧ ns.length ≤ 60 ∧ ∀ x H', An 250 H H' x → Pot3 H' p (n + 5) → Keep p p H H' → Q x H'
def Rws (H : Hp) (z R E : Addr) (zs : List Addr) (rows : List (List Int)) (ends : List Int) : Prop := H z = some (.tup [.ref R, .ref E]) ∧ H R = some (.tup (zs.map V.ref)) ∧ RowsAt H zs rows ∧ H E = some (.tup (ends.map V.int)) ∧ 0 < rows.length ∧ rows.length ≤ 40 ∧ (∀ r ∈ rows, r.length = 4 ∧ ∀ d ∈ r, 0 ≤ d ∧ d < 190) ∧ ends.length ≤ 40 ∧ ∀ d ∈ ends, 0 ≤ d ∧ d < 190
def spChg : Sp := fun vs H Q _ => ∃ (p z R E : Addr) (n : Nat) (zs : List Addr) (rows : List (List Int)) (ends : List Int), vs = [.ref p, .ref z] ∧ Pot3 H p n ∧ n < 800000 ∧ Rws H z R E zs rows ends ∧ ∀ x H', An 900 H H' x → Pot3 H' p (n + 20) → Keep p p H H' → Q x H'
end L2
namespace K47
open PySem PySem.Spec PyProof.Rows L2
abbrev s__law_of : Stmt := top 11
abbrev s__law_odd : Stmt := top 15
abbrev s__law_row_changed : Stmt := top 16
abbrev s__law_changed : Stmt := top 17
abbrev s_law : Stmt := top 18
section
variable {P : Program} {w : World} {K : PySem.W.Frag} {mg : Str → Option Value} {base : Heap}
theorem sc__law_of : FnScope ["_law_urn_here", "_law_some"] ["_law_urn_here", "_law_some"] (defScope s__law_of) := ⟨rfl, rfl, rfl, by decide +kernel, rfl, by decide +kernel, by decide +kernel⟩
def ofT {f : Addr} {cdv : Value} {A : Around} {outer : List Env} {s : Shared} {H : Hp} {E : XK} (hr : Room 1 (A.deeper (envOfC "_law_of" (defScope s__law_of) s.heap.objs.size f cdv))) (T : Top mg) (TX : TopX mg) (C_law_take : Cal P w K mg base 1 "_law_take" ["_law_urn_here", "_law_many"] spDraw) : {t : TS // PSsw (cxOf CX0 P w K mg base ["_law_urn_here", "_law_some"] "_law_of" (defScope s__law_of) f cdv A outer s H E).nox (defBody s__law_of) t} :=
  have hu : _ := hr.units
  ⟨_, (Wr.pss_one (Wr.ps_ret (Wr.pe_ix ix_list (Wr.pv 1) (Wr.pe_cal C_law_take (hr.mono (by decide)) rfl (Wr.pa_cons (Wr.pv 0) (Wr.pa_cons (Wr.pe_callB call_len_seq (by rfl) T.n_len PySem.boot_len (Wr.pa_cons (Wr.pv 1) Wr.pa_nil)) Wr.pa_nil))) (fun _ _ => rfl))))⟩
theorem sc__law_odd : FnScope ["_law_urn_here", "_law_number", "_law_many", "_law_way", "_law_some"] ["_law_urn_here", "_law_number", "_law_many"] (defScope s__law_odd) := ⟨rfl, rfl, rfl, by decide +kernel, rfl, by decide +kernel, by decide +kernel⟩
def oddT {f : Addr} {cdv : Value} {A : Around} {outer : List Env} {s : Shared} {H : Hp} {E : XK} (hr : Room 1 (A.deeper (envOfC "_law_odd" (defScope s__law_odd) s.heap.objs.size f cdv))) (T : Top mg) (TX : TopX mg) (C_law_take : Cal P w K mg base 1 "_law_take" ["_law_urn_here", "_law_many"] spDraw) : {t : TS // PSsw (cxOf CX0 P w K mg base ["_law_urn_here", "_law_number", "_law_many", "_law_way", "_law_some"] "_law_odd" (defScope s__law_odd) f cdv A outer s H E).nox (defBody s__law_odd) t} :=
  have hu : _ := hr.units
  ⟨_, (Wr.pss_cons (Wr.ps_set (i := 3) sc__law_odd.nd rfl (Or.inl rfl) (Wr.pe_cal C_law_take (hr.mono (by decide)) rfl (Wr.pa_cons (Wr.pv 0) (Wr.pa_cons Wr.pe_int Wr.pa_nil))))
      (Wr.pss_cons (Wr.ps_set (i := 4) sc__law_odd.nd rfl (Or.inl rfl) (Wr.pe_lst (Wr.pa_cons (Wr.pe_op op_add (Wr.pv 1) Wr.pe_int) (Wr.pa_cons (Wr.pe_op op_sub (Wr.pv 1) Wr.pe_int) (Wr.pa_cons (Wr.pv 2) (Wr.pa_cons (Wr.pe_un un_neg Wr.pe_int) (Wr.pa_cons Wr.pe_bl (Wr.pa_cons Wr.pe_bl (Wr.pa_cons Wr.pe_non (Wr.pa_cons (Wr.pe_callTy call_str_int (by rfl) TX.n_str boot_str (Wr.pa_cons (Wr.pv 1) Wr.pa_nil)) (Wr.pa_cons (Wr.pe_tup (Wr.pa_cons (Wr.pv 1) Wr.pa_nil)) (Wr.pa_cons (Wr.pe_lstN (Wr.pa_cons (Wr.pv 1) Wr.pa_nil)) (Wr.pa_cons Wr.pe_int (Wr.pa_cons (Wr.pe_op op_pow Wr.pe_int Wr.pe_int) Wr.pa_nil))))))))))))))
      (Wr.pss_one (Wr.ps_ret (Wr.pe_ix ix_list (Wr.pv 4) (Wr.pv 3) (fun _ _ => rfl))))))⟩
theorem sc__law_row_changed : FnScope ["_law_urn_here", "_law_row", "_law_many", "_law_way", "_law_at", "_law_stood", "_law_two"] ["_law_urn_here", "_law_row", "_law_many"] (defScope s__law_row_changed) := ⟨rfl, rfl, rfl, by decide +kernel, rfl, by decide +kernel, by decide +kernel⟩
def rowT {f : Addr} {cdv : Value} {A : Around} {outer : List Env} {s : Shared} {H : Hp} {E : XK} (hr : Room 2 (A.deeper (envOfC "_law_row_changed" (defScope s__law_row_changed) s.heap.objs.size f cdv))) (T : Top mg) (TX : TopX mg) (C_law_take : Cal P w K mg base 1 "_law_take" ["_law_urn_here", "_law_many"] spDraw) (C_law_odd : Cal P w K mg base 2 "_law_odd" ["_law_urn_here", "_law_number", "_law_many"] spOddM) : {t : TS // PSsw (cxOf CX0 P w K mg base ["_law_urn_here", "_law_row", "_law_many", "_law_way", "_law_at", "_law_stood", "_law_two"] "_law_row_changed" (defScope s__law_row_changed) f cdv A outer s H E).nox (defBody s__law_row_changed) t} :=
  have hu : _ := hr.units
  ⟨_, (Wr.pss_cons (Wr.ps_set (i := 3) sc__law_row_changed.nd rfl (Or.inl rfl) (Wr.pe_cal C_law_take (hr.mono (by decide)) rfl (Wr.pa_cons (Wr.pv 0) (Wr.pa_cons Wr.pe_int Wr.pa_nil))))
      (Wr.pss_cons (Wr.ps_set (i := 4) sc__law_row_changed.nd rfl (Or.inl rfl) (Wr.pe_cal C_law_take (hr.mono (by decide)) rfl (Wr.pa_cons (Wr.pv 0) (Wr.pa_cons (Wr.pe_op op_add (Wr.pe_callB call_len_seq (by rfl) T.n_len PySem.boot_len (Wr.pa_cons (Wr.pv 1) Wr.pa_nil)) Wr.pe_int) Wr.pa_nil))))
      (Wr.pss_cons (Wr.ps_if (Wr.pt_cmpR op_lt (Wr.pv 3) Wr.pe_int (nomark _))
        (Wr.pss_cons (Wr.ps_set (i := 5) sc__law_row_changed.nd rfl (Or.inl rfl) (Wr.pe_ifExp (Wr.pt_cmpR op_lt (Wr.pv 4) (Wr.pe_callB call_len_seq (by rfl) T.n_len PySem.boot_len (Wr.pa_cons (Wr.pv 1) Wr.pa_nil)) (nomark _)) (Wr.pe_ix ix_tup (Wr.pv 1) (Wr.pv 4) (fun _ _ => rfl)) Wr.pe_int))
        (Wr.pss_one (Wr.ps_ret (Wr.pe_op op_cat2 (Wr.pe_op op_cat2 (Wr.pe_slice sl_tupA (Wr.pv 1) po_none (Wr.po_some (Wr.pv 4))) (Wr.pe_tup (Wr.pa_cons (Wr.pe_cal C_law_odd (hr.mono (by decide)) rfl (Wr.pa_cons (Wr.pv 0) (Wr.pa_cons (Wr.pv 5) (Wr.pa_cons (Wr.pv 2) Wr.pa_nil)))) Wr.pa_nil))) (Wr.pe_slice sl_tupA (Wr.pv 1) (Wr.po_some (Wr.pe_op op_add (Wr.pv 4) Wr.pe_int)) po_none)))))
        Wr.pss_nil)
      (Wr.pss_cons (Wr.ps_if (Wr.pt_cmpR op_eq (Wr.pv 3) Wr.pe_int (nomark _))
        (Wr.pss_one (Wr.ps_ret (Wr.pe_op op_cat2 (Wr.pe_slice sl_tupA (Wr.pv 1) po_none (Wr.po_some (Wr.pv 4))) (Wr.pe_slice sl_tupA (Wr.pv 1) (Wr.po_some (Wr.pe_op op_add (Wr.pv 4) Wr.pe_int)) po_none))))
        Wr.pss_nil)
      (Wr.pss_cons (Wr.ps_if (Wr.pt_cmpR op_eq (Wr.pv 3) Wr.pe_int (nomark _))
        (Wr.pss_one (Wr.ps_ret (Wr.pe_op op_cat2 (Wr.pe_op op_cat2 (Wr.pe_slice sl_tupA (Wr.pv 1) po_none (Wr.po_some (Wr.pv 4))) (Wr.pe_slice sl_tupA (Wr.pv 1) (Wr.po_some (Wr.pv 4)) (Wr.po_some (Wr.pe_op op_add (Wr.pv 4) Wr.pe_int)))) (Wr.pe_slice sl_tupA (Wr.pv 1) (Wr.po_some (Wr.pv 4)) po_none))))
        Wr.pss_nil)
      (Wr.pss_cons (Wr.ps_if (Wr.pt_cmpR op_eq (Wr.pv 3) Wr.pe_int (nomark _))
        (Wr.pss_cons (Wr.ps_set (i := 6) sc__law_row_changed.nd rfl (Or.inl rfl) (Wr.pe_slice sl_tupA (Wr.pv 1) (Wr.po_some (Wr.pv 4)) (Wr.po_some (Wr.pe_op op_add (Wr.pv 4) Wr.pe_int))))
        (Wr.pss_one (Wr.ps_ret (Wr.pe_op op_cat2 (Wr.pe_op op_cat2 (Wr.pe_slice sl_tupA (Wr.pv 1) po_none (Wr.po_some (Wr.pv 4))) (Wr.pe_rev rv_tup (Wr.pv 6))) (Wr.pe_slice sl_tupA (Wr.pv 1) (Wr.po_some (Wr.pe_op op_add (Wr.pv 4) Wr.pe_int)) po_none)))))
        Wr.pss_nil)
      (Wr.pss_one (Wr.ps_ret (Wr.pe_callTy call_list_of (by rfl) T.n_list boot_list (Wr.pa_cons (Wr.pv 1) Wr.pa_nil))))))))))⟩
theorem sc__law_changed : FnScope ["_law_urn_here", "_law_machine_here", "_law_rows", "_law_ends", "_law_way", "_law_at", "_law_some"] ["_law_urn_here", "_law_machine_here"] (defScope s__law_changed) := ⟨rfl, rfl, rfl, by decide +kernel, rfl, by decide +kernel, by decide +kernel⟩
def chT {f : Addr} {cdv : Value} {A : Around} {outer : List Env} {s : Shared} {H : Hp} {E : XK} (hr : Room 3 (A.deeper (envOfC "_law_changed" (defScope s__law_changed) s.heap.objs.size f cdv))) (T : Top mg) (TX : TopX mg) (C_law_take : Cal P w K mg base 1 "_law_take" ["_law_urn_here", "_law_many"] spDraw) (C_law_of : Cal P w K mg base 2 "_law_of" ["_law_urn_here", "_law_some"] spOfA) (C_law_row_changed : Cal P w K mg base 3 "_law_row_changed" ["_law_urn_here", "_law_row", "_law_many"] spRowC) : {t : TS // PSsw (cxOf CX0 P w K mg base ["_law_urn_here", "_law_machine_here", "_law_rows", "_law_ends", "_law_way", "_law_at", "_law_some"] "_law_changed" (defScope s__law_changed) f cdv A outer s H E).nox (defBody s__law_changed) t} :=
  have hu : _ := hr.units
  ⟨_, (Wr.pss_cons (Wr.ps_asg (Wr.pv 1) (pg_pair (i := 2) (j := 3) rfl sc__law_changed.nd rfl rfl (Or.inl rfl) (Or.inl rfl) (Or.inl rfl) (Or.inl rfl)))
      (Wr.pss_cons (Wr.ps_set (i := 4) sc__law_changed.nd rfl (Or.inl rfl) (Wr.pe_cal C_law_take (hr.mono (by decide)) rfl (Wr.pa_cons (Wr.pv 0) (Wr.pa_cons Wr.pe_int Wr.pa_nil))))
      (Wr.pss_cons (Wr.ps_set (i := 5) sc__law_changed.nd rfl (Or.inl rfl) (Wr.pe_cal C_law_take (hr.mono (by decide)) rfl (Wr.pa_cons (Wr.pv 0) (Wr.pa_cons (Wr.pe_callB call_len_seq (by rfl) T.n_len PySem.boot_len (Wr.pa_cons (Wr.pv 2) Wr.pa_nil)) Wr.pa_nil))))
      (Wr.pss_cons (Wr.ps_if (Wr.pt_cmpR op_lt (Wr.pv 4) Wr.pe_int (nomark _))
        (Wr.pss_one (Wr.ps_ret (Wr.pe_tup (Wr.pa_cons (Wr.pe_op op_cat2 (Wr.pe_op op_cat2 (Wr.pe_slice sl_tupA (Wr.pv 2) po_none (Wr.po_some (Wr.pv 5))) (Wr.pe_tup (Wr.pa_cons (Wr.pe_cal C_law_row_changed (hr.mono (by decide)) rfl (Wr.pa_cons (Wr.pv 0) (Wr.pa_cons (Wr.pe_ix ix_tup (Wr.pv 2) (Wr.pv 5) (fun _ _ => rfl)) (Wr.pa_cons (Wr.pe_callB call_len_seq (by rfl) T.n_len PySem.boot_len (Wr.pa_cons (Wr.pv 2) Wr.pa_nil)) Wr.pa_nil)))) Wr.pa_nil))) (Wr.pe_slice sl_tupA (Wr.pv 2) (Wr.po_some (Wr.pe_op op_add (Wr.pv 5) Wr.pe_int)) po_none)) (Wr.pa_cons (Wr.pv 3) Wr.pa_nil)))))
        Wr.pss_nil)
      (Wr.pss_cons (Wr.ps_if (Wr.pt_cmpR op_lt (Wr.pv 4) Wr.pe_int (nomark _))
        (Wr.pss_one (Wr.ps_ret (Wr.pe_tup (Wr.pa_cons (Wr.pv 2) (Wr.pa_cons (Wr.pe_cal C_law_row_changed (hr.mono (by decide)) rfl (Wr.pa_cons (Wr.pv 0) (Wr.pa_cons (Wr.pv 3) (Wr.pa_cons (Wr.pe_callB call_len_seq (by rfl) T.n_len PySem.boot_len (Wr.pa_cons (Wr.pv 2) Wr.pa_nil)) Wr.pa_nil)))) Wr.pa_nil)))))
        Wr.pss_nil)
      (Wr.pss_cons (Wr.ps_if (Wr.pt_cmpR op_eq (Wr.pv 4) Wr.pe_int (nomark _))
        (Wr.pss_one (Wr.ps_ret (Wr.pe_tup (Wr.pa_cons (Wr.pe_op op_cat2 (Wr.pe_slice sl_tupA (Wr.pv 2) po_none (Wr.po_some (Wr.pv 5))) (Wr.pe_slice sl_tupA (Wr.pv 2) (Wr.po_some (Wr.pe_op op_add (Wr.pv 5) Wr.pe_int)) po_none)) (Wr.pa_cons (Wr.pv 3) Wr.pa_nil)))))
        Wr.pss_nil)
      (Wr.pss_cons (Wr.ps_if (Wr.pt_cmpR op_eq (Wr.pv 4) Wr.pe_int (nomark _))
        (Wr.pss_one (Wr.ps_ret (Wr.pe_tup (Wr.pa_cons (Wr.pe_op op_cat2 (Wr.pv 2) (Wr.pe_slice sl_tupA (Wr.pv 2) (Wr.po_some (Wr.pv 5)) (Wr.po_some (Wr.pe_op op_add (Wr.pv 5) Wr.pe_int)))) (Wr.pa_cons (Wr.pv 3) Wr.pa_nil)))))
        Wr.pss_nil)
      (Wr.pss_cons (Wr.ps_set (i := 6) sc__law_changed.nd rfl (Or.inl rfl) (Wr.pe_lst (Wr.pa_cons (Wr.pe_callTy call_list_of (by rfl) T.n_list boot_list (Wr.pa_cons (Wr.pv 1) Wr.pa_nil)) (Wr.pa_cons (Wr.pe_tup (Wr.pa_cons (Wr.pv 2) Wr.pa_nil)) (Wr.pa_cons (Wr.pe_tup (Wr.pa_cons (Wr.pv 2) (Wr.pa_cons (Wr.pv 3) (Wr.pa_cons (Wr.pe_tup Wr.pa_nil) Wr.pa_nil)))) (Wr.pa_cons (Wr.pe_tup (Wr.pa_cons (Wr.pv 3) (Wr.pa_cons (Wr.pv 2) Wr.pa_nil))) (Wr.pa_cons (Wr.pe_tup (Wr.pa_cons (Wr.pe_callTy call_list_of (by rfl) T.n_list boot_list (Wr.pa_cons (Wr.pv 2) Wr.pa_nil)) (Wr.pa_cons (Wr.pv 3) Wr.pa_nil))) (Wr.pa_cons (Wr.pv 2) (Wr.pa_cons Wr.pe_L (Wr.pa_cons Wr.pe_L Wr.pa_nil))))))))))
      (Wr.pss_one (Wr.ps_ret (Wr.pe_cal C_law_of (hr.mono (by decide)) rfl (Wr.pa_cons (Wr.pv 0) (Wr.pa_cons (Wr.pv 6) Wr.pa_nil)))))))))))))⟩
theorem sc_law : FnScope ["_law_script", "_law_urn_here", "_law_deep", "_law_turn", "_law_machine_here", "_law_things", "_law_thing", "_law_found", "_law_rows"] ["_law_script"] (defScope s_law) := ⟨rfl, rfl, rfl, by decide +kernel, rfl, by decide +kernel, by decide +kernel⟩
def lawT {f : Addr} {cdv : Value} {A : Around} {outer : List Env} {s : Shared} {H : Hp} {E : XK} (hr : Room 4 (A.deeper (envOfC "law" (defScope s_law) s.heap.objs.size f cdv))) (T : Top mg) (TX : TopX mg) (C_law_urn : Cal P w K mg base 1 "_law_urn" ["_law_script"] (spUrn K)) (C_law_take : Cal P w K mg base 1 "_law_take" ["_law_urn_here", "_law_many"] spDraw) (C_law_machine : Cal P w K mg base 2 "_law_machine" ["_law_urn_here", "_law_most"] spMachN) (C_law_changed : Cal P w K mg base 4 "_law_changed" ["_law_urn_here", "_law_machine_here"] spChg) (Cis_machine : Cal P w K mg base 4 "is_machine" ["thing"] spMaD) (C_law_due : Cal P w K mg base 2 "_law_due" ["_law_thing"] spMaD) : {t : TS // PSsw (cxOf CX0 P w K mg base ["_law_script", "_law_urn_here", "_law_deep", "_law_turn", "_law_machine_here", "_law_things", "_law_thing", "_law_found", "_law_rows"] "law" (defScope s_law) f cdv A outer s H E).nox (defBody s_law) t} :=
  have hu : _ := hr.units
  ⟨_, (Wr.pss_cons (Wr.ps_set (i := 1) sc_law.nd rfl (Or.inr rfl) (Wr.pe_cal C_law_urn (hr.mono (by decide)) rfl (Wr.pa_cons (Wr.pv 0) Wr.pa_nil)))
      (Wr.pss_cons (Wr.ps_set (i := 2) sc_law.nd rfl (Or.inl rfl) (Wr.pe_tup Wr.pa_nil))
      (Wr.pss_cons (Wr.ps_for PassesOwn.never rfl (Wr.pi_range1 rfl T.n_range (Wr.pa_cons Wr.pe_int Wr.pa_nil)) (pg_name (i := 3) sc_law.nd rfl (Or.inl rfl))
        (Wr.pss_one (Wr.ps_set (i := 2) sc_law.nd rfl (Or.inl rfl) (Wr.pe_tup (Wr.pa_cons (Wr.pv 2) Wr.pa_nil)))))
      (Wr.pss_cons (Wr.ps_for PassesOwn.never rfl (Wr.pi_range1 rfl T.n_range (Wr.pa_cons Wr.pe_int Wr.pa_nil)) (pg_name (i := 3) sc_law.nd rfl (Or.inl rfl))
        (Wr.pss_cons (Wr.ps_set (i := 4) sc_law.nd rfl (Or.inr rfl) (Wr.pe_cal C_law_machine (hr.mono (by decide)) rfl (Wr.pa_cons (Wr.pv 1) (Wr.pa_cons (Wr.pe_ix ix_list (Wr.pe_lst (Wr.pa_cons Wr.pe_int (Wr.pa_cons Wr.pe_int (Wr.pa_cons Wr.pe_int (Wr.pa_cons Wr.pe_int Wr.pa_nil))))) (Wr.pe_cal C_law_take (hr.mono (by decide)) rfl (Wr.pa_cons (Wr.pv 1) (Wr.pa_cons Wr.pe_int Wr.pa_nil))) (fun _ _ => rfl)) Wr.pa_nil))))
        (Wr.pss_cons (Wr.ps_set (i := 5) sc_law.nd rfl (Or.inl rfl) (Wr.pe_op op_cat (Wr.pe_lst (Wr.pa_cons (Wr.pv 4) Wr.pa_nil)) (Wr.pe_lc (N' := ["_law_k", "_law_urn_here", "_law_machine_here"]) (n := 1) (ix := [1, 4]) rfl (CompScope.of (sc := defScope s_law) (N := ["_law_script", "_law_urn_here", "_law_deep", "_law_turn", "_law_machine_here", "_law_things", "_law_thing", "_law_found", "_law_rows"]) (by decide +kernel) rfl rfl) (Wr.pi_range1 rfl T.n_range (Wr.pa_cons Wr.pe_int Wr.pa_nil)) (fun _ _ _ _ _ => ⟨(pg_name (i := 0) (show (["_law_k", "_law_urn_here", "_law_machine_here"] : List Str).Nodup by decide +kernel) rfl (Or.inl rfl)), pts_nil, (Wr.pe_cal C_law_changed (hr.mono (by decide)) rfl (Wr.pa_cons (Wr.pv 1) (Wr.pa_cons (Wr.pv 2) Wr.pa_nil)))⟩))))
        (Wr.pss_cons (Wr.ps_expr (Wr.pe_bm PySem.F.plainAttrs_list PySem.F.slot_list_append PySem.F.type_list_append mt_append (Wr.pv 5) (Wr.pa_cons (Wr.pe_cal C_law_changed (hr.mono (by decide)) rfl (Wr.pa_cons (Wr.pv 1) (Wr.pa_cons (Wr.pe_tup (Wr.pa_cons (Wr.pe_ix ix_tup (Wr.pv 4) Wr.pe_int (fun _ _ => rfl)) (Wr.pa_cons (Wr.pe_tup Wr.pa_nil) Wr.pa_nil))) Wr.pa_nil))) Wr.pa_nil)))
        (Wr.pss_one (Wr.ps_for PassesOwn.never rfl (Wr.pi_list (Wr.pe_op op_cat (Wr.pv 5) (Wr.pe_lst (Wr.pa_cons Wr.pe_L (Wr.pa_cons Wr.pe_L (Wr.pa_cons Wr.pe_L (Wr.pa_cons Wr.pe_L (Wr.pa_cons Wr.pe_L (Wr.pa_cons Wr.pe_L (Wr.pa_cons Wr.pe_L (Wr.pa_cons Wr.pe_L (Wr.pa_cons Wr.pe_L (Wr.pa_cons (Wr.pv 2) (Wr.pa_cons Wr.pe_L (Wr.pa_cons Wr.pe_L Wr.pa_nil))))))))))))))) (pg_name (i := 6) sc_law.nd rfl (Or.inl rfl))
          (Wr.pss_cons (Wr.ps_set (i := 7) sc_law.nd rfl (Or.inl rfl) (Wr.pe_cal Cis_machine (hr.mono (by decide)) rfl (Wr.pa_cons (Wr.pv 6) Wr.pa_nil)))
          (Wr.pss_one (Wr.ps_if (Wr.PWpt (Wr.pw_or (Wr.pt_not (Wr.pt_val (Wr.pe_callB call_isi (by rfl) T.n_isinstance boot_isinstance (Wr.pa_cons (Wr.pv 7) (Wr.pa_cons (Wr.pe_bltn (v := .ty "bool") rfl T.n_bool boot_bool rfl) Wr.pa_nil))))) (Wr.pw_or1 (Wr.pt_cmpR op_ne (Wr.pv 7) (Wr.pe_cal C_law_due (hr.mono (by decide)) rfl (Wr.pa_cons (Wr.pv 6) Wr.pa_nil)) (nomark _)))))
            (Wr.pss_one (Wr.ps_ret Wr.pe_bl))
            Wr.pss_nil)))))))))
      (Wr.pss_cons (Wr.ps_set (i := 8) sc_law.nd rfl (Or.inl rfl) (Wr.pe_callTy call_tuple_of (by rfl) T.n_tuple boot_tuple (Wr.pa_cons (Wr.pe_lc (N' := ["_law_k"]) (n := 1) (ix := []) rfl (CompScope.of (sc := defScope s_law) (N := ["_law_script", "_law_urn_here", "_law_deep", "_law_turn", "_law_machine_here", "_law_things", "_law_thing", "_law_found", "_law_rows"]) (by decide +kernel) rfl rfl) (Wr.pi_range1 rfl T.n_range (Wr.pa_cons Wr.pe_int Wr.pa_nil)) (fun _ _ _ _ _ => ⟨(pg_name (i := 0) (show (["_law_k"] : List Str).Nodup by decide +kernel) rfl (Or.inl rfl)), pts_nil, (Wr.pe_tup (Wr.pa_cons (Wr.pv 0) (Wr.pa_cons (Wr.pe_op op_mod (Wr.pe_op op_add (Wr.pv 0) Wr.pe_int) Wr.pe_int) (Wr.pa_cons (Wr.pe_op op_sub Wr.pe_int (Wr.pv 0)) (Wr.pa_cons Wr.pe_int Wr.pa_nil)))))⟩)) Wr.pa_nil)))
      (Wr.pss_cons (Wr.ps_if (Wr.PWpt (Wr.pw_or (Wr.pt_cmpR op_isnot_bl (Wr.pe_cal Cis_machine (hr.mono (by decide)) rfl (Wr.pa_cons (Wr.pe_tup (Wr.pa_cons (Wr.pv 8) (Wr.pa_cons Wr.pe_L Wr.pa_nil))) Wr.pa_nil)) Wr.pe_bl (nomark _)) (Wr.pw_or1 (Wr.pt_cmpR op_isnot_bl (Wr.pe_cal Cis_machine (hr.mono (by decide)) rfl (Wr.pa_cons (Wr.pe_tup (Wr.pa_cons (Wr.pv 8) (Wr.pa_cons Wr.pe_L Wr.pa_nil))) Wr.pa_nil)) Wr.pe_bl (nomark _)))))
        (Wr.pss_one (Wr.ps_ret Wr.pe_bl))
        Wr.pss_nil)
      (Wr.pss_one (Wr.ps_ret (Wr.pe_cmpR op_is_bl (Wr.pe_cal Cis_machine (hr.mono (by decide)) rfl (Wr.pa_cons (Wr.pe_tup (Wr.pa_cons (Wr.pe_op op_cat2 (Wr.pe_op op_cat2 (Wr.pe_slice sl_tupA (Wr.pv 8) po_none (Wr.po_some Wr.pe_int)) Wr.pe_L) (Wr.pe_slice sl_tupA (Wr.pv 8) (Wr.po_some Wr.pe_int) po_none)) (Wr.pa_cons Wr.pe_L Wr.pa_nil))) Wr.pa_nil)) Wr.pe_bl (nomark _))))))))))⟩
end
end K47


namespace L2
open PySem PySem.Spec PyProof.Rows
theorem an_of {n : Nat} {H0 H : Hp} {x : V} {d : PyData} (y : IsY (New H0) H x d) (s : Sz n d) : An n H0 H x := ⟨d, y, s⟩
theorem IsAllY.take {S : Addr → Prop} {H : Hp} : ∀ {v : List V} {d : List PyData} (k : Nat), IsAllY S H v d → IsAllY S H (v.take k) (d.take k)
  | _, _, 0, _ => .nil
  | _, _, _ + 1, .nil => .nil
  | _, _, k + 1, .cons a t => .cons a (IsAllY.take k t)
theorem IsAllY.drop {S : Addr → Prop} {H : Hp} : ∀ {v : List V} {d : List PyData} (k : Nat), IsAllY S H v d → IsAllY S H (v.drop k) (d.drop k)
  | _, _, 0, h => h
  | _, _, _ + 1, .nil => .nil
  | _, _, k + 1, .cons _ t => IsAllY.drop k t
theorem bulk_take : ∀ (d : List PyData) (k : Nat), PyData.bulkAll (d.take k) ≤ PyData.bulkAll d
  | [], _ => by simp [PyData.bulkAll]
  | _ :: _, 0 => Nat.zero_le _
  | d :: r, k + 1 => by
    have := bulk_take r k
    rw [List.take_succ_cons]
    simp only [PyData.bulkAll]; omega
theorem bulk_drop : ∀ (d : List PyData) (k : Nat), PyData.bulkAll (d.drop k) ≤ PyData.bulkAll d
  | [], _ => by simp [PyData.bulkAll]
  | _ :: _, 0 => Nat.le_refl _
  | d :: r, k + 1 => by
    have := bulk_drop r k
    rw [List.drop_succ_cons]
    simp only [PyData.bulkAll]; omega
theorem bulk_app : ∀ (d e : List PyData), PyData.bulkAll (d ++ e) = PyData.bulkAll d + PyData.bulkAll e
  | [], e => by simp [PyData.bulkAll]
  | d :: r, e => by
    rw [List.cons_append]
    simp only [PyData.bulkAll, bulk_app r e]; omega
theorem IsAllY.cut {S : Addr → Prop} {H : Hp} {v : List V} {d : List PyData} (h : IsAllY S H v d) (lo hi : Option Int) : ∃ d', IsAllY S H (cutV v lo hi) d' ∧ PyData.bulkAll d' ≤ PyData.bulkAll d :=
  ⟨_, (h.drop _).take _, Nat.le_trans (bulk_take _ _) (bulk_drop _ _)⟩
theorem bulk_ints2 : ∀ ns : List Int, PyData.bulkAll (ns.map PyData.int) = ns.length
  | [] => rfl
  | n :: r => by simp only [List.map_cons, PyData.bulkAll, PyData.bulk, bulk_ints2 r, List.length_cons]; omega
theorem rows_isY {S : Addr → Prop} {H : Hp} : ∀ {zs : List Addr} {rows : List (List Int)}, RowsAt H zs rows → IsAllY S H (zs.map V.ref) (rows.map fun r => PyData.tuple (r.map PyData.int))
  | _, _, .nil => .nil
  | _, _, .cons h t => .cons (IsY.intT h) (rows_isY t)
theorem rows_bulk {m : Nat} : ∀ {rows : List (List Int)}, (∀ r ∈ rows, r.length ≤ m) → PyData.bulkAll (rows.map fun r => PyData.tuple (r.map PyData.int)) ≤ (m + 1) * rows.length
  | [], _ => Nat.zero_le _
  | r :: t, h => by
    have h1 := h r List.mem_cons_self
    have h2 := rows_bulk (rows := t) fun r hr => h r (List.mem_cons_of_mem _ hr)
    simp only [List.map_cons, PyData.bulkAll, PyData.bulk, bulk_ints2, List.length_cons, Nat.mul_add]
    omega
theorem Rws.keep {c : Nat} {H H' : Hp} {p z R E : Addr} {zs : List Addr} {rows : List (List Int)} {ends : List Int} (h : Rws H z R E zs rows ends) (hp : Pot3 H p c) (k : Keep p p H H') : Rws H' z R E zs rows ends := by
  obtain ⟨h1, h2, h3, h4, h5⟩ := h
  exact ⟨hp.keepT k h1, hp.keepT k h2, h3.sameT (hp.sameT k), hp.keepT k h4, h5⟩
theorem Rws.same {H H' : Hp} {z R E : Addr} {zs : List Addr} {rows : List (List Int)} {ends : List Int} (h : Rws H z R E zs rows ends) (s : Same H H') : Rws H' z R E zs rows ends := by
  obtain ⟨h1, h2, h3, h4, h5⟩ := h
  exact ⟨s _ _ h1, s _ _ h2, h3.same s, s _ _ h4, h5⟩
end L2
namespace K47
open PySem PySem.Spec PyProof.Rows L2
section
variable {P : Program} {w : World} {K : PySem.W.Frag} {mg : Str → Option Value} {base : Heap}
theorem ok__law_of {f : Addr} {fd : FuncData} (F : Fun K "_law_of" "_law_of" s__law_of f fd) (T : Top mg) (TX : TopX mg) (C_law_take : Cal P w K mg base 1 "_law_take" ["_law_urn_here", "_law_many"] spDraw) : FnOk P w K mg base CX0 2 f fd ["_law_urn_here", "_law_some"] spOfA := by
  refine F.ok sc__law_of (fun vs H Q E h => ?_) (fun cdv A outer s H vs Q E hr h => ?_)
  · obtain ⟨p, l, n, xs, rfl, _⟩ := h
    rfl
  · obtain ⟨p, l, n, xs, rfl, hp, hn, hl, hlp, n0, n1, k⟩ := h
    refine ⟨_, (ofT hr T TX C_law_take).2.h, ?_⟩
    refine ⟨_, rfl, _, rfl, _, rfl, l, _, rfl, .inl (SqL.of hl), ?_⟩
    refine ⟨p, _, n, rfl, by omega, by omega, hp, by omega, fun d H1 a1 b1 hp1 kp1 => ?_⟩
    obtain ⟨x, hx, ex⟩ := atI_any (xs := xs) a1 b1
    exact ⟨l, _, d, x, rfl, rfl, SqL.of (kp1 _ _ hl hlp hlp), ex, k x H1 (List.mem_of_getElem? hx) hp1 kp1⟩
set_option maxHeartbeats 4000000 in
theorem ok__law_odd {f : Addr} {fd : FuncData} (F : Fun K "_law_odd" "_law_odd" s__law_odd f fd) (T : Top mg) (TX : TopX mg) (C_law_take : Cal P w K mg base 1 "_law_take" ["_law_urn_here", "_law_many"] spDraw) : FnOk P w K mg base CX0 2 f fd ["_law_urn_here", "_law_number", "_law_many"] spOddM := by
  refine F.ok sc__law_odd (fun vs H Q E h => ?_) (fun cdv A outer s H vs Q E hr h => ?_)
  · obtain ⟨p, n, N, m, rfl, _⟩ := h
    rfl
  · obtain ⟨p, n, N, m, rfl, hp, hn, N0, N1, k⟩ := h
    refine ⟨_, (oddT hr T TX C_law_take).2.h, ?_⟩
    refine ⟨_, rfl, p, 12, n, rfl, by decide, by decide, hp, by omega, fun way H1 a1 b1 hp1 kp1 => ?_⟩
    refine ⟨_, rfl, _, _, rfl, rfl, _, rfl, _, _, rfl, rfl, _, rfl, _, rfl, _, rfl, _, rfl, shw_small N0 (by omega), _, rfl, by show 1 ≤ sizeLine; decide, fun t ht => ⟨_, rfl, by show 1 ≤ sizeLine; decide, fun l hl nl => ⟨_, _, rfl, rfl, ⟨by decide, by decide, by decide⟩, by show 12 ≤ sizeLine; decide, fun L hL => ?_⟩⟩⟩
    have s1 := same_upd (o := .tup [.int N]) ht
    have s2 := same_upd (o := .lst [.int N]) hl
    have s3 := same_upd (o := .lst [.int (N + 1), .int (N - 1), .int m, .int (-1), .bl true, .bl false, .non, .str (toString N), .ref t, .ref l, .int 0, .int (10 ^ Int.toNat 30)]) hL
    have lp : H l = none := new_back kp1 hp1 (s1.free hl)
    have y12 : IsAllY (New H) _ [.int (N + 1), .int (N - 1), .int m, .int (-1), .bl true, .bl false, .non, .str (toString N), .ref t, .ref l, .int 0, .int (10 ^ Int.toNat 30)] [.int (N + 1), .int (N - 1), .int m, .int (-1), .bool true, .bool false, .none, .str (toString N), .tuple [.int N], .list [.int N], .int 0, .int (10 ^ Int.toNat 30)] :=
      .cons (.int _) (.cons (.int _) (.cons (.int _) (.cons (.int _) (.cons (.bl _) (.cons (.bl _) (.cons .non (.cons (.str _) (.cons (.tup (s3 _ _ (s2 _ _ upd_same)) (.cons (.int _) .nil)) (.cons (.lst (s3 _ _ upd_same) lp (.cons (.int _) .nil)) (.cons (.int _) (.cons (.int _) .nil)))))))))))
    obtain ⟨x, e, ix, me, yx⟩ := y12.pick a1 (show way < 12 from b1)
    have sze : Sz 5 e := by
      simp only [List.mem_cons, List.not_mem_nil, or_false] at me
      rcases me with rfl | rfl | rfl | rfl | rfl | rfl | rfl | rfl | rfl | rfl | rfl | rfl
      · exact Nat.zero_le _
      · exact Nat.zero_le _
      · exact Nat.zero_le _
      · exact Nat.zero_le _
      · exact Nat.zero_le _
      · exact Nat.zero_le _
      · exact Nat.zero_le _
      · exact Nat.le_trans (okd_str (m := 3) (k := 0) N0 (by omega) (by decide)).2.2.1 (by decide)
      · show PyData.bulk (.tuple [.int N]) ≤ 5
        simp only [PyData.bulk, PyData.bulkAll]; omega
      · show PyData.bulk (.list [.int N]) ≤ 5
        simp only [PyData.bulk, PyData.bulkAll]; omega
      · exact Nat.zero_le _
      · exact Nat.zero_le _
    have R := s1.trans (s2.trans s3)
    exact ⟨_, rfl, _, rfl, L, _, way, x, rfl, rfl, SqL.of upd_same, ix, k x _ (an_of yx sze) (hp1.same R) (kp1.trans R.keep)⟩
set_option maxHeartbeats 4000000 in
theorem ok__law_row_changed {f : Addr} {fd : FuncData} (F : Fun K "_law_row_changed" "_law_row_changed" s__law_row_changed f fd) (T : Top mg) (TX : TopX mg) (C_law_take : Cal P w K mg base 1 "_law_take" ["_law_urn_here", "_law_many"] spDraw) (C_law_odd : Cal P w K mg base 2 "_law_odd" ["_law_urn_here", "_law_number", "_law_many"] spOddM) : FnOk P w K mg base CX0 3 f fd ["_law_urn_here", "_law_row", "_law_many"] spRowC := by
  refine F.ok sc__law_row_changed (fun vs H Q E h => ?_) (fun cdv A outer s H vs Q E hr h => ?_)
  · obtain ⟨p, a, n, ns, m, rfl, _⟩ := h
    rfl
  · obtain ⟨p, a, n, ns, m, rfl, hp, hn, ha, hns, hlen, k⟩ := h
    refine ⟨_, (rowT hr T TX C_law_take C_law_odd).2.h, ?_⟩
    have hap : a ≠ p := by
      obtain ⟨_, _, _, h1, _⟩ := hp
      exact ne_of ha h1 (by intro z; cases z)
    refine ⟨_, rfl, p, 7, n, rfl, by decide, by decide, hp, by omega, fun way H1 a1 b1 hp1 kp1 => ?_⟩
    have ha1 := kp1 _ _ ha hap hap
    refine ⟨_, rfl, _, rfl, a, _, rfl, .inr (SqT.of ha1), _, _, rfl, rfl, ?_⟩
    rw [mapI_len]
    refine ⟨p, _, _, rfl, by omega, by omega, hp1, by omega, fun at_ H2 a2 b2 hp2 kp2 => ?_⟩
    have ha2 := kp2 _ _ ha1 hap hap
    have K2 := kp1.trans kp2
    have sz : ∀ {n : Nat}, n ≤ 1000 → n ≤ sizeLine := fun h => by rw [sizeLine_eq]; omega
    obtain ⟨us, e1, h1, h1l⟩ := cut_ints none (some at_) (fun d => 0 ≤ d ∧ d < 190) hns
    obtain ⟨ws, e2, h2, h2l⟩ := cut_ints (some (at_ + 1)) none (fun d => 0 ≤ d ∧ d < 190) hns
    obtain ⟨xs, e3, h3, h3l⟩ := cut_ints (some at_) none (fun d => 0 ≤ d ∧ d < 190) hns
    obtain ⟨ys, e4, h4, h4l⟩ := cut_ints (some at_) (some (at_ + 1)) (fun d => 0 ≤ d ∧ d < 190) hns
    obtain ⟨qs, e5, h5, h5l⟩ := cut_ints (some at_) (some (at_ + 2)) (fun d => 0 ≤ d ∧ d < 190) hns
    obtain ⟨rs, e6, h6, h6l⟩ := cut_ints (some (at_ + 2)) none (fun d => 0 ≤ d ∧ d < 190) hns
    have app : ∀ {xs ys : List Int}, xs.map V.int ++ ys.map V.int = (xs ++ ys).map V.int := (List.map_append ..).symm
    have fin : ∀ (z : Addr) (us : List Int) (G' : Hp), G' z = some (.tup (us.map V.int)) → us.length ≤ 200 → Same H2 G' → Q (.ref z) G' := fun z us G' hz hl sm =>
      k _ G' (an_of (IsY.intT hz) (by show PyData.bulk (.tuple (us.map PyData.int)) ≤ 250; simp only [PyData.bulk, bulk_ints2]; omega)) ((hp2.same sm).more (by omega)) (K2.trans sm.keep)
    refine ⟨_, rfl, _, _, rfl, rfl, _, rfl, ite2 (fun hw => ?_) (fun hw => ?_)⟩
    · refine ⟨_, rfl, _, rfl, a, _, rfl, .inr (SqT.of ha2), _, _, rfl, rfl, _, rfl, ?_⟩
      rw [mapI_len]
      refine ite2 (fun hlt => ?_) (fun hlt => ?_)
      · have hlt : at_ < (ns.length : Int) := of_decide_eq_true hlt
        obtain ⟨N, hN, eN⟩ := at_list (ns := ns) (d := at_) a2 hlt
        have N0 := (hns N hN).1
        have N1 := (hns N hN).2
        refine ⟨_, rfl, _, rfl, a, _, _, .int N, rfl, rfl, SqT.of ha2, eN, ?_⟩
        refine ⟨_, rfl, _, rfl, _, rfl, a, _, rfl, ha2, fun z1 G1 r1 hz1 => ?_⟩
        rw [e1] at hz1
        refine ⟨_, rfl, _, rfl, _, rfl, p, _, N, m, rfl, hp2.same r1, by omega, N0, N1, fun x G2 hx hp3 kp3 => ?_⟩
        obtain ⟨e, ye', se⟩ := hx
        have ye : IsY (New H) G2 x e := ye'.wide fun b hb => new_back K2 hp2 (r1.free hb)
        refine ⟨by show 1 ≤ sizeLine; decide, fun z2 hz2 => ?_⟩
        have r2 := same_upd (o := .tup [x]) hz2
        have hz1' := (hp2.same r1).keepT kp3 hz1
        have ha3 := (hp2.same r1).keepT kp3 (r1 _ _ ha2)
        refine ⟨z1, z2, _, _, rfl, rfl, r2 _ _ hz1', upd_same, sz (by rw [mapI_len]; show us.length + 1 ≤ _; omega), fun z3 G3 r3 hz3 => ?_⟩
        refine ⟨_, rfl, _, rfl, _, _, rfl, rfl, _, rfl, a, _, rfl, r3 _ _ (r2 _ _ ha3), fun z4 G4 r4 hz4 => ?_⟩
        rw [e2] at hz4
        refine ⟨z3, z4, _, _, rfl, rfl, r4 _ _ hz3, hz4, sz (by rw [List.length_append, mapI_len, mapI_len]; show us.length + 1 + ws.length ≤ _; omega), fun z5 G5 r5 hz5 => ?_⟩
        have R := r2.trans (r3.trans (r4.trans r5))
        refine k _ G5 (an_of (mid_isY hz5 (ye.same R)) ?_) ((hp3.same R).more (by omega)) ((K2.trans r1.keep).trans (kp3.trans R.keep))
        show PyData.bulk (.tuple _) ≤ 250
        have : e.bulk ≤ 5 := se
        simp only [PyData.bulk, bulk_app, bulk_ints2, PyData.bulkAll]
        omega
      · have N0 : (0 : Int) ≤ 0 := by decide
        have N1 : (0 : Int) < 190 := by decide
        refine ⟨_, rfl, _, rfl, _, rfl, a, _, rfl, ha2, fun z1 G1 r1 hz1 => ?_⟩
        rw [e1] at hz1
        refine ⟨_, rfl, _, rfl, _, rfl, p, _, 0, m, rfl, hp2.same r1, by omega, N0, N1, fun x G2 hx hp3 kp3 => ?_⟩
        obtain ⟨e, ye', se⟩ := hx
        have ye : IsY (New H) G2 x e := ye'.wide fun b hb => new_back K2 hp2 (r1.free hb)
        refine ⟨by show 1 ≤ sizeLine; decide, fun z2 hz2 => ?_⟩
        have r2 := same_upd (o := .tup [x]) hz2
        have hz1' := (hp2.same r1).keepT kp3 hz1
        have ha3 := (hp2.same r1).keepT kp3 (r1 _ _ ha2)
        refine ⟨z1, z2, _, _, rfl, rfl, r2 _ _ hz1', upd_same, sz (by rw [mapI_len]; show us.length + 1 ≤ _; omega), fun z3 G3 r3 hz3 => ?_⟩
        refine ⟨_, rfl, _, rfl, _, _, rfl, rfl, _, rfl, a, _, rfl, r3 _ _ (r2 _ _ ha3), fun z4 G4 r4 hz4 => ?_⟩
        rw [e2] at hz4
        refine ⟨z3, z4, _, _, rfl, rfl, r4 _ _ hz3, hz4, sz (by rw [List.length_append, mapI_len, mapI_len]; show us.length + 1 + ws.length ≤ _; omega), fun z5 G5 r5 hz5 => ?_⟩
        have R := r2.trans (r3.trans (r4.trans r5))
        refine k _ G5 (an_of (mid_isY hz5 (ye.same R)) ?_) ((hp3.same R).more (by omega)) ((K2.trans r1.keep).trans (kp3.trans R.keep))
        show PyData.bulk (.tuple _) ≤ 250
        have : e.bulk ≤ 5 := se
        simp only [PyData.bulk, bulk_app, bulk_ints2, PyData.bulkAll]
        omega
    have hw : ¬way < 3 := fun z => hw (decide_eq_true z)
    refine ⟨_, rfl, rfl, _, rfl, ite2 (fun h3' => ?_) (fun h3' => ?_)⟩
    · refine ⟨_, rfl, _, rfl, _, rfl, a, _, rfl, ha2, fun z1 G1 r1 hz1 => ?_⟩
      refine ⟨_, rfl, _, rfl, _, _, rfl, rfl, _, rfl, a, _, rfl, r1 _ _ ha2, fun z2 G2 r2 hz2 => ?_⟩
      rw [e1] at hz1
      rw [e2] at hz2
      refine ⟨z1, z2, _, _, rfl, rfl, r2 _ _ hz1, hz2, sz (by rw [mapI_len, mapI_len]; omega), fun z3 G3 r3 hz3 => ?_⟩
      rw [app] at hz3
      exact fin z3 _ G3 hz3 (by rw [List.length_append]; omega) (r1.trans (r2.trans r3))
    refine ⟨_, rfl, rfl, _, rfl, ite2 (fun h4' => ?_) (fun h4' => ?_)⟩
    · refine ⟨_, rfl, _, rfl, _, rfl, a, _, rfl, ha2, fun z1 G1 r1 hz1 => ?_⟩
      refine ⟨_, rfl, _, rfl, _, rfl, _, rfl, _, _, rfl, rfl, _, rfl, a, _, rfl, r1 _ _ ha2, fun z2 G2 r2 hz2 => ?_⟩
      rw [e1] at hz1
      rw [e4] at hz2
      refine ⟨z1, z2, _, _, rfl, rfl, r2 _ _ hz1, hz2, sz (by rw [mapI_len, mapI_len]; omega), fun z3 G3 r3 hz3 => ?_⟩
      rw [app] at hz3
      refine ⟨_, rfl, _, rfl, _, rfl, a, _, rfl, r3 _ _ (r2 _ _ (r1 _ _ ha2)), fun z4 G4 r4 hz4 => ?_⟩
      rw [e3] at hz4
      refine ⟨z3, z4, _, _, rfl, rfl, r4 _ _ hz3, hz4, sz (by rw [mapI_len, mapI_len, List.length_append]; omega), fun z5 G5 r5 hz5 => ?_⟩
      rw [app] at hz5
      exact fin z5 _ G5 hz5 (by rw [List.length_append, List.length_append]; omega) (r1.trans (r2.trans (r3.trans (r4.trans r5))))
    refine ⟨_, rfl, rfl, _, rfl, ite2 (fun h5' => ?_) (fun h5' => ?_)⟩
    · refine ⟨_, rfl, _, rfl, _, rfl, _, rfl, _, _, rfl, rfl, _, rfl, a, _, rfl, ha2, fun z0 G0 r0 hz0 => ?_⟩
      rw [e5] at hz0
      refine ⟨_, rfl, _, rfl, _, rfl, a, _, rfl, r0 _ _ ha2, fun z1 G1 r1 hz1 => ?_⟩
      rw [e1] at hz1
      refine ⟨_, rfl, z0, _, rfl, SqT.of (r1 _ _ hz0), fun z2 hz2 => ?_⟩
      have r2 := same_upd (o := .tup (qs.map V.int).reverse) hz2
      have hz2' : upd G1 z2 (.tup (qs.map V.int).reverse) z2 = some (.tup (qs.reverse.map V.int)) := by rw [upd_same, List.map_reverse]
      refine ⟨z1, z2, _, _, rfl, rfl, r2 _ _ hz1, hz2', sz (by rw [mapI_len, mapI_len, List.length_reverse]; omega), fun z3 G3 r3 hz3 => ?_⟩
      rw [app] at hz3
      refine ⟨_, rfl, _, rfl, _, _, rfl, rfl, _, rfl, a, _, rfl, r3 _ _ (r2 _ _ (r1 _ _ (r0 _ _ ha2))), fun z4 G4 r4 hz4 => ?_⟩
      rw [e6] at hz4
      refine ⟨z3, z4, _, _, rfl, rfl, r4 _ _ hz3, hz4, sz (by rw [mapI_len, mapI_len, List.length_append, List.length_reverse]; omega), fun z5 G5 r5 hz5 => ?_⟩
      rw [app] at hz5
      exact fin z5 _ G5 hz5 (by rw [List.length_append, List.length_append, List.length_reverse]; omega) (r0.trans (r1.trans (r2.trans (r3.trans (r4.trans r5)))))
    · refine ⟨_, rfl, a, _, rfl, .inr (SqT.of ha2), fun l hl => ?_⟩
      have r1 := same_upd (o := .lst (ns.map V.int)) hl
      refine k _ _ (an_of (.lst upd_same (new_back K2 hp2 hl) (IsAllY.ints ns)) ?_) ((hp2.same r1).more (by omega)) (K2.trans r1.keep)
      show PyData.bulk (.list _) ≤ 250
      simp only [PyData.bulk, bulk_ints2]; omega
end
end K47


namespace K47
open PySem PySem.Spec PyProof.Rows L2
section
variable {P : Program} {w : World} {K : PySem.W.Frag} {mg : Str → Option Value} {base : Heap}
set_option maxHeartbeats 4000000 in
theorem ok__law_changed {f : Addr} {fd : FuncData} (F : Fun K "_law_changed" "_law_changed" s__law_changed f fd) (T : Top mg) (TX : TopX mg) (C_law_take : Cal P w K mg base 1 "_law_take" ["_law_urn_here", "_law_many"] spDraw) (C_law_of : Cal P w K mg base 2 "_law_of" ["_law_urn_here", "_law_some"] spOfA) (C_law_row_changed : Cal P w K mg base 3 "_law_row_changed" ["_law_urn_here", "_law_row", "_law_many"] spRowC) : FnOk P w K mg base CX0 4 f fd ["_law_urn_here", "_law_machine_here"] spChg := by
  refine F.ok sc__law_changed (fun vs H Q E h => ?_) (fun cdv A outer s H vs Q E hr h => ?_)
  · obtain ⟨p, z, R, E', n, zs, rows, ends, rfl, _⟩ := h
    rfl
  · obtain ⟨p, z, R, E', n, zs, rows, ends, rfl, hp, hn, hM, k⟩ := h
    refine ⟨_, (chT hr T TX C_law_take C_law_of C_law_row_changed).2.h, ?_⟩
    have sz : ∀ {n : Nat}, n ≤ 1000 → n ≤ sizeLine := fun h => by rw [sizeLine_eq]; omega
    refine ⟨_, rfl, z, _, rfl, SqT.of hM.1, rfl, _, _, rfl, _, _, rfl, rfl, ?_⟩
    refine ⟨_, rfl, p, 9, n, rfl, by decide, by decide, hp, by omega, fun way H1 a1 b1 hp1 kp1 => ?_⟩
    have hM1 := hM.keep hp kp1
    have zl : zs.length = rows.length := Paired.length hM.2.2.1
    have R0 := hM.2.2.2.2.1
    have R1 := hM.2.2.2.2.2.1
    refine ⟨_, rfl, _, rfl, R, _, rfl, .inr (SqT.of hM1.2.1), ?_⟩
    rw [mapR_len, zl]
    refine ⟨p, _, _, rfl, by omega, by omega, hp1, by omega, fun at_ H2 a2 b2 hp2 kp2 => ?_⟩
    have hM2 := hM1.keep hp1 kp2
    have K2 := kp1.trans kp2
    have hR := hM2.2.1
    have hE := hM2.2.2.2.1
    have hrw := hM2.2.2.2.2.2.2.1
    have hen := hM2.2.2.2.2.2.2.2
    have yR : ∀ {G : Hp}, Same H2 G → IsAllY (New H) G (zs.map V.ref) (rows.map fun r => PyData.tuple (r.map PyData.int)) := fun sm => rows_isY (hM2.2.2.1.same sm)
    have bR : PyData.bulkAll (rows.map fun r => PyData.tuple (r.map PyData.int)) ≤ 200 := by
      have := rows_bulk (m := 4) fun r hr => Nat.le_of_eq (hrw r hr).1
      omega
    have bE : PyData.bulk (.tuple (ends.map PyData.int)) ≤ 40 := by
      simp only [PyData.bulk, bulk_ints2]
      exact hen.1
    have lcut : ∀ lo hi, (cutV (zs.map V.ref) lo hi).length ≤ 40 := fun lo hi => by
      have := cutV_length (zs.map V.ref) lo hi
      rw [mapR_len] at this
      omega
    -- a pair of a thing and the ends
    have pair : ∀ {G G' : Hp} {x : V} {d : PyData} {t : Addr} {b : Nat}, Same H2 G → IsY (New H) G x d → d.bulk ≤ b → b ≤ 800 → G t = none → G' = upd G t (.tup [x, .ref E']) → Pot3 G p (n + 20) → Keep p p H G → Q (.ref t) G' := fun {G G' x d t b} sm y hb hb2 ht eG hpG kG => by
      subst eG
      have r1 := same_upd (o := .tup [x, .ref E']) ht
      refine k _ _ (an_of (.tup upd_same (.cons (y.same r1) (.cons (IsY.intT (r1 _ _ (sm _ _ hE))) .nil))) ?_) (hpG.same r1) (kG.trans r1.keep)
      show PyData.bulk (.tuple _) ≤ 900
      simp only [PyData.bulk, PyData.bulkAll] at bE ⊢
      omega
    refine ⟨_, rfl, _, _, rfl, rfl, _, rfl, ite2 (fun hw => ?_) (fun hw => ?_)⟩
    · refine ⟨_, rfl, _, rfl, _, rfl, R, _, rfl, hR, fun z1 G1 r1 hz1 => ?_⟩
      obtain ⟨d1, y1, l1⟩ := (yR r1).cut none (some at_)
      obtain ⟨zr, ezr, hzr⟩ : ∃ zr, atI (zs.map V.ref) at_ = some (.ref zr) ∧ ∃ r ∈ rows, G1 zr = some (.tup (r.map V.int)) := by
        obtain ⟨x, hx, ex⟩ := atI_any (xs := zs.map V.ref) a2 (by rw [mapR_len]; omega)
        rw [List.getElem?_map] at hx
        cases hz : zs[at_.toNat]? with
        | none => rw [hz] at hx; cases hx
        | some zr =>
          rw [hz] at hx
          cases hx
          obtain ⟨r, hr1, hr2⟩ := RowsAt.get (hM2.2.2.1.same r1) hz
          exact ⟨zr, ex, r, List.mem_of_getElem? hr1, hr2⟩
      obtain ⟨r, hr', hzr⟩ := hzr
      refine ⟨_, rfl, _, rfl, _, rfl, R, _, _, .ref zr, rfl, rfl, SqT.of (r1 _ _ hR), ezr, _, rfl, R, _, rfl, .inr (SqT.of (r1 _ _ hR)), ?_⟩
      refine ⟨p, zr, _, r, _, rfl, hp2.same r1, by omega, hzr, (hrw r hr').2, by have := (hrw r hr').1; omega, fun x G2 hx hp3 kp3 => ?_⟩
      obtain ⟨e, ye', se⟩ := hx
      have hpr1 := hp2.same r1
      have ye : IsY (New H) G2 x e := ye'.wide fun b hb => new_back K2 hp2 (r1.free hb)
      refine ⟨by show 1 ≤ sizeLine; decide, fun z2 hz2 => ?_⟩
      have r2 := same_upd (o := .tup [x]) hz2
      have hz1' := hpr1.keepT kp3 hz1
      have y1' : IsAllY (New H) G2 _ d1 := IsAllY.map (fun _ z => z) (fun a xs e => hpr1.keepT kp3 e) (fun a xs sa e => kp3 _ _ e (hp.old sa) (hp.old sa)) (fun a xs e => by
        obtain ⟨o, m, t, g1, _⟩ := hpr1
        have : a ≠ p := ne_of e g1 (by intro z; cases z)
        exact kp3 _ _ e this this) y1
      refine ⟨z1, z2, _, _, rfl, rfl, r2 _ _ hz1', upd_same, sz (by have := lcut none (some at_); show _ + 1 ≤ _; omega), fun z3 G3 r3 hz3 => ?_⟩
      have hM3 := (hM2.same r1).keep hpr1 kp3
      refine ⟨_, rfl, _, rfl, _, _, rfl, rfl, _, rfl, R, _, rfl, r3 _ _ (r2 _ _ hM3.2.1), fun z4 G4 r4 hz4 => ?_⟩
      obtain ⟨d2, y2, l2⟩ := (rows_isY (S := New H) (hM3.2.2.1.same (r2.trans (r3.trans r4)))).cut (some (at_ + 1)) none
      refine ⟨z3, z4, _, _, rfl, rfl, r4 _ _ hz3, hz4, sz (by rw [List.length_append]; have := lcut none (some at_); have := lcut (some (at_ + 1)) none; show _ + 1 + _ ≤ _; omega), fun z5 G5 r5 hz5 => ?_⟩
      have RR := r2.trans (r3.trans (r4.trans r5))
      have y5 : IsY (New H) G5 (.ref z5) (.tuple (d1 ++ [e] ++ d2)) := .tup hz5 (((y1'.same RR).append (.cons (ye.same RR) .nil)).append (y2.same r5))
      refine ⟨_, rfl, by show 2 ≤ sizeLine; decide, fun t ht => ?_⟩
      have r6 := same_upd (o := .tup [.ref z5, .ref E']) ht
      refine k _ _ (an_of (.tup upd_same (.cons (y5.same r6) (.cons (IsY.intT (r6 _ _ (RR _ _ hM3.2.2.2.1))) .nil))) ?_) (((hp3.same RR).same r6).more (by omega)) (((K2.trans r1.keep).trans (kp3.trans RR.keep)).trans r6.keep)
      show PyData.bulk (.tuple _) ≤ 900
      have : e.bulk ≤ 250 := se
      simp only [PyData.bulk, PyData.bulkAll, bulk_app] at bE ⊢
      omega
    have hw : ¬way < 3 := fun z => hw (decide_eq_true z)
    refine ⟨_, rfl, _, _, rfl, rfl, _, rfl, ite2 (fun hw6 => ?_) (fun hw6 => ?_)⟩
    · refine ⟨_, rfl, _, rfl, _, rfl, _, rfl, R, _, rfl, .inr (SqT.of hR), ?_⟩
      refine ⟨p, E', _, ends, _, rfl, hp2, by omega, hE, hen.2, by have := hen.1; omega, fun x G2 hx hp3 kp3 => ?_⟩
      obtain ⟨e, ye', se⟩ := hx
      have hM3 := hM2.keep hp2 kp3
      have ye : IsY (New H) G2 x e := ye'.wide fun b hb => new_back K2 hp2 hb
      refine ⟨by show 2 ≤ sizeLine; decide, fun t ht => ?_⟩
      have r6 := same_upd (o := .tup [.ref R, x]) ht
      refine k _ _ (an_of (.tup upd_same (.cons (.tup (r6 _ _ hM3.2.1) (rows_isY (hM3.2.2.1.same r6))) (.cons (ye.same r6) .nil))) ?_) ((hp3.same r6).more (by omega)) ((K2.trans kp3).trans r6.keep)
      show PyData.bulk (.tuple _) ≤ 900
      have : e.bulk ≤ 250 := se
      simp only [PyData.bulk, PyData.bulkAll] at bR ⊢
      omega
    have hw6 : ¬way < 6 := fun z => hw6 (decide_eq_true z)
    refine ⟨_, rfl, rfl, _, rfl, ite2 (fun h6 => ?_) (fun h6 => ?_)⟩
    · refine ⟨_, rfl, _, rfl, _, rfl, R, _, rfl, hR, fun z1 G1 r1 hz1 => ?_⟩
      obtain ⟨d1, y1, l1⟩ := (yR r1).cut none (some at_)
      refine ⟨_, rfl, _, rfl, _, _, rfl, rfl, _, rfl, R, _, rfl, r1 _ _ hR, fun z2 G2 r2 hz2 => ?_⟩
      obtain ⟨d2, y2, l2⟩ := (yR (r1.trans r2)).cut (some (at_ + 1)) none
      refine ⟨z1, z2, _, _, rfl, rfl, r2 _ _ hz1, hz2, sz (by have := lcut none (some at_); have := lcut (some (at_ + 1)) none; omega), fun z3 G3 r3 hz3 => ?_⟩
      have RR := r1.trans (r2.trans r3)
      refine ⟨_, rfl, by show 2 ≤ sizeLine; decide, fun t ht => ?_⟩
      exact pair (b := 400) RR (.tup hz3 ((y1.same (r2.trans r3)).append (y2.same r3))) (by simp only [PyData.bulk, bulk_app]; omega) (by decide) ht rfl ((hp2.same RR).more (by omega)) (K2.trans RR.keep)
    refine ⟨_, rfl, rfl, _, rfl, ite2 (fun h7 => ?_) (fun h7 => ?_)⟩
    · refine ⟨_, rfl, _, rfl, _, rfl, _, rfl, _, rfl, _, _, rfl, rfl, _, rfl, R, _, rfl, hR, fun z1 G1 r1 hz1 => ?_⟩
      obtain ⟨d1, y1, l1⟩ := (yR r1).cut (some at_) (some (at_ + 1))
      refine ⟨R, z1, _, _, rfl, rfl, r1 _ _ hR, hz1, sz (by have := lcut (some at_) (some (at_ + 1)); rw [mapR_len]; omega), fun z3 G3 r3 hz3 => ?_⟩
      have RR := r1.trans r3
      refine ⟨_, rfl, by show 2 ≤ sizeLine; decide, fun t ht => ?_⟩
      exact pair (b := 400) RR (.tup hz3 ((yR RR).append (y1.same r3))) (by simp only [PyData.bulk, bulk_app]; omega) (by decide) ht rfl ((hp2.same RR).more (by omega)) (K2.trans RR.keep)
    refine ⟨_, rfl, z, _, rfl, .inr (SqT.of hM2.1), fun l1 hl1 => ?_⟩
    refine ⟨_, rfl, by show 1 ≤ sizeLine; decide, fun t2 ht2 => ?_⟩
    refine ⟨_, rfl, _, rfl, by show 0 ≤ sizeLine; decide, fun t3 ht3 => ⟨by show 3 ≤ sizeLine; decide, fun t4 ht4 => ?_⟩⟩
    refine ⟨_, rfl, _, rfl, by show 2 ≤ sizeLine; decide, fun t5 ht5 => ?_⟩
    have s1 := same_upd (o := .lst [.ref R, .ref E']) hl1
    have s2 := same_upd (o := .tup [.ref R]) ht2
    have s3 := same_upd (o := .tup []) ht3
    have s4 := same_upd (o := .tup [.ref R, .ref E', .ref t3]) ht4
    have s5 := same_upd (o := .tup [.ref E', .ref R]) ht5
    have S5 := s1.trans (s2.trans (s3.trans (s4.trans s5)))
    refine ⟨_, rfl, R, _, rfl, .inr (SqT.of (S5 _ _ hR)), fun l6 hl6 => ⟨_, rfl, by show 2 ≤ sizeLine; decide, fun t7 ht7 => ?_⟩⟩
    have s6 := same_upd (o := .lst (zs.map V.ref)) hl6
    have s7 := same_upd (o := .tup [.ref l6, .ref E']) ht7
    refine ⟨_, rfl, fun x8 G8 s8 y8 x9 G9 s9 y9 => ⟨by show 8 ≤ sizeLine; decide, fun L hL => ?_⟩⟩
    have s10 := same_upd (o := .lst [.ref l1, .ref t2, .ref t4, .ref t5, .ref t7, .ref R, x8, x9]) hL
    have RR := S5.trans (s6.trans (s7.trans (s8.trans (s9.trans s10))))
    have l1p : H l1 = none := new_back K2 hp2 hl1
    have l6p : H l6 = none := new_back K2 hp2 (S5.free hl6)
    have hLp := (hp2.same (S5.trans (s6.trans (s7.trans (s8.trans s9))))).ne_new hL
    have yRR := yR RR
    have yE : IsY (New H) (upd G9 L (.lst [.ref l1, .ref t2, .ref t4, .ref t5, .ref t7, .ref R, x8, x9])) (.ref E') (.tuple (ends.map PyData.int)) := IsY.intT (RR _ _ hE)
    have yRt : IsY (New H) (upd G9 L (.lst [.ref l1, .ref t2, .ref t4, .ref t5, .ref t7, .ref R, x8, x9])) (.ref R) (.tuple (rows.map fun r => PyData.tuple (r.map PyData.int))) := .tup (RR _ _ hR) yRR
    have tl := s8.trans (s9.trans s10)
    have fr : ∀ {G : Hp}, Same H2 G → ∀ b, Fr G b → New H b := fun sm b hb => new_back K2 hp2 (sm.free hb.1)
    have all8 : ∀ x ∈ ([.ref l1, .ref t2, .ref t4, .ref t5, .ref t7, .ref R, x8, x9] : List V), An 900 H (upd G9 L (.lst [.ref l1, .ref t2, .ref t4, .ref t5, .ref t7, .ref R, x8, x9])) x := by
      intro x hx
      simp only [List.mem_cons, List.not_mem_nil, or_false] at hx
      have big : PyData.bulk (.tuple (rows.map fun r => PyData.tuple (r.map PyData.int))) ≤ 200 := by simpa only [PyData.bulk] using bR
      rcases hx with rfl | rfl | rfl | rfl | rfl | rfl | rfl | rfl
      · refine an_of (.lst ((s2.trans (s3.trans (s4.trans (s5.trans (s6.trans (s7.trans tl)))))) _ _ upd_same) l1p (.cons yRt (.cons yE .nil))) ?_
        show PyData.bulk (.list _) ≤ 900
        simp only [PyData.bulk, PyData.bulkAll] at big bE ⊢
        omega
      · refine an_of (.tup ((s3.trans (s4.trans (s5.trans (s6.trans (s7.trans tl))))) _ _ upd_same) (.cons yRt .nil)) ?_
        show PyData.bulk (.tuple _) ≤ 900
        simp only [PyData.bulk, PyData.bulkAll] at big ⊢
        omega
      · refine an_of (.tup ((s5.trans (s6.trans (s7.trans tl))) _ _ upd_same) (.cons yRt (.cons yE (.cons (.tup ((s4.trans (s5.trans (s6.trans (s7.trans tl)))) _ _ upd_same) .nil) .nil)))) ?_
        show PyData.bulk (.tuple _) ≤ 900
        simp only [PyData.bulk, PyData.bulkAll] at big bE ⊢
        omega
      · refine an_of (.tup ((s6.trans (s7.trans tl)) _ _ upd_same) (.cons yE (.cons yRt .nil))) ?_
        show PyData.bulk (.tuple _) ≤ 900
        simp only [PyData.bulk, PyData.bulkAll] at big bE ⊢
        omega
      · refine an_of (.tup (tl _ _ upd_same) (.cons (.lst ((s7.trans tl) _ _ upd_same) l6p yRR) (.cons yE .nil))) ?_
        show PyData.bulk (.tuple _) ≤ 900
        simp only [PyData.bulk, PyData.bulkAll] at bR bE ⊢
        omega
      · exact an_of yRt (Nat.le_trans big (by decide))
      · exact an_of ((y8.wide (fr (S5.trans (s6.trans s7)))).same (s9.trans s10)) (by show PyData.bulk (.tuple [.tuple [], .tuple []]) ≤ 900; decide)
      · exact an_of ((y9.wide (fr (S5.trans (s6.trans (s7.trans s8))))).same s10) (by show PyData.bulk (.tuple [.tuple [], .tuple [.int 0]]) ≤ 900; decide)
    refine ⟨_, rfl, _, rfl, p, L, _, _, rfl, hp2.same RR, by omega, upd_same, hLp, by show 0 < 8; decide, by show 8 < 1000; decide, fun x G hx hpG kG => ?_⟩
    exact k x G ((all8 x hx).keep hp (hp2.same RR) kG) (hpG.more (by omega)) ((K2.trans RR.keep).trans kG)
end
end K47


namespace L2
open PySem PySem.Spec PyProof.Rows
mutual
theorem IsY.liv {S : Addr → Prop} {H : Hp} : ∀ {v : V} {d : PyData}, IsY S H v d → IsY (fun a => S a ∧ H a ≠ none) H v d
  | _, _, .non => .non
  | _, _, .bl b => .bl b
  | _, _, .int i => .int i
  | _, _, .str x => .str x
  | _, _, .tup e al => .tup e (IsAllY.liv al)
  | _, _, .lst e s al => .lst e ⟨s, fun z => by rw [e] at z; cases z⟩ (IsAllY.liv al)
  | _, _, .d0 e => .d0 e
  | _, _, .d1 e al => .d1 e (IsY.liv al)
theorem IsAllY.liv {S : Addr → Prop} {H : Hp} : ∀ {v : List V} {d : List PyData}, IsAllY S H v d → IsAllY (fun a => S a ∧ H a ≠ none) H v d
  | _, _, .nil => .nil
  | _, _, .cons h t => .cons (IsY.liv h) (IsAllY.liv t)
end
theorem isY_acc {acc : Addr} {H1 G : Hp} {zs ws o : List V} {d : PyData} {v : V} (ha : G acc = some (.lst ws)) (h : IsY (New (upd H1 acc (.lst zs))) G v d) : IsY (New (upd H1 acc (.lst zs))) (upd G acc (.lst o)) v d :=
  IsY.map (fun _ z => z) (fun a xs e => by
      have : a ≠ acc := ne_of e ha (by intro z; cases z)
      rw [upd_ne this]; exact e) (fun a xs s e => by
      have : a ≠ acc := fun z => by
        rw [z] at s
        have s' : upd H1 acc (.lst zs) acc = none := s
        rw [upd_same] at s'
        cases s'
      rw [upd_ne this]; exact e) (fun a xs e => by
      have : a ≠ acc := ne_of e ha (by intro z; cases z)
      rw [upd_ne this]; exact e) h
theorem lc_drawA {J : It} {Ok : Hp → Prop} {xs : List V} {te : TE} {ix : List Nat} {σ : L2.St} {H1 : Hp} {Q : VK} (Y : Yields J Ok xs) (small : xs.length < sizeLine) {p : Addr} {c k m : Nat} (h0 : Pot3 H1 p c) (hok : ∀ H, Keep p p H1 H → Ok H)
    (he : ∀ (i : Nat) (x : V) (H : Hp), xs[i]? = some x → Keep p p H1 H → Pot3 H p (c + k * i) → ∀ (QT : VK), (∀ (d : V) H', Keep p p H H' → Pot3 H' p (c + k * (i + 1)) → An m H H' d → QT d H') → te (some x :: ix.map fun i => σ.getD i none) H QT)
    (fin : ∀ acc (ds : List V) H', H1 acc = none → acc ≠ p → Keep p p H1 H' → Pot3 H' p (c + k * xs.length) → H' acc = some (.lst ds) → ds.length = xs.length → (∀ d ∈ ds, An m H1 H' d) → Q (.ref acc) H') :
    LcW J H1 (gName 0) tNoTest te 1 ix σ Q := by
  intro acc ha
  have hap := h0.ne_new ha
  have hu0 : Pot3 (upd H1 acc (.lst [])) p c := h0.same (same_upd ha)
  refine ⟨fun i m' H => m' = xs.length - i ∧ i ≤ xs.length ∧ Keep p p H1 H ∧ Pot3 H p (c + k * i) ∧ ∃ ds : List V, H acc = some (.lst ds) ∧ ds.length = i ∧ ∀ d ∈ ds, An m (upd H1 acc (.lst [])) H d, ⟨xs.length, by simp, Nat.zero_le _, (same_upd ha).keep, hu0, [], upd_same, rfl, fun _ h => by cases h⟩, ?_⟩
  rintro i m' H ⟨rfl, hi, kp, hpot, ds, hacc, hl, hD⟩
  have o := hok _ kp
  by_cases hlt : i < xs.length
  · refine .inr ⟨Y.go i _ o hlt, fun x H' y => ?_⟩
    obtain ⟨rfl, hx⟩ := Y.yld i _ x H' o hlt y
    refine ⟨⟨rfl, fun j v e => ?_⟩, ?_⟩
    · cases j with
      | zero => cases e
      | succ j => exact e
    · unfold tNoTest
      dsimp only
      rw [if_pos rfl]
      refine he i x H' hx kp hpot _ (fun d H4 k4 p4 hd => ?_)
      have h4 := k4 _ _ hacc hap hap
      refine ⟨_, h4, by omega, xs.length - (i + 1), by omega, rfl, hlt, fun b o' hb h1 h2 => ?_, ?_, ds ++ [d], by rw [upd_same], by simp; omega, fun d' hd' => ?_⟩
      · have hba : b ≠ acc := fun e => by rw [e, ha] at hb; cases hb
        rw [upd_ne hba]
        exact k4 b _ (kp b _ hb h1 h2) h1 h2
      · obtain ⟨o1, s1, t1, g1, g2⟩ := p4
        exact ⟨o1, s1, t1, by rw [upd_ne (Ne.symm hap)]; exact g1, g2⟩
      · rcases List.mem_append.mp hd' with h | h
        · obtain ⟨e, ye, se⟩ := (hD d' h).keep hu0 hpot k4
          exact ⟨e, isY_acc h4 ye, se⟩
        · rw [List.mem_singleton.mp h]
          obtain ⟨e, ye, se⟩ := hd
          refine ⟨e, isY_acc h4 (ye.wide fun b hb => ?_), se⟩
          have hba : b ≠ acc := fun z => by
            rw [z] at hb
            have hb' : H' acc = none := hb
            rw [hacc] at hb'
            cases hb'
          show upd H1 acc _ b = none
          rw [upd_ne hba]
          exact new_back kp hpot hb
  · have e : i = xs.length := by omega
    subst e
    refine .inl ⟨Y.stop _ o, fin acc ds H ha hap kp hpot hacc hl fun d hd => ?_⟩
    obtain ⟨e, ye, se⟩ := hD d hd
    refine ⟨e, ye.wide fun b hb => ?_, se⟩
    exact (same_upd ha).free hb
def row100 (k : Nat) : PyData := .tuple [.int k, .int ((k + 1) % 100), .int (99 - k), .int 0]
def rows100 : List PyData := (List.range 100).map row100
theorem mach_a : machD (.tuple [.tuple rows100, .tuple [.int 0, .int 50, .int 99]]) = true := by decide +kernel
theorem mach_b : machD (.tuple [.tuple rows100, .tuple [.int 0, .int 50, .int 100]]) = false := by decide +kernel
theorem mach_c : machD (.tuple [.tuple ((rows100.drop 0).take 50 ++ [.tuple [.int 0, .int 0, .int 0, .int 100]] ++ (rows100.drop 51).take 49), .tuple [.int 0, .int 50, .int 99]]) = false := by decide +kernel
theorem size_a : (PyData.tuple [.tuple rows100, .tuple [.int 0, .int 50, .int 99]]).bulk ≤ 1000 := by decide +kernel
theorem size_b : (PyData.tuple [.tuple rows100, .tuple [.int 0, .int 50, .int 100]]).bulk ≤ 1000 := by decide +kernel
theorem size_c : (PyData.tuple [.tuple ((rows100.drop 0).take 50 ++ [.tuple [.int 0, .int 0, .int 0, .int 100]] ++ (rows100.drop 51).take 49), .tuple [.int 0, .int 50, .int 99]]).bulk ≤ 1000 := by decide +kernel
end L2
namespace K47
open PySem PySem.Spec PyProof.Rows L2
def spLaw (K : PySem.W.Frag) : Sp := fun vs H Q _ => ∃ (a : Addr) (ns : List Int), vs = [.ref a] ∧ SqL K H a (ns.map V.int) ∧ ns.length ≤ 63 ∧ ∀ H', Q (.bl true) H'
def Thg (G : Hp) (v : V) : Prop := ∃ S d, IsY S G v d ∧ Sz 1000 d
theorem Thg.same {G G' : Hp} {v : V} (h : Thg G v) (s : Same G G') : Thg G' v := by
  obtain ⟨S, d, y, z⟩ := h
  exact ⟨S, d, y.same s, z⟩
section
variable {P : Program} {w : World} {K : PySem.W.Frag} {mg : Str → Option Value} {base : Heap}
set_option maxHeartbeats 8000000 in
theorem ok_law {f : Addr} {fd : FuncData} (F : Fun K "law" "law" s_law f fd) (T : Top mg) (TX : TopX mg) (C_law_urn : Cal P w K mg base 1 "_law_urn" ["_law_script"] (spUrn K)) (C_law_take : Cal P w K mg base 1 "_law_take" ["_law_urn_here", "_law_many"] spDraw) (C_law_machine : Cal P w K mg base 2 "_law_machine" ["_law_urn_here", "_law_most"] spMachN) (C_law_changed : Cal P w K mg base 4 "_law_changed" ["_law_urn_here", "_law_machine_here"] spChg) (Cis_machine : Cal P w K mg base 4 "is_machine" ["thing"] spMaD) (C_law_due : Cal P w K mg base 2 "_law_due" ["_law_thing"] spMaD) : FnOk P w K mg base CX0 5 f fd ["_law_script"] (spLaw K) := by
  refine F.ok sc_law (fun vs H Q E h => ?_) (fun cdv A outer s H vs Q E hr h => ?_)
  · obtain ⟨a, ns, rfl, _⟩ := h
    rfl
  · obtain ⟨a, ns, rfl, hS, hl, k⟩ := h
    refine ⟨_, (lawT hr T TX C_law_urn C_law_take C_law_machine C_law_changed Cis_machine C_law_due).2.h, ?fin⟩
    case fin =>
      refine ⟨_, rfl, a, ns, rfl, hS, fun p G0 s0 hp0 _ => ?_⟩
      refine ⟨by show 0 ≤ sizeLine; decide, fun t0 ht0 => ?_⟩
      refine ⟨28, rfl, by decide, by decide, ?_⟩
      refine for_range (lo := 0) (n := 28) (fun i σ G => ∃ (x : V) (e : PyData) (c3 : Option V), σ = [some (.ref a), some (.ref p), some x, c3, none, none, none, none, none] ∧ IsY (fun _ => False) G x e ∧ Sz i e ∧ Pot3 G p 0) ?_ ?_ ?_
      · exact ⟨.ref t0, .tuple [], _, rfl, .tup upd_same .nil, Nat.zero_le _, hp0.same (same_upd ht0)⟩
      · rintro i σ G hi ⟨x, e, c3, rfl, y, sz, hp⟩
        refine ⟨_, rfl, by show 1 ≤ sizeLine; decide, fun t ht => ⟨.ref t, .tuple [e], _, rfl, .tup upd_same (.cons (y.same (same_upd ht)) .nil), ?_, hp.same (same_upd ht)⟩⟩
        have : e.bulk ≤ i := sz
        show PyData.bulk (.tuple [e]) ≤ i + 1
        simp only [PyData.bulk, PyData.bulkAll]
        omega
      · rintro σ G ⟨x, e, c3, rfl, y, szx, hp⟩
        refine ⟨3, rfl, by decide, by decide, ?_⟩
        refine for_range (lo := 0) (n := 3) (fun i σ G => ∃ (c3 c4 c5 c6 c7 c8 : Option V), σ = [some (.ref a), some (.ref p), some x, c3, c4, c5, c6, c7, c8] ∧ IsY (fun _ => False) G x e ∧ Pot3 G p (3000 * i)) ?_ ?_ ?_
        · exact ⟨_, _, _, _, _, _, rfl, y, hp⟩
        · rintro i σ G hi ⟨c3, c4, c5, c6, c7, c8, rfl, y, hp⟩
          refine ⟨_, rfl, by show 4 ≤ sizeLine; decide, fun l0 hl0 => ?_⟩
          have u0 := same_upd (o := .lst [.int 8, .int 8, .int 8, .int 40]) hl0
          have l0p := hp.ne_new hl0
          refine ⟨_, rfl, p, 4, _, rfl, by decide, by decide, hp.same u0, by omega, fun d1 G1 a1 b1 hp1 kp1 => ?_⟩
          obtain ⟨B, hB, eB⟩ := at_list (ns := [8, 8, 8, 40]) (d := d1) a1 b1
          have hB' : 0 < B ∧ B ≤ 40 := by
            have : B = 8 ∨ B = 8 ∨ B = 8 ∨ B = 40 := by simpa using hB
            omega
          refine ⟨l0, _, d1, .int B, rfl, rfl, SqL.of (kp1 _ _ upd_same l0p l0p), eB, ?_⟩
          refine ⟨p, _, B, rfl, hB'.1, hB'.2, hp1, by omega, fun z N rows ends G2 hM hN hel hen hp2 kp2 => ?_⟩
          obtain ⟨R, E', zs, hz, hR, hrows, hE, hlN, hN0, hr4⟩ := hM
          have rws : Rws G2 z R E' zs rows ends := ⟨hz, hR, hrows, hE, by omega, by omega, fun r hr => ⟨(hr4 r hr).1, fun d hd => ⟨((hr4 r hr).2 d hd).1, by have := ((hr4 r hr).2 d hd).2; omega⟩⟩, hel, hen⟩
          have kT : ∀ {Ga Gb : Hp} {c : Nat}, Pot3 Ga p c → Keep p p Ga Gb → IsY (fun _ => False) Ga x e → IsY (fun _ => False) Gb x e := fun {Ga Gb c} hpa ka ya => by
            obtain ⟨o, m, t, g1, _⟩ := hpa
            exact ya.keep ka g1 g1 fun a z => z.elim
          have y2 : IsY (fun _ => False) G2 x e := kT hp1 kp2 (kT (hp.same u0) kp1 (y.same u0))
          refine ⟨_, rfl, by show 1 ≤ sizeLine; decide, fun l1 hl1 => ?_⟩
          have u1 := same_upd (o := .lst [.ref z]) hl1
          have l1p := hp2.ne_new hl1
          have hp3 := hp2.same u1
          refine ⟨10, rfl, by decide, by decide, ?_⟩
          refine lc_drawA (yields_range (lo := 0) (n := 10)) (small1 (by rw [rangeV_len]; decide)) (k := 20) (m := 900) hp3 (fun _ _ => trivial) (fun j v Ga hv ka hpa QT q => ?_) (fun acc ds Ga hacc hap ka hpa hGa hlen hD => ?_)
          · have hj : j < 10 := by
              have := (List.getElem?_eq_some_iff.mp hv).1
              rwa [rangeV_len] at this
            exact ⟨_, rfl, _, rfl, p, z, R, E', _, zs, rows, ends, rfl, hpa, by omega, (rws.same u1).keep hp3 ka, fun x' Gb hx' hpb kb => q x' Gb kb (hpb.more (by omega)) hx'⟩
          rw [rangeV_len] at hpa hlen
          have hl1a := ka _ _ (@upd_same G2 l1 (.lst [.ref z])) l1p l1p
          refine ⟨l1, acc, _, _, rfl, rfl, hl1a, hGa, by rw [hlen]; show 1 + 10 ≤ sizeLine; decide, fun l3 hl3 => ?_⟩
          have u3 := same_upd (o := .lst ([.ref z] ++ ds)) hl3
          have l3p := hpa.ne_new hl3
          have rwsa := ((rws.same u1).keep hp3 ka).same u3
          have ya := (kT hp3 ka (y2.same u1)).same u3
          have hpb := hpa.same u3
          refine ⟨_, rfl, .inl ⟨rfl, _, SqL.of upd_same⟩, ?_⟩
          refine ⟨_, rfl, _, rfl, z, _, 0, .ref R, rfl, rfl, SqT.of rwsa.1, rfl, by show 0 ≤ sizeLine; decide, fun t4 ht4 => ⟨by show 2 ≤ sizeLine; decide, fun t5 ht5 => ?_⟩⟩
          have u4 := same_upd (o := .tup []) ht4
          have u5 := same_upd (o := .tup [.ref R, .ref t4]) ht5
          have U5 := u4.trans u5
          have rw5 := rwsa.same U5
          refine ⟨p, t5, R, t4, _, zs, rows, [], rfl, hpb.same U5, by omega, ⟨upd_same, rw5.2.1, rw5.2.2.1, u5 _ _ upd_same, rw5.2.2.2.2.1, rw5.2.2.2.2.2.1, rw5.2.2.2.2.2.2.1, by decide, fun _ h => by cases h⟩, fun x6 G6 hx6 hp6 k6 => ?_⟩
          have hl36 := k6 _ _ (U5 _ _ (@upd_same Ga l3 (.lst ([.ref z] ++ ds)))) l3p l3p
          refine ⟨l3, _, _, rfl, rfl, hl36, by rw [List.length_append, hlen]; exact small1 (by show 1 + 10 ≤ 1000; decide), ?_⟩
          have l3n : ∀ {b : Addr}, New (upd (upd (upd Ga l3 (.lst ([.ref z] ++ ds))) t4 (.tup [])) t5 (.tup [.ref R, .ref t4])) b → b ≠ l3 := fun {b} hb z' => by
            rw [z'] at hb
            have hb' : upd (upd (upd Ga l3 (.lst ([.ref z] ++ ds))) t4 (.tup [])) t5 (.tup [.ref R, .ref t4]) l3 = none := hb
            rw [U5 _ _ (@upd_same Ga l3 (.lst ([.ref z] ++ ds)))] at hb'
            cases hb'
          -- every thing, behind the last one that is put in
          generalize hG7 : upd G6 l3 (.lst ([.ref z] ++ ds ++ [x6])) = G7
          have up : ∀ {v : V} {d : PyData} {S : Addr → Prop}, (∀ b, S b → b ≠ l3) → IsY S G6 v d → IsY S G7 v d := fun {v d S} hS yv => by
            rw [← hG7]
            exact IsY.map (fun _ z => z) (fun a xs e => by
              have : a ≠ l3 := ne_of e hl36 (by intro z; cases z)
              rw [upd_ne this]; exact e) (fun a xs s e => by rw [upd_ne (hS a s)]; exact e) (fun a xs e => by
              have : a ≠ l3 := ne_of e hl36 (by intro z; cases z)
              rw [upd_ne this]; exact e) yv
          have hp7 : Pot3 G7 p (3000 * (i + 1)) := by
            rw [← hG7]
            obtain ⟨o1, s1, t1, g1, g2, g3, g4, g5, g6⟩ := hp6
            exact ⟨o1, s1, t1, by rw [upd_ne (Ne.symm l3p)]; exact g1, g2, g3, g4, g5, by omega⟩
          have y7 : IsY (fun _ => False) G7 x e := up (fun _ h => h.elim) (kT (hpb.same U5) k6 (ya.same U5))
          have all7 : ∀ v ∈ ([.ref z] ++ ds ++ [x6] : List V), Thg G7 v := fun v hv => by
            rcases List.mem_append.mp hv with h | h
            · rcases List.mem_append.mp h with h | h
              · rw [List.mem_singleton.mp h]
                have r6 := rw5.keep (hpb.same U5) k6
                refine ⟨fun _ => False, _, up (fun _ h => h.elim) (.tup r6.1 (.cons (.tup r6.2.1 (rows_isY r6.2.2.1)) (.cons (IsY.intT r6.2.2.2.1) .nil))), ?_⟩
                have b1 := rows_bulk (m := 4) fun r hr => Nat.le_of_eq (r6.2.2.2.2.2.2.1 r hr).1
                have b2 := r6.2.2.2.2.2.1
                have b3 := r6.2.2.2.2.2.2.2.1
                show PyData.bulk (.tuple _) ≤ 1000
                simp only [PyData.bulk, PyData.bulkAll, bulk_ints2]
                omega
              · obtain ⟨e', ye, se⟩ := hD v h
                have y1 := (ye.liv.wide (S' := fun b => b ≠ p ∧ b ≠ l3) fun b hb => ⟨hp3.old hb.1, fun z' => hb.2 (by rw [z']; exact hl3)⟩).same (u3.trans U5)
                obtain ⟨o1, m1, t1, g1, _⟩ := hpb.same U5
                exact ⟨_, e', up (S := fun b => b ≠ p ∧ b ≠ l3) (fun _ h => h.2) (y1.keep k6 g1 g1 fun b hb => ⟨hb.1, hb.1⟩), Nat.le_trans se (by decide)⟩
            · rw [List.mem_singleton.mp h]
              obtain ⟨e', ye, se⟩ := hx6
              exact ⟨_, e', up (fun b hb => l3n hb) ye, Nat.le_trans se (by decide)⟩
          have hl37 : G7 l3 = some (.lst ([.ref z] ++ ds ++ [x6])) := by rw [← hG7]; exact upd_same
          clear hG7 up
          refine ⟨_, rfl, fun x1 Ga1 s1 y1 x2 Ga2 s2 y2 x3 Ga3 s3 y3 x4 Ga4 s4 y4 x5 Ga5 s5 y5 x7 Ga7 s7 y7' x8 Ga8 s8 y8 x9 Ga9 s9 y9 x10 Ga10 s10 y10 => ?_⟩
          refine ⟨_, rfl, fun x11 Ga11 s11 y11 x12 Ga12 s12 y12 => ⟨by show 12 ≤ sizeLine; decide, fun l8 hl8 => ?_⟩⟩
          have w8 := same_upd (o := .lst [x1, x2, x3, x4, x5, x7, x8, x9, x10, x, x11, x12]) hl8
          have e12 := w8
          have e11 := s12.trans e12
          have e10 := s11.trans e11
          have e9 := s10.trans e10
          have e8 := s9.trans e9
          have e7 := s8.trans e8
          have e5 := s7.trans e7
          have e4 := s5.trans e5
          have e3 := s4.trans e4
          have e2 := s3.trans e3
          have e1 := s2.trans e2
          have e0 := s1.trans e1
          refine ⟨l3, l8, _, _, rfl, rfl, e0 _ _ hl37, upd_same, by rw [List.length_append, List.length_append, hlen]; show 1 + 10 + 1 + 12 ≤ sizeLine; decide, fun l9 hl9 => ?_⟩
          have w9 := same_upd (o := .lst ([.ref z] ++ ds ++ [x6] ++ [x1, x2, x3, x4, x5, x7, x8, x9, x10, x, x11, x12])) hl9
          generalize hGf : upd (upd Ga12 l8 (.lst [x1, x2, x3, x4, x5, x7, x8, x9, x10, x, x11, x12])) l9 (.lst ([.ref z] ++ ds ++ [x6] ++ [x1, x2, x3, x4, x5, x7, x8, x9, x10, x, x11, x12])) = Gf at w9
          have hlf : Gf l9 = some (.lst ([.ref z] ++ ds ++ [x6] ++ [x1, x2, x3, x4, x5, x7, x8, x9, x10, x, x11, x12])) := by rw [← hGf]; exact upd_same
          have allf : ∀ v ∈ ([.ref z] ++ ds ++ [x6] ++ [x1, x2, x3, x4, x5, x7, x8, x9, x10, x, x11, x12] : List V), Thg Gf v := fun v hv => by
            rcases List.mem_append.mp hv with h | h
            · exact (all7 v h).same (e0.trans w9)
            · simp only [List.mem_cons, List.not_mem_nil, or_false] at h
              rcases h with rfl | rfl | rfl | rfl | rfl | rfl | rfl | rfl | rfl | rfl | rfl | rfl
              · exact ⟨_, _, y1.same (e1.trans w9), by show PyData.bulk _ ≤ 1000; decide +kernel⟩
              · exact ⟨_, _, y2.same (e2.trans w9), by show PyData.bulk _ ≤ 1000; decide +kernel⟩
              · exact ⟨_, _, y3.same (e3.trans w9), by show PyData.bulk _ ≤ 1000; decide +kernel⟩
              · exact ⟨_, _, y4.same (e4.trans w9), by show PyData.bulk _ ≤ 1000; decide +kernel⟩
              · exact ⟨_, _, y5.same (e5.trans w9), by show PyData.bulk _ ≤ 1000; decide +kernel⟩
              · exact ⟨_, _, y7'.same (e7.trans w9), by show PyData.bulk _ ≤ 1000; decide +kernel⟩
              · exact ⟨_, _, y8.same (e8.trans w9), by show PyData.bulk _ ≤ 1000; decide +kernel⟩
              · exact ⟨_, _, y9.same (e9.trans w9), by show PyData.bulk _ ≤ 1000; decide +kernel⟩
              · exact ⟨_, _, y10.same (e10.trans w9), by show PyData.bulk _ ≤ 1000; decide +kernel⟩
              · exact ⟨_, _, y7.same (e0.trans w9), Nat.le_trans szx (by decide)⟩
              · exact ⟨_, _, y11.same (e11.trans w9), by show PyData.bulk _ ≤ 1000; decide +kernel⟩
              · exact ⟨_, _, y12.same (e12.trans w9), by show PyData.bulk _ ≤ 1000; decide +kernel⟩
          refine ⟨l9, rfl, ⟨_, SqL.of hlf⟩, ?_⟩
          refine for_list (K := K) (a := l9) (xs := [.ref z] ++ ds ++ [x6] ++ [x1, x2, x3, x4, x5, x7, x8, x9, x10, x, x11, x12]) (fun j σ G' => ∃ (c6 c7 : Option V), σ = [some (.ref a), some (.ref p), some x, some (.int (0 + (i : Int))), some (.ref z), some (.ref l3), c6, c7, c8] ∧ Same Gf G') ?_ ?_ ?_ ?_
          · exact ⟨_, _, rfl, Same.refl Gf⟩
          · rintro j σ G' _ ⟨c6, c7, rfl, sm⟩
            exact SqL.of (sm _ _ hlf)
          · rintro j v σ G' hv ⟨c6, c7, rfl, sm⟩
            obtain ⟨S, d, yv, szv⟩ := allf v (List.mem_of_getElem? hv)
            refine ⟨_, rfl, S, v, d, rfl, yv.same sm, szv, fun Gp sp => ?_⟩
            refine ⟨_, rfl, _, _, _, _, rfl, .bl _, kit_bool_bool, _, rfl, iteF ?_⟩
            refine ⟨_, rfl, _, rfl, S, v, d, rfl, yv.same (sm.trans sp), szv, fun Gq sq => ⟨rfl, _, rfl, iteNS rfl ?_⟩⟩
            exact ⟨_, _, rfl, sm.trans (sp.trans sq)⟩
          · rintro σ G' ⟨c6, c7, rfl, sm⟩
            exact ⟨_, _, _, _, _, _, rfl, y7.same (e0.trans (w9.trans sm)), hp7.same (e0.trans (w9.trans sm))⟩
        · rintro σ G ⟨c3, c4, c5, c6, c7, c8, rfl, y, hp⟩
          refine ⟨100, rfl, by decide, by decide, ?_⟩
          refine lc_grow (yields_range (lo := 0) (n := 100)) (small1 (by rw [rangeV_len]; decide)) (fun v u G' => ∀ k : Nat, v = .int (0 + (k : Int)) → ∃ t, u = .ref t ∧ G' t = some (.tup [.int k, .int (((k : Int) + 1) % 100), .int (99 - k), .int 0])) (fun v u Ga Gb st h k e => ?_) (fun _ _ => trivial) (fun v hv G' s' Q' q => ?_) fun acc us G1 hacc s1 hus pr => ?_
          · obtain ⟨t, e1, e2⟩ := h k e
            exact ⟨t, e1, st _ _ e2⟩
          · obtain ⟨zk, rfl, z0, z1⟩ := mem_rangeV hv
            refine ⟨_, rfl, _, rfl, _, _, rfl, rfl, _, _, rfl, rfl, (by show (0 : Int) < 100; decide), _, rfl, _, _, rfl, rfl, by show 4 ≤ sizeLine; decide, fun t ht => ?_⟩
            refine q _ _ (same_upd ht) fun k e => ⟨t, rfl, ?_⟩
            have : zk = (k : Int) := by have := V.int.inj e; omega
            rw [this]
            exact upd_same
          have al : IsAllY (fun _ => False) G1 us rows100 := by
            have key : ∀ (n m : Nat) (ws : List V), Paired (fun v u => ∀ k : Nat, v = .int (0 + (k : Int)) → ∃ t, u = .ref t ∧ G1 t = some (.tup [.int k, .int (((k : Int) + 1) % 100), .int (99 - k), .int 0])) ((List.range' m n).map fun (k : Nat) => V.int (0 + (k : Int))) ws → IsAllY (fun _ => False) G1 ws ((List.range' m n).map row100) := by
              intro n
              induction n with
              | zero =>
                intro m ws pr
                cases pr
                exact .nil
              | succ n ih =>
                intro m ws pr
                rw [List.range'_succ, List.map_cons] at pr ⊢
                cases pr with
                | cons h t =>
                  obtain ⟨t', e1, e2⟩ := h m rfl
                  rw [e1]
                  exact .cons (.tup e2 (.cons (.int _) (.cons (.int _) (.cons (.int _) (.cons (.int _) .nil))))) (ih _ _ t)
            have := key 100 0 us (by
              have e : ((List.range' 0 100).map fun (k : Nat) => V.int (0 + (k : Int))) = rangeV 0 100 := by
                rw [← List.range_eq_range']
                rfl
              rw [e]
              exact pr)
            rw [← List.range_eq_range'] at this
            exact this
          have hlu : us.length = 100 := al.len
          refine ⟨acc, _, rfl, .inl ⟨SqL.of hus, fun R hR => ?_⟩⟩
          have s2 := same_upd (o := .tup us) hR
          have al2 := al.same s2
          refine ⟨_, rfl, fun x1 G3 s3 y3 => ⟨by show 2 ≤ sizeLine; decide, fun t4 ht4 => ?_⟩⟩
          have s4 := same_upd (o := .tup [.ref R, x1]) ht4
          have hR3 := (s3.trans s4) _ _ (@upd_same G1 R (.tup us))
          refine ⟨L2.Fr (upd G1 R (.tup us)), .ref t4, .tuple [.tuple rows100, .tuple [.int 0, .int 50, .int 99]], rfl, .tup upd_same (.cons (.tup hR3 ((al2.same (s3.trans s4)).wide fun _ h => h.elim)) (.cons (y3.same s4) .nil)), size_a, fun G5 s5 => ?_⟩
          rw [mach_a]
          refine ⟨_, _, rfl, rfl, _, rfl, iteF ?_⟩
          refine ⟨_, rfl, fun x6 G6 s6 y6 => ⟨by show 2 ≤ sizeLine; decide, fun t7 ht7 => ?_⟩⟩
          have s7 := same_upd (o := .tup [.ref R, x6]) ht7
          have hR5 := s5 _ _ hR3
          have al5 := al2.same (s3.trans (s4.trans s5))
          refine ⟨L2.Fr G5, .ref t7, .tuple [.tuple rows100, .tuple [.int 0, .int 50, .int 100]], rfl, .tup upd_same (.cons (.tup ((s6.trans s7) _ _ hR5) ((al5.same (s6.trans s7)).wide fun _ h => h.elim)) (.cons (y6.same s7) .nil)), size_b, fun G8 s8 => ?_⟩
          rw [mach_b]
          refine ⟨_, _, rfl, rfl, _, rfl, iteF ?_⟩
          have hR8 := (s6.trans (s7.trans s8)) _ _ hR5
          have al8 := al5.same (s6.trans (s7.trans s8))
          refine ⟨_, rfl, _, rfl, R, _, rfl, hR8, fun z1 G9 s9 hz1 => ?_⟩
          refine fun x10 G10 s10 y10 => ?_
          have y10' : IsY (L2.Fr G9) G10 x10 (.tuple [.tuple [.int 0, .int 0, .int 0, .int 100]]) := y10
          cases y10' with
          | tup h10 al10 =>
            rename_i a10 v10
            refine ⟨z1, a10, _, _, rfl, rfl, s10 _ _ hz1, h10, by rw [al10.len]; have := cutV_length us none (some 50); rw [hlu] at this; rw [sizeLine_eq]; show _ + 1 ≤ _; omega, fun z2 G11 s11 hz2 => ?_⟩
            refine ⟨_, rfl, _, rfl, R, _, rfl, (s9.trans (s10.trans s11)) _ _ hR8, fun z3 G12 s12 hz3 => ?_⟩
            refine ⟨z2, z3, _, _, rfl, rfl, s12 _ _ hz2, hz3, by rw [List.length_append, al10.len]; have h50 := cutV_length us none (some 50); have h51 := cutV_length us (some 51) none; rw [hlu] at h50 h51; rw [sizeLine_eq]; show _ + 1 + _ ≤ _; omega, fun z4 G13 s13 hz4 => ?_⟩
            refine fun x14 G14 s14 y14 => ⟨by show 2 ≤ sizeLine; decide, fun t15 ht15 => ?_⟩
            have s15 := same_upd (o := .tup [.ref z4, x14]) ht15
            have b1 : IsAllY (L2.Fr G9) (upd G14 t15 (.tup [.ref z4, x14])) (cutV us none (some 50)) ((rows100.drop 0).take 50) := by
              have := ((al8.same (s9.trans (s10.trans (s11.trans (s12.trans (s13.trans (s14.trans s15))))))).drop 0).take 50
              unfold cutV
              rw [hlu]
              exact this.wide fun _ h => h.elim
            have b2 : IsAllY (L2.Fr G9) (upd G14 t15 (.tup [.ref z4, x14])) (cutV us (some 51) none) ((rows100.drop 51).take 49) := by
              have := ((al8.same (s9.trans (s10.trans (s11.trans (s12.trans (s13.trans (s14.trans s15))))))).drop 51).take 49
              unfold cutV
              rw [hlu]
              exact this.wide fun _ h => h.elim
            have b3' : IsAllY (L2.Fr G9) (upd G14 t15 (.tup [.ref z4, x14])) v10 [.tuple [.int 0, .int 0, .int 0, .int 100]] := al10.same (s11.trans (s12.trans (s13.trans (s14.trans s15))))
            refine ⟨L2.Fr G9, .ref t15, .tuple [.tuple ((rows100.drop 0).take 50 ++ [PyData.tuple [.int 0, .int 0, .int 0, .int 100]] ++ (rows100.drop 51).take 49), .tuple [.int 0, .int 50, .int 99]], rfl, .tup upd_same (.cons (.tup ((s14.trans s15) _ _ hz4) ((b1.append b3').append b2)) (.cons ((y14.wide fun b hb => hb.back (s10.trans (s11.trans (s12.trans s13)))).same s15) .nil)), size_c, fun G16 s16 => ?_⟩
            rw [mach_c]
            exact ⟨_, _, rfl, rfl, k _⟩
end
end K47


namespace K47
open PySem PySem.Spec PyProof.Rows L2
set_option maxHeartbeats 8000000 in
theorem all_mk {l : PySem.W.OpenLaw} {w : World} {K : PySem.W.Frag} {h : Heap} {mg : Str → Option Value} {fa T_MARKS : Addr} (X : K.In h) (G : h.Ns mainGlobals mg) (hfa : mg "law" = some (.ref fa)) (TK : TopK K) (TXK : TopXK K) (a_MARKS : PySem.W.nsIn K mainGlobals "MARKS" = some (some (.ref T_MARKS))) (h_MARKS : ∀ H, SqT K H T_MARKS ([0, 1, 2, 3].map V.int))
    (d_is_whole : Def K "is_whole" s_is_whole) (d_are_wholes : Def K "are_wholes" s_are_wholes) (d_are_below : Def K "are_below" s_are_below) (d_are_rising : Def K "are_rising" s_are_rising) (d_is_machine : Def K "is_machine" s_is_machine) (d__law_urn : Def K "_law_urn" s__law_urn) (d__law_take : Def K "_law_take" s__law_take) (d__law_of : Def K "_law_of" s__law_of) (d__law_machine : Def K "_law_machine" s__law_machine) (d__law_whole : Def K "_law_whole" s__law_whole) (d__law_due : Def K "_law_due" s__law_due) (d__law_odd : Def K "_law_odd" s__law_odd) (d__law_row_changed : Def K "_law_row_changed" s__law_row_changed) (d__law_changed : Def K "_law_changed" s__law_changed) (d_law : Def K "law" s_law) :
    ∃ fd : FuncData, (∀ (s : Shared) (v : Value), BindsTo s fd ⟨[v], []⟩ [("_law_script", v)]) ∧ ∀ base : Heap, K.In base → base.Ns mainGlobals mg → FnOk l.prog w K mg base CX0 5 fa fd ["_law_script"] (spLaw K) := by
  have T : Top mg := TK.top X G
  have TX : TopX mg := TXK.top X G
  obtain ⟨f_is_whole, e_is_whole, F_is_whole, m_is_whole⟩ := d_is_whole.fn X G
  obtain ⟨f_are_wholes, e_are_wholes, F_are_wholes, m_are_wholes⟩ := d_are_wholes.fn X G
  obtain ⟨f_are_below, e_are_below, F_are_below, m_are_below⟩ := d_are_below.fn X G
  obtain ⟨f_are_rising, e_are_rising, F_are_rising, m_are_rising⟩ := d_are_rising.fn X G
  obtain ⟨f_is_machine, e_is_machine, F_is_machine, m_is_machine⟩ := d_is_machine.fn X G
  obtain ⟨f__law_urn, e__law_urn, F__law_urn, m__law_urn⟩ := d__law_urn.fn X G
  obtain ⟨f__law_take, e__law_take, F__law_take, m__law_take⟩ := d__law_take.fn X G
  obtain ⟨f__law_of, e__law_of, F__law_of, m__law_of⟩ := d__law_of.fn X G
  obtain ⟨f__law_machine, e__law_machine, F__law_machine, m__law_machine⟩ := d__law_machine.fn X G
  obtain ⟨f__law_whole, e__law_whole, F__law_whole, m__law_whole⟩ := d__law_whole.fn X G
  obtain ⟨f__law_due, e__law_due, F__law_due, m__law_due⟩ := d__law_due.fn X G
  obtain ⟨f__law_odd, e__law_odd, F__law_odd, m__law_odd⟩ := d__law_odd.fn X G
  obtain ⟨f__law_row_changed, e__law_row_changed, F__law_row_changed, m__law_row_changed⟩ := d__law_row_changed.fn X G
  obtain ⟨f__law_changed, e__law_changed, F__law_changed, m__law_changed⟩ := d__law_changed.fn X G
  obtain ⟨f_law, e_law, F_law, m_law⟩ := d_law.fn X G
  have b_is_whole := F_is_whole.binds (ps := ["thing"]) fun _ _ _ _ _ _ us hl => match us, hl with | [_], _ => rfl
  have b_are_wholes := F_are_wholes.binds (ps := ["thing"]) fun _ _ _ _ _ _ us hl => match us, hl with | [_], _ => rfl
  have b_are_below := F_are_below.binds (ps := ["thing", "many"]) fun _ _ _ _ _ _ us hl => match us, hl with | [_, _], _ => rfl
  have b_are_rising := F_are_rising.binds (ps := ["numbers"]) fun _ _ _ _ _ _ us hl => match us, hl with | [_], _ => rfl
  have b_is_machine := F_is_machine.binds (ps := ["thing"]) fun _ _ _ _ _ _ us hl => match us, hl with | [_], _ => rfl
  have b__law_urn := F__law_urn.binds (ps := ["_law_script"]) fun _ _ _ _ _ _ us hl => match us, hl with | [_], _ => rfl
  have b__law_take := F__law_take.binds (ps := ["_law_urn_here", "_law_many"]) fun _ _ _ _ _ _ us hl => match us, hl with | [_, _], _ => rfl
  have b__law_of := F__law_of.binds (ps := ["_law_urn_here", "_law_some"]) fun _ _ _ _ _ _ us hl => match us, hl with | [_, _], _ => rfl
  have b__law_machine := F__law_machine.binds (ps := ["_law_urn_here", "_law_most"]) fun _ _ _ _ _ _ us hl => match us, hl with | [_, _], _ => rfl
  have b__law_whole := F__law_whole.binds (ps := ["_law_thing"]) fun _ _ _ _ _ _ us hl => match us, hl with | [_], _ => rfl
  have b__law_due := F__law_due.binds (ps := ["_law_thing"]) fun _ _ _ _ _ _ us hl => match us, hl with | [_], _ => rfl
  have b__law_odd := F__law_odd.binds (ps := ["_law_urn_here", "_law_number", "_law_many"]) fun _ _ _ _ _ _ us hl => match us, hl with | [_, _, _], _ => rfl
  have b__law_row_changed := F__law_row_changed.binds (ps := ["_law_urn_here", "_law_row", "_law_many"]) fun _ _ _ _ _ _ us hl => match us, hl with | [_, _, _], _ => rfl
  have b__law_changed := F__law_changed.binds (ps := ["_law_urn_here", "_law_machine_here"]) fun _ _ _ _ _ _ us hl => match us, hl with | [_, _], _ => rfl
  have e : fa = f_law := by
    have q := hfa.symm.trans m_law
    cases q
    rfl
  subst e
  obtain ⟨oc, od, kV, doc, pm, an, cdv, ct, osl, rfl, lk, hcd⟩ := F_law.ex
  refine ⟨PySem.W.fnOf "law" "law" (defArgs s_law) (defBody s_law) (defScope s_law) .none kV doc pm an cdv ct, fun s v => .of_eq rfl, fun base _ _ => ?_⟩
  have Cis_whole : Cal l.prog w K mg base 1 "is_whole" ["thing"] (spWhA K) := ⟨f_is_whole, e_is_whole, ok_is_whole F_is_whole T, m_is_whole, F_is_whole.kp, b_is_whole⟩
  have Care_wholes : Cal l.prog w K mg base 2 "are_wholes" ["thing"] (spWhsD) := ⟨f_are_wholes, e_are_wholes, ok_are_wholes F_are_wholes T Cis_whole, m_are_wholes, F_are_wholes.kp, b_are_wholes⟩
  have Care_below : Cal l.prog w K mg base 3 "are_below" ["thing", "many"] (spBelD) := ⟨f_are_below, e_are_below, ok_are_below F_are_below T Care_wholes, m_are_below, F_are_below.kp, b_are_below⟩
  have Care_rising : Cal l.prog w K mg base 1 "are_rising" ["numbers"] (spRisL) := ⟨f_are_rising, e_are_rising, ok_are_rising F_are_rising T, m_are_rising, F_are_rising.kp, b_are_rising⟩
  have Cis_machine : Cal l.prog w K mg base 4 "is_machine" ["thing"] (spMaD) := ⟨f_is_machine, e_is_machine, ok_is_machine F_is_machine T (PySem.W.mg_of X G a_MARKS) h_MARKS Care_below Care_rising, m_is_machine, F_is_machine.kp, b_is_machine⟩
  have C_law_urn : Cal l.prog w K mg base 1 "_law_urn" ["_law_script"] (spUrn K) := ⟨f__law_urn, e__law_urn, ok__law_urn F__law_urn T, m__law_urn, F__law_urn.kp, b__law_urn⟩
  have C_law_take : Cal l.prog w K mg base 1 "_law_take" ["_law_urn_here", "_law_many"] (spDraw) := ⟨f__law_take, e__law_take, ok__law_take F__law_take , m__law_take, F__law_take.kp, b__law_take⟩
  have C_law_of : Cal l.prog w K mg base 2 "_law_of" ["_law_urn_here", "_law_some"] (spOfA) := ⟨f__law_of, e__law_of, ok__law_of F__law_of T TX C_law_take, m__law_of, F__law_of.kp, b__law_of⟩
  have C_law_machine : Cal l.prog w K mg base 2 "_law_machine" ["_law_urn_here", "_law_most"] (spMachN) := ⟨f__law_machine, e__law_machine, ok__law_machine F__law_machine T C_law_take, m__law_machine, F__law_machine.kp, b__law_machine⟩
  have C_law_whole : Cal l.prog w K mg base 1 "_law_whole" ["_law_thing"] (spWhA K) := ⟨f__law_whole, e__law_whole, ok__law_whole F__law_whole T, m__law_whole, F__law_whole.kp, b__law_whole⟩
  have C_law_due : Cal l.prog w K mg base 2 "_law_due" ["_law_thing"] (spMaD) := ⟨f__law_due, e__law_due, ok__law_due F__law_due T C_law_whole, m__law_due, F__law_due.kp, b__law_due⟩
  have C_law_odd : Cal l.prog w K mg base 2 "_law_odd" ["_law_urn_here", "_law_number", "_law_many"] (spOddM) := ⟨f__law_odd, e__law_odd, ok__law_odd F__law_odd T TX C_law_take, m__law_odd, F__law_odd.kp, b__law_odd⟩
  have C_law_row_changed : Cal l.prog w K mg base 3 "_law_row_changed" ["_law_urn_here", "_law_row", "_law_many"] (spRowC) := ⟨f__law_row_changed, e__law_row_changed, ok__law_row_changed F__law_row_changed T TX C_law_take C_law_odd, m__law_row_changed, F__law_row_changed.kp, b__law_row_changed⟩
  have C_law_changed : Cal l.prog w K mg base 4 "_law_changed" ["_law_urn_here", "_law_machine_here"] (spChg) := ⟨f__law_changed, e__law_changed, ok__law_changed F__law_changed T TX C_law_take C_law_of C_law_row_changed, m__law_changed, F__law_changed.kp, b__law_changed⟩
  exact ok_law F_law T TX C_law_urn C_law_take C_law_machine C_law_changed Cis_machine C_law_due
theorem walk {l : PySem.W.OpenLaw} {q : Program} {loose : List Str} {XP : (Str → Option Value) → Heap → Prop} {YP : World → Heap → Prop} {d : DefRec} {K : Params → PySem.W.Frag} (hn : l.most = some 63) (hdf : d.params.defaults = [])
    (hY : ∀ (w : World) (h : Heap), YP w h → (K w.params).In h)
    (F : ∀ (w : World) (mg : Str → Option Value) (fa : Addr) (h : Heap), (K w.params).In h → h.Ns mainGlobals mg → mg d.name = some (.ref fa) →
      ∃ fd : FuncData, (∀ (s : Shared) (u : Value), BindsTo s fd ⟨[u], []⟩ [("_law_script", u)]) ∧ ∀ base : Heap, (K w.params).In base → base.Ns mainGlobals mg → FnOk l.prog w (K w.params) mg base CX0 5 fa fd ["_law_script"] (spLaw (K w.params))) :
    PySem.W.WalkO q loose XP YP l.row.toRowW d [] (fun f vs => PySem.call f vs) :=
  L2.walk_of (n := 63) (k := 5) (x := "_law_script") (CX := fun _ => CX0) (sp := fun w => spLaw (K w.params)) hn (by decide) hdf ⟨rfl, by decide, by decide, rfl⟩ hY F (fun _ _ a ns hl _ hS => ⟨a, ns, rfl, hS, hl, fun _ => rfl⟩) fun _ _ _ _ _ z => z
end K47
open PySem PySem.W PyProof.Rows
set_option maxRecDepth 100000 in
set_option maxHeartbeats 0 in
theorem PySem.Challenge.cw_shuffletold_k47_machines_of_anything_holds : PySem.Challenge.rw_shuffletold_k47_machines_of_anything.Holds := by
  w_on; o_law; k_head; (case hw => w_witness2)
  k_fill
  refine K47.walk (l := PySem.Challenge.rw_shuffletold_k47_machines_of_anything) rfl rfl (fun w h Y => PySem.W.kIn_of Y) ?F
  case F =>
    intro w mg fa h KX G hmg
    refine' K47.all_mk KX G hmg ⟨?_, ?_, ?_, ?_, ?_, ?_, ?_, ?_, ?_, ?_, ?_, ?_, ?_, ?_, ?_⟩ ⟨?_, ?_, ?_⟩ ?tA0 (L2.sqT_ofK ?tL0 ?tZ0 ?tR0) (L2.Def.of ?a0 ?l0 ?c0 ?k0) (L2.Def.of ?a1 ?l1 ?c1 ?k1) (L2.Def.of ?a2 ?l2 ?c2 ?k2) (L2.Def.of ?a3 ?l3 ?c3 ?k3) (L2.Def.of ?a4 ?l4 ?c4 ?k4) (L2.Def.of ?a5 ?l5 ?c5 ?k5) (L2.Def.of ?a6 ?l6 ?c6 ?k6) (L2.Def.of ?a7 ?l7 ?c7 ?k7) (L2.Def.of ?a8 ?l8 ?c8 ?k8) (L2.Def.of ?a9 ?l9 ?c9 ?k9) (L2.Def.of ?a10 ?l10 ?c10 ?k10) (L2.Def.of ?a11 ?l11 ?c11 ?k11) (L2.Def.of ?a12 ?l12 ?c12 ?k12) (L2.Def.of ?a13 ?l13 ?c13 ?k13) (L2.Def.of ?a14 ?l14 ?c14 ?k14)
    (case tA0 => k_is); (case tL0 => k_is); (case tZ0 => exact (by decide)); (case tR0 => exact (.cons ⟨_, rfl⟩ (.cons ⟨_, rfl⟩ (.cons ⟨_, rfl⟩ (.cons ⟨_, rfl⟩ .nil)))))
    (case a0 => k_is); (case l0 => k_is); (case c0 => k_is); (case k0 => k_is)
    (case a1 => k_is); (case l1 => k_is); (case c1 => k_is); (case k1 => k_is)
    (case a2 => k_is); (case l2 => k_is); (case c2 => k_is); (case k2 => k_is)
    (case a3 => k_is); (case l3 => k_is); (case c3 => k_is); (case k3 => k_is)
    (case a4 => k_is); (case l4 => k_is); (case c4 => k_is); (case k4 => k_is)
    (case a5 => k_is); (case l5 => k_is); (case c5 => k_is); (case k5 => k_is)
    (case a6 => k_is); (case l6 => k_is); (case c6 => k_is); (case k6 => k_is)
    (case a7 => k_is); (case l7 => k_is); (case c7 => k_is); (case k7 => k_is)
    (case a8 => k_is); (case l8 => k_is); (case c8 => k_is); (case k8 => k_is)
    (case a9 => k_is); (case l9 => k_is); (case c9 => k_is); (case k9 => k_is)
    (case a10 => k_is); (case l10 => k_is); (case c10 => k_is); (case k10 => k_is)
    (case a11 => k_is); (case l11 => k_is); (case c11 => k_is); (case k11 => k_is)
    (case a12 => k_is); (case l12 => k_is); (case c12 => k_is); (case k12 => k_is)
    (case a13 => k_is); (case l13 => k_is); (case c13 => k_is); (case k13 => k_is)
    (case a14 => k_is); (case l14 => k_is); (case c14 => k_is); (case k14 => k_is)
    all_goals k_is

