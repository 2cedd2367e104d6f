import PyProof.Rows.All
import Wide.All
import OpenK.AllK
import Wide.FinOn
import Lean
import PyProof.EqAt
import PyProof.EqKinds
import PyProof.TupleCall
import PySem.Challenge.RW_shuffletold_k50_counts_of_orders_met
set_option Elab.async false
set_option linter.all false
set_option maxRecDepth 100000
namespace L2
open PySem PySem.Spec PyProof.Rows

abbrev Key := Sum Int Str
def keyIs : Key → Value → Bool
  | .inl k, v => Value.isInt k v
  | .inr x, v => Value.isStrOf x v
def keyH (w : World) : Key → Int
  | .inl k => hashInt k
  | .inr x => hashStr w x
theorem keyIs_shape : ∀ {k : Key} {v : Value}, keyIs k v = true → (∃ i t, k = Sum.inl i ∧ v = Value.int i t) ∨ (∃ x t, k = Sum.inr x ∧ v = Value.str x t)
  | .inl i, v, h => by
    obtain ⟨t, e⟩ := Value.isInt_shape (k := i) (v := v) h
    exact .inl ⟨i, t, rfl, e⟩
  | .inr x, v, h => by
    obtain ⟨t, e⟩ := Value.isStrOf_shape (x := x) (v := v) h
    exact .inr ⟨x, t, rfl, e⟩
theorem key_ll (a b : Int) : decide ((Sum.inl a : Key) = Sum.inl b) = (a == b) := by
  by_cases e : a = b
  · subst e; simp
  · have h : ¬ (Sum.inl a : Key) = Sum.inl b := fun q => e (Sum.inl.inj q)
    rw [decide_eq_false h]
    exact (beq_eq_false_iff_ne.mpr e).symm
theorem key_rr (a b : Str) : decide ((Sum.inr a : Key) = Sum.inr b) = decide (a = b) := by
  by_cases e : a = b
  · subst e; simp
  · have h : ¬ (Sum.inr a : Key) = Sum.inr b := fun q => e (Sum.inr.inj q)
    rw [decide_eq_false h, decide_eq_false e]
theorem key_lr (a : Int) (b : Str) : decide ((Sum.inl a : Key) = Sum.inr b) = false := decide_eq_false (fun q => nomatch q)
theorem key_rl (a : Str) (b : Int) : decide ((Sum.inr a : Key) = Sum.inl b) = false := decide_eq_false (fun q => nomatch q)

def mixKind (prog : Program) (w : World) : PySem.KeyKind prog w Key where
  is := keyIs
  hash := keyH w
  inj := fun v a b ha hb => by
    rcases keyIs_shape ha with ⟨i, t, rfl, rfl⟩ | ⟨x, t, rfl, rfl⟩
    · rcases keyIs_shape hb with ⟨j, u, rfl, e⟩ | ⟨y, u, rfl, e⟩
      · injection e with e1 _; rw [e1]
      · exact nomatch e
    · rcases keyIs_shape hb with ⟨j, u, rfl, e⟩ | ⟨y, u, rfl, e⟩
      · exact nomatch e
      · injection e with e1 _; rw [e1]
  byValue := fun k v h => by
    rcases keyIs_shape h with ⟨i, t, rfl, rfl⟩ | ⟨x, t, rfl, rfl⟩ <;> rfl
  pyHash := fun hv h => by
    rcases keyIs_shape hv with ⟨i, t, rfl, rfl⟩ | ⟨x, t, rfl, rfl⟩
    · exact wpAny_pyHash_int h
    · exact wpAny_pyHash_str h
  eqBool := fun hu hv h => by
    rcases keyIs_shape hu with ⟨i, t, rfl, rfl⟩ | ⟨x, t, rfl, rfl⟩
    · rcases keyIs_shape hv with ⟨j, u, rfl, rfl⟩ | ⟨y, u, rfl, rfl⟩
      · rw [key_ll] at h; exact wpAny_eqBool_int h
      · rw [key_lr] at h; exact SeqAt.EqAt.int_str i t y u _ _ _ _ h
    · rcases keyIs_shape hv with ⟨j, u, rfl, rfl⟩ | ⟨y, u, rfl, rfl⟩
      · rw [key_rl] at h; exact SeqAt.EqAt.str_int x t j u _ _ _ _ h
      · rw [key_rr] at h; exact wpAny_eqBool_str h
  «strs» := fun k x t v h => by
    rcases keyIs_shape h with ⟨i, u, rfl, e⟩ | ⟨y, u, rfl, e⟩
    · exact nomatch e
    · injection e with e1 _
      subst e1
      cases v <;> rfl

end L2

namespace L2
open PySem PySem.Spec PyProof.Rows

inductive V where
  | non | bl (b : Bool) | int (i : Int) | str (x : Str) | byt (b : Array UInt8) | flt (b : UInt64) | ref (a : Addr) | ty (n : String)
  deriving DecidableEq

def RelV : V → Value → Prop
  | .non, u => u = Value.none
  | .bl b, u => u = Value.bool b
  | .int i, u => ∃ t, u = Value.int i t
  | .str x, u => ∃ t, u = Value.str x t
  | .byt b, u => ∃ t, u = Value.bytes b t
  | .flt b, u => ∃ t, u = Value.float b t
  | .ref a, u => u = Value.ref a
  | .ty n, u => u = Value.type n

abbrev Vals : List V → List Value → Prop := Paired RelV
theorem Vals.length {xs : List V} {us : List Value} (r : Vals xs us) : xs.length = us.length := Paired.length r
theorem Vals.get : ∀ {xs : List V} {us : List Value} {i : Nat} {x : V}, Vals xs us → xs[i]? = some x → ∃ u, us[i]? = some u ∧ RelV x u
  | _, _, _, _, .nil, e => by simp at e
  | _, _, 0, _, .cons r _, e => by simp at e; subst e; exact ⟨_, rfl, r⟩
  | _, _, i + 1, x, .cons _ t, e => by
    obtain ⟨u, h1, h2⟩ := Vals.get (i := i) (x := x) t (by simpa using e)
    exact ⟨u, by simpa using h1, h2⟩
theorem Vals.set {x : V} {u : Value} (r : RelV x u) : ∀ {xs : List V} {us : List Value} (i : Nat), Vals xs us → Vals (xs.set i x) (us.set i u)
  | _, _, _, .nil => .nil
  | _, _, 0, .cons _ t => .cons r t
  | _, _, i + 1, .cons q t => .cons q (Vals.set r i t)
theorem Vals.append : ∀ {xs ys : List V} {us ws : List Value}, Vals xs us → Vals ys ws → Vals (xs ++ ys) (us ++ ws)
  | _, _, _, _, .nil, s => s
  | _, _, _, _, .cons r t, s => .cons r (Vals.append t s)
theorem Vals.take : ∀ {xs : List V} {us : List Value} (n : Nat), Vals xs us → Vals (xs.take n) (us.take n)
  | _, _, 0, _ => .nil
  | _, _, _ + 1, .nil => .nil
  | _, _, n + 1, .cons r t => .cons r (Vals.take n t)
theorem Vals.drop : ∀ {xs : List V} {us : List Value} (n : Nat), Vals xs us → Vals (xs.drop n) (us.drop n)
  | _, _, 0, r => r
  | _, _, _ + 1, .nil => .nil
  | _, _, n + 1, .cons _ t => Vals.drop n t
theorem Vals.none_of : ∀ {xs : List V} {us : List Value} {i : Nat}, Vals xs us → xs[i]? = none → us[i]? = none := fun {xs us i} r e => by
  have h1 := r.length
  have h2 : xs.length ≤ i := List.getElem?_eq_none_iff.mp e
  exact List.getElem?_eq_none_iff.mpr (by omega)

def RelO : Option V → Option Value → Prop
  | some v, some u => RelV v u
  | none, none => True
  | _, _ => False
def KV {κ : Type} : List (κ × V) → List (κ × Value) → Prop := Paired fun (p : κ × V) (q : κ × Value) => p.1 = q.1 ∧ RelV p.2 q.2

def kV : Key → V
  | .inl i => .int i
  | .inr x => .str x

inductive HO where
  /-- a list -/
  | lst (xs : List V)
  /-- a tuple (never changes) -/
  | tup (xs : List V)
  /-- a dict whose keys are ints and texts; one whose keys are tuples of ints and texts (the empty one is both) -/
  | dK (kvs : List (Key × V)) | dT (kvs : List (List Key × V))
  /-- a set of ints: its members, its size -/
  | set (S : Int → Bool) (n : Nat)
  /-- an instance of the class at C, its dict at dx, its attributes -/
  | ins (C dx : Addr) (fs : List (Str × V))
  /-- the dict of the instance at x -/
  | own (x : Addr)
  /-- the dict of an exception -/
  | xd (fs : List (Str × V))
  /-- a bound method, f of x -/
  | met (f x : Addr)
  /-- a range object lo, lo + 1, .. below hi -/
  | rng (lo hi : Int)
  /-- a thing that is known to the object (the script; a dict while a loop walks it): read, never written while it is so -/
  | frz (o : Obj) (u : HO)
  /-- a code object's table -/
  | tbl (ps : Array Value)
  /-- any other thing, by what is true of its one object (a def of one's own: SetO a S n := HO.ext fun h => ..) -/
  | ext (φ : Heap → Prop)

abbrev Hp := Addr → Option HO
def upd (H : Hp) (a : Addr) (o : HO) : Hp := fun b => if b = a then some o else H b
theorem upd_same {H : Hp} {a : Addr} {o : HO} : upd H a o a = some o := by unfold upd; rw [if_pos rfl]
theorem upd_ne {H : Hp} {a b : Addr} {o : HO} (h : b ≠ a) : upd H a o b = H b := by unfold upd; rw [if_neg h]
theorem upd_upd {H : Hp} {a : Addr} {o u : HO} : upd (upd H a o) a u = upd H a u := by
  funext b; unfold upd; split <;> rfl
theorem ne_of {H : Hp} {a b : Addr} {o u : HO} (h : H a = some o) (h' : H b = some u) (d : o ≠ u) : a ≠ b := by
  intro e; subst e; rw [h] at h'; exact d (Option.some.inj h')
theorem ne_of_none {H : Hp} {a b : Addr} {o : HO} (h : H a = some o) (h' : H b = none) : a ≠ b := by
  intro e; subst e; rw [h] at h'; cases h'

def PTup (h : Heap) (a : Addr) (items : Array Value) : Prop := ∃ o, h.get? a = some o ∧ o.cls = .type "tuple" ∧ (∃ n, o.data = .seq items n) ∧ o.dict = none ∧ o.slots = #[]
theorem PTup.tup {h : Heap} {a : Addr} {items : Array Value} (p : PTup h a items) : IsTup h a items := by
  obtain ⟨o, e, c, d, _⟩ := p
  exact ⟨o, e, c, d⟩
theorem PTup.new {h : Heap} {items : Array Value} {n : Nat} : PTup (h.push { cls := .type "tuple", data := .seq items n }) h.objs.size items := ⟨_, Heap.get?_push_size _ rfl, rfl, ⟨_, rfl⟩, rfl, rfl⟩
section
variable (P : Program) (w : World)
def ObjOk (H : Hp) (h : Heap) (a : Addr) : HO → Prop
  | .lst xs => xs.length ≤ sizeLine ∧ ∃ (its : List Value) (n : Nat), Vals xs its ∧ h.get? a = some { cls := .type "list", data := .seq its.toArray n }
  | .tup xs => xs.length ≤ sizeLine ∧ ∃ its : List Value, Vals xs its ∧ PTup h a its.toArray
  | .dK kvs => kvs.length ≤ sizeLine ∧ (a == sysModules) = false ∧ ∃ vs, KV kvs vs ∧ h.DictOf (mixKind P w) a vs
  | .dT kvs => kvs.length ≤ sizeLine ∧ (a == sysModules) = false ∧ ∃ xs : List (List Key × Addr × Value),
      Paired (fun (p : List Key × V) (q : List Key × Addr × Value) => p.1 = q.1 ∧ H q.2.1 = some (.tup (p.1.map kV)) ∧ RelV p.2 q.2.2) kvs xs ∧
      ∃ o es ep, h.get? a = some o ∧ o.ExactDict ∧ o.data = .dict es ep ∧ es.toList = xs.map (entryOfKey (tupleKind (mixKind P w))) ∧ (xs.map (·.1)).Nodup
  | .set S n => h.SetOf (intKind P w) a S n
  | .ins C dx fs => H dx = some (.own a) ∧ fs.length ≤ 1000 ∧ dx ≠ a ∧ h.get? a = some (PySem.W.instObj C dx) ∧
      ∃ mA, h.Ns1 dx mA ∧ (∀ f, RelO (fs.lookup f) (mA f)) ∧ PySem.Within mA (fs.map (·.1))
  | .own _ => ∃ o, h.get? a = some o
  | .xd fs => ∃ mA, h.Ns1 a mA ∧ ∀ f, RelO (fs.lookup f) (mA f)
  | .rng lo hi => ∃ t u v, h.get? a = some { cls := .type "range", data := .fields #[.int lo t, .int hi u, .int 1 v] }
  | .frz o u => h.get? a = some o ∧ ObjOk H h a u
  | .tbl ps => h.get? a = some { cls := .none, data := .fields ps }
  | .met f x => h.get? a = some (PySem.W.methodObj (.ref f) (.ref x))
  | .ext φ => φ h ∧ (∃ o, h.get? a = some o) ∧ ∀ h1 h2 : Heap, φ h1 → (∀ o, h1.get? a = some o → h2.get? a = some o) → φ h2
def HOk (H : Hp) (h : Heap) : Prop := ∀ a o, H a = some o → ObjOk P w H h a o
end

section
variable {P : Program} {w : World} {H H' : Hp} {h h' : Heap} {a : Addr} {o : HO}
theorem ObjOk.lt (x : ObjOk P w H h a o) : a < h.objs.size := by
  cases o with
  | lst xs => obtain ⟨_, _, _, _, e⟩ := x; exact Heap.lt_size e
  | tup xs => obtain ⟨_, _, _, p⟩ := x; exact p.tup.lt
  | dK kvs => obtain ⟨_, _, _, _, o, _, _, e, _⟩ := x; exact Heap.lt_size e
  | dT kvs => obtain ⟨_, _, _, _, o, _, _, e, _⟩ := x; exact Heap.lt_size e
  | set S n => obtain ⟨o, _, _, _, e, _⟩ := x; exact Heap.lt_size e
  | ins C dx fs => obtain ⟨_, _, _, e, _⟩ := x; exact Heap.lt_size e
  | own y => obtain ⟨_, e⟩ := x; exact Heap.lt_size e
  | xd fs => obtain ⟨_, ⟨_, _, _, e, _⟩, _⟩ := x; exact Heap.lt_size e
  | rng lo hi => obtain ⟨_, _, _, e⟩ := x; exact Heap.lt_size e
  | frz ob u => obtain ⟨e, _⟩ := x; exact Heap.lt_size e
  | tbl ps => exact Heap.lt_size (show h.get? a = some _ from x)
  | met f y => exact Heap.lt_size (show h.get? a = some _ from x)
  | ext φ => obtain ⟨_, ⟨_, e⟩, _⟩ := x; exact Heap.lt_size e
theorem Paired.mapP {α β : Type} {F G : α → β → Prop} : ∀ {l₁ : List α} {l₂ : List β}, Paired F l₁ l₂ → (∀ a b, F a b → G a b) → Paired G l₁ l₂
  | _, _, .nil, _ => .nil
  | _, _, .cons r t, f => .cons (f _ _ r) (Paired.mapP t f)
theorem ObjOk.stay (x : ObjOk P w H h a o) (k : ∀ b u, (b = a ∨ H b = some (.own a)) → h.get? b = some u → h'.get? b = some u)
    (ho : ∀ b, H b = some (.own a) → H' b = some (.own a)) (ht : ∀ b xs, H b = some (.tup xs) → H' b = some (.tup xs)) : ObjOk P w H' h' a o := by
  induction o with
  | lst xs => obtain ⟨z, its, n, r, e⟩ := x; exact ⟨z, its, n, r, k _ _ (.inl rfl) e⟩
  | tup xs => obtain ⟨z, its, r, ob, e, c⟩ := x; exact ⟨z, its, r, ob, k _ _ (.inl rfl) e, c⟩
  | dK kvs => obtain ⟨z, y, vs, r, ob, es, ep, e, c⟩ := x; exact ⟨z, y, vs, r, ob, es, ep, k _ _ (.inl rfl) e, c⟩
  | dT kvs =>
    obtain ⟨z, y, xs, r, ob, es, ep, e, c⟩ := x
    exact ⟨z, y, xs, Paired.mapP r fun p q z => ⟨z.1, ht _ _ z.2.1, z.2.2⟩, ob, es, ep, k _ _ (.inl rfl) e, c⟩
  | set S n => obtain ⟨ob, es, ep, t, e, c⟩ := x; exact ⟨ob, es, ep, t, k _ _ (.inl rfl) e, c⟩
  | ins C dx fs =>
    obtain ⟨d, z, ne, e, mA, ⟨od, es, ep, e2, c⟩, r⟩ := x
    exact ⟨ho _ d, z, ne, k _ _ (.inl rfl) e, mA, ⟨od, es, ep, k _ _ (.inr d) e2, c⟩, r⟩
  | own y => obtain ⟨ob, e⟩ := x; exact ⟨ob, k _ _ (.inl rfl) e⟩
  | xd fs => obtain ⟨mA, ⟨od, es, ep, e, c⟩, r⟩ := x; exact ⟨mA, ⟨od, es, ep, k _ _ (.inl rfl) e, c⟩, r⟩
  | rng lo hi => obtain ⟨t, u, v, e⟩ := x; exact ⟨t, u, v, k _ _ (.inl rfl) e⟩
  | frz ob u ih => obtain ⟨e, q⟩ := x; exact ⟨k _ _ (.inl rfl) e, ih q⟩
  | tbl ps =>
    have e : h.get? a = some { cls := .none, data := .fields ps } := x
    show h'.get? a = some { cls := .none, data := .fields ps }
    exact k a _ (.inl rfl) e
  | met f y =>
    have e : h.get? a = some (PySem.W.methodObj (.ref f) (.ref y)) := x
    show h'.get? a = some (PySem.W.methodObj (.ref f) (.ref y))
    exact k a _ (.inl rfl) e
  | ext φ => obtain ⟨p, ⟨o, e⟩, st⟩ := x; exact ⟨st _ _ p fun o q => k _ _ (.inl rfl) q, ⟨o, k _ _ (.inl rfl) e⟩, st⟩
theorem HOk.lt (x : HOk P w H h) (e : H a = some o) : a < h.objs.size := (x a o e).lt
theorem HOk.fresh (x : HOk P w H h) (e : h.objs.size ≤ a) : H a = none := by
  cases q : H a with
  | none => rfl
  | some u => exact absurd (Nat.lt_of_lt_of_le (x.lt q) e) (Nat.lt_irrefl _)
theorem HOk.kept (x : HOk P w H h) (k : ∀ b u, h.get? b = some u → h'.get? b = some u) : HOk P w H h' := fun a o e =>
  (x a o e).stay (fun b u _ q => k b u q) (fun _ q => q) fun _ _ q => q
theorem HOk.laid (x : HOk P w H h) (k : ∀ b u, h.get? b = some u → h'.get? b = some u) (hp : h.objs.size ≤ a) (new : ObjOk P w (upd H a o) h' a o) : HOk P w (upd H a o) h' := fun b u e => by
  have hn := x.fresh hp
  by_cases hb : b = a
  · subst hb; rw [upd_same] at e; cases e; exact new
  · rw [upd_ne hb] at e
    exact (x b u e).stay (fun c v _ q => k c v q) (fun c q => by rw [upd_ne (ne_of_none q hn)]; exact q) fun c xs q => by rw [upd_ne (ne_of_none q hn)]; exact q
end

def Rd (H : Hp) (a : Addr) (u : HO) : Prop := H a = some u ∨ ∃ o, H a = some (.frz o u)
theorem Rd.ok {P : Program} {w : World} {H : Hp} {h : Heap} {a : Addr} {u : HO} (r : Rd H a u) (x : HOk P w H h) : ObjOk P w H h a u := by
  rcases r with r | ⟨o, r⟩
  · exact x a u r
  · obtain ⟨_, q⟩ := x a _ r
    exact q
def Mut : Option HO → Prop
  | some (.lst _) => True
  | some (.dK _) => True
  | some (.dT _) => True
  | some (.set _ _) => True
  | some (.ins _ _ _) => True
  | some (.ext _) => True
  | _ => False
section
variable {P : Program} {w : World} {H : Hp} {h h' : Heap} {x e : Addr} {o' : HO}
theorem HOk.write (ok : HOk P w H h) (mu : Mut (H x)) (he : e = x ∨ H e = some (.own x)) (k : ∀ b u, b ≠ e → h.get? b = some u → h'.get? b = some u) (heo : ∃ u, h'.get? e = some u)
    (new : ObjOk P w (upd H x o') h' x o') : HOk P w (upd H x o') h' := fun b u q => by
  have nown : ∀ c y, H c = some (.own y) → c ≠ x := fun c y r z => by subst z; rw [r] at mu; exact mu
  have ntup : ∀ c xs, H c = some (.tup xs) → c ≠ x := fun c xs r z => by subst z; rw [r] at mu; exact mu
  by_cases hb : b = x
  · subst hb; rw [upd_same] at q; cases q; exact new
  · rw [upd_ne hb] at q
    by_cases hbe : b = e
    · have q' : H b = some (.own x) := by
        rcases he with z | z
        · exact absurd (hbe.trans z) hb
        · rw [hbe]; exact z
      rw [q] at q'; cases q'
      obtain ⟨v, hv⟩ := heo
      exact ⟨v, by rw [hbe]; exact hv⟩
    · refine (ok b u q).stay (fun c v hc r => k c v ?_ r) (fun c r => by rw [upd_ne (nown c b r)]; exact r) fun c xs r => by rw [upd_ne (ntup c xs r)]; exact r
      rcases hc with rfl | hc
      · exact hbe
      · rintro rfl
        rcases he with z | z
        · exact nown c b hc z
        · rw [hc] at z; cases z; exact hb rfl
end

structure Un (fs ex : List Addr) (H H' : Hp) (h h' : Heap) : Prop where
  keep : ∀ b o, h.get? b = some o → H b = none → b ∉ fs → b ∉ ex → h'.get? b = some o
  slot : ∀ b o, h.get? b = some o → H b = none → b ∈ fs → b ∉ ex → ∃ sl, h'.get? b = some { o with slots := sl }
  free : ∀ b o, h.get? b = some o → H b = none → b ∉ ex → H' b = none
  there : ∀ b o, h.get? b = some o → b ∉ ex → ∃ o', h'.get? b = some o'
  tups : ∀ b xs, H b = some (.tup xs) → H' b = some (.tup xs)
  frzs : ∀ b o u, H b = some (.frz o u) → H' b = some (.frz o u)
  tbls : ∀ b ps, H b = some (.tbl ps) → ∃ more, H' b = some (.tbl (ps ++ more))
section
variable {fs fs' ex ex' : List Addr} {H H1 H2 : Hp} {h h1 h2 h' : Heap} {a x e : Addr} {o : HO}
theorem Un.any (u : Un fs ex H H1 h h1) {b : Addr} {ob : Obj} (q : h.get? b = some ob) (n : H b = none) (hx : b ∉ ex) : ∃ sl, h1.get? b = some { ob with slots := sl } := by
  by_cases hb : b ∈ fs
  · exact u.slot b ob q n hb hx
  · exact ⟨ob.slots, u.keep b ob q n hb hx⟩
theorem Un.kept (k : ∀ b u, h.get? b = some u → h'.get? b = some u) : Un fs ex H H h h' :=
  ⟨fun b ob q _ _ _ => k b ob q, fun b ob q _ _ _ => ⟨ob.slots, k b ob q⟩, fun _ _ _ n _ => n, fun b ob q _ => ⟨ob, k b ob q⟩, fun _ _ q => q, fun _ _ _ q => q, fun _ ps q => ⟨#[], by rw [q]; simp⟩⟩
theorem Un.refl : Un fs ex H H h h := Un.kept fun _ _ q => q
theorem Un.laid (k : ∀ b u, h.get? b = some u → h'.get? b = some u) (hp : h.objs.size ≤ a) (hn : H a = none) : Un fs ex H (upd H a o) h h' where
  keep := fun b u q _ _ _ => k b u q
  slot := fun b u q _ _ _ => ⟨u.slots, k b u q⟩
  free := fun b u q n _ => by rw [upd_ne (Nat.ne_of_lt (Nat.lt_of_lt_of_le (Heap.lt_size q) hp))]; exact n
  there := fun b u q _ => ⟨u, k b u q⟩
  tups := fun b xs q => by rw [upd_ne (ne_of_none q hn)]; exact q
  frzs := fun b u xs q => by rw [upd_ne (ne_of_none q hn)]; exact q
  tbls := fun b ps q => ⟨#[], by rw [upd_ne (ne_of_none q hn), q]; simp⟩
theorem Un.write (mu : Mut (H x)) (he : e = x ∨ H e = some (.own x)) (k : ∀ b u, b ≠ e → h.get? b = some u → h'.get? b = some u) (heo : ∃ u, h'.get? e = some u) : Un fs ex H (upd H x o) h h' := by
  have hx : ∀ b, H b = none → b ≠ x := fun b n z => by subst z; rw [n] at mu; exact mu
  have hb : ∀ b, H b = none → b ≠ e := fun b n z => by
    subst z
    rcases he with r | r
    · exact hx b n r
    · rw [n] at r; cases r
  have hm : ∀ b u, H b = some u → ¬ Mut (some u) → b ≠ x := fun b u q nm z => by subst z; rw [q] at mu; exact nm mu
  refine ⟨fun b u q n _ _ => k b u (hb b n) q, fun b u q n _ _ => ⟨u.slots, k b u (hb b n) q⟩, fun b u q n _ => by rw [upd_ne (hx b n)]; exact n, fun b u q _ => ?_,
    fun b xs q => by rw [upd_ne (hm b _ q fun z => z)]; exact q, fun b u xs q => by rw [upd_ne (hm b _ q fun z => z)]; exact q, fun b ps q => ⟨#[], by rw [upd_ne (hm b _ q fun z => z), q]; simp⟩⟩
  by_cases hbe : b = e
  · subst hbe; exact heo
  · exact ⟨u, k b u hbe q⟩
end

def trk (h : Heap) (H : Hp) : List Addr := (List.range h.objs.size).filter fun a => (H a).isSome
def hidT (h : Heap) (H : Hp) : Heap := PySem.W.hideAll h (trk h H)
theorem hidT_size (h : Heap) (H : Hp) : (hidT h H).objs.size = h.objs.size := PySem.W.hideAll_size _ _
theorem hidT_get {h : Heap} {H : Hp} {b : Addr} {o : Obj} (e : h.get? b = some o) (n : H b = none) : (hidT h H).get? b = some o :=
  PySem.W.hideAll_get _ e fun hm => by
    have q : (H b).isSome = true := (List.mem_filter.mp hm).2
    rw [n] at q; simp at q
theorem of_hidT {h : Heap} {H : Hp} {b : Addr} {o : Obj} (e : (hidT h H).get? b = some o) : h.get? b = some o ∧ H b = none := by
  have e' : h.get? b = some o := PySem.W.of_hideAll (trk h H) e
  refine ⟨e', ?_⟩
  cases q : H b with
  | none => rfl
  | some x =>
    have hm : b ∈ trk h H := List.mem_filter.mpr ⟨List.mem_range.mpr (Heap.lt_size e'), by simp [q]⟩
    have z : (hidT h H).get? b = none := PySem.W.hideAll_none (trk h H) hm
    rw [z] at e; cases e

def allNews (g h : Heap) (L : Addr) : List (Addr × Obj) := (List.range h.objs.size).filterMap fun a => if a = L ∨ (g.get? a).isSome = true then none else (h.get? a).map fun o => (a, o)
def rest (g h : Heap) (L d : Addr) : List (Addr × Obj) := (allNews g h L).filter fun p => decide (p.1 ≠ d)
end L2

namespace L2
open PySem PySem.Spec PyProof.Rows

structure Mod (K : PySem.W.Frag) (mg : Str → Option Value) (base : Heap) : Prop where
  kin : K.In base
  glob : base.Ns mainGlobals mg
  blt : ∃ mb, base.Ns builtinsNs mb ∧ ∀ x : Str, x ≠ "__name__" → mb x = bootBuiltins x
  nolimit : base.NoLimit

structure Cx where
  prog : Program
  w : World
  K : PySem.W.Frag
  mg : Str → Option Value
  base : Heap
  A : Around
  N : List Str
  s₀ : Shared
  H₀ : Hp
  env : Env
  outer : List Env
  stack : List Env
  ex : List Addr
  fn : Str → Bool
  calm : Bool
  pn : List (Addr × Obj)
  xe : Value → Shared → Prop
def frs (l : List Env) : List Addr := l.filterMap (·.frame)
abbrev Cx.fs (X : Cx) : List Addr := frs X.outer

def Vis (sc : Scope) (x : Str) : Prop := sc.names.lookup x = some .local ∨ sc.names.lookup x = some .cell ∨ sc.names.lookup x = some .free
def Loc (sc : Scope) (x : Str) : Prop := sc.names.lookup x = some .local ∨ sc.names.lookup x = some .cell
def Look (env : Env) (h : Heap) (m : Str → Option Value) (x : Str) (u : Value) : Prop :=
  (env.kindOf x = some .local ∧ m x = some u) ∨ ((env.kindOf x = some .cell ∨ env.kindOf x = some .free) ∧ ∃ c, env.cells.lookup x = some c ∧ h.IsCell c (some u))

structure Cx.Ok (X : Cx) : Prop where
  mod : Mod X.K X.mg X.base
  kind : X.env.scope.kind = .function
  glob : X.env.globals = mainGlobals
  blt : X.env.builtins = builtinsNs
  above : X.s₀.heap.objs.size ≤ X.env.locals
  inj : ∀ x y c, X.env.cells.lookup x = some c → X.env.cells.lookup y = some c → x = y
  has : ∀ x, (X.env.kindOf x = some .cell ∨ X.env.kindOf x = some .free) → ∃ c, X.env.cells.lookup x = some c
  cab : ∀ x c, X.fn x = true → X.env.cells.lookup x = some c → X.s₀.heap.objs.size ≤ c
  hd : X.calm = true → X.A.handled = none
  frames : X.A.frames = some X.stack
  stk : X.stack = X.outer ∨ (X.stack = X.env :: X.outer ∧ X.env.frame = some X.env.locals)
  exf : ∀ b ∈ X.ex, b ≠ X.env.locals ∧ ∀ x c, X.env.cells.lookup x = some c → c ≠ b
  bs : ∀ b o, X.base.get? b = some o → X.s₀.heap.get? b = some o ∧ X.H₀ b = none
  bsz : X.base.objs.size ≤ X.s₀.heap.objs.size
  noex : ∀ b o, X.base.get? b = some o → b ∉ X.ex
  exfs : ∀ b ∈ X.ex, b ∉ X.fs
  funs : X.s₀.heap.FunFrames X.base X.outer
  frf : ∀ b ∈ X.fs, X.H₀ b = none

structure Inv (X : Cx) (pins : List (Addr × Obj)) (σ : List (Option V)) (H : Hp) (s : Shared) : Prop where
  ok : X.Ok
  os : s.os = X.s₀.os
  bare : AllBare s.gens
  base : Un X.fs X.ex X.H₀ H X.s₀.heap s.heap
  loc : ∃ m, s.heap.Ns X.env.locals m ∧ ∀ (i : Nat) (x : Str) (v : V), X.N[i]? = some x → σ[i]? = some (some v) → Vis X.env.scope x → ∃ u, RelV v u ∧ Look X.env s.heap m x u
  cell : ∀ x c, X.env.cells.lookup x = some c → ∃ v, s.heap.IsCell c v
  free : H X.env.locals = none
  freeC : ∀ x c, X.env.cells.lookup x = some c → H c = none
  pin : ∀ p ∈ X.pn ++ pins, s.heap.get? p.1 = some p.2 ∧ H p.1 = none ∧ p.1 ≠ X.env.locals ∧ p.1 ∉ X.fs ∧ ∀ v, p.2.data ≠ .cell v
  hok : HOk X.prog X.w H s.heap
  len : σ.length = X.N.length

section
variable {X : Cx} {pins : List (Addr × Obj)} {σ : List (Option V)} {H H' : Hp} {s : Shared} {h' : Heap}

theorem Cx.Ok.nofr (ok : X.Ok) {b : Addr} {o : Obj} (e : X.base.get? b = some o) : b ∉ X.fs := fun hb => by
  have := (ok.funs.mem hb).1
  rw [e] at this; cases this
theorem Inv.bs (I : Inv X pins σ H s) : ∀ b o, X.base.get? b = some o → s.heap.get? b = some o ∧ H b = none := fun b o e =>
  ⟨I.base.keep b o (I.ok.bs b o e).1 (I.ok.bs b o e).2 (I.ok.nofr e) (I.ok.noex b o e), I.base.free b o (I.ok.bs b o e).1 (I.ok.bs b o e).2 (I.ok.noex b o e)⟩
theorem Inv.bk (I : Inv X pins σ H s) : ∀ b o, X.base.get? b = some o → s.heap.get? b = some o := fun b o e => (I.bs b o e).1
theorem Inv.mod (I : Inv X pins σ H s) : Mod X.K X.mg X.base := I.ok.mod
theorem Inv.kIn (I : Inv X pins σ H s) : X.K.In s.heap := I.ok.mod.kin.keeps I.bk
theorem Inv.lt (I : Inv X pins σ H s) : X.env.locals < s.heap.objs.size := let ⟨_, hn, _⟩ := I.loc; hn.lt
theorem Inv.sz (I : Inv X pins σ H s) : X.s₀.heap.objs.size ≤ s.heap.objs.size := Nat.le_trans I.ok.above (Nat.le_of_lt I.lt)
theorem Inv.nofs (I : Inv X pins σ H s) {a : Addr} (h : s.heap.objs.size ≤ a) : a ∉ X.fs := fun hb => by
  obtain ⟨_, o, ho, _⟩ := I.ok.funs.mem hb
  exact absurd (Nat.lt_of_lt_of_le (Heap.lt_size ho) (Nat.le_trans I.sz h)) (Nat.lt_irrefl _)
theorem Inv.cne (I : Inv X pins σ H s) : ∀ x c, X.env.cells.lookup x = some c → c ≠ X.env.locals := fun x c e z => by
  obtain ⟨v, o, ho, hd⟩ := I.cell x c e
  obtain ⟨m, ⟨o', es, ep, ho', hd', _⟩, _⟩ := I.loc
  rw [z, ho'] at ho; cases ho; rw [hd'] at hd; cases hd
theorem Inv.funs (I : Inv X pins σ H s) : s.heap.FunFrames X.base X.outer := by
  have all : ∀ (l : List Env), (∀ b ∈ frs l, b ∈ X.fs) → X.s₀.heap.FunFrames X.base l → s.heap.FunFrames X.base l := by
    intro l
    induction l with
    | nil => intro _ _; trivial
    | cons env r ih =>
      intro hs hl
      obtain ⟨hk, ⟨L, o, hf, hn, ho, hd⟩, hr⟩ := hl
      have hL : L ∈ X.fs := hs L (by unfold frs; rw [List.filterMap_cons, hf]; exact List.mem_cons_self)
      obtain ⟨sl, e⟩ := I.base.slot L o ho (I.ok.frf L hL) hL fun z => I.ok.exfs L z hL
      exact ⟨hk, ⟨L, _, hf, hn, e, hd⟩, ih (fun b hb => hs b (by unfold frs; rw [List.filterMap_cons, hf]; exact List.mem_cons_of_mem _ hb)) hr⟩
  exact all X.outer (fun _ hb => hb) I.ok.funs

theorem Inv.stack (I : Inv X pins σ H s) : s.heap.FunFrames X.base X.stack := by
  rcases I.ok.stk with e | ⟨e, hf⟩
  · rw [e]; exact I.funs
  · rw [e]
    obtain ⟨m, hn, _⟩ := I.loc
    refine .cons (by rw [I.ok.kind]; decide) hf hn ?_ I.funs
    exact Heap.get?_none_of_le (Nat.le_trans I.ok.bsz I.ok.above)
theorem Inv.stkSub (I : Inv X pins σ H s) : ∀ b ∈ frs X.stack, b ∈ X.env.locals :: X.fs := fun b hb => by
  rcases I.ok.stk with e | ⟨e, hf⟩
  · rw [e] at hb; exact List.mem_cons_of_mem _ hb
  · rw [e] at hb
    unfold frs at hb
    rw [List.filterMap_cons, hf] at hb
    exact hb
theorem Inv.stkFree (I : Inv X pins σ H s) : ∀ b ∈ frs X.stack, H b = none := fun b hb => by
  rcases List.mem_cons.mp (I.stkSub b hb) with e | hb
  · rw [e]; exact I.free
  · obtain ⟨_, o, ho, _⟩ := I.ok.funs.mem hb
    exact I.base.free b o ho (I.ok.frf b hb) fun z => I.ok.exfs b z hb

theorem Inv.step {g' : Array GenState} {t' : Nat} {d' : Drawn} {ch : List Addr} (I : Inv X pins σ H s)
    (hch : ∀ b ∈ ch, (b ∈ X.ex ∨ X.s₀.heap.objs.size ≤ b) ∧ b ≠ X.env.locals ∧ (∀ x c, X.env.cells.lookup x = some c → c ≠ b) ∧ ∀ p ∈ X.pn ++ pins, p.1 ≠ b)
    (keep : ∀ b o, b ≠ X.env.locals → b ∉ X.fs → b ∉ ch → s.heap.get? b = some o → H b = none → h'.get? b = some o)
    (slot : ∀ b o, b ≠ X.env.locals → b ∈ X.fs → b ∉ ch → s.heap.get? b = some o → H b = none → ∃ sl, h'.get? b = some { o with slots := sl }) (free : ∀ b o, b ∉ ch → s.heap.get? b = some o → H b = none → H' b = none)
    (there : ∀ b o, b ∉ ch → s.heap.get? b = some o → ∃ o', h'.get? b = some o')
    (tups : ∀ b xs, H b = some (.tup xs) → H' b = some (.tup xs)) (frzs : ∀ b o u, H b = some (.frz o u) → H' b = some (.frz o u)) (tbls : ∀ b ps, H b = some (.tbl ps) → ∃ more, H' b = some (.tbl (ps ++ more)))
    (ns : ∀ m, s.heap.Ns X.env.locals m → h'.Ns X.env.locals m) (hok : HOk X.prog X.w H' h') (hg : AllBare g') :
    Inv X pins σ H' { s with heap := h', gens := g', drawn := d', toks := t' } := by
  have neL : ∀ b o, X.s₀.heap.get? b = some o → b ≠ X.env.locals := fun b o e => Nat.ne_of_lt (Nat.lt_of_lt_of_le (Heap.lt_size e) I.ok.above)
  have neC : ∀ b o, X.s₀.heap.get? b = some o → b ∉ X.ex → b ∉ ch := fun b o e hx hb => by
    rcases (hch b hb).1 with z | z
    · exact hx z
    · exact absurd (Nat.lt_of_lt_of_le (Heap.lt_size e) z) (Nat.lt_irrefl _)
  have cellK : ∀ x c, X.env.cells.lookup x = some c → ∀ v, s.heap.IsCell c v → h'.IsCell c v := fun x c e v ⟨o, ho, hd⟩ => by
    have nch : c ∉ ch := fun z => (hch c z).2.2.1 x c e rfl
    by_cases hc : c ∈ X.fs
    · obtain ⟨sl, q⟩ := slot c o (I.cne x c e) hc nch ho (I.freeC x c e)
      exact ⟨_, q, hd⟩
    · exact ⟨o, keep c o (I.cne x c e) hc nch ho (I.freeC x c e), hd⟩
  refine ⟨I.ok, I.os, hg, ⟨fun b o e n hb hx => ?_, fun b o e n hb hx => ?_, fun b o e n hx => ?_, fun b o e hx => ?_, fun b xs e => tups b xs (I.base.tups b xs e), fun b o xs e => frzs b o xs (I.base.frzs b o xs e), fun b ps e => ?_⟩, ?_, fun x c e => ?_, ?_, fun x c e => ?_, fun p hp => ?_, hok, I.len⟩
  · exact keep b o (neL b o e) hb (neC b o e hx) (I.base.keep b o e n hb hx) (I.base.free b o e n hx)
  · obtain ⟨sl, e1⟩ := I.base.slot b o e n hb hx
    obtain ⟨sl', e2⟩ := slot b _ (neL b o e) hb (neC b o e hx) e1 (I.base.free b o e n hx)
    exact ⟨sl', e2⟩
  · obtain ⟨o', e1⟩ := I.base.there b o e hx
    exact free b o' (neC b o e hx) e1 (I.base.free b o e n hx)
  · obtain ⟨o', e1⟩ := I.base.there b o e hx
    exact there b o' (neC b o e hx) e1
  · obtain ⟨m1, e1⟩ := I.base.tbls b ps e
    obtain ⟨m2, e2⟩ := tbls b _ e1
    exact ⟨m1 ++ m2, by rw [e2, Array.append_assoc]⟩
  · obtain ⟨m, hn, hl⟩ := I.loc
    refine ⟨m, ns m hn, fun i x v e1 e2 e3 => ?_⟩
    obtain ⟨u, r, l⟩ := hl i x v e1 e2 e3
    refine ⟨u, r, ?_⟩
    rcases l with l | ⟨k, c, e, z⟩
    · exact .inl l
    · exact .inr ⟨k, c, e, cellK x c e _ z⟩
  · obtain ⟨v, z⟩ := I.cell x c e
    exact ⟨v, cellK x c e v z⟩
  · obtain ⟨m, ⟨o, _, _, ho, _⟩, _⟩ := I.loc
    exact free _ o (fun z => (hch _ z).2.1 rfl) ho I.free
  · obtain ⟨v, o, ho, hd⟩ := I.cell x c e
    exact free c o (fun z => (hch c z).2.2.1 x c e rfl) ho (I.freeC x c e)
  · obtain ⟨e, n, ne, nf, d⟩ := I.pin p hp
    have nch : p.1 ∉ ch := fun z => (hch p.1 z).2.2.2 p hp rfl
    exact ⟨keep p.1 p.2 ne nf nch e n, free p.1 p.2 nch e n, ne, nf, d⟩
theorem Inv.un {t' : Nat} (I : Inv X pins σ H s) (u : Un X.fs [] H H' s.heap h') (hok : HOk X.prog X.w H' h') : Inv X pins σ H' { s with heap := h', toks := t' } := by
  obtain ⟨m, ⟨o, es, ep, ho, r⟩, _⟩ := id I.loc
  obtain ⟨sl, hL⟩ := u.any ho I.free (by simp)
  exact I.step (g' := s.gens) (d' := s.drawn) (ch := []) (fun _ z => nomatch z) (fun b o _ hb _ e n => u.keep b o e n hb (by simp)) (fun b o _ hb _ e n => u.slot b o e n hb (by simp)) (fun b o _ e n => u.free b o e n (by simp)) (fun b o _ e => u.there b o e (by simp)) u.tups u.frzs u.tbls (fun m' hm => by
    obtain ⟨o', es', ep', ho', r'⟩ := hm
    rw [ho] at ho'; cases ho'
    exact ⟨_, es', ep', hL, r'⟩) hok I.bare
theorem Inv.call {g' : Array GenState} {t' : Nat} {d' : Drawn} {ch : List Addr} (I : Inv X pins σ H s) (u : Un (frs X.stack) ch H H' s.heap h') (hok : HOk X.prog X.w H' h') (hg : AllBare g')
    (hch : ∀ b ∈ ch, (b ∈ X.ex ∨ X.s₀.heap.objs.size ≤ b) ∧ b ≠ X.env.locals ∧ (∀ x c, X.env.cells.lookup x = some c → c ≠ b) ∧ ∀ p ∈ X.pn ++ pins, p.1 ≠ b) :
    Inv X pins σ H' { s with heap := h', gens := g', drawn := d', toks := t' } := by
  obtain ⟨m, ⟨o, es, ep, ho, r⟩, _⟩ := id I.loc
  obtain ⟨sl, hL⟩ := u.any ho I.free fun z => (hch _ z).2.1 rfl
  exact I.step (ch := ch) hch (fun b o hL hb hc e n => u.keep b o e n (fun z => (List.mem_cons.mp (I.stkSub b z)).elim hL hb) hc) (fun b o _ _ hc e n => u.any e n hc) (fun b o hc e n => u.free b o e n hc) (fun b o hc e => u.there b o e hc) u.tups u.frzs u.tbls (fun m' hm => by
    obtain ⟨o', es', ep', ho', r'⟩ := hm
    rw [ho] at ho'; cases ho'
    exact ⟨_, es', ep', hL, r'⟩) hok hg
theorem Inv.turned {t' : Nat} {it : Addr} (I : Inv X pins σ H s) (k : ∀ b o, b ≠ it → s.heap.get? b = some o → h'.get? b = some o) (hn : H it = none) (hL : it ≠ X.env.locals)
    (h1 : it ∈ X.ex ∨ X.s₀.heap.objs.size ≤ it) (h2 : ∀ x c, X.env.cells.lookup x = some c → c ≠ it) (h3 : ∀ p ∈ X.pn ++ pins, p.1 ≠ it) : Inv X pins σ H { s with heap := h', toks := t' } := by
  have nit : ∀ b u, H b = some u → b ≠ it := fun b u e z => by rw [z, hn] at e; cases e
  refine I.step (g' := s.gens) (d' := s.drawn) (ch := [it]) (fun b hb => ?_) (fun b o _ _ hc e _ => k b o (fun z => hc (by simp [z])) e) (fun b o _ _ hc e _ => ⟨o.slots, k b o (fun z => hc (by simp [z])) e⟩) (fun _ _ _ _ n => n)
    (fun b o hc e => ⟨o, k b o (fun z => hc (by simp [z])) e⟩) (fun _ _ e => e) (fun _ _ _ e => e) (fun b ps e => ⟨#[], by rw [e]; simp⟩) (fun m hm => ?_) (fun b u e => ?_) I.bare
  · have e : b = it := by simpa using hb
    subst e
    exact ⟨h1, hL, h2, h3⟩
  · obtain ⟨o, es, ep, ho, r⟩ := hm
    exact ⟨o, es, ep, k _ o (Ne.symm hL) ho, r⟩
  · refine (I.hok b u e).stay (fun c v hc q => k c v ?_ q) (fun _ q => q) fun _ _ q => q
    rcases hc with z | z
    · rw [z]; exact nit b u e
    · exact nit c _ z
theorem Inv.tok (I : Inv X pins σ H s) (t : Nat) : Inv X pins σ H { s with toks := t } := I.un (h' := s.heap) (t' := t) Un.refl I.hok
theorem Inv.kept {t' : Nat} (I : Inv X pins σ H s) (k : ∀ b u, s.heap.get? b = some u → h'.get? b = some u) : Inv X pins σ H { s with heap := h', toks := t' } := I.un (Un.kept k) (I.hok.kept k)
theorem Inv.laid {a : Addr} {o : HO} {t' : Nat} (I : Inv X pins σ H s) (k : ∀ b u, s.heap.get? b = some u → h'.get? b = some u) (hp : s.heap.objs.size ≤ a) (new : ObjOk X.prog X.w (upd H a o) h' a o) :
    Inv X pins σ (upd H a o) { s with heap := h', toks := t' } := I.un (Un.laid k hp (I.hok.fresh hp)) (I.hok.laid k hp new)
theorem Inv.write {x e : Addr} {o : HO} {t' : Nat} (I : Inv X pins σ H s) (mu : Mut (H x)) (he : e = x ∨ H e = some (.own x)) (k : ∀ b u, b ≠ e → s.heap.get? b = some u → h'.get? b = some u) (heo : ∃ u, h'.get? e = some u)
    (new : ObjOk X.prog X.w (upd H x o) h' x o) : Inv X pins σ (upd H x o) { s with heap := h', toks := t' } := I.un (Un.write mu he k heo) (I.hok.write mu he k heo new)
theorem Inv.weak {σ' : List (Option V)} (I : Inv X pins σ H s) (hl : σ'.length = σ.length) (w : ∀ (i : Nat) v, σ'[i]? = some (some v) → σ[i]? = some (some v)) : Inv X pins σ' H s :=
  ⟨I.ok, I.os, I.bare, I.base, let ⟨m, hn, hl'⟩ := I.loc; ⟨m, hn, fun i x v e1 e2 e3 => hl' i x v e1 (w i v e2) e3⟩, I.cell, I.free, I.freeC, I.pin, I.hok, hl.trans I.len⟩
theorem Inv.pins_of {pins' : List (Addr × Obj)} (I : Inv X pins σ H s) (h : ∀ p ∈ pins', s.heap.get? p.1 = some p.2 ∧ H p.1 = none ∧ p.1 ≠ X.env.locals ∧ p.1 ∉ X.fs ∧ ∀ v, p.2.data ≠ .cell v) : Inv X pins' σ H s :=
  ⟨I.ok, I.os, I.bare, I.base, I.loc, I.cell, I.free, I.freeC, fun p hp => (List.mem_append.mp hp).elim (fun z => I.pin p (List.mem_append_left _ z)) (h p), I.hok, I.len⟩

theorem nodup_ix {N : List Str} (hN : N.Nodup) {i j : Nat} {x : Str} (a : N[i]? = some x) (b : N[j]? = some x) : i = j := by
  obtain ⟨h1, e1⟩ := List.getElem?_eq_some_iff.mp a
  obtain ⟨h2, e2⟩ := List.getElem?_eq_some_iff.mp b
  exact (List.getElem_inj hN).mp (e1.trans e2.symm)

theorem store_ok2 {M : Model} {A : Around} {E : Value → Shared → Prop} {i : Nat} {x : Str} {v : V} {u : Value} {Q : Unit → Shared → Prop} (I : Inv X pins σ H s) (hN : X.N.Nodup) (hi : X.N[i]? = some x) (hx : Loc X.env.scope x) (r : RelV v u)
    (h : ∀ s', Inv X pins (σ.set i (some v)) H s' → (∃ a, Heap.SameBut a s.heap s'.heap ∧ (a = X.env.locals ∨ X.env.cells.lookup x = some a)) → Q () s') (hf : X.fn x = true ∨ X.env.scope.names.lookup x = some .local := by first | exact .inl rfl | exact .inr rfl | assumption) : wpAny M A (storeName X.env x u) Q E s := by
  obtain ⟨m, hn, hl⟩ := id I.loc
  have hcls : (X.env.scope.kind == .class || (X.env.scope.kind == .module && X.env.locals != X.env.globals)) = false := by rw [I.ok.kind]; rfl
  have hiσ : i < σ.length := by rw [I.len]; exact (List.getElem?_eq_some_iff.mp hi).1
  have cne := I.cne
  have tracked : ∀ {a : Addr} {h' : Heap}, (∃ o, s.heap.get? a = some o ∧ H a = none) → Heap.SameBut a s.heap h' → HOk X.prog X.w H h' := fun {a h'} ha hs b ob e => by
    obtain ⟨_, _, hfree⟩ := ha
    refine (I.hok b ob e).stay (fun c w' hc q => (hs.2 c ?_).trans q) (fun _ q => q) fun _ _ q => q
    rintro rfl
    rcases hc with rfl | hc
    · rw [hfree] at e; cases e
    · rw [hfree] at hc; cases hc
  rcases hx with hk | hk
  · refine wpAny_storeName_local hk hn (fun h' hn' hs => ?_) hcls
    obtain ⟨oL, _, _, hoL, _⟩ := id hn
    refine h _ ⟨I.ok, I.os, I.bare, ⟨fun b o e n hb hx => ?_, fun b o e n hb hx => ?_, I.base.free, fun b o e hx => ?_, I.base.tups, I.base.frzs, I.base.tbls⟩, ⟨_, hn', fun j y v' e1 e2 e3 => ?_⟩, fun y c e => ?_, I.free, I.freeC, fun p hp => ?_, tracked ⟨oL, hoL, I.free⟩ hs, by simpa using I.len⟩ ⟨_, hs, .inl rfl⟩
    · exact (hs.2 b (Nat.ne_of_lt (Nat.lt_of_lt_of_le (Heap.lt_size e) I.ok.above))).trans (I.base.keep b o e n hb hx)
    · obtain ⟨sl, e1⟩ := I.base.slot b o e n hb hx
      exact ⟨sl, (hs.2 b (Nat.ne_of_lt (Nat.lt_of_lt_of_le (Heap.lt_size e) I.ok.above))).trans e1⟩
    · obtain ⟨o', e1⟩ := I.base.there b o e hx
      exact ⟨o', (hs.2 b (Nat.ne_of_lt (Nat.lt_of_lt_of_le (Heap.lt_size e) I.ok.above))).trans e1⟩
    · by_cases hj : j = i
      · subst hj
        rw [hi] at e1; cases e1
        rw [List.getElem?_set_self hiσ] at e2
        cases e2
        exact ⟨u, r, .inl ⟨hk, by simp⟩⟩
      · rw [List.getElem?_set_ne (Ne.symm hj)] at e2
        obtain ⟨u', r', q⟩ := hl j y v' e1 e2 e3
        refine ⟨u', r', ?_⟩
        rcases q with ⟨k, e⟩ | ⟨k, c, e, z⟩
        · refine .inl ⟨k, ?_⟩
          have : y ≠ x := fun e => hj (nodup_ix hN e1 (e ▸ hi))
          simp [this, e]
        · exact .inr ⟨k, c, e, z.sameBut hs (cne y c e)⟩
    · obtain ⟨w', z⟩ := I.cell y c e
      exact ⟨w', z.sameBut hs (cne y c e)⟩
    · obtain ⟨e, n, ne, nf, d⟩ := I.pin p hp
      exact ⟨(hs.2 p.1 ne).trans e, n, ne, nf, d⟩
  · have hfn : X.fn x = true := by
      rcases hf with z | z
      · exact z
      · rw [z] at hk; cases hk
    obtain ⟨c, hc⟩ := I.ok.has x (.inl hk)
    obtain ⟨w', z⟩ := I.cell x c hc
    refine wpAny_storeName_cell I.ok.kind hk hc z (fun h' hc' hs => ?_)
    obtain ⟨oc, hoc, hocd⟩ := id z
    refine h { s with heap := h' } ⟨I.ok, I.os, I.bare, ⟨fun b o e n hb hx => ?_, fun b o e n hb hx => ?_, I.base.free, fun b o e hx => ?_, I.base.tups, I.base.frzs, I.base.tbls⟩, ⟨m, hn.sameBut hs (Ne.symm (cne x c hc)), fun j y v' e1 e2 e3 => ?_⟩, fun y c' e => ?_, I.free, I.freeC, fun p hp => ?_, tracked ⟨oc, hoc, I.freeC x c hc⟩ hs, by simpa using I.len⟩ ⟨c, hs, .inr hc⟩
    · exact (hs.2 b (Nat.ne_of_lt (Nat.lt_of_lt_of_le (Heap.lt_size e) (I.ok.cab x c hfn hc)))).trans (I.base.keep b o e n hb hx)
    · obtain ⟨sl, e1⟩ := I.base.slot b o e n hb hx
      exact ⟨sl, (hs.2 b (Nat.ne_of_lt (Nat.lt_of_lt_of_le (Heap.lt_size e) (I.ok.cab x c hfn hc)))).trans e1⟩
    · obtain ⟨o', e1⟩ := I.base.there b o e hx
      exact ⟨o', (hs.2 b (Nat.ne_of_lt (Nat.lt_of_lt_of_le (Heap.lt_size e) (I.ok.cab x c hfn hc)))).trans e1⟩
    · by_cases hj : j = i
      · subst hj
        rw [hi] at e1; cases e1
        rw [List.getElem?_set_self hiσ] at e2
        cases e2
        exact ⟨u, r, .inr ⟨.inl hk, c, hc, hc'⟩⟩
      · rw [List.getElem?_set_ne (Ne.symm hj)] at e2
        obtain ⟨u', r', q⟩ := hl j y v' e1 e2 e3
        refine ⟨u', r', ?_⟩
        rcases q with q | ⟨k, c', e, z'⟩
        · exact .inl q
        · refine .inr ⟨k, c', e, z'.sameBut hs ?_⟩
          rintro rfl
          exact hj (nodup_ix hN e1 (I.ok.inj _ _ _ e hc ▸ hi))
    · by_cases hcc : c' = c
      · subst hcc; exact ⟨_, hc'⟩
      · obtain ⟨w2, z2⟩ := I.cell y c' e
        exact ⟨w2, z2.sameBut hs hcc⟩
    · obtain ⟨e, n, ne, nf, d⟩ := I.pin p hp
      refine ⟨(hs.2 p.1 ?_).trans e, n, ne, nf, d⟩
      intro q
      rw [q, hoc] at e
      have q' : oc = p.2 := Option.some.inj e
      exact d w' (by rw [← q']; exact hocd)
theorem store_ok {M : Model} {A : Around} {E : Value → Shared → Prop} {i : Nat} {x : Str} {v : V} {u : Value} {Q : Unit → Shared → Prop} (I : Inv X pins σ H s) (hN : X.N.Nodup) (hi : X.N[i]? = some x) (hx : Loc X.env.scope x) (r : RelV v u)
    (h : ∀ s', Inv X pins (σ.set i (some v)) H s' → Q () s') (hf : X.fn x = true ∨ X.env.scope.names.lookup x = some .local := by first | exact .inl rfl | exact .inr rfl | assumption) : wpAny M A (storeName X.env x u) Q E s :=
  store_ok2 I hN hi hx r (fun s' I' _ => h s' I') hf
theorem Inv.call' {s' : Shared} {ch : List Addr} (I : Inv X pins σ H s) (ho : s'.os = s.os) (u : Un (frs X.stack) ch H H' s.heap s'.heap) (hok : HOk X.prog X.w H' s'.heap) (hg : AllBare s'.gens)
    (hch : ∀ b ∈ ch, (b ∈ X.ex ∨ X.s₀.heap.objs.size ≤ b) ∧ b ≠ X.env.locals ∧ (∀ x c, X.env.cells.lookup x = some c → c ≠ b) ∧ ∀ p ∈ X.pn ++ pins, p.1 ≠ b) : Inv X pins σ H' s' := by
  obtain ⟨h', g', d', t', o'⟩ := s'
  have e : o' = s.os := ho
  subst e
  exact I.call (g' := g') (t' := t') (d' := d') u hok hg hch
end

abbrev XK := Value → Option Addr → Hp → Prop
abbrev St := List (Option V)
abbrev VK := V → Hp → Prop
abbrev TE := St → Hp → VK → Prop
abbrev TT := St → Hp → (Bool → Hp → Prop) → Prop
abbrev TA := St → Hp → (List V → Hp → Prop) → Prop
structure Ends where
  nx : St → Hp → Prop
  rt : VK
  bk : St → Hp → Prop := fun _ _ => False
  ct : St → Hp → Prop := fun _ _ => False
abbrev TS := Ends → St → Hp → Prop

def EP (X : Cx) (pins : List (Addr × Obj)) (σ : St) (Q : VK) (u : Value) (s' : Shared) : Prop := ∃ v H', Inv X pins σ H' s' ∧ RelV v u ∧ Q v H'
def TP (X : Cx) (pins : List (Addr × Obj)) (σ : St) (Q : Bool → Hp → Prop) (b : Bool) (s' : Shared) : Prop := ∃ H', Inv X pins σ H' s' ∧ Q b H'
def AP (X : Cx) (pins : List (Addr × Obj)) (σ : St) (Q : List V → Hp → Prop) (us : List Value) (s' : Shared) : Prop := ∃ vs H', Inv X pins σ H' s' ∧ Vals vs us ∧ Q vs H'
def SP (X : Cx) (pins : List (Addr × Obj)) (D : Ends) (f : Flow) (s' : Shared) : Prop :=
  match f with
  | .next => ∃ σ' H', Inv X pins σ' H' s' ∧ D.nx σ' H'
  | .brk => ∃ σ' H', Inv X pins σ' H' s' ∧ D.bk σ' H'
  | .cont => ∃ σ' H', Inv X pins σ' H' s' ∧ D.ct σ' H'
  | .ret u => ∃ v σ' H', Inv X pins σ' H' s' ∧ RelV v u ∧ D.rt v H'

def PE (X : Cx) (e : Expr) (t : TE) : Prop :=
  ∀ (pins : List (Addr × Obj)) (s : Shared) (σ : St) (H : Hp) (Q : VK), Inv X pins σ H s → t σ H Q → wpAny (model X.prog X.w) X.A (eval e X.env) (EP X pins σ Q) X.xe s
def PT (X : Cx) (e : Expr) (t : TT) : Prop :=
  ∀ (pins : List (Addr × Obj)) (s : Shared) (σ : St) (H : Hp) (Q : Bool → Hp → Prop), Inv X pins σ H s → t σ H Q → wpAny (model X.prog X.w) X.A (isTrue e X.env (eval e X.env)) (TP X pins σ Q) X.xe s
def PW (X : Cx) (e : Expr) (t : TT) : Prop :=
  ∀ (whole : Sem Value) (pins : List (Addr × Obj)) (s : Shared) (σ : St) (H : Hp) (Q : Bool → Hp → Prop), Inv X pins σ H s → t σ H Q → wpAny (model X.prog X.w) X.A (isTrue e X.env whole) (TP X pins σ Q) X.xe s
theorem PW.pt {X : Cx} {e : Expr} {t : TT} (h : PW X e t) : PT X e t := h _
def PA (X : Cx) (es : List Expr) (t : TA) : Prop :=
  ∀ (pos : Pos) (pins : List (Addr × Obj)) (s : Shared) (σ : St) (H : Hp) (Q : List V → Hp → Prop), Inv X pins σ H s → t σ H Q → wpAny (model X.prog X.w) X.A (spliced (backTo pos (starEach es X.env))) (AP X pins σ Q) X.xe s
def PS (X : Cx) (st : Stmt) (t : TS) : Prop :=
  ∀ (pins : List (Addr × Obj)) (s : Shared) (σ : St) (H : Hp) (D : Ends), Inv X pins σ H s → t D σ H → wpAny (model X.prog X.w) X.A (exec st X.env) (SP X pins D) X.xe s
def PSs (X : Cx) (st : List Stmt) (t : TS) : Prop :=
  ∀ (pins : List (Addr × Obj)) (s : Shared) (σ : St) (H : Hp) (D : Ends), Inv X pins σ H s → t D σ H → wpAny (model X.prog X.w) X.A (execs st X.env) (SP X pins D) X.xe s
theorem thn {α : Type} {t : Sem α} {Q Q' : α → Shared → Prop} {M : Model} {A : Around} {E : Value → Shared → Prop} {s : Shared} (h : wpAny M A t Q E s) (hQ : ∀ a s, Q a s → Q' a s) : wpAny M A t Q' E s := wpAny_mono h hQ fun _ _ x => x
end L2

namespace L2
open PySem PySem.Spec PyProof.Rows
section
variable {X : Cx}

def tVar (i : Nat) : TE := fun σ H Q => ∃ v, σ[i]? = some (some v) ∧ Q v H
def tC (v : V) : TE := fun _ H Q => Q v H
theorem pe_var {i : Nat} {x : Str} {pos : Pos} (hN : X.N[i]? = some x) (hv : Vis X.env.scope x) (hd : (x == ("__debug__" : Str)) = false := by decide) (hcd : (x == ("__classdict__" : Str)) = false := by decide) : PE X (.Name x pos) (tVar i) := by
  intro pins s σ H Q I h
  obtain ⟨v, e, h⟩ := h
  obtain ⟨m, hn, hl⟩ := I.loc
  obtain ⟨u, r, l⟩ := hl i x v hN e hv
  have fin : EP X pins σ Q u s := ⟨v, H, I, r, h⟩
  rcases l with ⟨hk, hm⟩ | ⟨hk, c, hc, hcell⟩
  · exact wpAny_Name (wpAny_loadName_local I.ok.kind hk hn hm fin) hd
  · rcases hk with hk | hk
    · exact wpAny_Name (wpAny_loadName_cell I.ok.kind hk hc hcell fin) hd
    · exact wpAny_Name (wpAny_loadName_free I.ok.kind hk hc hcell fin hcd) hd
theorem pe_int {i j pos} : PE X (.Constant (.int i) j pos) (tC (.int i)) := fun _ _ _ H _ I h => wpAny_Constant_int ⟨.int i, H, I.tok _, ⟨_, rfl⟩, h⟩
theorem pe_bl {b j pos} : PE X (.Constant (.bool b) j pos) (tC (.bl b)) := fun _ _ _ H _ I h => Constant_bool ⟨.bl b, H, I, rfl, h⟩
def Gl (X : Cx) (x : Str) : Prop := X.env.kindOf x = some .globalImplicit
theorem ld_glob {E : Value → Shared → Prop} {pins : List (Addr × Obj)} {s : Shared} {σ : St} {H : Hp} {x : Str} {u : Value} {pos : Pos} {Q : Value → Shared → Prop} (I : Inv X pins σ H s) (hg : Gl X x) (hm : X.mg x = some u) (h : Q u s)
    (hd : (x == ("__debug__" : Str)) = false := by decide) : wpAny (model X.prog X.w) X.A (eval (.Name x pos) X.env) Q E s :=
  Calls.Name_function_global I.ok.kind hg (Calls.loadGlobal_global (by rw [I.ok.glob]; exact I.mod.glob.keeps I.bk) hm h) hd
theorem ld_blt {E : Value → Shared → Prop} {pins : List (Addr × Obj)} {s : Shared} {σ : St} {H : Hp} {x : Str} {u : Value} {pos : Pos} {Q : Value → Shared → Prop} (I : Inv X pins σ H s) (hg : Gl X x) (hm : X.mg x = none) (hv : bootBuiltins x = some u) (h : Q u s)
    (hn : x ≠ "__name__" := by decide) (hd : (x == ("__debug__" : Str)) = false := by decide) : wpAny (model X.prog X.w) X.A (eval (.Name x pos) X.env) Q E s := by
  obtain ⟨mb, h1, h2⟩ := I.mod.blt
  exact Calls.Name_function_global I.ok.kind hg (Calls.loadGlobal_builtin (by rw [I.ok.glob]; exact I.mod.glob.keeps I.bk) hm (by rw [I.ok.blt]; exact h1.keeps I.bk) ((h2 x hn).trans hv) h) hd
theorem pe_bltn {x : Str} {v : V} {u : Value} {pos : Pos} (hg : Gl X x) (hm : X.mg x = none) (hv : bootBuiltins x = some u) (r : RelV v u) (hn : x ≠ "__name__" := by decide) (hd : (x == ("__debug__" : Str)) = false := by decide) : PE X (.Name x pos) (tC v) :=
  fun _ _ _ H _ I h => ld_blt I hg hm hv ⟨v, H, I, r, h⟩ hn hd

def t2I (ta tb : TE) (k : Int → Int → Hp → Prop) : St → Hp → Prop := fun σ H => ta σ H fun x H1 => tb σ H1 fun y H2 => ∃ i j, x = .int i ∧ y = .int j ∧ k i j H2
def tAdd (ta tb : TE) : TE := fun σ H Q => t2I ta tb (fun i j H2 => Q (.int (i + j)) H2) σ H
def tSub (ta tb : TE) : TE := fun σ H Q => t2I ta tb (fun i j H2 => Q (.int (i - j)) H2) σ H
def tMul (ta tb : TE) : TE := fun σ H Q => t2I ta tb (fun i j H2 => (-(2 ^ 64) < i ∧ i < 2 ^ 64) ∧ Q (.int (i * j)) H2) σ H
variable {a b : Expr} {ta tb : TE} {pos : Pos}
def PC (X : Cx) (op : CmpOp) (a b : Expr) (t : TE) : Prop :=
  ∀ (pins : List (Addr × Obj)) (s : Shared) (σ : St) (H : Hp) (Q : VK), Inv X pins σ H s → t σ H Q →
    wpAny (model X.prog X.w) X.A (eval a X.env) (fun v s₁ => wpAny (model X.prog X.w) X.A (eval b X.env) (fun u s₂ => wpAny (model X.prog X.w) X.A (compareOp op v u) (EP X pins σ Q) X.xe s₂) X.xe s₁) X.xe s
def tCmp (p : Int → Int → Bool) (ta tb : TE) : TE := fun σ H Q => t2I ta tb (fun i j H2 => Q (.bl (p i j)) H2) σ H
abbrev tLt : TE → TE → TE := tCmp fun i j => decide (i < j)
abbrev tLe : TE → TE → TE := tCmp fun i j => decide (i ≤ j)
abbrev tGt : TE → TE → TE := tCmp fun i j => decide (j < i)
abbrev tGe : TE → TE → TE := tCmp fun i j => decide (j ≤ i)
abbrev tEqI : TE → TE → TE := tCmp fun i j => decide (i = j)
abbrev tNeI : TE → TE → TE := tCmp fun i j => !decide (i = j)
def tIsN (ta : TE) : TE := fun σ H Q => ta σ H fun x H1 => Q (.bl (decide (x = .non))) H1
def tNotN (ta : TE) : TE := fun σ H Q => ta σ H fun x H1 => Q (.bl (!decide (x = .non))) H1
def tB (t : TE) : TT := fun σ H Q => t σ H fun x H1 => ∃ c, x = .bl c ∧ Q c H1
theorem pt_val {e : Expr} {t : TE} (h : PE X e t) (he : ∀ whole, isTrue e X.env whole = (do let v ← whole; standAt e.pos; holding [v] (truthy v)) := by intro _; rfl) : PT X e (tB t) := by
  intro pins s σ H Q I hw
  refine isTrue_plain (thn (h pins s σ H _ I hw) fun v s1 ⟨x, H1, I1, r1, q1⟩ => ?_) (he _)
  obtain ⟨d, rfl, q⟩ := q1
  cases r1
  exact wpAny_truthy_bool ⟨H1, I1, q⟩

variable {tA tB' : TT} {rest : List Expr}
def tAnd (t u : TT) : TT := fun σ H Q => t σ H fun c H1 => if c = true then u σ H1 Q else Q false H1
def tOr (t u : TT) : TT := fun σ H Q => t σ H fun c H1 => if c = true then Q true H1 else u σ H1 Q
def tNot (t : TT) : TT := fun σ H Q => t σ H fun c H1 => Q (!c) H1
theorem pw_and1 (ha : PT X a tA) : PW X (.BoolOp .And [a] pos) tA := by
  intro wh pins s σ H Q I h
  refine isTrue_and (thn (ha pins s σ H Q I h) fun c s1 e => ?_)
  cases c with
  | true => exact isTrue_and_nil e
  | false => exact e
theorem pw_or1 (ha : PT X a tA) : PW X (.BoolOp .Or [a] pos) tA := by
  intro wh pins s σ H Q I h
  refine isTrue_or (thn (ha pins s σ H Q I h) fun c s1 e => ?_)
  cases c with
  | false => exact isTrue_or_nil e
  | true => exact e
theorem pw_and (ha : PT X a tA) (hb : PW X (.BoolOp .And (b :: rest) pos) tB') : PW X (.BoolOp .And (a :: b :: rest) pos) (tAnd tA tB') := by
  intro wh pins s σ H Q I h
  refine isTrue_and (thn (ha pins s σ H _ I h) fun c s1 ⟨H1, I1, q1⟩ => ?_)
  cases c with
  | true => exact hb wh pins s1 σ H1 Q I1 q1
  | false => exact ⟨H1, I1, q1⟩
theorem pw_or (ha : PT X a tA) (hb : PW X (.BoolOp .Or (b :: rest) pos) tB') : PW X (.BoolOp .Or (a :: b :: rest) pos) (tOr tA tB') := by
  intro wh pins s σ H Q I h
  refine isTrue_or (thn (ha pins s σ H _ I h) fun c s1 ⟨H1, I1, q1⟩ => ?_)
  cases c with
  | true => exact ⟨H1, I1, q1⟩
  | false => exact hb wh pins s1 σ H1 Q I1 q1
theorem pt_not (ha : PT X a tA) : PT X (.UnaryOp .Not a pos) (tNot tA) := by
  intro pins s σ H Q I h
  exact isTrue_not (ha pins s σ H (fun c H1 => Q (!c) H1) I h)
def tAndV (ta tb : TE) : TE := fun σ H Q => ta σ H fun x H1 => ∃ c, x = .bl c ∧ if c = true then tb σ H1 Q else Q (.bl false) H1
def tOrV (ta tb : TE) : TE := fun σ H Q => ta σ H fun x H1 => ∃ c, x = .bl c ∧ if c = true then Q (.bl true) H1 else tb σ H1 Q
def tNotV (ta : TE) : TE := fun σ H Q => ta σ H fun x H1 => ∃ c, x = .bl c ∧ Q (.bl (!c)) H1
theorem pe_one {op} {t : TE} (h : PE X a t) : PE X (.BoolOp op [a] pos) t := fun pins s σ H Q I hw => BoolOp_one (h pins s σ H Q I hw)
theorem pe_and (ha : PE X a ta) (hb : PE X (.BoolOp .And (b :: rest) pos) tb) : PE X (.BoolOp .And (a :: b :: rest) pos) (tAndV ta tb) := by
  intro pins s σ H Q I h
  refine BoolOp_and (thn (ha pins s σ H _ I h) fun v s1 ⟨x, H1, I1, r1, q1⟩ => ?_)
  obtain ⟨c, rfl, q1⟩ := q1
  cases r1
  refine wpAny_truthy_bool ?_
  cases c with
  | true => exact hb pins s1 σ H1 Q I1 q1
  | false => exact ⟨.bl false, H1, I1, rfl, q1⟩
theorem pe_not (ha : PE X a ta) : PE X (.UnaryOp .Not a pos) (tNotV ta) := by
  intro pins s σ H Q I h
  refine UnaryOp_ (thn (ha pins s σ H _ I h) fun v s1 ⟨x, H1, I1, r1, q1⟩ => ?_)
  obtain ⟨c, rfl, q1⟩ := q1
  cases r1
  exact not_of (wpAny_truthy_bool ⟨.bl (!c), H1, I1, rfl, q1⟩)
def tIf (t : TT) (ta tb : TE) : TE := fun σ H Q => t σ H fun c H1 => if c = true then ta σ H1 Q else tb σ H1 Q
theorem pe_ifExp {c : Expr} (hc : PT X c tA) (ha : PE X a ta) (hb : PE X b tb) : PE X (.IfExp c a b pos) (tIf tA ta tb) := by
  intro pins s σ H Q I h
  refine wpAny_IfExp (thn (hc pins s σ H _ I h) fun d s1 ⟨H1, I1, q1⟩ => ?_)
  cases d with
  | true => exact ha pins s1 σ H1 Q I1 q1
  | false => exact hb pins s1 σ H1 Q I1 q1
end
end L2

namespace L2
open PySem PySem.Spec PyProof.Rows

def SqL (K : PySem.W.Frag) (H : Hp) (a : Addr) (xs : List V) : Prop :=
  Rd H a (.lst xs) ∨
    ∃ (o : Obj) (its : Array Value) (n : Nat), K.lookup a = some o ∧ o.cls = .type "list" ∧ o.dict = none ∧ o.data = .seq its n ∧ its.size ≤ sizeLine ∧ Vals xs its.toList
def SqT (K : PySem.W.Frag) (H : Hp) (a : Addr) (xs : List V) : Prop :=
  Rd H a (.tup xs) ∨
    ∃ (o : Obj) (its : Array Value) (n : Nat), K.lookup a = some o ∧ o.cls = .type "tuple" ∧ o.data = .seq its n ∧ its.size ≤ sizeLine ∧ Vals xs its.toList
def absV : Value → Option V
  | .none => some .non
  | .bool b => some (.bl b)
  | .int i _ => some (.int i)
  | .str x _ => some (.str x)
  | .bytes b _ => some (.byt b)
  | .float b _ => some (.flt b)
  | .ref a => some (.ref a)
  | .type n => some (.ty n)
  | _ => none
theorem RelV.abs {x : V} {u : Value} (r : RelV x u) : absV u = some x := by
  cases x with
  | non => cases r; rfl
  | bl _ => cases r; rfl
  | int _ => obtain ⟨t, rfl⟩ := r; rfl
  | str _ => obtain ⟨t, rfl⟩ := r; rfl
  | byt _ => obtain ⟨t, rfl⟩ := r; rfl
  | flt _ => obtain ⟨t, rfl⟩ := r; rfl
  | ref _ => cases r; rfl
  | ty _ => cases r; rfl
theorem RelV.inj {x y : V} {u : Value} (r : RelV x u) (q : RelV y u) : x = y := Option.some.inj (r.abs.symm.trans q.abs)
theorem Vals.inj : ∀ {xs ys : List V} {us : List Value}, Vals xs us → Vals ys us → xs = ys
  | _, _, _, .nil, .nil => rfl
  | _, _, _, .cons r t, .cons r' t' => by rw [r.inj r', Vals.inj t t']
section
variable {X : Cx} {pins : List (Addr × Obj)} {σ : St} {H : Hp} {s : Shared} {a : Addr} {xs ys : List V}
theorem SqL.of {K : PySem.W.Frag} (h : H a = some (.lst xs)) : SqL K H a xs := .inl (.inl h)
theorem SqT.of {K : PySem.W.Frag} (h : H a = some (.tup xs)) : SqT K H a xs := .inl (.inl h)
theorem Inv.list (I : Inv X pins σ H s) (h : SqL X.K H a xs) : ∃ its : List Value, Vals xs its ∧ PlainL s.heap a its.toArray ∧ xs.length ≤ sizeLine := by
  rcases h with h | ⟨o, its, n, hk, hc, hd, hs, hz, r⟩
  · obtain ⟨z, its, n, r, e⟩ := h.ok I.hok
    exact ⟨its, r, ⟨_, n, e, rfl, rfl, rfl⟩, z⟩
  · refine ⟨its.toList, r, ⟨o, n, I.kIn a o hk, hc, hd, by simpa using hs⟩, ?_⟩
    have e := r.length
    simp only [Array.length_toList] at e
    omega
theorem Inv.tuple (I : Inv X pins σ H s) (h : SqT X.K H a xs) : ∃ its : List Value, Vals xs its ∧ IsTup s.heap a its.toArray ∧ xs.length ≤ sizeLine := by
  rcases h with h | ⟨o, its, n, hk, hc, hs, hz, r⟩
  · obtain ⟨z, its, r, p⟩ := h.ok I.hok
    exact ⟨its, r, p.tup, z⟩
  · refine ⟨its.toList, r, ⟨o, I.kIn a o hk, hc, n, by simpa using hs⟩, ?_⟩
    have e := r.length
    simp only [Array.length_toList] at e
    omega
theorem Inv.list_inj (I : Inv X pins σ H s) (h : SqL X.K H a xs) (h' : SqL X.K H a ys) : xs = ys := by
  obtain ⟨its, r, ⟨o, n, e, _, _, d⟩, _⟩ := I.list h
  obtain ⟨its', r', ⟨o', n', e', _, _, d'⟩, _⟩ := I.list h'
  rw [e] at e'; cases e'
  rw [d] at d'
  injection d' with d1 _
  have : its = its' := by simpa using congrArg Array.toList d1
  subst this
  exact r.inj r'
theorem Inv.tuple_inj (I : Inv X pins σ H s) (h : SqT X.K H a xs) (h' : SqT X.K H a ys) : xs = ys := by
  obtain ⟨its, r, ⟨o, e, _, n, d⟩, _⟩ := I.tuple h
  obtain ⟨its', r', ⟨o', e', _, n', d'⟩, _⟩ := I.tuple h'
  rw [e] at e'; cases e'
  rw [d] at d'
  injection d' with d1 _
  have : its = its' := by simpa using congrArg Array.toList d1
  subst this
  exact r.inj r'
end

abbrev Cx.wish (X : Cx) (E : Value → Shared → Prop) : Cx := { X with xe := E }
abbrev Cx.nox (X : Cx) : Cx := X.wish fun _ _ => False
theorem Cx.Ok.wish {X : Cx} (ok : X.Ok) (E : Value → Shared → Prop) : (X.wish E).Ok :=
  ⟨ok.mod, ok.kind, ok.glob, ok.blt, ok.above, ok.inj, ok.has, ok.cab, ok.hd, ok.frames, ok.stk, ok.exf, ok.bs, ok.bsz, ok.noex, ok.exfs, ok.funs, ok.frf⟩
theorem Cx.Ok.unwish {X : Cx} {E : Value → Shared → Prop} (ok : (X.wish E).Ok) : X.Ok :=
  ⟨ok.mod, ok.kind, ok.glob, ok.blt, ok.above, ok.inj, ok.has, ok.cab, ok.hd, ok.frames, ok.stk, ok.exf, ok.bs, ok.bsz, ok.noex, ok.exfs, ok.funs, ok.frf⟩
section
variable {X : Cx} {pins : List (Addr × Obj)} {σ : St} {H : Hp} {s : Shared} {E : Value → Shared → Prop}
theorem Inv.wish (I : Inv X pins σ H s) (E : Value → Shared → Prop) : Inv (X.wish E) pins σ H s := ⟨I.ok.wish E, I.os, I.bare, I.base, I.loc, I.cell, I.free, I.freeC, I.pin, I.hok, I.len⟩
theorem Inv.unwish (I : Inv (X.wish E) pins σ H s) : Inv X pins σ H s := ⟨I.ok.unwish, I.os, I.bare, I.base, I.loc, I.cell, I.free, I.freeC, I.pin, I.hok, I.len⟩
theorem SP.unwish {D : Ends} {f : Flow} {s' : Shared} (h : SP (X.wish E) pins D f s') : SP X pins D f s' := by
  cases f with
  | next => obtain ⟨σ', H', I, q⟩ := h; exact ⟨σ', H', I.unwish, q⟩
  | brk => obtain ⟨σ', H', I, q⟩ := h; exact ⟨σ', H', I.unwish, q⟩
  | cont => obtain ⟨σ', H', I, q⟩ := h; exact ⟨σ', H', I.unwish, q⟩
  | ret u => obtain ⟨v, σ', H', I, r, q⟩ := h; exact ⟨v, σ', H', I.unwish, r, q⟩
theorem PSs.nox {st : List Stmt} {t : TS} (h : PSs X.nox st t) : PSs X st t := fun pins s σ H D I hw =>
  wpAny_mono (h pins s σ H D (I.wish _) hw) (fun _ _ q => q.unwish) fun _ _ z => False.elim z
end

section
variable {X : Cx} {st : Stmt} {rest : List Stmt} {t u : TS} {e : Expr} {te : TE} {pos : Pos}
def tNext : TS := fun D σ H => D.nx σ H
def tSeq (t u : TS) : TS := fun D σ H => t { D with nx := u D } σ H
theorem pss_nil : PSs X [] tNext := fun _ _ σ H _ I h => wpAny_execs_nil ⟨σ, H, I, h⟩
theorem pss_cons (h1 : PS X st t) (h2 : PSs X rest u) : PSs X (st :: rest) (tSeq t u) := by
  intro pins s σ H D I h
  refine wpAny_execs_cons (thn (h1 pins s σ H { D with nx := u D } I h) fun f s1 q => ?_)
  cases f with
  | next =>
    obtain ⟨σ', H', I', q⟩ := q
    exact h2 pins s1 σ' H' D I' q
  | ret v => exact q
  | brk => exact q
  | cont => exact q
theorem pss_one (h1 : PS X st t) : PSs X [st] t := by
  intro pins s σ H D I h
  refine wpAny_execs_cons (thn (h1 pins s σ H D I h) fun f s1 q => ?_)
  cases f with
  | next => exact wpAny_execs_nil q
  | ret v => exact q
  | brk => exact q
  | cont => exact q
def tBreak : TS := fun D σ H => D.bk σ H
def tCont : TS := fun D σ H => D.ct σ H
theorem Inv.quiet {pins : List (Addr × Obj)} {σ : St} {H : Hp} {s : Shared} (I : Inv X pins σ H s) : interactive X.env = false := by simp [interactive, I.ok.kind]
def tDrop (te : TE) : TS := fun D σ H => te σ H fun _ H1 => D.nx σ H1
theorem ps_expr (he : PE X e te) (hs : swapsWith e none pos.line X.env = pure false := by rfl) : PS X (.Expr e pos) (tDrop te) := by
  intro pins s σ H D I h
  exact wpAny_Expr_any (thn (he pins s σ H _ I h) fun v s1 ⟨x, H1, I1, r1, q1⟩ => ⟨σ, H1, I1, q1⟩) I.quiet hs
def tRet (te : TE) : TS := fun D σ H => te σ H D.rt
theorem ps_ret (he : PE X e te) : PS X (.Return (some e) pos) (tRet te) := by
  intro pins s σ H D I h
  exact wpAny_Return_some (thn (he pins s σ H _ I h) fun v s1 ⟨x, H1, I1, r1, q1⟩ => ⟨x, σ, H1, I1, r1, q1⟩)
def tRetN : TS := fun D _ H => D.rt .non H
def tIfS (c : TT) (t u : TS) : TS := fun D σ H => c σ H fun b H1 => if b = true then t D σ H1 else u D σ H1
theorem ps_if {c : Expr} {a b : List Stmt} {tc : TT} (hc : PT X c tc) (ha : PSs X a t) (hb : PSs X b u) : PS X (.If c a b pos) (tIfS tc t u) := by
  intro pins s σ H D I h
  refine wpAny_If (thn (hc pins s σ H _ I h) fun d s1 ⟨H1, I1, q1⟩ => ?_)
  cases d with
  | true => exact ha pins s1 σ H1 D I1 q1
  | false => exact hb pins s1 σ H1 D I1 q1
def tNever : TS := fun _ _ _ => False
end

abbrev TG := V → St → Hp → (St → Hp → Prop) → Prop
abbrev TGs := List V → St → Hp → (St → Hp → Prop) → Prop
def PG (X : Cx) (target : Expr) (t : TG) : Prop :=
  ∀ (pins : List (Addr × Obj)) (s : Shared) (σ : St) (H : Hp) (v : V) (u : Value) (Q : St → Hp → Prop), Inv X pins σ H s → RelV v u → t v σ H Q →
    wpAny (model X.prog X.w) X.A (assign target X.env u) (fun _ s' => ∃ σ' H', Inv X pins σ' H' s' ∧ Q σ' H') X.xe s
def PGs (X : Cx) (ts : List Expr) (t : TGs) : Prop :=
  ∀ (pins : List (Addr × Obj)) (s : Shared) (σ : St) (H : Hp) (vs : List V) (us : List Value) (Q : St → Hp → Prop), Inv X pins σ H s → Vals vs us → t vs σ H Q →
    wpAny (model X.prog X.w) X.A (assignInOrder ((assignEach ts X.env).map (·.2)) us) (fun _ s' => ∃ σ' H', Inv X pins σ' H' s' ∧ Q σ' H') X.xe s
abbrev TSet := V → V → V → Hp → (Hp → Prop) → Prop
def PSet (X : Cx) (t : TSet) : Prop :=
  ∀ (pins : List (Addr × Obj)) (s : Shared) (σ : St) (H : Hp) (o i v : V) (ov iv u : Value) (Q : Hp → Prop), Inv X pins σ H s → RelV o ov → RelV i iv → RelV v u → t o i v H Q →
    wpAny (model X.prog X.w) X.A (setItem ov iv u) (fun _ s' => ∃ H', Inv X pins σ H' s' ∧ Q H') X.xe s
abbrev TIp := V → V → Hp → VK → Prop
def PIp (X : Cx) (op : Operator) (t : TIp) : Prop :=
  ∀ (pins : List (Addr × Obj)) (s : Shared) (σ : St) (H : Hp) (x y : V) (v u : Value) (Q : VK), Inv X pins σ H s → RelV x v → RelV y u → t x y H Q →
    wpAny (model X.prog X.w) X.A (inplaceOp op v u) (EP X pins σ Q) X.xe s
section
variable {X : Cx} {pos : Pos}
def gName (i : Nat) : TG := fun v σ H Q => Q (σ.set i (some v)) H
theorem pg_name {i : Nat} {x : Str} (hN : X.N.Nodup) (hi : X.N[i]? = some x) (hx : Loc X.env.scope x) (hf : X.fn x = true ∨ X.env.scope.names.lookup x = some .local := by first | exact .inl rfl | exact .inr rfl | assumption) : PG X (.Name x pos) (gName i) := by
  intro pins s σ H v u Q I r h
  exact wpAny_assign_Name (store_ok I hN hi hx r (fun s' I' => ⟨_, H, I', h⟩) hf)
def gNil : TGs := fun vs σ H Q => vs = [] ∧ Q σ H
def gCons (t : TG) (u : TGs) : TGs := fun vs σ H Q => ∃ v r, vs = v :: r ∧ t v σ H fun σ' H' => u r σ' H' Q
theorem pgs_nil : PGs X [] gNil := by
  intro pins s σ H vs us Q I r h
  obtain ⟨e, h⟩ := h
  subst e
  cases r
  exact assignInOrder_nil ⟨σ, H, I, h⟩
theorem pgs_cons {e : Expr} {es : List Expr} {t : TG} {u : TGs} (h1 : PG X e t) (h2 : PGs X es u)
    (hs : (assignEach (e :: es) X.env).map (·.2) = assign e X.env :: (assignEach es X.env).map (·.2) := by rfl) : PGs X (e :: es) (gCons t u) := by
  intro pins s σ H vs us Q I r h
  obtain ⟨v, vr, e1, h⟩ := h
  subst e1
  cases r with
  | cons r rr =>
    rw [hs]
    refine assignInOrder_cons (thn (h1 pins s σ H _ _ _ I r h) fun _ s1 ⟨σ1, H1, I1, q1⟩ => ?_)
    exact h2 pins s1 σ1 H1 _ _ Q I1 rr q1
def gTup (K : PySem.W.Frag) (n : Nat) (t : TGs) : TG := fun v σ H Q => ∃ a xs, v = .ref a ∧ SqT K H a xs ∧ xs.length = n ∧ t xs σ H Q
theorem pg_tup {es : List Expr} {k : Nat} {t : TGs} {n : Nat} (hc : X.calm = true) (h : PGs X es t)
    (hn : (assignEach es X.env).length = n := by rfl) (hst : (assignEach es X.env).findIdx? (·.1) = none := by rfl) : PG X (.Tuple es k pos) (gTup X.K n t) := by
  intro pins s σ H v u Q I r hw
  obtain ⟨a, xs, e1, hq, hl, hw⟩ := hw
  subst e1
  cases r
  obtain ⟨its, rv, ht, hz⟩ := I.tuple hq
  refine assign_Tuple_tuple (I.ok.hd hc) ht (by simp [hn, ← hl, rv.length]) hst fun h' hx => ?_
  have I1 : Inv X pins σ H { s with heap := h' } := I.kept (t' := s.toks) fun b o e => hx b o (Nat.ne_of_lt (Heap.lt_size e)) e
  exact h pins _ σ H xs _ Q I1 (by simpa using rv) hw
def gSub (to ti : TE) (t : TSet) : TG := fun v σ H Q => to σ H fun o H1 => ti σ H1 fun i H2 => t o i v H2 fun H3 => Q σ H3
theorem pg_sub {o i : Expr} {to ti : TE} {t : TSet} (ho : PE X o to) (hi : PE X i ti) (hs : PSet X t)
    (ha : ∀ v, assign (.Subscript o i pos) X.env v = (do
      let ov ← holding [v] (eval o X.env)
      let iv ← holding [v, ov] (eval i X.env)
      standAt pos
      holding [v, ov, iv] (setItem ov iv v)
      release [v, ov, iv] []) := by intro _; rfl) : PG X (.Subscript o i pos) (gSub to ti t) := by
  intro pins s σ H v u Q I r h
  rw [ha]
  refine wpAny_bind (wpAny_holding (thn (ho pins s σ H _ I h) fun ov s1 ⟨x, H1, I1, r1, q1⟩ => ?_))
  refine wpAny_bind (wpAny_holding (thn (hi pins s1 σ H1 _ I1 q1) fun iv s2 ⟨y, H2, I2, r2, q2⟩ => ?_))
  refine wpAny_bind (wpAny_standAt (wpAny_bind (wpAny_holding (thn (hs pins s2 σ H2 x y v ov iv u _ I2 r1 r2 r q2) fun _ s3 ⟨H3, I3, q3⟩ => ?_))))
  exact wpAny_release ⟨σ, H3, I3, q3⟩
def tAsg (te : TE) (g : TG) : TS := fun D σ H => te σ H fun x H1 => g x σ H1 D.nx
theorem ps_asg {tg e : Expr} {te : TE} {g : TG} (he : PE X e te) (hg : PG X tg g) (hs : swapsWithSole [tg] e pos.line X.env = pure false := by rfl) (hw : swappedStores [tg] e X.env = pure none := by rfl)
    (h1 : (assignEach [tg] X.env).map (·.2) = [assign tg X.env] := by rfl) : PS X (.Assign [tg] e pos) (tAsg te g) := by
  intro pins s σ H D I h
  refine wpAny_Assign_stores (thn (he pins s σ H _ I h) fun v s1 ⟨x, H1, I1, r1, q1⟩ => ?_) hs hw
  rw [h1]
  exact thn (hg pins s1 σ H1 x v _ I1 r1 q1) fun _ s2 q => q
theorem ps_set {i : Nat} {x : Str} {e : Expr} {te : TE} {pos' : Pos} (hN : X.N.Nodup) (hi : X.N[i]? = some x) (hx : Loc X.env.scope x) (he : PE X e te) (hs : swapsWith e (some (.Name x pos')) pos.line X.env = pure false := by rfl) (hf : X.fn x = true ∨ X.env.scope.names.lookup x = some .local := by first | exact .inl rfl | exact .inr rfl | assumption) :
    PS X (.Assign [.Name x pos'] e pos) (tAsg te (gName i)) := by
  intro pins s σ H D I h
  refine wpAny_Assign_Name (thn (he pins s σ H _ I h) fun v s1 ⟨y, H1, I1, r1, q1⟩ => ?_) hs
  exact store_ok I1 hN hi hx r1 (fun s2 I2 => ⟨_, H1, I2, q1⟩) hf
def tPar (i j : Nat) (ta : TA) : TS := fun D σ H => ta σ H fun vs H1 => ∃ v w, vs = [v, w] ∧ D.nx ((σ.set i (some v)).set j (some w)) H1
theorem ps_par {i j : Nat} {x y : Str} {a b : Expr} {ta : TA} {px py pt : Pos} {kt k2 pt2} (hc : X.calm = true) (hN : X.N.Nodup) (hi : X.N[i]? = some x) (hj : X.N[j]? = some y) (hij : i ≠ j)
    (hx : X.env.scope.names.lookup x = some .local) (hy : X.env.scope.names.lookup y = some .local) (ha : PA X [a, b] ta)
    (hw : swappedStores [.Tuple [.Name x px, .Name y py] kt pt] (.Tuple [a, b] k2 pt2) X.env = pure (some [x, y]))
    (hs : swapsWithSole [.Tuple [.Name x px, .Name y py] kt pt] (.Tuple [a, b] k2 pt2) pos.line X.env = pure false := by rfl) :
    PS X (.Assign [.Tuple [.Name x px, .Name y py] kt pt] (.Tuple [a, b] k2 pt2) pos) (tPar i j ta) := by
  intro pins s σ H D I h
  rw [exec_Assign_arm]
  refine wpAny_bind (wpAny_standAt ?_)
  rw [hs]
  refine wpAny_bind (wpAny_pure ?_)
  rw [if_neg (by decide)]
  refine wpAny_bind (Tuple_ (thn (ha _ pins s σ H _ I h) fun us s1 ⟨vs, H1, I1, r1, q1⟩ => ?_))
  obtain ⟨v, w, e1, q1⟩ := q1
  subst e1
  obtain ⟨u1, u2, rfl, rv, rw'⟩ : ∃ u1 u2, us = [u1, u2] ∧ RelV v u1 ∧ RelV w u2 := by
    cases r1 with
    | cons p q =>
      cases q with
      | cons p' q' =>
        cases q'
        exact ⟨_, _, rfl, p, p'⟩
  refine wpAny_newObj_type ?_ (by show 2 ≤ sizeLine; decide)
  have I2 : Inv X pins σ H1 { s1 with heap := s1.heap.push { cls := .type "tuple", data := .seq [u1, u2].toArray } } := I1.kept (t' := s1.toks) fun b o e => Heap.get?_push_of_some _ e
  rw [hw]
  refine wpAny_bind (wpAny_pure ?_)
  show wpAny (model X.prog X.w) X.A (do rule "assign.swapped-stores"; let items ← unpackItems (.ref s1.heap.objs.size) 2 none; assignInOrder [fun v => bindName X.env y v, fun v => bindName X.env x v] items.reverse; pure Flow.next) _ _ _
  refine wpAny_bind (wpAny_rule (wpAny_bind (unpackItems_tuple (items := #[u1, u2]) (I.ok.hd hc) (IsTup.new s1.heap _) fun h' hx' => ?_)))
  have I3 := I2.kept (h' := h') (t' := s1.toks) fun b o e => hx' b o (Nat.ne_of_lt (Heap.lt_size e)) e
  show wpAny _ _ (assignInOrder [fun v => bindName X.env y v, fun v => bindName X.env x v] [u2, u1] >>= fun _ => pure Flow.next) _ _ _
  refine wpAny_bind (assignInOrder_cons (wpAny_bindName (store_ok I3 hN hj (.inl hy) rw' (fun s2 I4 => ?_) (.inr hy))))
  refine assignInOrder_cons (wpAny_bindName (store_ok I4 hN hi (.inl hx) rv (fun s3 I5 => assignInOrder_nil (wpAny_pure ?_)) (.inr hx)))
  rw [List.set_comm _ _ (Ne.symm hij)] at I5
  exact ⟨_, H1, I5, q1⟩
def tAug (i : Nat) (te : TE) (ti : TIp) : TS := fun D σ H => ∃ x, σ[i]? = some (some x) ∧ te σ H fun y H1 => ti x y H1 fun z H2 => D.nx (σ.set i (some z)) H2
theorem ps_aug {i : Nat} {x : Str} {e : Expr} {te : TE} {op : Operator} {ti : TIp} {pos' : Pos} (hN : X.N.Nodup) (hi : X.N[i]? = some x) (hx : Loc X.env.scope x) (he : PE X e te) (ho : PIp X op ti) (hf : X.fn x = true ∨ X.env.scope.names.lookup x = some .local := by first | exact .inl rfl | exact .inr rfl | assumption) :
    PS X (.AugAssign (.Name x pos') op e pos) (tAug i te ti) := by
  intro pins s σ H D I h
  obtain ⟨v, e1, h⟩ := h
  obtain ⟨m, hn, hl⟩ := I.loc
  have vis : Vis X.env.scope x := by rcases hx with k | k; exact .inl k; exact .inr (.inl k)
  obtain ⟨u, r, l⟩ := hl i x v hi e1 vis
  refine wpAny_AugAssign_Name ?_
  have go : wpAny (model X.prog X.w) X.A (eval e X.env) (fun w s₂ => wpAny (model X.prog X.w) X.A (inplaceOp op u w) (fun r s₃ => wpAny (model X.prog X.w) X.A (storeName X.env x r) (fun _ => SP X pins D .next) X.xe s₃) X.xe s₂) X.xe s := by
    refine thn (he pins s σ H _ I h) fun w s1 ⟨y, H1, I1, r1, q1⟩ => ?_
    refine thn (ho pins s1 σ H1 v y u w _ I1 r r1 q1) fun z s2 ⟨zv, H2, I2, r2, q2⟩ => ?_
    exact store_ok I2 hN hi hx r2 (fun s3 I3 => ⟨_, H2, I3, q2⟩) hf
  rcases l with ⟨hk, hm⟩ | ⟨hk, c, hc, hcell⟩
  · exact wpAny_loadName_local I.ok.kind hk hn hm go
  · rcases hk with hk | hk
    · exact wpAny_loadName_cell I.ok.kind hk hc hcell go
    · rcases hx with k | k
      · have : X.env.scope.names.lookup x = some .free := hk
        rw [k] at this; cases this
      · have : X.env.scope.names.lookup x = some .free := hk
        rw [k] at this; cases this
def tAugS (to ti te : TE) (tget : V → V → Hp → VK → Prop) (tip : TIp) (tset : TSet) : TS := fun D σ H => to σ H fun o H1 => ti σ H1 fun i H2 => tget o i H2 fun x H3 => te σ H3 fun y H4 => tip x y H4 fun z H5 => tset o i z H5 fun H6 => D.nx σ H6
def PGet (X : Cx) (t : V → V → Hp → VK → Prop) : Prop :=
  ∀ (pins : List (Addr × Obj)) (s : Shared) (σ : St) (H : Hp) (o i : V) (ov iv : Value) (Q : VK), Inv X pins σ H s → RelV o ov → RelV i iv → t o i H Q →
    wpAny (model X.prog X.w) X.A (getItem ov iv) (EP X pins σ Q) X.xe s
theorem ps_augS {o i e : Expr} {to ti te : TE} {tget : V → V → Hp → VK → Prop} {tip : TIp} {tset : TSet} {op : Operator} {tpos : Pos} (ho : PE X o to) (hi : PE X i ti) (hg : PGet X tget) (he : PE X e te) (hp : PIp X op tip) (hs : PSet X tset)
    (ha : ∀ ov iv new, augStore i ov iv new = (do holding [new, ov, iv] (setItem ov iv new); release [new, ov, iv] []; pure .next) := by intros; rfl) : PS X (.AugAssign (.Subscript o i tpos) op e pos) (tAugS to ti te tget tip tset) := by
  intro pins s σ H D I h
  refine wpAny_AugAssign_SubscriptAny (thn (ho pins s σ H _ I h) fun ov s1 ⟨x1, H1, I1, r1, q1⟩ => ?_) ha
  refine thn (hi pins s1 σ H1 _ I1 q1) fun iv s2 ⟨x2, H2, I2, r2, q2⟩ => ?_
  refine thn (hg pins s2 σ H2 x1 x2 ov iv _ I2 r1 r2 q2) fun old s3 ⟨x3, H3, I3, r3, q3⟩ => ?_
  refine thn (he pins s3 σ H3 _ I3 q3) fun v s4 ⟨x4, H4, I4, r4, q4⟩ => ?_
  refine thn (hp pins s4 σ H4 x3 x4 old v _ I4 r3 r4 q4) fun new s5 ⟨x5, H5, I5, r5, q5⟩ => ?_
  exact thn (hs pins s5 σ H5 x1 x2 x5 ov iv new _ I5 r1 r2 r5 q5) fun _ s6 ⟨H6, I6, q6⟩ => ⟨σ, H6, I6, q6⟩
def ipI (f : Int → Int → Int) : TIp := fun x y H Q => ∃ i j, x = .int i ∧ y = .int j ∧ Q (.int (f i j)) H
theorem ip_add : PIp X .Add (ipI fun i j => i + j) := by
  intro pins s σ H x y v u Q I r1 r2 h
  obtain ⟨i, j, e1, e2, q⟩ := h
  subst e1; subst e2
  obtain ⟨t, rfl⟩ := r1
  obtain ⟨t', rfl⟩ := r2
  exact iadd_int ⟨.int _, H, I.tok _, ⟨_, rfl⟩, q⟩
end

section
variable {X : Cx} {pos : Pos}
def tWhile (c : TT) (tb : TS) : TS := fun D σ H => ∃ W : Nat → St → Hp → Prop, (∃ m, W m σ H) ∧ ∀ m σ H, W m σ H →
  c σ H fun b H1 => if b = true then ∃ N : St → Hp → Prop, (∀ σ' H', N σ' H' → ∃ m', m' < m ∧ W m' σ' H') ∧ tb { D with nx := N, ct := N, bk := D.nx } σ H1 else D.nx σ H1
end

structure It where
  go : Nat → Hp → Prop
  yld : Nat → Hp → V → Hp → Prop
  stop : Nat → Hp → Prop
def FpOk (X : Cx) (pins : List (Addr × Obj)) (H : Hp) (b : Addr) : Prop :=
  H b = none ∧ b ≠ X.env.locals ∧ b ∉ X.fs ∧ (b ∈ X.ex ∨ X.s₀.heap.objs.size ≤ b) ∧ (∀ x c, X.env.cells.lookup x = some c → c ≠ b) ∧ ∀ p ∈ X.pn ++ pins, p.1 ≠ b
theorem Inv.fpOk {X : Cx} {pins : List (Addr × Obj)} {σ : St} {H H' : Hp} {s : Shared} {b : Addr} (I : Inv X pins σ H s) (hb : s.heap.objs.size ≤ b) (hn : H' b = none) : FpOk X pins H' b := by
  refine ⟨hn, Nat.ne_of_gt (Nat.lt_of_lt_of_le I.lt hb), I.nofs hb, .inr (Nat.le_trans I.sz hb), fun x c e z => ?_, fun p hp z => ?_⟩
  · obtain ⟨v, q⟩ := I.cell x c e
    exact absurd (Nat.lt_of_lt_of_le q.lt (by rw [z]; exact hb)) (Nat.lt_irrefl _)
  · exact absurd (Nat.lt_of_lt_of_le (Heap.lt_size (I.pin p hp).1) (by rw [z]; exact hb)) (Nat.lt_irrefl _)
structure Turn (P : Program) (w : World) (K : PySem.W.Frag) (tg : Expr) (J : It) (fp : List Addr) (it : Addr) (tn : Nat → Heap → Prop) : Prop where
  mem : it ∈ fp
  obj : ∀ i h, tn i h → ∀ b ∈ fp, ∃ o, h.get? b = some o ∧ ∀ v, o.data ≠ .cell v
  keep : ∀ i h h', tn i h → (∀ b ∈ fp, ∀ o, h.get? b = some o → h'.get? b = some o) → tn i h'
  item : ∀ (X : Cx), X.prog = P → X.w = w → X.K = K → X.calm = true → ∀ (i : Nat) (pins : List (Addr × Obj)) (s : Shared) (σ : St) (H : Hp) (E : Value → Shared → Prop), Inv X pins σ H s → (∀ b ∈ fp, FpOk X pins H b) → tn i s.heap → J.go i H →
    wpAny (model P w) X.A (pyNext (.ref it)) (fun r s1 => ∃ u, r = some u ∧
      wpAny (model P w) X.A (letOwnedTupleGo tg (.ref it) u) (fun _ s2 => ∃ x H', Inv X pins σ H' s2 ∧ RelV x u ∧ J.yld i H x H' ∧ tn (i + 1) s2.heap ∧ ∀ b ∈ fp, H' b = none) E s1) E s
  done : ∀ (X : Cx), X.prog = P → X.w = w → X.K = K → X.calm = true → ∀ (i : Nat) (pins : List (Addr × Obj)) (s : Shared) (σ : St) (H : Hp) (E : Value → Shared → Prop), Inv X pins σ H s → (∀ b ∈ fp, FpOk X pins H b) → tn i s.heap → J.stop i H →
    wpAny (model P w) X.A (pyNext (.ref it)) (fun r s1 => r = none ∧ Inv X pins σ H s1) E s
  self : ∀ (A : Around) (i : Nat) (s : Shared) (Q : Value → Shared → Prop) (E : Value → Shared → Prop), tn i s.heap → Q (.ref it) s → wpAny (model P w) A (pyIter (.ref it)) Q E s
abbrev TI := St → Hp → (It → Hp → Prop) → Prop
def PIE (X : Cx) (pins : List (Addr × Obj)) (σ : St) (tg : Expr) (R : It → Hp → Prop) (itv : Value) (s2 : Shared) : Prop :=
  ∃ (it : Addr) (fp : List Addr) (tn : Nat → Heap → Prop) (J : It) (H' : Hp), itv = .ref it ∧ Inv X pins σ H' s2 ∧ Turn X.prog X.w X.K tg J fp it tn ∧ tn 0 s2.heap ∧ (∀ b ∈ fp, FpOk X pins H' b) ∧ R J H'
def PI (X : Cx) (tg iter : Expr) (wi : TI) : Prop :=
  ∀ (pins : List (Addr × Obj)) (s : Shared) (σ : St) (H : Hp) (R : It → Hp → Prop), Inv X pins σ H s → wi σ H R →
    wpAny (model X.prog X.w) X.A (eval iter X.env) (fun v s1 => wpAny (model X.prog X.w) X.A (pyIter v) (PIE X pins σ tg R) X.xe s1) X.xe s

theorem go_of {M : Model} {A : Around} {E : Value → Shared → Prop} {s : Shared} {tg : Expr} {it : Addr} {u : Value} {o : Obj} {n : String} {vs : Array Value} {Q : Unit → Shared → Prop} (ho : s.heap.get? it = some o) (hc : o.cls = .type n) (hd : o.data = .fields vs)
    (hn : ["enumerate", "zip", "dict_itemiterator", "dict_reverseitemiterator", "odict_iterator", "itertools.zip_longest", "itertools.pairwise"].contains n = false) (hQ : Q () s) : wpAny M A (letOwnedTupleGo tg (.ref it) u) Q E s := by
  unfold letOwnedTupleGo
  cases tg <;> first
    | exact wpAny_pure hQ
    | (cases u <;> first
        | exact wpAny_pure hQ
        | (refine wpAny_bind (wpAny_load ho ?_)
           rw [hc, hd]
           show wpAny M A (if (["enumerate", "zip", "dict_itemiterator", "dict_reverseitemiterator", "odict_iterator", "itertools.zip_longest", "itertools.pairwise"].contains n && vs[0]? == some (rawInt _)) = true then _ else _) Q E s
           rw [if_neg (by intro h; rw [hn, Bool.false_and] at h; cases h)]
           exact wpAny_pure hQ))

def Itl (K : PySem.W.Frag) (a : Addr) : It :=
  ⟨fun i H => ∃ xs x, SqL K H a xs ∧ xs[i]? = some x, fun i H x H' => H' = H ∧ ∀ xs, SqL K H a xs → xs[i]? = some x, fun i H => ∃ xs, SqL K H a xs ∧ xs.length ≤ i⟩
def Itt (K : PySem.W.Frag) (a : Addr) : It :=
  ⟨fun i H => ∃ xs x, SqT K H a xs ∧ xs[i]? = some x, fun i H x H' => H' = H ∧ ∀ xs, SqT K H a xs → xs[i]? = some x, fun i H => ∃ xs, SqT K H a xs ∧ xs.length ≤ i⟩
def Itr (lo : Int) (n : Nat) : It := ⟨fun i _ => i < n, fun i H x H' => H' = H ∧ x = .int (lo + i), fun i _ => n ≤ i⟩
theorem turn_list {P : Program} {w : World} {K : PySem.W.Frag} {tg : Expr} (a it : Addr) : Turn P w K tg (Itl K a) [it] it (fun i h => h.IsListIter it a i) where
  mem := by simp
  obj := fun i h st b hb => by
    have e : b = it := by simpa using hb
    subst e
    obtain ⟨o, e, c, d⟩ := st
    exact ⟨o, e, fun v z => by rw [d] at z; cases z⟩
  keep := fun i h h' st k => st.at fun o e => k it (by simp) o e
  item := by
    intro X hP hw hK hc i pins s σ H E I hf st hg
    subst hP hw hK
    obtain ⟨xs, x, hq, hx⟩ := hg
    obtain ⟨its, rv, p, hz⟩ := I.list hq
    obtain ⟨u, hu, ru⟩ := rv.get hx
    obtain ⟨f0, f1, f2, f3, f4, f5⟩ := hf it (by simp)
    refine wpAny_pyNext_list_item st p.isList (x := u) (by simpa using hu) fun h' st' sb => ?_
    have I1 : Inv X pins σ H { s with heap := h' } := I.turned (t' := s.toks) (fun b o hb e => (sb.2 b hb).trans e) f0 f1 f3 f4 f5
    obtain ⟨o, e, c, d⟩ := id st'
    exact ⟨u, rfl, go_of (s := { s with heap := h' }) e c d (by decide) ⟨x, H, I1, ru, ⟨rfl, fun ys hy => by rw [I.list_inj hy hq]; exact hx⟩, st', fun b hb => (hf b hb).1⟩⟩
  done := by
    intro X hP hw hK hc i pins s σ H E I hf st hg
    subst hP hw hK
    obtain ⟨xs, hq, hx⟩ := hg
    obtain ⟨its, rv, p, hz⟩ := I.list hq
    obtain ⟨f0, f1, f2, f3, f4, f5⟩ := hf it (by simp)
    have hl := rv.length
    exact wpAny_pyNext_list_end (I.ok.hd hc) st p.isList (by simp; omega) fun h' eb => ⟨rfl, I.turned (t' := s.toks) (fun b o hb e => eb b o hb e) f0 f1 f3 f4 f5⟩
  self := fun _ _ _ _ _ st h => wpAny_pyIter_listiter st h
theorem turn_tuple {P : Program} {w : World} {K : PySem.W.Frag} {tg : Expr} (a it : Addr) : Turn P w K tg (Itt K a) [it] it (fun i h => h.IsTupleIter it a i) where
  mem := by simp
  obj := fun i h st b hb => by
    have e : b = it := by simpa using hb
    subst e
    obtain ⟨o, e, c, d⟩ := st
    exact ⟨o, e, fun v z => by rw [d] at z; cases z⟩
  keep := fun i h h' st k => st.at fun o e => k it (by simp) o e
  item := by
    intro X hP hw hK hc i pins s σ H E I hf st hg
    subst hP hw hK
    obtain ⟨xs, x, hq, hx⟩ := hg
    obtain ⟨its, rv, p, hz⟩ := I.tuple hq
    obtain ⟨u, hu, ru⟩ := rv.get hx
    obtain ⟨f0, f1, f2, f3, f4, f5⟩ := hf it (by simp)
    refine wpAny_pyNext_tuple_item st (show s.heap.IsTuple a its.toArray from p) (x := u) (by simpa using hu) fun h' st' sb => ?_
    have I1 : Inv X pins σ H { s with heap := h' } := I.turned (t' := s.toks) (fun b o hb e => (sb.2 b hb).trans e) f0 f1 f3 f4 f5
    obtain ⟨o, e, c, d⟩ := id st'
    exact ⟨u, rfl, go_of (s := { s with heap := h' }) e c d (by decide) ⟨x, H, I1, ru, ⟨rfl, fun ys hy => by rw [I.tuple_inj hy hq]; exact hx⟩, st', fun b hb => (hf b hb).1⟩⟩
  done := by
    intro X hP hw hK hc i pins s σ H E I hf st hg
    subst hP hw hK
    obtain ⟨xs, hq, hx⟩ := hg
    obtain ⟨its, rv, p, hz⟩ := I.tuple hq
    obtain ⟨f0, f1, f2, f3, f4, f5⟩ := hf it (by simp)
    have hl := rv.length
    exact wpAny_pyNext_tuple_end (I.ok.hd hc) st (show s.heap.IsTuple a its.toArray from p) (by simp; omega) fun h' eb => ⟨rfl, I.turned (t' := s.toks) (fun b o hb e => eb b o hb e) f0 f1 f3 f4 f5⟩
  self := fun _ _ _ _ _ st h => wpAny_pyIter_tupleiter st h
theorem turn_range {P : Program} {w : World} {K : PySem.W.Frag} {tg : Expr} (it : Addr) (lo : Int) (n : Nat) : Turn P w K tg (Itr lo n) [it] it (fun i h => IsRangeIter h it (lo + (i : Nat) * 1) ((n : Int) - (i : Nat)) 1) where
  mem := by simp
  obj := fun i h st b hb => by
    have e : b = it := by simpa using hb
    subst e
    exact ⟨_, st, fun v z => by
      have z' : Data.fields _ = Data.cell v := z
      cases z'⟩
  keep := fun i h h' st k => k it (by simp) _ st
  item := by
    intro X hP hw hK hc i pins s σ H E I hf st hg
    subst hP hw hK
    obtain ⟨f0, f1, f2, f3, f4, f5⟩ := hf it (by simp)
    have W := Walks.range (prog := X.prog) (w := X.w) (I.ok.hd hc) it lo 1 n
    refine W.item i s _ _ hg st fun v h' tk hv st' kk => ?_
    obtain ⟨t, rfl⟩ := hv
    have I1 : Inv X pins σ H { s with heap := h', toks := tk } := I.turned (fun b o hb e => kk b o (by simpa using hb) e) f0 f1 f3 f4 f5
    refine ⟨_, rfl, go_of (s := { s with heap := h', toks := tk }) (n := "range_iterator") st' rfl rfl (by decide) ⟨.int (lo + i), H, I1, ⟨t, ?_⟩, ⟨rfl, rfl⟩, st', fun b hb => (hf b hb).1⟩⟩
    rw [Int.mul_one]
  done := by
    intro X hP hw hK hc i pins s σ H E I hf st hg
    subst hP hw hK
    obtain ⟨f0, f1, f2, f3, f4, f5⟩ := hf it (by simp)
    exact wpAny_pyNext_range_end (I.ok.hd hc) st (by have : n ≤ i := hg; omega) fun h' eb => ⟨rfl, I.turned (t' := s.toks) (fun b o hb e => eb b o hb e) f0 f1 f3 f4 f5⟩
  self := fun _ _ _ _ _ st h => wpAny_pyIter_rangeiter st h
end L2

namespace L2
open PySem PySem.Spec PyProof.Rows
section
variable {X : Cx} {tg : Expr}
def iList (K : PySem.W.Frag) (tl : TE) : TI := fun σ H R => tl σ H fun x H1 => ∃ a, x = .ref a ∧ (∃ xs, SqL K H1 a xs) ∧ R (Itl K a) H1
def iTup (K : PySem.W.Frag) (tl : TE) : TI := fun σ H R => tl σ H fun x H1 => ∃ a, x = .ref a ∧ (∃ xs, SqT K H1 a xs) ∧ R (Itt K a) H1
theorem pi_list {l : Expr} {tl : TE} (hl : PE X l tl) : PI X tg l (iList X.K tl) := by
  intro pins s σ H R I h
  refine thn (hl pins s σ H _ I h) fun v s1 ⟨x, H1, I1, r1, q1⟩ => ?_
  obtain ⟨a, e, ⟨xs, hq⟩, q⟩ := q1
  subst e
  cases r1
  obtain ⟨its, rv, p, hz⟩ := I1.list hq
  refine wpAny_pyIter_list p.isList ?_
  refine ⟨s1.heap.objs.size, [s1.heap.objs.size], _, _, H1, rfl, I1.kept (t' := s1.toks) fun b o e => Heap.get?_push_of_some _ e, turn_list a _, ⟨_, Heap.get?_push_size _ rfl, rfl, rfl⟩, fun b hb => ?_, q⟩
  have e : b = s1.heap.objs.size := by simpa using hb
  subst e
  exact I1.fpOk (Nat.le_refl _) (I1.hok.fresh (Nat.le_refl _))
theorem pi_tup {l : Expr} {tl : TE} (hl : PE X l tl) : PI X tg l (iTup X.K tl) := by
  intro pins s σ H R I h
  refine thn (hl pins s σ H _ I h) fun v s1 ⟨x, H1, I1, r1, q1⟩ => ?_
  obtain ⟨a, e, ⟨xs, hq⟩, q⟩ := q1
  subst e
  cases r1
  obtain ⟨its, rv, p, hz⟩ := I1.tuple hq
  refine wpAny_pyIter_tuple (show s1.heap.IsTuple a its.toArray from p) ?_
  refine ⟨s1.heap.objs.size, [s1.heap.objs.size], _, _, H1, rfl, I1.kept (t' := s1.toks) fun b o e => Heap.get?_push_of_some _ e, turn_tuple a _, ⟨_, Heap.get?_push_size _ rfl, rfl, rfl⟩, fun b hb => ?_, q⟩
  have e : b = s1.heap.objs.size := by simpa using hb
  subst e
  exact I1.fpOk (Nat.le_refl _) (I1.hok.fresh (Nat.le_refl _))
theorem range_it {pins : List (Addr × Obj)} {σ : St} {H : Hp} {s : Shared} {R : It → Hp → Prop} {E : Value → Shared → Prop} {lo hi : Int} {t u v : Tok} {tk : Nat} (I : Inv X pins σ H s) (h1 : -(2 ^ 62) ≤ lo) (h2 : lo < 2 ^ 62) (h3 : -(2 ^ 62) ≤ hi) (h4 : hi < 2 ^ 62)
    (q : R (Itr lo (hi - lo).toNat) H) : wpAny (model X.prog X.w) X.A (pyIter (.ref s.heap.objs.size)) (PIE X pins σ tg R) E { s with heap := s.heap.push { cls := .type "range", data := .fields #[.int lo t, .int hi u, .int 1 v] }, toks := tk } := by
  refine wpAny_pyIter_range (IsRange.new ..) (small_one h1 h2 h3 h4) ?_
  have I1 : Inv X pins σ H { s with heap := s.heap.push { cls := .type "range", data := .fields #[.int lo t, .int hi u, .int 1 v] }, toks := tk } := I.kept fun b o e => Heap.get?_push_of_some _ e
  refine ⟨(s.heap.push { cls := .type "range", data := .fields #[.int lo t, .int hi u, .int 1 v] }).objs.size, [(s.heap.push { cls := .type "range", data := .fields #[.int lo t, .int hi u, .int 1 v] }).objs.size], _, _, H, rfl,
    I1.kept (t' := tk) fun b o e => Heap.get?_push_of_some _ e, turn_range _ lo (hi - lo).toNat, ?_, fun b hb => ?_, q⟩
  · have e1 : lo + ((0 : Nat) : Int) * 1 = lo := by simp
    have e2 : (((hi - lo).toNat : Nat) : Int) - ((0 : Nat) : Int) = Builtin.Range.rangeSize lo hi 1 := by rw [rangeSize_one]; split <;> omega
    show IsRangeIter _ _ (lo + ((0 : Nat) : Int) * 1) ((((hi - lo).toNat : Nat) : Int) - ((0 : Nat) : Int)) 1
    rw [e1, e2]
    exact Heap.get?_push_size _ rfl
  · have e : b = (s.heap.push { cls := .type "range", data := .fields #[.int lo t, .int hi u, .int 1 v] }).objs.size := by simpa using hb
    subst e
    exact I1.fpOk (Nat.le_refl _) (I1.hok.fresh (Nat.le_refl _))
def iRng1 (ta : TA) : TI := fun σ H R => ta σ H fun vs H1 => ∃ j : Int, vs = [.int j] ∧ -(2 ^ 62) ≤ j ∧ j < 2 ^ 62 ∧ R (Itr 0 j.toNat) H1
def iRng2 (ta : TA) : TI := fun σ H R => ta σ H fun vs H1 => ∃ i j : Int, vs = [.int i, .int j] ∧ (-(2 ^ 62) ≤ i ∧ i < 2 ^ 62 ∧ -(2 ^ 62) ≤ j ∧ j < 2 ^ 62) ∧ R (Itr i (j - i).toNat) H1
theorem pi_range1 {a : Expr} {ta : TA} {p pos : Pos} (hg : Gl X "range") (hm : X.mg "range" = none) (ha : PA X [a] ta) (hs : starEach [a] X.env = [(false, eval a X.env)] := by rfl) : PI X tg (.Call (.Name "range" p) [a] [] pos) (iRng1 ta) := by
  intro pins s σ H R I h
  refine Call_ (ld_blt I hg hm boot_range (PyProof.Rows.callWith_type1 (thn (ha pos pins s σ H _ I h) fun us s1 ⟨vs, H1, I1, r1, q1⟩ => ?_) hs rfl))
  obtain ⟨j, e, q1, q2, q⟩ := q1
  subst e
  cases r1 with
  | cons r rr =>
    cases rr
    obtain ⟨t, rfl⟩ := r
    exact call_range_1 (range_it I1 (by omega) (by omega) q1 q2 (by simpa using q))
theorem pi_range2 {a b : Expr} {ta : TA} {p pos : Pos} (hg : Gl X "range") (hm : X.mg "range" = none) (ha : PA X [a, b] ta) (hs : starEach [a, b] X.env = [(false, eval a X.env), (false, eval b X.env)] := by rfl) (hs2 : starEach [b] X.env = [(false, eval b X.env)] := by rfl) :
    PI X tg (.Call (.Name "range" p) [a, b] [] pos) (iRng2 ta) := by
  intro pins s σ H R I h
  refine Call_ (ld_blt I hg hm boot_range (PyProof.Rows.callWith_type1 (thn (ha pos pins s σ H _ I h) fun us s1 ⟨vs, H1, I1, r1, q1⟩ => ?_) (by rw [hs, hs2]) (by rw [hs2]; rfl)))
  obtain ⟨i, j, e, ⟨q1, q2, q3, q4⟩, q⟩ := q1
  subst e
  cases r1 with
  | cons r rr =>
    cases rr with
    | cons r' rr =>
      cases rr
      obtain ⟨t, rfl⟩ := r
      obtain ⟨t', rfl⟩ := r'
      exact call_range_2 (range_it I1 q1 q2 q3 q4 q)

def tFor (wi : TI) (g : TG) (tb : TS) : TS := fun D σ H => wi σ H fun J H1 => ∃ W : Nat → Nat → St → Hp → Prop, (∃ m, W 0 m σ H1) ∧ ∀ i m σ H, W i m σ H →
  (J.stop i H ∧ D.nx σ H) ∨ (J.go i H ∧ ∃ N : St → Hp → Prop, (∀ σ' H', N σ' H' → ∃ m', m' < m ∧ W (i + 1) m' σ' H') ∧ ∀ x H', J.yld i H x H' → g x σ H' fun σ2 H2 => tb { D with nx := N, ct := N, bk := D.nx } σ2 H2)
def pinsAt (fp : List Addr) (h : Heap) : List (Addr × Obj) := fp.filterMap fun b => (h.get? b).map fun o => (b, o)
theorem mem_pinsAt {fp : List Addr} {h : Heap} {b : Addr} {o : Obj} (hb : b ∈ fp) (e : h.get? b = some o) : (b, o) ∈ pinsAt fp h := List.mem_filterMap.mpr ⟨b, hb, by rw [e]; rfl⟩
theorem of_pinsAt {fp : List Addr} {h : Heap} {p : Addr × Obj} (hp : p ∈ pinsAt fp h) : p.1 ∈ fp ∧ h.get? p.1 = some p.2 := by
  obtain ⟨b, hb, e⟩ := List.mem_filterMap.mp hp
  cases q : h.get? b with
  | none => rw [q] at e; cases e
  | some o =>
    rw [q] at e
    have e' : (b, o) = p := Option.some.inj e
    subst e'
    exact ⟨hb, q⟩
theorem Inv.pinned {pins : List (Addr × Obj)} {σ : St} {H : Hp} {s : Shared} {fp : List Addr} (I : Inv X pins σ H s) (hf : ∀ b ∈ fp, FpOk X pins H b) (ho : ∀ b ∈ fp, ∃ o, s.heap.get? b = some o ∧ ∀ v, o.data ≠ .cell v) : Inv X (pins ++ pinsAt fp s.heap) σ H s :=
  I.pins_of fun p hp => (List.mem_append.mp hp).elim (fun z => I.pin p (List.mem_append_right _ z)) fun z => by
    obtain ⟨hb, e⟩ := of_pinsAt z
    obtain ⟨f0, f1, f2, _⟩ := hf p.1 hb
    obtain ⟨o, e', d⟩ := ho p.1 hb
    rw [e] at e'; cases e'
    exact ⟨e, f0, f1, f2, d⟩
theorem Inv.unpinned {pins pl : List (Addr × Obj)} {σ : St} {H : Hp} {s : Shared} (I : Inv X (pins ++ pl) σ H s) : Inv X pins σ H s := I.pins_of fun p hp => I.pin p (List.mem_append_right _ (List.mem_append_left _ hp))
theorem ps_for {iter : Expr} {body : List Stmt} {wi : TI} {g : TG} {tb : TS} {pos : Pos} (hp : PassesOwn (model X.prog X.w) X.A X.env X.xe) (hc : X.calm = true) (hi : PI X tg iter wi) (hg : PG X tg g) (hb : PSs X body tb)
    (hs : ∀ x, foldedSetIterable iter X.env x = pure x := by intro _; rfl) : PS X (.For tg iter body [] pos) (tFor wi g tb) := by
  intro pins s σ H D I h
  refine wpAny_For (thn (hi pins s σ H _ I h) fun v s1 h1 => thn h1 fun itv s2 h2 => ?_) hs
  obtain ⟨it, fp, tn, J, H2, e, I2, T, st2, f2, W, ⟨m0, w0⟩, turn⟩ := h2
  subst e
  -- what stays true of the iterator's objects through the loop
  have stat : ∀ {H' : Hp}, (∀ b ∈ fp, H' b = none) → ∀ b ∈ fp, FpOk X pins H' b := fun hn b hb => ⟨hn b hb, (f2 b hb).2⟩
  refine codeAny_forLoop_any (fun n s' => ∃ i σ' H', Inv X pins σ' H' s' ∧ tn i s'.heap ∧ (∀ b ∈ fp, H' b = none) ∧ W i n σ' H') ?_ m0 ⟨0, σ, H2, I2, st2, fun b hb => (f2 b hb).1, w0⟩
  rintro n s3 ⟨i, σ3, H3, I3, st3, fr3, w3⟩
  rcases turn i n σ3 H3 w3 with ⟨stop, qn⟩ | ⟨go, N, hN, step⟩
  · refine wpAny_passesOwn hp (thn (T.done X rfl rfl rfl hc i pins s3 σ3 H3 X.xe I3 (stat fr3) st3 stop) fun r s4 ⟨hr, I4⟩ => ?_)
    subst hr
    exact wpAny_execs_nil ⟨σ3, H3, I4, qn⟩
  · refine wpAny_passesOwn hp (thn (T.item X rfl rfl rfl hc i pins s3 σ3 H3 X.xe I3 (stat fr3) st3 go) fun r s4 ⟨u, hr, h4⟩ => ?_)
    subst hr
    refine wpAny_passesOwn hp (thn h4 fun _ s5 ⟨x, H5, I5, r5, y5, st5, fr5⟩ => ?_)
    have I5' := I5.pinned (stat fr5) (T.obj _ _ st5)
    refine wpAny_passesOwn hp (thn (hg _ s5 σ3 H5 x u _ I5' r5 (step x H5 y5)) fun _ s6 ⟨σ6, H6, I6, q6⟩ => ?_)
    refine wpAny_passesOwn hp (thn (hb _ s6 σ6 H6 _ I6 q6) fun f s7 q7 => ?_)
    have again : ∀ {σ7 : St} {H7 : Hp}, Inv X (pins ++ pinsAt fp s5.heap) σ7 H7 s7 → N σ7 H7 → ∃ m, m < n ∧ ∃ i σ' H', Inv X pins σ' H' s7 ∧ tn i s7.heap ∧ (∀ b ∈ fp, H' b = none) ∧ W i m σ' H' := fun {σ7 H7} I7 n7 => by
      obtain ⟨m', hm, w7⟩ := hN σ7 H7 n7
      refine ⟨m', hm, i + 1, σ7, H7, I7.unpinned, T.keep _ _ _ st5 fun b hb o e => (I7.pin (b, o) (List.mem_append_right _ (List.mem_append_right _ (mem_pinsAt hb e)))).1, fun b hb => ?_, w7⟩
      obtain ⟨o, e, d⟩ := T.obj _ _ st5 b hb
      exact (I7.pin (b, o) (List.mem_append_right _ (List.mem_append_right _ (mem_pinsAt hb e)))).2.1
    cases f with
    | next => obtain ⟨σ7, H7, I7, n7⟩ := q7; exact again I7 n7
    | cont => obtain ⟨σ7, H7, I7, n7⟩ := q7; exact again I7 n7
    | brk => obtain ⟨σ7, H7, I7, q7⟩ := q7; exact ⟨σ7, H7, I7.unpinned, q7⟩
    | ret v => obtain ⟨x7, σ7, H7, I7, r7, q7⟩ := q7; exact ⟨x7, σ7, H7, I7.unpinned, r7, q7⟩
end

theorem for_list {K : PySem.W.Frag} {a : Addr} {xs : List V} {g : TG} {tb : TS} {D : Ends} {σ : St} {H : Hp} (Pv : Nat → St → Hp → Prop) (h0 : Pv 0 σ H) (hl : ∀ i σ H, i ≤ xs.length → Pv i σ H → SqL K H a xs)
    (hs : ∀ i x σ H, xs[i]? = some x → Pv i σ H → g x σ H fun σ2 H2 => tb { D with nx := Pv (i + 1), ct := Pv (i + 1), bk := D.nx } σ2 H2) (hd : ∀ σ H, Pv xs.length σ H → D.nx σ H) :
    ∃ W : Nat → Nat → St → Hp → Prop, (∃ m, W 0 m σ H) ∧ ∀ i m σ H, W i m σ H →
      ((Itl K a).stop i H ∧ D.nx σ H) ∨ ((Itl K a).go i H ∧ ∃ N : St → Hp → Prop, (∀ σ' H', N σ' H' → ∃ m', m' < m ∧ W (i + 1) m' σ' H') ∧ ∀ x H', (Itl K a).yld i H x H' → g x σ H' fun σ2 H2 => tb { D with nx := N, ct := N, bk := D.nx } σ2 H2) := by
  refine ⟨fun i m σ H => m = xs.length - i ∧ i ≤ xs.length ∧ Pv i σ H, ⟨xs.length, by simp, Nat.zero_le _, h0⟩, ?_⟩
  rintro i m σ H ⟨rfl, hi, p⟩
  have q := hl i σ H hi p
  by_cases hlt : i < xs.length
  · refine .inr ⟨⟨xs, xs[i], q, by simp [hlt]⟩, Pv (i + 1), fun σ' H' p' => ⟨xs.length - (i + 1), by omega, rfl, hlt, p'⟩, fun x H' y => ?_⟩
    obtain ⟨e, y⟩ := y
    subst e
    exact hs i x σ _ (y xs q) p
  · have e : i = xs.length := by omega
    subst e
    exact .inl ⟨⟨xs, q, Nat.le_refl _⟩, hd σ H p⟩
theorem for_tup {K : PySem.W.Frag} {a : Addr} {xs : List V} {g : TG} {tb : TS} {D : Ends} {σ : St} {H : Hp} (Pv : Nat → St → Hp → Prop) (h0 : Pv 0 σ H) (hl : ∀ i σ H, i ≤ xs.length → Pv i σ H → SqT K H a xs)
    (hs : ∀ i x σ H, xs[i]? = some x → Pv i σ H → g x σ H fun σ2 H2 => tb { D with nx := Pv (i + 1), ct := Pv (i + 1), bk := D.nx } σ2 H2) (hd : ∀ σ H, Pv xs.length σ H → D.nx σ H) :
    ∃ W : Nat → Nat → St → Hp → Prop, (∃ m, W 0 m σ H) ∧ ∀ i m σ H, W i m σ H →
      ((Itt K a).stop i H ∧ D.nx σ H) ∨ ((Itt K a).go i H ∧ ∃ N : St → Hp → Prop, (∀ σ' H', N σ' H' → ∃ m', m' < m ∧ W (i + 1) m' σ' H') ∧ ∀ x H', (Itt K a).yld i H x H' → g x σ H' fun σ2 H2 => tb { D with nx := N, ct := N, bk := D.nx } σ2 H2) := by
  refine ⟨fun i m σ H => m = xs.length - i ∧ i ≤ xs.length ∧ Pv i σ H, ⟨xs.length, by simp, Nat.zero_le _, h0⟩, ?_⟩
  rintro i m σ H ⟨rfl, hi, p⟩
  have q := hl i σ H hi p
  by_cases hlt : i < xs.length
  · refine .inr ⟨⟨xs, xs[i], q, by simp [hlt]⟩, Pv (i + 1), fun σ' H' p' => ⟨xs.length - (i + 1), by omega, rfl, hlt, p'⟩, fun x H' y => ?_⟩
    obtain ⟨e, y⟩ := y
    subst e
    exact hs i x σ _ (y xs q) p
  · have e : i = xs.length := by omega
    subst e
    exact .inl ⟨⟨xs, q, Nat.le_refl _⟩, hd σ H p⟩
theorem for_range {lo : Int} {n : Nat} {g : TG} {tb : TS} {D : Ends} {σ : St} {H : Hp} (Pv : Nat → St → Hp → Prop) (h0 : Pv 0 σ H)
    (hs : ∀ i σ H, i < n → Pv i σ H → g (.int (lo + i)) σ H fun σ2 H2 => tb { D with nx := Pv (i + 1), ct := Pv (i + 1), bk := D.nx } σ2 H2) (hd : ∀ σ H, Pv n σ H → D.nx σ H) :
    ∃ W : Nat → Nat → St → Hp → Prop, (∃ m, W 0 m σ H) ∧ ∀ i m σ H, W i m σ H →
      ((Itr lo n).stop i H ∧ D.nx σ H) ∨ ((Itr lo n).go i H ∧ ∃ N : St → Hp → Prop, (∀ σ' H', N σ' H' → ∃ m', m' < m ∧ W (i + 1) m' σ' H') ∧ ∀ x H', (Itr lo n).yld i H x H' → g x σ H' fun σ2 H2 => tb { D with nx := N, ct := N, bk := D.nx } σ2 H2) := by
  refine ⟨fun i m σ H => m = n - i ∧ i ≤ n ∧ Pv i σ H, ⟨n, by simp, Nat.zero_le _, h0⟩, ?_⟩
  rintro i m σ H ⟨rfl, hi, p⟩
  by_cases hlt : i < n
  · refine .inr ⟨hlt, Pv (i + 1), fun σ' H' p' => ⟨n - (i + 1), by omega, rfl, hlt, p'⟩, fun x H' y => ?_⟩
    obtain ⟨e, y⟩ := y
    subst e y
    exact hs i σ _ hlt p
  · have e : i = n := by omega
    subst e
    exact .inl ⟨Nat.le_refl _, hd σ H p⟩
end L2

namespace L2
open PySem PySem.Spec PyProof.Rows

abbrev R2 := V → V → Hp → VK → Prop
def OpR (X : Cx) (f : Value → Value → Sem Value) (r : R2) : Prop :=
  ∀ (pins : List (Addr × Obj)) (s : Shared) (σ : St) (H : Hp) (x y : V) (v u : Value) (Q : VK), Inv X pins σ H s → RelV x v → RelV y u → r x y H Q →
    wpAny (model X.prog X.w) X.A (f v u) (EP X pins σ Q) X.xe s
def UnR (X : Cx) (f : Value → Sem Value) (r : V → Hp → VK → Prop) : Prop :=
  ∀ (pins : List (Addr × Obj)) (s : Shared) (σ : St) (H : Hp) (x : V) (v : Value) (Q : VK), Inv X pins σ H s → RelV x v → r x H Q →
    wpAny (model X.prog X.w) X.A (f v) (EP X pins σ Q) X.xe s
def CallR (X : Cx) (f : Value) (r : List V → Hp → VK → Prop) : Prop :=
  ∀ (pins : List (Addr × Obj)) (s : Shared) (σ : St) (H : Hp) (xs : List V) (us : List Value) (Q : VK), Inv X pins σ H s → Vals xs us → r xs H Q →
    wpAny (model X.prog X.w) X.A (call f us) (EP X pins σ Q) X.xe s
def TruR (X : Cx) (r : V → Hp → (Bool → Hp → Prop) → Prop) : Prop :=
  ∀ (pins : List (Addr × Obj)) (s : Shared) (σ : St) (H : Hp) (x : V) (v : Value) (Q : Bool → Hp → Prop), Inv X pins σ H s → RelV x v → r x H Q →
    wpAny (model X.prog X.w) X.A (truthy v) (TP X pins σ Q) X.xe s

def tOp (r : R2) (ta tb : TE) : TE := fun σ H Q => ta σ H fun x H1 => tb σ H1 fun y H2 => r x y H2 Q
def tUn (r : V → Hp → VK → Prop) (ta : TE) : TE := fun σ H Q => ta σ H fun x H1 => r x H1 Q
def rI (C : Int → Int → Prop) (g : Int → Int → V) : R2 := fun x y H Q => ∃ i j, x = .int i ∧ y = .int j ∧ C i j ∧ Q (g i j) H
def rI0 (g : Int → Int → V) : R2 := fun x y H Q => ∃ i j, x = .int i ∧ y = .int j ∧ Q (g i j) H
def rU (g : Int → V) : V → Hp → VK → Prop := fun x H Q => ∃ i, x = .int i ∧ Q (g i) H

section
variable {X : Cx} {a b c : Expr} {ta tb tc : TE} {pos : Pos}

theorem binT (ha : PE X a ta) (hb : PE X b tb) {pins : List (Addr × Obj)} {s : Shared} {σ : St} {H : Hp} {R : V → V → Hp → Prop} (I : Inv X pins σ H s)
    (h : ta σ H fun x H1 => tb σ H1 fun y H2 => R x y H2) {Q : Value → Shared → Prop} {f : Value → Value → Sem Value}
    (hf : ∀ v u s2 x y H2, Inv X pins σ H2 s2 → RelV x v → RelV y u → R x y H2 → wpAny (model X.prog X.w) X.A (f v u) Q X.xe s2) :
    wpAny (model X.prog X.w) X.A (eval a X.env) (fun v s₁ => wpAny (model X.prog X.w) X.A (eval b X.env) (fun u s₂ => wpAny (model X.prog X.w) X.A (f v u) Q X.xe s₂) X.xe s₁) X.xe s := by
  refine thn (ha pins s σ H _ I h) fun v s1 ⟨x, H1, I1, r1, q1⟩ => ?_
  refine thn (hb pins s1 σ H1 _ I1 q1) fun u s2 ⟨y, H2, I2, r2, q2⟩ => ?_
  exact hf v u s2 x y H2 I2 r1 r2 q2

theorem pe_op {op : Operator} {r : R2} (ho : OpR X (binaryOp op) r) (ha : PE X a ta) (hb : PE X b tb) : PE X (.BinOp a op b pos) (tOp r ta tb) := by
  intro pins s σ H Q I h
  exact wpAny_BinOp (binT ha hb I h fun v u s2 x y H2 I2 rx ry q => ho pins s2 σ H2 x y v u Q I2 rx ry q)
theorem opI {f : Value → Value → Sem Value} {C : Int → Int → Prop} {g : Int → Int → Int}
    (rule : ∀ (i j : Int) (t u : Tok) (s : Shared) (Q : Value → Shared → Prop) (E : Value → Shared → Prop), C i j → Q (.int (g i j) s.toks) { s with toks := s.toks + 1 } → wpAny (model X.prog X.w) X.A (f (.int i t) (.int j u)) Q E s) :
    OpR X f (rI C fun i j => .int (g i j)) := by
  intro pins s σ H x y v u Q I rx ry h
  obtain ⟨i, j, rfl, rfl, hc, q⟩ := h
  obtain ⟨t, rfl⟩ := rx
  obtain ⟨t', rfl⟩ := ry
  exact rule i j t t' s _ _ hc ⟨.int (g i j), H, I.tok _, ⟨_, rfl⟩, q⟩
theorem opI0 {f : Value → Value → Sem Value} {g : Int → Int → Int}
    (rule : ∀ (i j : Int) (t u : Tok) (s : Shared) (Q : Value → Shared → Prop) (E : Value → Shared → Prop), Q (.int (g i j) s.toks) { s with toks := s.toks + 1 } → wpAny (model X.prog X.w) X.A (f (.int i t) (.int j u)) Q E s) :
    OpR X f (rI0 fun i j => .int (g i j)) := by
  intro pins s σ H x y v u Q I rx ry h
  obtain ⟨i, j, rfl, rfl, q⟩ := h
  obtain ⟨t, rfl⟩ := rx
  obtain ⟨t', rfl⟩ := ry
  exact rule i j t t' s _ _ ⟨.int (g i j), H, I.tok _, ⟨_, rfl⟩, q⟩
theorem opB0 {f : Value → Value → Sem Value} {g : Int → Int → Bool}
    (rule : ∀ (i j : Int) (t u : Tok) (s : Shared) (Q : Value → Shared → Prop) (E : Value → Shared → Prop), Q (.bool (g i j)) s → wpAny (model X.prog X.w) X.A (f (.int i t) (.int j u)) Q E s) :
    OpR X f (rI0 fun i j => .bl (g i j)) := by
  intro pins s σ H x y v u Q I rx ry h
  obtain ⟨i, j, rfl, rfl, q⟩ := h
  obtain ⟨t, rfl⟩ := rx
  obtain ⟨t', rfl⟩ := ry
  exact rule i j t t' s _ _ ⟨.bl (g i j), H, I, rfl, q⟩

def CDiv (i j : Int) : Prop := 0 < j ∧ j < 1073741824
def CDivN (i j : Int) : Prop := j ≠ 0 ∧ j.natAbs < 1073741824
def CPow (i j : Int) : Prop := 0 ≤ j ∧ j ≤ 1000000 ∧ i.natAbs < 2 ^ 64
def CMul (i j : Int) : Prop := (-(2 ^ 64) < i ∧ i < 2 ^ 64) ∨ (-(2 ^ 64) < j ∧ j < 2 ^ 64)
theorem CMul.ok {i j : Int} (h : CMul i j) : IntMulOk i j := by
  rcases h with ⟨h1, h2⟩ | ⟨h1, h2⟩
  · exact .of_left (intBits_le_64 h1 h2)
  · exact .of_right (intBits_le_64 h1 h2)
theorem op_add : OpR X (binaryOp .Add) (rI0 fun i j => .int (i + j)) := opI0 fun _ _ _ _ _ _ _ q => add_int q
theorem op_sub : OpR X (binaryOp .Sub) (rI0 fun i j => .int (i - j)) := opI0 fun _ _ _ _ _ _ _ q => sub_int q
theorem op_mul : OpR X (binaryOp .Mult) (rI CMul fun i j => .int (i * j)) := opI fun _ _ _ _ _ _ _ hc q => mul_int q hc.ok
theorem op_fdiv : OpR X (binaryOp .FloorDiv) (rI CDiv fun i j => .int (i / j)) := opI fun i j _ _ _ _ _ hc q => by
  have h1 : (0 : Int) < j := hc.1
  have h2 : j < 1073741824 := hc.2
  exact floordiv_int (by omega) (by rw [Int.fdiv_eq_ediv_of_nonneg i (by omega)]; exact q) (.inl (PyProof.noPylong_small (by omega)))
theorem op_mod : OpR X (binaryOp .Mod) (rI (fun _ j => 0 < j) fun i j => .int (i % j)) := opI fun i j _ _ _ _ _ hc q => by
  have h1 : (0 : Int) < j := hc
  exact mod_int' (by omega) (by rw [Int.fmod_eq_emod_of_nonneg i (by omega)]; exact q)
theorem op_pow : OpR X (binaryOp .Pow) (rI CPow fun i j => .int (i ^ j.toNat)) := opI fun _ _ _ _ _ _ _ hc q => pow_int_small hc.1 hc.2.1 hc.2.2 q
end

def scal : V → V → Bool
  | .non, .non => true | .non, .int _ => true | .int _, .non => true | .non, .bl _ => true | .bl _, .non => true | .non, .str _ => true | .str _, .non => true
  | .int _, .int _ => true | .bl _, .bl _ => true | .str _, .str _ => true | .byt _, .byt _ => true
  | .int _, .str _ => true | .str _, .int _ => true | .bl _, .str _ => true | .str _, .bl _ => true
  | _, _ => false
def rEq : R2 := fun x y H Q => scal x y = true ∧ Q (.bl (decide (x = y))) H
def rNe : R2 := fun x y H Q => scal x y = true ∧ Q (.bl (!decide (x = y))) H

theorem dec_int {i j : Int} : decide (V.int i = V.int j) = (i == j) := by
  rw [Bool.eq_iff_iff]
  simp
theorem dec_bl {i j : Bool} : decide (V.bl i = V.bl j) = (i == j) := by
  rw [Bool.eq_iff_iff]
  simp
theorem dec_str {i j : Str} : decide (V.str i = V.str j) = (i == j) := by
  rw [Bool.eq_iff_iff]
  simp
theorem dec_byt {i j : Array UInt8} : decide (V.byt i = V.byt j) = (i.toList == j.toList) := by
  rw [Bool.eq_iff_iff]
  cases i
  cases j
  simp

section
variable {X : Cx} {a b c : Expr} {ta tb tc : TE} {pos : Pos}
theorem fin_bl {pins : List (Addr × Obj)} {σ : St} {H : Hp} {s : Shared} {Q : VK} {k k' : Bool} (I : Inv X pins σ H s) (q : Q (.bl k) H) (e : k = k') : EP X pins σ Q (.bool k') s := by
  subst e
  exact ⟨.bl k, H, I, rfl, q⟩
theorem op_eq : OpR X (compareOp .Eq) rEq := by
  intro pins s σ H x y v u Q I rx ry h
  obtain ⟨hs, q⟩ := h
  cases x with
  | non =>
    cases rx
    cases y with
    | non => cases ry; exact PySem.EqNone.eq_none_none (fin_bl I q (by simp))
    | bl j => cases ry; exact PySem.EqNone.eq_none_bool (fin_bl I q (by simp))
    | int j => obtain ⟨t', rfl⟩ := ry; exact PySem.EqNone.eq_none_int (fin_bl I q (by simp))
    | str j => obtain ⟨t', rfl⟩ := ry; exact PySem.EqNone.eq_none_str (fin_bl I q (by simp))
    | _ => exact absurd (show false = true from hs) Bool.false_ne_true
  | bl i =>
    cases rx
    cases y with
    | non => cases ry; exact PySem.EqNone.eq_bool_none (fin_bl I q (by simp))
    | bl j => cases ry; exact eq_bool (fin_bl I q dec_bl)
    | str j => obtain ⟨t', rfl⟩ := ry; exact PySem.EqMixed.eq_bool_str (fin_bl I q (by simp))
    | _ => exact absurd (show false = true from hs) Bool.false_ne_true
  | int i =>
    obtain ⟨t, rfl⟩ := rx
    cases y with
    | non => cases ry; exact PySem.EqNone.eq_int_none (fin_bl I q (by simp))
    | int j => obtain ⟨t', rfl⟩ := ry; exact eq_int (fin_bl I q dec_int)
    | str j => obtain ⟨t', rfl⟩ := ry; exact PySem.EqMixed.eq_int_str (fin_bl I q (by simp))
    | _ => exact absurd (show false = true from hs) Bool.false_ne_true
  | str i =>
    obtain ⟨t, rfl⟩ := rx
    cases y with
    | non => cases ry; exact PySem.EqNone.eq_str_none (fin_bl I q (by simp))
    | bl j => cases ry; exact PySem.EqMixed.eq_str_bool (fin_bl I q (by simp))
    | int j => obtain ⟨t', rfl⟩ := ry; exact PySem.EqMixed.eq_str_int (fin_bl I q (by simp))
    | str j => obtain ⟨t', rfl⟩ := ry; exact eq_str (fin_bl I q dec_str)
    | _ => exact absurd (show false = true from hs) Bool.false_ne_true
  | byt i =>
    obtain ⟨t, rfl⟩ := rx
    cases y with
    | byt j => obtain ⟨t', rfl⟩ := ry; exact PySem.W.eq_bytes (fin_bl I q dec_byt)
    | _ => exact absurd (show false = true from hs) Bool.false_ne_true
  | _ => cases y <;> exact absurd (show false = true from hs) Bool.false_ne_true
theorem op_lt : OpR X (compareOp .Lt) (rI0 fun i j => .bl (decide (i < j))) := opB0 fun _ _ _ _ _ _ _ q => lt_int q
theorem op_gt : OpR X (compareOp .Gt) (rI0 fun i j => .bl (decide (j < i))) := opB0 fun _ _ _ _ _ _ _ q => gt_int q
theorem op_ge : OpR X (compareOp .GtE) (rI0 fun i j => .bl (decide (j ≤ i))) := opB0 fun _ _ _ _ _ _ _ q => ge_int q
def isObj : HO → Bool
  | .lst _ => true
  | .ins _ _ _ => true
  | _ => false
theorem nomark (b : Expr) {op : CmpOp} (h : op ≠ .In := by decide) (h2 : op ≠ .NotIn := by decide) : behindInMarks op b = false := by
  have e1 : (op == CmpOp.In) = false := by cases op <;> first | rfl | exact absurd rfl h
  have e2 : (op == CmpOp.NotIn) = false := by cases op <;> first | rfl | exact absurd rfl h2
  cases b <;> simp [behindInMarks, e1, e2]
theorem pe_cmpR {op : CmpOp} {r : R2} (ho : OpR X (compareOp op) r) (ha : PE X a ta) (hb : PE X b tb) (hm : behindInMarks op b = false) : PE X (.Compare a [op] [b] pos) (tOp r ta tb) := by
  intro pins s σ H Q I h
  exact wpAny_Compare1 (binT ha hb I h fun v u s2 x y H2 I2 rx ry q => ho pins s2 σ H2 x y v u Q I2 rx ry q) hm
def tTest (t : TE) : TT := fun σ H Q => t σ H fun x H' => ∃ k, x = .bl k ∧ Q k H'
theorem pt_cmpR {op : CmpOp} {r : R2} (ho : OpR X (compareOp op) r) (ha : PE X a ta) (hb : PE X b tb) (hm : behindInMarks op b = false) : PT X (.Compare a [op] [b] pos) (tTest (tOp r ta tb)) := by
  intro pins s σ H Q I h
  refine wpAny_isTrue_Compare1 (thn (ha pins s σ H _ I h) fun v s1 ⟨x, H1, I1, r1, q1⟩ => thn (hb pins s1 σ H1 _ I1 q1) fun u s2 ⟨y, H2, I2, r2, q2⟩ =>
    thn (ho pins s2 σ H2 x y v u _ I2 r1 r2 q2) fun c s3 ⟨z, H3, I3, r3, k, e, q3⟩ => ?_) hm
  subst e
  cases r3
  exact wpAny_truthy_bool ⟨H3, I3, q3⟩
def tChain (r r' : R2) (ta tb tc : TE) : TE := fun σ H Q => ta σ H fun x H1 => tb σ H1 fun y H2 => r x y H2 fun z H3 => ∃ k, z = .bl k ∧
  (if k = true then tc σ H3 fun w' H4 => r' y w' H4 Q else Q (.bl false) H3)
def TruV (K : PySem.W.Frag) (x : V) (H : Hp) (k : Bool) : Prop :=
  match x with
  | .non => k = false
  | .bl b => k = b
  | .int i => k = (i != 0)
  | .str y => y.length ≤ sizeLine ∧ k = ((y.length : Int) != 0)
  | .byt y => y.size ≤ sizeLine ∧ k = ((y.size : Int) != 0)
  | .ref p => (∃ xs, SqL K H p xs ∧ k = !xs.isEmpty) ∨ (∃ xs, SqT K H p xs ∧ k = !xs.isEmpty) ∨ ∃ kvs, H p = some (.dK kvs) ∧ k = !kvs.isEmpty
  | _ => False
theorem line63 : (sizeLine : Nat) < 2 ^ 63 := by rw [sizeLine_eq]; decide
def PlainIxT (b : Expr) : Prop := ∀ o i, subscripted b false o i = operate [o, i] (getItem o i)
theorem vals1 {x : V} {us : List Value} (r : Vals [x] us) : ∃ u, us = [u] ∧ RelV x u := by
  cases r with
  | cons r1 r2 => cases r2; exact ⟨_, rfl, r1⟩
theorem vals2 {x y : V} {us : List Value} (r : Vals [x, y] us) : ∃ u w', us = [u, w'] ∧ RelV x u ∧ RelV y w' := by
  cases r with
  | cons r1 r2 =>
    cases r2 with
    | cons r3 r4 => cases r4; exact ⟨_, _, rfl, r1, r3⟩
theorem call_abs : CallR X (.builtin "abs") (fun xs H Q => ∃ i, xs = [.int i] ∧ Q (.int (if i < 0 then -i else i)) H) := by
  intro pins s σ H xs us Q I r h
  obtain ⟨i, rfl, q⟩ := h
  obtain ⟨u, rfl, t, rfl⟩ := vals1 r
  exact call_abs_int fun u tk => ⟨.int (if i < 0 then -i else i), H, I.tok _, ⟨_, rfl⟩, q⟩
theorem call_max2 (hc : X.calm = true) : CallR X (.builtin "max") (fun xs H Q => ∃ i j, xs = [.int i, .int j] ∧ Q (.int (if j > i then j else i)) H) := by
  intro pins s σ H xs us Q I r h
  obtain ⟨i, j, rfl, q⟩ := h
  obtain ⟨u, w', rfl, ⟨t, rfl⟩, ⟨t', rfl⟩⟩ := vals2 r
  refine max_two_ints (I.ok.hd hc) fun h' tk k => ⟨_, H, I.kept k, ?_, q⟩
  by_cases hj : j > i
  · rw [if_pos hj, if_pos hj]; exact ⟨_, rfl⟩
  · rw [if_neg hj, if_neg hj]; exact ⟨_, rfl⟩
theorem call_min2 (hc : X.calm = true) : CallR X (.builtin "min") (fun xs H Q => ∃ i j, xs = [.int i, .int j] ∧ Q (.int (if j < i then j else i)) H) := by
  intro pins s σ H xs us Q I r h
  obtain ⟨i, j, rfl, q⟩ := h
  obtain ⟨u, w', rfl, ⟨t, rfl⟩, ⟨t', rfl⟩⟩ := vals2 r
  refine min_two_ints (I.ok.hd hc) fun h' tk k => ⟨_, H, I.kept k, ?_, q⟩
  by_cases hj : j < i
  · rw [if_pos hj, if_pos hj]; exact ⟨_, rfl⟩
  · rw [if_neg hj, if_neg hj]; exact ⟨_, rfl⟩
def LenV (K : PySem.W.Frag) (x : V) (H : Hp) (n : Nat) : Prop :=
  match x with
  | .str y => y.length ≤ sizeLine ∧ n = y.length
  | .byt y => y.size ≤ sizeLine ∧ n = y.size
  | .ref p => (∃ xs, SqL K H p xs ∧ n = xs.length) ∨ ∃ xs, SqT K H p xs ∧ n = xs.length
  | _ => False
end
end L2

namespace L2
open PySem PySem.Spec PyProof.Rows

structure ObjM (h : Heap) (x dx C : Addr) (mA : Str → Option Value) : Prop where
  obj : h.get? x = some (PySem.W.instObj C dx)
  ns : h.Ns1 dx mA
  ne : dx ≠ x

theorem lookIn_ns {h : Heap} {dx : Addr} {mA : Str → Option Value} (n : h.Ns1 dx mA) : ∃ od, h.get? dx = some od ∧ ∀ name, PySem.W.lookIn name od = some (mA name) := by
  obtain ⟨o, es, ep, ho, hd, hk, _, hm⟩ := n
  refine ⟨o, ho, fun name => ?_⟩
  have e := hm name
  unfold nsFind findBy at e
  rw [← Array.find?_toList] at e
  unfold PySem.W.lookIn
  rw [hd]
  dsimp only
  split
  · rename_i y q
    rw [q] at e
    exact congrArg some e
  · rename_i q
    rw [q] at e
    have a : es.toList.any (·.refKey) = false := by
      rw [List.any_eq_false]
      intro y hy
      obtain ⟨z, t, hkey⟩ := hk y (Array.mem_toList_iff.mp hy)
      simp [DictEntry.refKey, hkey]
    have a' : ¬ es.toList.any (·.refKey) = true := by rw [a]; exact Bool.false_ne_true
    rw [if_neg a']
    exact congrArg some e

theorem ObjM.look {h : Heap} {x dx C : Addr} {mA : Str → Option Value} (I : ObjM h x dx C mA) : ∃ od, PySem.W.InstAt h x (PySem.W.instObj C dx) C (some od) ∧ ∀ name, PySem.W.lookIn name od = some (mA name) :=
  let ⟨od, ho, hl⟩ := lookIn_ns I.ns
  ⟨od, ⟨I.obj, rfl, rfl, ho⟩, hl⟩

section
variable {prog : Program} {w : World} {A : Around} {E : Value → Shared → Prop} {s : Shared} {K : PySem.W.Frag} {x dx C f : Addr} {mA : Str → Option Value} {name : Str} {v : Value}

end

def putF (f : Str) (v : V) : List (Str × V) → List (Str × V)
  | [] => [(f, v)]
  | (g, x) :: r => if g = f then (g, v) :: r else (g, x) :: putF f v r
section
variable {P : Program} {w : World} {H H' : Hp} {h h' : Heap} {a C dx : Addr} {fs fs' : List (Str × V)}
theorem ins_get (hok : HOk P w H h) (e : H a = some (.ins C dx fs)) : ∃ mA, ObjM h a dx C mA ∧ (∀ f, RelO (fs.lookup f) (mA f)) ∧ PySem.Within mA (fs.map (·.1)) ∧ fs.length ≤ 1000 ∧ H dx = some (.own a) := by
  obtain ⟨d, z, ne, ob, mA, n, r, q⟩ := (show ObjOk P w H h a (.ins C dx fs) from hok a _ e)
  exact ⟨mA, ⟨ob, n, ne⟩, r, q, z, d⟩
end

structure Cls (K : PySem.W.Frag) (C : Addr) : Prop where
  pg : PySem.W.plainGet K C Str.empty = true
  hd : PySem.W.hasDictIn K C = true
  po : PySem.W.plainOver K C = true
  sa : PySem.W.findIn K (.ref C) "__setattr__" = some (some (.builtin "object.__setattr__"))
theorem Cls.get {K : PySem.W.Frag} {C : Addr} (c : Cls K C) (f : Str) : PySem.W.plainGet K C f = true := c.pg
def NoAttr (K : PySem.W.Frag) (C : Addr) (f : Str) : Prop := PySem.W.findIn K (.ref C) f = some none
structure Con (K : PySem.W.Frag) (C : Addr) (f : Str) (v : V) (u : Value) : Prop where
  at_ : PySem.W.findIn K (.ref C) f = some (some u)
  rel : RelV v u
  get : PySem.W.specialIn K u "__get__" = some none
  cp : PySem.W.copiedNames.contains f = false
structure Meth (K : PySem.W.Frag) (C : Addr) (m : Str) (f : Addr) : Prop where
  at_ : PySem.W.findIn K (.ref C) m = some (some (.ref f))
  fn : PySem.W.isFn K (.ref f) = true
  kp : PySem.W.keepIn K (.ref f) = true

section
variable {X : Cx} {pins : List (Addr × Obj)} {σ : St} {H : Hp} {s : Shared} {a C dx : Addr} {fs : List (Str × V)} {f : Str} {v : V} {A : Around} {E : Value → Shared → Prop}

end

def tFld (K : PySem.W.Frag) (ta : TE) (f : Str) : TE := fun σ H Q => ta σ H fun x H1 => ∃ a C dx fs v, x = .ref a ∧ H1 a = some (.ins C dx fs) ∧ Cls K C ∧ NoAttr K C f ∧ fs.lookup f = some v ∧ Q v H1
def tCon (K : PySem.W.Frag) (ta : TE) (f : Str) : TE := fun σ H Q => ta σ H fun x H1 => ∃ a C dx fs v u, x = .ref a ∧ H1 a = some (.ins C dx fs) ∧ Cls K C ∧ Con K C f v u ∧ fs.lookup f = none ∧ Q v H1
def sFld (K : PySem.W.Frag) (ta tv : TE) (f : Str) : TS := fun D σ H => tv σ H fun y H1 => ta σ H1 fun x H2 => ∃ a C dx fs, x = .ref a ∧ H2 a = some (.ins C dx fs) ∧ Cls K C ∧ NoAttr K C f ∧ fs.length < 1000 ∧
  D.nx σ (upd H2 a (.ins C dx (putF f y fs)))
def InOp (X : Cx) (op : Operator) (rd : V → V → Hp → VK → Prop) : Prop :=
  ∀ (pins : List (Addr × Obj)) (s : Shared) (σ : St) (H : Hp) (x y : V) (u v : Value) (Q : VK), Inv X pins σ H s → RelV x u → RelV y v → rd x y H Q → wpAny (model X.prog X.w) X.A (inplaceOp op u v) (EP X pins σ Q) X.xe s
def sFldAug (K : PySem.W.Frag) (ta tv : TE) (rd : V → V → Hp → VK → Prop) (f : Str) : TS := fun D σ H => ta σ H fun x H1 => ∃ a C dx fs v, x = .ref a ∧ H1 a = some (.ins C dx fs) ∧ Cls K C ∧ NoAttr K C f ∧ fs.lookup f = some v ∧
  tv σ H1 fun y H2 => rd v y H2 fun z H3 => ∃ dx' fs', H3 a = some (.ins C dx' fs') ∧ fs'.length < 1000 ∧ D.nx σ (upd H3 a (.ins C dx' (putF f z fs')))

section
variable {X : Cx} {o e value : Expr} {f : Str} {pos pos' tpos : Pos} {ta tv : TE}
def rAdd : V → V → Hp → VK → Prop := fun x y H Q => ∃ i j, x = .int i ∧ y = .int j ∧ Q (.int (i + j)) H
def rSub : V → V → Hp → VK → Prop := fun x y H Q => ∃ i j, x = .int i ∧ y = .int j ∧ Q (.int (i - j)) H
end

section
variable {X : Cx} {pins : List (Addr × Obj)} {σ : St} {H : Hp} {s : Shared} {A : Around} {E : Value → Shared → Prop} {Q : Value → Shared → Prop} {c : Value} {b : Bool}
inductive TyOf (K : PySem.W.Frag) (H : Hp) : V → Value → Prop where
  | non : TyOf K H .non (.type "NoneType")
  | bl (x : Bool) : TyOf K H (.bl x) (.type "bool")
  | int (i : Int) : TyOf K H (.int i) (.type "int")
  | str (x : Str) : TyOf K H (.str x) (.type "str")
  | flt (x : UInt64) : TyOf K H (.flt x) (.type "float")
  | lst {a : Addr} {xs : List V} (e : H a = some (.lst xs)) : TyOf K H (.ref a) (.type "list")
  | frz {a : Addr} {o : Obj} {xs : List V} (e : H a = some (.frz o (.lst xs))) : TyOf K H (.ref a) (.type "list")
  | tup {a : Addr} {xs : List V} (e : H a = some (.tup xs)) : TyOf K H (.ref a) (.type "tuple")
  | dK {a : Addr} {kvs : List (Key × V)} (e : H a = some (.dK kvs)) : TyOf K H (.ref a) (.type "dict")
  | dT {a : Addr} {kvs : List (List Key × V)} (e : H a = some (.dT kvs)) : TyOf K H (.ref a) (.type "dict")
  | ins {a C dx : Addr} {fs : List (Str × V)} (e : H a = some (.ins C dx fs)) (cl : Cls K C) (ha : PySem.W.findIn K (.ref C) "__class__" = some (some (.builtin "object.__class__")))
      (hn : PySem.W.specialIn K (.builtin "object.__class__") "__get__" = some (some (.builtin "getset_descriptor.__get__"))) (htk : PySem.W.takesIn K (.builtin "object.__class__") = some true)
      (hm : PySem.W.mroIn K C (.type "object") = some true) : TyOf K H (.ref a) (.ref C)
theorem isinst_ok {x : V} {u t : Value} (I : Inv X pins σ H s) (rx : RelV x u) (ty : TyOf X.K H x t) (e : PySem.W.kitOne X.K t c = some b) (h : ∀ tk, Q (.bool b) { s with toks := tk }) :
    wpAny (model X.prog X.w) A (call (.builtin "isinstance") [u, c]) Q E s := by
  cases ty with
  | non => cases (show u = Value.none from rx); exact PySem.W.kia_one PySem.W.kitx_none I.kIn True.intro e (fun z => nomatch z) h
  | bl y => cases (show u = Value.bool y from rx); exact PySem.W.kia_one PySem.W.kitx_bool I.kIn True.intro e (fun z => nomatch z) h
  | int i => obtain ⟨t, q⟩ := (show ∃ t, u = Value.int i t from rx); cases q; exact PySem.W.kia_one PySem.W.kitx_int I.kIn True.intro e (fun z => nomatch z) h
  | str y => obtain ⟨t, q⟩ := (show ∃ t, u = Value.str y t from rx); cases q; exact PySem.W.kia_one PySem.W.kitx_str I.kIn True.intro e (fun z => nomatch z) h
  | flt y => obtain ⟨t, q⟩ := (show ∃ t, u = Value.float y t from rx); cases q; exact PySem.W.kia_one PySem.W.kitx_float I.kIn True.intro e (fun z => nomatch z) h
  | @lst a xs ea =>
    cases (show u = Value.ref a from rx)
    obtain ⟨_, _, n, _, h1⟩ := (show ObjOk X.prog X.w H s.heap a (.lst xs) from I.hok a _ ea)
    exact PySem.W.kia_one PySem.W.kitx_list I.kIn ⟨_, h1, rfl⟩ e (fun z => nomatch z) h
  | @frz a ob xs ea =>
    cases (show u = Value.ref a from rx)
    obtain ⟨_, _, _, n, _, h1⟩ := (show ObjOk X.prog X.w H s.heap a (.frz ob (.lst xs)) from I.hok a _ ea)
    exact PySem.W.kia_one PySem.W.kitx_list I.kIn ⟨_, h1, rfl⟩ e (fun z => nomatch z) h
  | @tup a xs ea =>
    cases (show u = Value.ref a from rx)
    obtain ⟨_, _, _, p⟩ := (show ObjOk X.prog X.w H s.heap a (.tup xs) from I.hok a _ ea)
    obtain ⟨o, h1, h2, _⟩ := p
    exact PySem.W.kia_one PySem.W.kitx_tuple I.kIn ⟨o, h1, h2⟩ e (fun z => nomatch z) h
  | @dK a kvs ea =>
    cases (show u = Value.ref a from rx)
    obtain ⟨_, _, vs, _, p⟩ := (show ObjOk X.prog X.w H s.heap a (.dK kvs) from I.hok a _ ea)
    obtain ⟨o, es, ep, h1, h2, _⟩ := p
    exact PySem.W.kia_one PySem.W.kitx_dict I.kIn ⟨o, h1, h2.1⟩ e (fun z => nomatch z) h
  | @dT a kvs ea =>
    cases (show u = Value.ref a from rx)
    obtain ⟨_, _, xs, _, o, es, ep, h1, h2, _⟩ := (show ObjOk X.prog X.w H s.heap a (.dT kvs) from I.hok a _ ea)
    exact PySem.W.kia_one PySem.W.kitx_dict I.kIn ⟨o, h1, h2.1⟩ e (fun z => nomatch z) h
  | @ins a C dx fs ea cl ha hn htk hm =>
    cases (show u = Value.ref a from rx)
    obtain ⟨mA, O, _⟩ := ins_get I.hok ea
    obtain ⟨od, J, _⟩ := O.look
    exact PySem.W.kia_one (PySem.W.kitx_own (cl.get _) cl.hd ha hn htk hm) I.kIn J e (fun z => nomatch z) h
end
end L2

namespace L2
open PySem PySem.Spec PyProof.Rows

structure Room (k : Nat) (A : Around) : Prop where
  hd : A.handled = none
  dp : A.depth + 3 * k + 5 < recursionLimit
  un : A.units + 16 * k + 200 < cLine
  gd : A.guards = some []
theorem Room.mono {j k : Nat} {A : Around} (r : Room k A) (h : j ≤ k) : Room j A := ⟨r.hd, by have := r.dp; omega, by have := r.un; omega, r.gd⟩
theorem Room.deeper {k : Nat} {A : Around} (r : Room (k + 1) A) (env : Env) : Room k (A.deeper env) :=
  ⟨r.hd, by have := r.dp; show A.depth + 1 + 3 * k + 5 < _; omega, by have := r.un; show A.units + 3 + 16 * k + 200 < _; omega, r.gd⟩
theorem Room.depth {k : Nat} {A : Around} (r : Room k A) : A.depth < recursionLimit := by have := r.dp; omega
def tNil : TA := fun _ H Q => Q [] H
def tCons (ta : TE) (tr : TA) : TA := fun σ H Q => ta σ H fun x H1 => tr σ H1 fun xs H2 => Q (x :: xs) H2
section
variable {X : Cx} {e : Expr} {es : List Expr} {te : TE} {t : TA} {pos : Pos}
theorem pa_nil : PA X [] tNil := fun _ _ _ _ H Q I h => Calls.spliced_nil ⟨[], H, I, .nil, h⟩
theorem pa_cons (ha : PE X e te) (hr : PA X es t) (hs : starEach (e :: es) X.env = (false, eval e X.env) :: starEach es X.env := by rfl) : PA X (e :: es) (tCons te t) := by
  intro pos pins s σ H Q I h
  rw [hs]
  show wpAny _ _ (spliced ((false, eval e X.env) :: backTo pos (starEach es X.env))) _ _ s
  refine Calls.spliced_cons (thn (ha pins s σ H _ I h) fun u s1 ⟨x, H1, I1, r1, q1⟩ => ?_)
  exact thn (hr pos pins s1 σ H1 _ I1 q1) fun us s2 ⟨xs, H2, I2, r2, q2⟩ => ⟨x :: xs, H2, I2, .cons r1 r2, q2⟩

def tTup (t : TA) : TE := fun σ H Q => t σ H fun xs H1 => xs.length ≤ sizeLine ∧ ∀ p, H1 p = none → Q (.ref p) (upd H1 p (.tup xs))
def tLst (t : TA) : TE := fun σ H Q => t σ H fun xs H1 => xs.length ≤ sizeLine ∧ ∀ p, H1 p = none → Q (.ref p) (upd H1 p (.lst xs))
theorem pe_tup {x1} (h : PA X es t) : PE X (.Tuple es x1 pos) (tTup t) := by
  intro pins s σ H Q I hq
  refine wpAny_Tuple_spliced (thn (h pos pins s σ H _ I hq) fun us s1 ⟨xs, H1, I1, r, z, q⟩ => ⟨by rw [← r.length]; exact z, ?_⟩)
  have hf : H1 s1.heap.objs.size = none := I1.hok.fresh (Nat.le_refl _)
  refine ⟨.ref s1.heap.objs.size, upd H1 s1.heap.objs.size (.tup xs), I1.laid (t' := s1.toks) (fun b u e => Heap.get?_push_of_some _ e) (Nat.le_refl _) ?_, rfl, q _ hf⟩
  exact ⟨z, us, r, PTup.new⟩
theorem pe_lst (h : PA X es t) : PE X (.List es pos) (tLst t) := by
  intro pins s σ H Q I hq
  refine wpAny_List_spliced (thn (h pos pins s σ H _ I hq) fun us s1 ⟨xs, H1, I1, r, z, q⟩ => ⟨by rw [← r.length]; exact z, ?_⟩)
  have hf : H1 s1.heap.objs.size = none := I1.hok.fresh (Nat.le_refl _)
  refine ⟨.ref s1.heap.objs.size, upd H1 s1.heap.objs.size (.lst xs), I1.laid (t' := s1.toks) (fun b u e => Heap.get?_push_of_some _ e) (Nat.le_refl _) ?_, rfl, q _ hf⟩
  exact ⟨z, us, 0, r, Heap.get?_push_size _ rfl⟩
end

abbrev Sp := List V → Hp → VK → XK → Prop
abbrev CXT := List Env → Hp → Shared → XK → Value → Shared → Prop

structure Env0 (P : Program) (w : World) (K : PySem.W.Frag) (mg : Str → Option Value) (base : Heap) (A : Around) (outer : List Env) (s : Shared) (H : Hp) : Prop where
  frames : A.frames = some outer
  mod : Mod K mg base
  bs : ∀ b o, base.get? b = some o → s.heap.get? b = some o ∧ H b = none
  bsz : base.objs.size ≤ s.heap.objs.size
  funs : s.heap.FunFrames base outer
  frf : ∀ b ∈ frs outer, H b = none
  hok : HOk P w H s.heap
  bare : AllBare s.gens
def CE (outer : List Env) (P : Program) (w : World) (H : Hp) (s : Shared) (Q : VK) (u : Value) (s' : Shared) : Prop :=
  ∃ v H', s'.os = s.os ∧ AllBare s'.gens ∧ Un (frs outer) [] H H' s.heap s'.heap ∧ HOk P w H' s'.heap ∧ RelV v u ∧ Q v H'
def CR (CX : CXT) (outer : List Env) (P : Program) (w : World) (H : Hp) (s : Shared) (Q : VK) (E : XK) (r : Result) (s' : Shared) : Prop :=
  match r with
  | .ok (.ret u) => CE outer P w H s Q u s'
  | .ok _ => False
  | .error e => CX outer H s E e s'
structure FnOk (P : Program) (w : World) (K : PySem.W.Frag) (mg : Str → Option Value) (base : Heap) (CX : CXT) (k : Nat) (f : Addr) (fd : FuncData) (ps : List Str) (sp : Sp) : Prop where
  len : ∀ vs H Q E, sp vs H Q E → vs.length = ps.length
  run : ∀ (A : Around) (outer : List Env) (s : Shared) (H : Hp) (args : Args) (us : List Value) (vs : List V) (Q : VK) (E : XK), Room k A → Env0 P w K mg base A outer s H → BindsTo s fd args (ps.zip us) → Vals vs us → sp vs H Q E →
    codeAny (model P w) A (.call (.ref f) args) (CR CX outer P w H s Q E) s
section
variable {X : Cx} {pins : List (Addr × Obj)} {σ : St} {H : Hp} {s s' : Shared}
theorem Inv.env0 (I : Inv X pins σ H s) : Env0 X.prog X.w X.K X.mg X.base X.A X.stack s H :=
  ⟨I.ok.frames, I.ok.mod, I.bs, Nat.le_trans I.ok.bsz I.sz, I.stack, I.stkFree, I.hok, I.bare⟩
theorem Inv.after {Q : VK} {u : Value} (I : Inv X pins σ H s) (h : CE X.stack X.prog X.w H s Q u s') : EP X pins σ Q u s' := by
  obtain ⟨v, H', os, bare, un, hok, r, q⟩ := h
  obtain ⟨hh, g, d, t, os'⟩ := s'
  obtain rfl : os' = s.os := os
  exact ⟨v, H', I.call (h' := hh) (g' := g) (d' := d) (t' := t) (ch := []) un hok bare (fun b z => absurd z (by simp)), r, q⟩
end

def tCall (sp : Sp) (dvs : List V) (E : XK) (t : TA) : TE := fun σ H Q => t σ H fun vs H1 => sp (vs ++ dvs) H1 Q E
def tMeth (C : Addr) (m : Str) (sp : Sp) (dvs : List V) (E : XK) (ta : TE) (t : TA) : TE := fun σ H Q => ta σ H fun x H1 => ∃ a dx fs, x = .ref a ∧ H1 a = some (.ins C dx fs) ∧ fs.lookup m = none ∧
  t σ H1 fun vs H2 => sp (x :: (vs ++ dvs)) H2 Q E
def tMake (C : Addr) (sp : Sp) (dvs : List V) (E : XK) (t : TA) : TE := fun σ H Q => t σ H fun vs H1 => ∀ x dx, H1 x = none → H1 dx = none → dx ≠ x →
  sp (.ref x :: (vs ++ dvs)) (upd (upd H1 dx (.own x)) x (.ins C dx [])) (fun v H2 => v = .non ∧ Q (.ref x) H2) E

def Binds (K : PySem.W.Frag) (fd : FuncData) (ps : List Str) (ds : List Value) : Prop :=
  ∀ (s : Shared) (us : List Value), K.In s.heap → (us ++ ds).length = ps.length → BindsTo s fd ⟨us, []⟩ (ps.zip (us ++ ds))
theorem Binds.all {K : PySem.W.Frag} {fd : FuncData} {ps : List Str} (h : ∀ us : List Value, us.length = ps.length → bindArgs fd ⟨us, []⟩ = pure (ps.zip us)) : Binds K fd ps [] := fun s us _ hl => by
  rw [List.append_nil] at hl ⊢
  exact .of_eq (h us hl)

def Passes (CX : CXT) (X : Cx) (E : XK) : Prop := ∀ (pins : List (Addr × Obj)) (σ : St) (H : Hp) (s : Shared) (e : Value) (s' : Shared), Inv X pins σ H s → CX X.stack H s E e s' → X.xe e s'

section
variable {X : Cx} {CX : CXT} {k : Nat} {f C : Addr} {fd : FuncData} {ps : List Str} {sp : Sp} {dvs : List V} {ds : List Value} {E : XK} {x m : Str} {p pos apos : Pos} {e o : Expr} {es : List Expr} {ta : TE} {t : TA}

theorem run_fn {pins : List (Addr × Obj)} {σ : St} {H : Hp} {s : Shared} {Q : VK} {us : List Value} {vs : List V} (F : FnOk X.prog X.w X.K X.mg X.base CX k f fd ps sp) (hr : Room k X.A) (hb : Binds X.K fd ps ds) (hd : Vals dvs ds) (hx : Passes CX X E)
    (I : Inv X pins σ H s) (r : Vals vs us) (h : sp (vs ++ dvs) H Q E) : wpAny (model X.prog X.w) X.A (call (.ref f) us) (EP X pins σ Q) X.xe s := by
  have r2 : Vals (vs ++ dvs) (us ++ ds) := r.append hd
  have hl : (us ++ ds).length = ps.length := by rw [← r2.length]; exact F.len _ _ _ _ h
  refine wpAny_call (codeAny_mono (F.run X.A X.stack s H ⟨us, []⟩ (us ++ ds) (vs ++ dvs) Q E hr I.env0 (hb s us I.kIn hl) r2 h) fun r s' hq => ?_)
  cases r with
  | error e => exact hx pins σ H s e s' I hq
  | ok fl =>
    cases fl with
    | ret u => exact I.after hq
    | next => exact False.elim hq
    | brk => exact False.elim hq
    | cont => exact False.elim hq

theorem pe_call (F : FnOk X.prog X.w X.K X.mg X.base CX k f fd ps sp) (hr : Room k X.A) (hg : Gl X x) (hm : X.mg x = some (.ref f)) (hk : PySem.W.keepIn X.K (.ref f) = true) (hb : Binds X.K fd ps ds) (hd : Vals dvs ds) (hx : Passes CX X E)
    (ha : PA X (e :: es) t) (hdb : (x == ("__debug__" : Str)) = false := by decide) (he : starEach (e :: es) X.env = (false, eval e X.env) :: starEach es X.env := by rfl) (hpl : (backTo pos (starEach es X.env)).any (·.1) = false := by rfl) :
    PE X (.Call (.Name x p) (e :: es) [] pos) (tCall sp dvs E t) := by
  intro pins s σ H Q I h
  refine wpAny_Call_Name_kw (ld_glob I hg hm ?_ hdb)
  refine PySem.W.callWith_K (h₀ := X.base) I.ok.mod.kin hk (thn (ha pos pins s σ H _ I h) fun us s1 ⟨vs, H1, I1, r, q⟩ => ⟨I1.kIn, ?_⟩) he hpl
  exact run_fn F hr hb hd hx I1 r q
structure Mk (K : PySem.W.Frag) (C f : Addr) : Prop where
  makes : PySem.W.makesIn K C = true
  init : PySem.W.findIn K (.ref C) "__init__" = some (some (.ref f))
  fn : PySem.W.isFn K (.ref f) = true
  kp : PySem.W.keepIn K (.ref C) = true

end

def PK (X : Cx) (kws : List Keyword) (t : TA) : Prop :=
  ∀ (pos : Pos) (pins : List (Addr × Obj)) (s : Shared) (σ : St) (H : Hp) (Q : List V → Hp → Prop), Inv X pins σ H s → t σ H Q → wpAny (model X.prog X.w) X.A (evalAll ((backToKw pos (keywordEach kws X.env)).map (·.2))) (AP X pins σ Q) X.xe s
section
variable {X : Cx} {CX : CXT} {k : Nat} {f C : Addr} {fd : FuncData} {ps ks : List Str} {sp : Sp} {E : XK} {x m : Str} {p pos apos kpos : Pos} {e o : Expr} {es : List Expr} {kws : List Keyword} {te ta : TE} {t tk : TA} {nm : Option Str}
structure KBinds (K : PySem.W.Frag) (fd : FuncData) (ps ks : List Str) (g : List Value → List Value → List Value) (gV : List V → List V → List V) : Prop where
  to : ∀ (s : Shared) (us ws : List Value), K.In s.heap → (g us ws).length = ps.length → BindsTo s fd ⟨us, ks.zip ws⟩ (ps.zip (g us ws))
  rel : ∀ {vs : List V} {us : List Value} {zs : List V} {ws : List Value}, Vals vs us → Vals zs ws → Vals (gV vs zs) (g us ws)
def tCallK (sp : Sp) (gV : List V → List V → List V) (E : XK) (t tk : TA) : TE := fun σ H Q => t σ H fun vs H1 => tk σ H1 fun zs H2 => sp (gV vs zs) H2 Q E
variable {g : List Value → List Value → List Value} {gV : List V → List V → List V}
end

structure FnScope (N P : List Str) (sc : Scope) : Prop where
  kind : sc.kind = .function
  co : sc.isCoroutine = false
  gen : sc.isGenerator = false
  nd : N.Nodup
  pre : N.take P.length = P
  par : ∀ x ∈ P, sc.names.lookup x = some .local ∨ sc.names.lookup x = some .cell
  nofree : ∀ y ∈ sc.names, y.2 ≠ .free

theorem bindL_out {kindOf : Str → Option NameKind} {x : Str} : ∀ {binds : List (Str × Value)} {m : Str → Option Value}, (∀ v, (x, v) ∉ binds) → bindL kindOf binds m x = m x
  | [], _, _ => rfl
  | (n, v) :: r, m, h => by
    unfold bindL
    rw [bindL_out fun w hw => h w (List.mem_cons_of_mem _ hw)]
    split
    · have : x ≠ n := by rintro rfl; exact h v List.mem_cons_self
      simp [this]
    · rfl
theorem bindC_out {kindOf : Str → Option NameKind} {x : Str} : ∀ {binds : List (Str × Value)} {m : Str → Option Value}, (∀ v, (x, v) ∉ binds) → bindC kindOf binds m x = m x
  | [], _, _ => rfl
  | (n, v) :: r, m, h => by
    unfold bindC
    rw [bindC_out fun w hw => h w (List.mem_cons_of_mem _ hw)]
    split
    · rfl
    · have : x ≠ n := by rintro rfl; exact h v List.mem_cons_self
      simp [this]
theorem bindL_get {kindOf : Str → Option NameKind} {x : Str} {v : Value} : ∀ {P : List Str} {vs : List Value} {i : Nat} {m : Str → Option Value}, P.Nodup → P[i]? = some x → vs[i]? = some v → kindOf x = some .local →
    bindL kindOf (P.zip vs) m x = some v
  | [], _, _, _, _, h, _, _ => by simp at h
  | _ :: _, [], _, _, _, _, h, _ => by simp at h
  | p :: P, w :: vs, 0, m, nd, h1, h2, hk => by
    simp at h1 h2; subst h1; subst h2
    show bindL kindOf ((p, w) :: P.zip vs) m p = _
    unfold bindL
    rw [bindL_out fun v hv => (List.nodup_cons.mp nd).1 (List.of_mem_zip hv).1, if_pos hk]
    simp
  | p :: P, w :: vs, i + 1, m, nd, h1, h2, hk => by
    show bindL kindOf ((p, w) :: P.zip vs) m x = _
    unfold bindL
    exact bindL_get (i := i) (List.nodup_cons.mp nd).2 (by simpa using h1) (by simpa using h2) hk
theorem bindC_get {kindOf : Str → Option NameKind} {x : Str} {v : Value} : ∀ {P : List Str} {vs : List Value} {i : Nat} {m : Str → Option Value}, P.Nodup → P[i]? = some x → vs[i]? = some v → kindOf x ≠ some .local →
    bindC kindOf (P.zip vs) m x = some v
  | [], _, _, _, _, h, _, _ => by simp at h
  | _ :: _, [], _, _, _, _, h, _ => by simp at h
  | p :: P, w :: vs, 0, m, nd, h1, h2, hk => by
    simp at h1 h2; subst h1; subst h2
    show bindC kindOf ((p, w) :: P.zip vs) m p = _
    unfold bindC
    rw [bindC_out fun v hv => (List.nodup_cons.mp nd).1 (List.of_mem_zip hv).1, if_neg hk]
    simp
  | p :: P, w :: vs, i + 1, m, nd, h1, h2, hk => by
    show bindC kindOf ((p, w) :: P.zip vs) m x = _
    unfold bindC
    exact bindC_get (i := i) (List.nodup_cons.mp nd).2 (by simpa using h1) (by simpa using h2) hk

def start (N : List Str) (vs : List V) : St := vs.map some ++ List.replicate (N.length - vs.length) none

def cxOf (CX : CXT) (P : Program) (w : World) (K : PySem.W.Frag) (mg : Str → Option Value) (base : Heap) (N : List Str) (qual : Str) (scope : Scope) (f : Addr) (cd : Value) (A : Around) (outer : List Env) (s : Shared) (H : Hp) (E : XK) : Cx where
  prog := P
  w := w
  K := K
  mg := mg
  base := base
  A := A.deeper (envOfC qual scope s.heap.objs.size f cd)
  N := N
  s₀ := s
  H₀ := H
  env := envOfC qual scope s.heap.objs.size f cd
  outer := outer
  stack := envOfC qual scope s.heap.objs.size f cd :: outer
  ex := []
  calm := true
  fn := fun _ => true
  pn := []
  xe := fun e s' => wpAny (model P w) (A.deeper (envOfC qual scope s.heap.objs.size f cd)) (leaving (envOfC qual scope s.heap.objs.size f cd) e) (fun _ s'' => CX outer H s E e s'') (fun e' s'' => CX outer H s E e' s'') s'

theorem cell_has {sc : Scope} {n : Nat} {x : Str} (h : sc.names.lookup x = some .cell) : ∃ c, (cellsFrom n sc.names []).lookup x = some c := by
  have q := PySem.W.cellsFrom_some sc.names n [] (.inl h)
  exact Option.isSome_iff_exists.mp q

theorem inv_start {CX : CXT} {P : Program} {w : World} {K : PySem.W.Frag} {mg : Str → Option Value} {base : Heap} {N ps : List Str} {qual : Str} {scope : Scope} {f : Addr} {cd : Value} {A : Around} {outer : List Env} {s s1 : Shared} {H : Hp} {E : XK} {us : List Value} {vs : List V}
    (S : FnScope N ps scope) (hd : A.handled = none) (e0 : Env0 P w K mg base A outer s H) (hl : vs.length = ps.length) (r : Vals vs us)
    (x : InCallC s s.heap.objs.size (bindL (envOfC qual scope s.heap.objs.size f cd).kindOf (ps.zip us) fun _ => none) (cellsFrom (s.heap.objs.size + 1) scope.names []) (bindC (envOfC qual scope s.heap.objs.size f cd).kindOf (ps.zip us) fun _ => none) s1) :
    Inv (cxOf CX P w K mg base N qual scope f cd A outer s H E) [] (start N vs) H s1 := by
  have hpl : ps.length ≤ N.length := by have := congrArg List.length S.pre; rw [List.length_take] at this; omega
  obtain ⟨h1, tk, rfl, hk⟩ := x.done
  have noA : ∀ b : Addr, b ∉ (cxOf CX P w K mg base N qual scope f cd A outer s H E).ex := fun b z => absurd (show b ∈ ([] : List Addr) from z) (by simp)
  refine ⟨⟨e0.mod, S.kind, rfl, rfl, Nat.le_refl _, fun y z c h1 h2 => ?_, fun y hy => ?_, fun y c _ h => ?_, fun _ => hd, Around.frames_deeper e0.frames, .inr ⟨rfl, rfl⟩, fun b z => absurd z (noA b), e0.bs, e0.bsz, fun b _ _ => noA b, fun b z => absurd z (noA b), e0.funs, e0.frf⟩,
    rfl, e0.bare, Un.kept hk, ⟨_, x.toInCall.ns, fun i y v h1 h2 h3 => ?_⟩, fun y c h => ⟨_, x.cell y c h⟩, e0.hok.fresh (Nat.le_refl _), fun y c h => ?_, fun p hp => absurd (show p ∈ ([] : List (Addr × Obj)) from hp) (by simp), e0.hok.kept hk, ?_⟩
  · exact name_of_addr x.apart (PySem.mem_of_lookup h1) (PySem.mem_of_lookup h2)
  · have hy : scope.names.lookup y = some .cell ∨ scope.names.lookup y = some .free := hy
    rcases hy with hy | hy
    · exact cell_has hy
    · exact absurd rfl (S.nofree _ (PySem.mem_of_lookup hy))
  · exact Nat.le_of_lt (x.above y c (PySem.mem_of_lookup h))
  · have hi : i < vs.length := by
      unfold start at h2
      by_cases hi : i < vs.length
      · exact hi
      · rw [List.getElem?_append_right (by simpa using hi)] at h2
        rw [List.getElem?_replicate] at h2
        split at h2 <;> cases h2
    have ha : vs[i]? = some v := by
      unfold start at h2
      rw [List.getElem?_append_left (by simpa using hi), List.getElem?_map] at h2
      cases e : vs[i]? with
      | none => rw [e] at h2; cases h2
      | some a => rw [e] at h2; cases h2; rfl
    obtain ⟨u, hu, rv⟩ := r.get ha
    have hp : ps[i]? = some y := by
      rw [← S.pre, List.getElem?_take_of_lt (by omega)]; exact h1
    have ndP : ps.Nodup := by rw [← S.pre]; exact S.nd.sublist (List.take_sublist _ _)
    refine ⟨u, rv, ?_⟩
    rcases S.par y (List.mem_of_getElem? hp) with k | k
    · exact .inl ⟨k, bindL_get ndP hp hu k⟩
    · obtain ⟨c, e⟩ := cell_has (n := s.heap.objs.size + 1) k
      refine .inr ⟨.inl k, c, e, ?_⟩
      have q := x.cell y c e
      rw [bindC_get ndP hp hu (by show scope.names.lookup y ≠ _; rw [k]; decide)] at q
      exact q
  · exact e0.hok.fresh (Nat.le_of_lt (x.above y c (PySem.mem_of_lookup h)))
  · unfold start
    show _ = N.length
    rw [List.length_append, List.length_map, List.length_replicate]
    omega

theorem fn_of {CX : CXT} {P : Program} {w : World} {K : PySem.W.Frag} {mg : Str → Option Value} {base : Heap} {k : Nat} {f : Addr} {name qual : Str} {params : Arguments} {body : List Stmt} {scope : Scope} {dV kV doc pm cdv ct oc : Value} {an od : Option Addr}
    {osl : Array (Option Value)} {N ps : List Str} {sp : Sp} (lk : K.lookup f = some ⟨oc, od, .func (PySem.W.fnOf name qual params body scope dV kV doc pm an cdv ct), osl⟩) (hcd : PySem.W.codeIn K cdv qual = true) (S : FnScope N ps scope)
    (len : ∀ vs H Q E, sp vs H Q E → vs.length = ps.length)
    (hbody : ∀ (A : Around) (outer : List Env) (s : Shared) (H : Hp) (vs : List V) (Q : VK) (E : XK), Room k (A.deeper (envOfC qual scope s.heap.objs.size f cdv)) → sp vs H Q E →
      ∃ t, PSs (cxOf CX P w K mg base N qual scope f cdv A outer s H E) body t ∧ t { nx := fun _ H' => Q .non H', rt := Q } (start N vs) H) :
    FnOk P w K mg base CX (k + 1) f (PySem.W.fnOf name qual params body scope dV kV doc pm an cdv ct) ps sp := by
  refine ⟨len, fun A outer s H args us vs Q E hr e0 hb r hsp => ?_⟩
  have hl := len _ _ _ _ hsp
  have KX : K.In s.heap := e0.mod.kin.keeps fun b o e => (e0.bs b o e).1
  have lim : s.heap.NoLimit := e0.mod.nolimit.keeps fun b o e => (e0.bs b o e).1
  have hkind : ∀ y ∈ ps.zip us, scope.names.lookup y.1 = some .local ∨ (scope.names.lookup y.1 = some .cell ∧ ((cellsFrom (s.heap.objs.size + 1) scope.names []).lookup y.1).isSome = true) := fun ⟨n, v⟩ hy => by
    rcases S.par n (List.of_mem_zip hy).1 with q | q
    · exact .inl q
    · exact .inr ⟨q, PySem.W.cellsFrom_some _ _ _ (.inl q)⟩
  refine codeAny_call_function hr.depth (KX _ _ lk) rfl S.co S.gen rfl (PySem.W.codeRec_of KX hcd) (hb _ _ _ _ ?_)
  refine wpAny_newFunctionEnv_cells S.kind hkind fun env he s1 x => ?_
  subst he
  refine ⟨lim.keeps x.toInCall.keep, codeAny_func ?_⟩
  obtain ⟨t, ht, hq⟩ := hbody A outer s H vs Q E (hr.deeper _) hsp
  have I : Inv (cxOf CX P w K mg base N qual scope f cdv A outer s H E) [] (start N vs) H s1 := inv_start S hr.hd e0 hl r x
  refine wpAny_mono (ht [] s1 (start N vs) H _ I hq) (fun fl s' hs => ?_) fun e s' hs => hs
  have fin : ∀ {σ' : St} {H' : Hp} {v : V} {u : Value}, Inv (cxOf CX P w K mg base N qual scope f cdv A outer s H E) [] σ' H' s' → RelV v u → Q v H' → CE outer P w H s Q u s' :=
    fun {σ' H' v u} J rv q => ⟨v, H', J.os, J.bare, J.base, J.hok, rv, q⟩
  cases fl with
  | ret u =>
    obtain ⟨v, σ', H', J, rv, q⟩ := hs
    exact fin J rv q
  | next =>
    obtain ⟨σ', H', J, q⟩ := hs
    exact fin (v := V.non) (u := Value.none) J rfl q
  | brk =>
    obtain ⟨_, _, _, q⟩ := hs
    exact False.elim q
  | cont =>
    obtain ⟨_, _, _, q⟩ := hs
    exact False.elim q
end L2

namespace L2
open PySem PySem.Spec PyProof.Rows
section
variable {X : Cx} {x : Str} {p pos : Pos} {e : Expr} {es : List Expr} {t : TA} {id T : String} {r : List V → Hp → VK → Prop}

def tCB (r : List V → Hp → VK → Prop) (t : TA) : TE := fun σ H Q => t σ H fun vs H1 => r vs H1 Q
theorem pe_callB (hc : CallR X (.builtin id) r) (hg : Gl X x) (hm : X.mg x = none) (hv : bootBuiltins x = some (.builtin id)) (ha : PA X (e :: es) t) (hn : x ≠ "__name__" := by decide) (hdb : (x == ("__debug__" : Str)) = false := by decide)
    (he : starEach (e :: es) X.env = (false, eval e X.env) :: starEach es X.env := by rfl) (hpl : (backTo pos (starEach es X.env)).any (·.1) = false := by rfl) : PE X (.Call (.Name x p) (e :: es) [] pos) (tCB r t) := by
  intro pins s σ H Q I h
  refine wpAny_Call_Name_kw (ld_blt I hg hm hv ?_ hn hdb)
  exact PyProof.Rows.callWith_builtin1 (thn (ha pos pins s σ H _ I h) fun us s1 ⟨vs, H1, I1, r1, q1⟩ => hc pins s1 σ H1 vs us Q I1 r1 q1) he hpl
theorem pe_callTy (hc : CallR X (.type T) r) (hg : Gl X x) (hm : X.mg x = none) (hv : bootBuiltins x = some (.type T)) (ha : PA X (e :: es) t) (hn : x ≠ "__name__" := by decide) (hdb : (x == ("__debug__" : Str)) = false := by decide)
    (he : starEach (e :: es) X.env = (false, eval e X.env) :: starEach es X.env := by rfl) (hpl : (backTo pos (starEach es X.env)).any (·.1) = false := by rfl) : PE X (.Call (.Name x p) (e :: es) [] pos) (tCB r t) := by
  intro pins s σ H Q I h
  refine wpAny_Call_Name_kw (ld_blt I hg hm hv ?_ hn hdb)
  exact PyProof.Rows.callWith_type1 (thn (ha pos pins s σ H _ I h) fun us s1 ⟨vs, H1, I1, r1, q1⟩ => hc pins s1 σ H1 vs us Q I1 r1 q1) he hpl
end
end L2

namespace HT
open PySem PyProof.Rows

def lexLt : List Int → List Int → Bool
  | [], [] => false
  | [], _ :: _ => true
  | _ :: _, [] => false
  | x :: xs, y :: ys => if x = y then lexLt xs ys else decide (x < y)
section
open PySem.SeqAt
open PySem.AutoSeq1 (wpAny_loadPart')
open PySem.MeetsSeq PySem.MeetsSeq2 PySem.MeetsSeq3

end

section
variable {prog : Program} {w : World} {A : Around} {E : Value → Shared → Prop} {s : Shared}

theorem cat_tup {t b : Addr} {vs ws : List Value} {Q : Value → Shared → Prop} (ht : IsTup s.heap t vs.toArray) (hb : IsTup s.heap b ws.toArray) (hv : vs ≠ [])
    (h1 : ws = [] → Q (.ref t) s) (h2 : ws ≠ [] → Q (.ref s.heap.objs.size) { s with heap := s.heap.push { cls := .type "tuple", data := .seq (vs ++ ws).toArray } })
    (hsz : vs.length + ws.length ≤ sizeLine) : wpAny (model prog w) A (binaryOp .Add (.ref t) (.ref b)) Q E s := by
  obtain ⟨⟨cls, dd, data, sl⟩, ho, hc, n, hd⟩ := id ht
  obtain ⟨⟨cls2, dd2, data2, sl2⟩, ho2, hc2, n2, hd2⟩ := id hb
  simp only at hc hd hc2 hd2
  subst hc hd hc2 hd2
  have e : vs.toArray ++ ws.toArray = (vs ++ ws).toArray := by simp
  by_cases hw : ws = []
  · exact concat_meets ⟨_, ho, rfl⟩ ⟨_, ho2, rfl⟩ noFill_tuple_add seq_tuple_add PySem.F.slot_tuple_add PySem.F.entry_tuple_add (PySem.F.args_tuple_add_2 _ _)
      (tuple_addW1 t b vs.toArray ws.toArray n n2 dd dd2 sl sl2 (by simpa using hv) (by simp [hw])) ⟨ho, ho2, h1 hw⟩
  · refine concat_meets ⟨_, ho, rfl⟩ ⟨_, ho2, rfl⟩ noFill_tuple_add seq_tuple_add PySem.F.slot_tuple_add PySem.F.entry_tuple_add (PySem.F.args_tuple_add_2 _ _)
      (tuple_addW2 t b vs.toArray ws.toArray n n2 dd dd2 sl sl2 (by simpa using hv) (by simpa using hw) (by rw [List.size_toArray, List.size_toArray]; exact hsz)) ⟨ho, ho2, ?_⟩
    rw [e]
    exact h2 hw

def sIx (n d : Nat) : Option Int → Nat
  | none => d
  | some v => if v < 0 then (v + (n : Int)).toNat else min v.toNat n
theorem sIx_none (n d : Nat) : sIx n d none = d := rfl
theorem sIx_nat (n d k : Nat) : sIx n d (some (k : Int)) = min k n := by
  show (if (k : Int) < 0 then ((k : Int) + (n : Int)).toNat else min (k : Int).toNat n) = min k n
  rw [if_neg (by omega), Int.toNat_natCast]
theorem sIx_le (n d : Nat) (hd : d ≤ n) (o : Option Int) : sIx n d o ≤ n := by
  cases o with
  | none => exact hd
  | some v =>
    show (if v < 0 then (v + (n : Int)).toNat else min v.toNat n) ≤ n
    by_cases hv : v < 0
    · rw [if_pos hv]; omega
    · rw [if_neg hv]; exact Nat.min_le_right _ _
theorem clip_eq (v : Int) (n d : Nat) : (if v < 0 then max (v + (n : Int)) 0 else min v (n : Int)) = ((sIx n d (some v) : Nat) : Int) := by
  show (if v < 0 then max (v + (n : Int)) 0 else min v (n : Int)) = (((if v < 0 then (v + (n : Int)).toNat else min v.toNat n) : Nat) : Int)
  by_cases hv : v < 0
  · simp only [if_pos hv]; omega
  · simp only [if_neg hv]; omega
theorem adjust_gen (lo hi : Option Int) (n : Nat) : Builtin.Slice.sliceAdjust lo hi 1 (n : Int) = (((sIx n 0 lo : Nat) : Int), ((sIx n n hi : Nat) : Int)) := by
  have h1 : ¬ ((1 : Int) < 0) := by omega
  unfold Builtin.Slice.sliceAdjust
  simp only [h1, if_false]
  refine Prod.ext ?_ ?_
  · cases lo with
    | none => rfl
    | some v => exact clip_eq v n 0
  · cases hi with
    | none => rfl
    | some v => exact clip_eq v n n
theorem places_gen (i j : Nat) : Builtin.Slice.slicePlaces (i : Int) (j : Int) 1 = j - i := by
  unfold Builtin.Slice.slicePlaces
  have h1 : (1 : Int) > 0 := by omega
  simp only [h1, if_true, Int.ediv_one]
  split <;> omega
theorem slicePart_ {v : Value} {o : Option Int} {Q : Option Int → Shared → Prop} (p : IsPart v o) (h : Q o s) : wpAny (model prog w) A (Builtin.Slice.slicePartIndex v) Q E s := by
  cases p with
  | none => exact slicePart_none h
  | int i t => exact slicePart_int h
theorem sliceApplied_gen {sl : Addr} {vl vu : Value} {lo hi : Option Int} {n : Nat} {Q : Int × Int × Nat → Shared → Prop} (hs : s.heap.IsSliceOf sl vl vu .none) (pl : IsPart vl lo) (pu : IsPart vu hi)
    (h : Q (((sIx n 0 lo : Nat) : Int), 1, sIx n n hi - sIx n 0 lo) s) : wpAny (model prog w) A (Builtin.Slice.sliceApplied (.ref sl) (pure (n : Int))) Q E s := by
  obtain ⟨os, hos, hcs, hds⟩ := id hs
  unfold Builtin.Slice.sliceApplied Builtin.Slice.sliceFields
  refine wpAny_bind (wpAny_bind (wpAny_field hos hds (x := vl) rfl (wpAny_bind (wpAny_field hos hds (x := vu) rfl (wpAny_bind (wpAny_field hos hds (x := .none) rfl (wpAny_pure ?_)))))))
  refine wpAny_bind (slicePart_none ?_)
  show wpAny _ _ (if ((1 : Int) == 0) = true then _ else _) _ _ s
  rw [if_neg (by decide)]
  refine wpAny_bind (slicePart_ pl (wpAny_bind (slicePart_ pu (wpAny_bind (wpAny_pure ?_)))))
  show wpAny _ _ (match Builtin.Slice.sliceAdjust lo hi 1 (n : Int) with | (lo, hi) => pure (lo, (1 : Int), Builtin.Slice.slicePlaces lo hi 1)) _ _ s
  rw [adjust_gen lo hi n]
  show wpAny _ _ (pure (((sIx n 0 lo : Nat) : Int), (1 : Int), Builtin.Slice.slicePlaces ((sIx n 0 lo : Nat) : Int) ((sIx n n hi : Nat) : Int) 1)) _ _ s
  rw [places_gen]
  exact wpAny_pure h
theorem pick_gen (xs : Array Value) (i k : Nat) : ((List.range k).filterMap fun (m : Nat) => xs[((i : Int) + (m : Int) * 1).toNat]?).toArray = ((xs.toList.drop i).take k).toArray := by
  have e : (fun (m : Nat) => xs[((i : Int) + (m : Int) * 1).toNat]?) = fun m => xs[i + m]? := by
    funext m
    have : ((i : Int) + (m : Int) * 1).toNat = i + m := by omega
    rw [this]
  rw [e]
  have := pick_run xs i k
  rw [List.filterMap_map] at this
  have e2 : ((fun x => xs[x]?) ∘ fun x => i + x) = fun m => xs[i + m]? := rfl
  rw [e2] at this
  rw [this]

theorem getItem_tuple_cut {t sl : Addr} {items : Array Value} {vl vu : Value} {lo hi : Option Int} {Q : Value → Shared → Prop} (ht : IsTup s.heap t items) (hs : s.heap.IsSliceOf sl vl vu .none) (pl : IsPart vl lo) (pu : IsPart vu hi)
    (hw : ¬ (sIx items.size 0 lo = 0 ∧ sIx items.size items.size hi = items.size))
    (h : Q (.ref s.heap.objs.size) { s with heap := s.heap.push { cls := .type "tuple", data := .seq ((items.toList.drop (sIx items.size 0 lo)).take (sIx items.size items.size hi - sIx items.size 0 lo)).toArray } })
    (hsz : items.size ≤ sizeLine) : wpAny (model prog w) A (getItem (.ref t) (.ref sl)) Q E s := by
  have htake : sizeOk (.seq ((items.toList.drop (sIx items.size 0 lo)).take (sIx items.size items.size hi - sIx items.size 0 lo)).toArray) := by
    show ((items.toList.drop (sIx items.size 0 lo)).take (sIx items.size items.size hi - sIx items.size 0 lo)).toArray.size ≤ sizeLine
    rw [List.size_toArray, List.length_take, List.length_drop, Array.length_toList]
    omega
  have hj : sIx items.size items.size hi ≤ items.size := sIx_le _ _ (Nat.le_refl _) hi
  obtain ⟨os, hos, hcs, hds⟩ := id hs
  have hTs : s.TypeIs (.ref sl) "slice" := ⟨os, hos, hcs⟩
  unfold getItem
  try with_reducible refine wpAny_holding ?_
  first | refine wpAny_bind (wpAny_pure ?_) | skip
  refine wpAny_bind (wpAny_sequenceKey ht.typeIs (by decide) ?_)
  refine wpAny_bind (wpAny_callSpecial?_slot (name := Str.ofString "__getitem__") ht.typeIs PyProof.Rows.slot_tuple_getitem
    (wpAny_call_entry PyProof.Rows.slot_tuple_getitem ht.typeIs entry_tuple_getitem ?_ (args_tuple_getitem _ _)))
  show wpAny _ _ (Builtin.Tuple.tupleItemsOf (.ref t) >>= _) _ _ s
  refine wpAny_bind (tupleItemsOf_ ht ?_)
  refine wpAny_bind (wpAny_typeOf hTs ?_)
  rw [if_pos (by decide)]
  refine wpAny_bind (sliceApplied_gen hs pl pu ?_)
  have hno : ¬ ((((sIx items.size 0 lo : Nat) : Int) == 0 && (1 : Int) == 1 && (sIx items.size items.size hi - sIx items.size 0 lo) == items.size) = true) := by
    intro q
    rw [Bool.and_eq_true, Bool.and_eq_true] at q
    have q1 : ((sIx items.size 0 lo : Nat) : Int) = 0 := eq_of_beq q.1.1
    have q2 : sIx items.size items.size hi - sIx items.size 0 lo = items.size := eq_of_beq q.2
    exact hw ⟨by omega, by omega⟩
  show wpAny _ _ (if (((sIx items.size 0 lo : Nat) : Int) == 0 && (1 : Int) == 1 && (sIx items.size items.size hi - sIx items.size 0 lo) == items.size) = true then _ else _) _ _ s
  rw [if_neg hno, pick_gen]
  first
    | exact wpAny_bind (m := Builtin.Tuple.tupleExact _) (wpAny_newObj_type (wpAny_pure ⟨_, rfl, wpAny_pure h⟩) htake)
    | exact wpAny_bind (m := Builtin.Tuple.tupleExact _) (wpAny_newObj_type (wpAny_bind (wpAny_pure (wpAny_pure ⟨_, rfl, wpAny_pure h⟩))) htake)
    | exact wpAny_bind (wpAny_bind (m := Builtin.Tuple.tupleExact _) (wpAny_newObj_type (wpAny_pure (wpAny_pure ⟨_, rfl, wpAny_pure h⟩)) htake))
    | exact wpAny_bind (wpAny_bind (m := Builtin.Tuple.tupleExact _) (wpAny_newObj_type (wpAny_pure ⟨_, rfl, wpAny_pure h⟩) htake))
end
end HT

namespace L2
open PySem PySem.Spec PyProof.Rows

abbrev TO := St → Hp → (Option Int → Hp → Prop) → Prop
def PO (X : Cx) (e : Option Expr) (t : TO) : Prop :=
  ∀ (pins : List (Addr × Obj)) (s : Shared) (σ : St) (H : Hp) (Q : Option Int → Hp → Prop), Inv X pins σ H s → t σ H Q →
    wpAny (model X.prog X.w) X.A (evalPart e X.env) (fun u s' => ∃ o H', Inv X pins σ H' s' ∧ IsPart u o ∧ Q o H') X.xe s
def tNoPart : TO := fun _ H Q => Q none H
def tPart (t : TE) : TO := fun σ H Q => t σ H fun x H1 => ∃ i, x = .int i ∧ Q (some i) H1

theorem intsAre_of {ns : List Int} : ∀ {us : List Value}, Vals (ns.map V.int) us → IntsAre us ns := by
  induction ns with
  | nil => intro us r; rw [List.map_nil] at r; cases r; exact .nil
  | cons n ns ih =>
    intro us r
    rw [List.map_cons] at r
    cases r with
    | cons r1 r2 =>
      obtain ⟨t, e⟩ := r1
      subst e
      exact .cons n t (ih r2)

section
variable {X : Cx} {e : Expr} {te : TE} {lo hi : Option Expr} {tl th : TO} {pos p2 : Pos}

theorem po_none : PO X none tNoPart := by
  intro pins s σ H Q I h
  rw [evalPart_none]
  exact wpAny_pure ⟨none, H, I, .none, h⟩
theorem po_some (h : PE X e te) : PO X (some e) (tPart te) := by
  intro pins s σ H Q I hw
  rw [evalPart_some]
  refine thn (h pins s σ H _ I hw) fun u s1 ⟨x, H1, I1, r1, q1⟩ => ?_
  obtain ⟨i, rfl, q⟩ := q1
  obtain ⟨t, rfl⟩ := r1
  exact ⟨some i, H1, I1, .int i t, q⟩

def SlR (X : Cx) (r : V → Option Int → Option Int → Hp → VK → Prop) : Prop :=
  ∀ (pins : List (Addr × Obj)) (s : Shared) (σ : St) (H : Hp) (x : V) (v vl vu : Value) (lo hi : Option Int) (sl : Addr) (Q : VK), Inv X pins σ H s → RelV x v → s.heap.IsSliceOf sl vl vu .none → IsPart vl lo → IsPart vu hi → r x lo hi H Q →
    ∃ T id, typeLookup (.type T) "__getitem__" = pure (some (.builtin id)) ∧ s.TypeIs v T ∧ wpAny (model X.prog X.w) X.A (getItem v (.ref sl)) (EP X pins σ Q) X.xe s
def tSl (r : V → Option Int → Option Int → Hp → VK → Prop) (te : TE) (tl th : TO) : TE := fun σ H Q => te σ H fun x H1 => tl σ H1 fun l H2 => th σ H2 fun u H3 => r x l u H3 Q
theorem pe_slice {r : V → Option Int → Option Int → Hp → VK → Prop} (hr : SlR X r) (he : PE X e te) (hl : PO X lo tl) (hu : PO X hi th) : PE X (.Subscript e (.Slice lo hi none p2) pos) (tSl r te tl th) := by
  intro pins s σ H Q I h
  refine Subscript_ (thn (he pins s σ H _ I h) fun v s1 ⟨x, H1, I1, r1, q1⟩ => ?_)
  refine wpAny_Slice (thn (hl pins s1 σ H1 _ I1 q1) fun vl s2 ⟨l, H2, I2, pl, q2⟩ => thn (hu pins s2 σ H2 _ I2 q2) fun vu s3 ⟨u, H3, I3, pu, q3⟩ => ?_)
  rw [evalPart_none]
  refine wpAny_pure ?_
  have I4 : Inv X pins σ H3 { s3 with heap := s3.heap.push { cls := .type "slice", data := .fields #[vl, vu, .none] } } := I3.kept (t' := s3.toks) fun b ob q => Heap.get?_push_of_some _ q
  obtain ⟨T, id, hT, ht, hg⟩ := hr pins { s3 with heap := s3.heap.push { cls := .type "slice", data := .fields #[vl, vu, .none] } } σ H3 x v vl vu l u s3.heap.objs.size Q I4 r1 (Heap.IsSliceOf.new ..) pl pu q3
  show wpAny (model X.prog X.w) X.A (subscriptTail e (.Slice lo hi none p2) v (.ref s3.heap.objs.size)) (EP X pins σ Q) X.xe { s3 with heap := s3.heap.push { cls := .type "slice", data := .fields #[vl, vu, .none] } }
  exact tail_any (ops := [.ref s3.heap.objs.size, v]) ht hT hg (by with_unfolding_all rfl)

def cutV (xs : List V) (lo hi : Option Int) : List V := (xs.drop (HT.sIx xs.length 0 lo)).take (HT.sIx xs.length xs.length hi - HT.sIx xs.length 0 lo)
theorem cutV_length (xs : List V) (lo hi : Option Int) : (cutV xs lo hi).length ≤ xs.length := by
  unfold cutV
  rw [List.length_take, List.length_drop]
  omega
def rSlT (K : PySem.W.Frag) : V → Option Int → Option Int → Hp → VK → Prop := fun x lo hi H Q => ∃ a xs, x = .ref a ∧ SqT K H a xs ∧
  ¬ (HT.sIx xs.length 0 lo = 0 ∧ HT.sIx xs.length xs.length hi = xs.length) ∧ ∀ p, H p = none → Q (.ref p) (upd H p (.tup (cutV xs lo hi)))
theorem sl_tup : SlR X (rSlT X.K) := by
  intro pins s σ H x v vl vu lo hi sl Q I rx hs pl pu h
  obtain ⟨a, xs, rfl, hx, hw, q⟩ := h
  cases rx
  obtain ⟨its, r, ht, hz⟩ := I.tuple hx
  have hlen : its.toArray.size = xs.length := by rw [List.size_toArray]; exact r.length.symm
  refine ⟨"tuple", _, PyProof.Rows.slot_tuple_getitem.lookup, ht.typeIs, ?_⟩
  refine HT.getItem_tuple_cut ht hs pl pu (by rw [hlen]; exact hw) ?_ (by rw [hlen]; exact hz)
  rw [hlen]
  refine ⟨.ref s.heap.objs.size, _, I.laid (t' := s.toks) (o := .tup (cutV xs lo hi)) (fun b ob q => Heap.get?_push_of_some _ q) (Nat.le_refl _) ?_, rfl, q _ (I.hok.fresh (Nat.le_refl _))⟩
  exact ⟨Nat.le_trans (cutV_length xs lo hi) hz, _, (r.drop (HT.sIx xs.length 0 lo)).take (HT.sIx xs.length xs.length hi - HT.sIx xs.length 0 lo), PTup.new⟩

def rLtT (K : PySem.W.Frag) : R2 := fun x y H Q => ∃ a b ns ms, x = .ref a ∧ y = .ref b ∧ SqT K H a (ns.map V.int) ∧ SqT K H b (ms.map V.int) ∧ Q (.bl (HT.lexLt ns ms)) H
def rCatT (K : PySem.W.Frag) : R2 := fun x y H Q => ∃ a b xs ys, x = .ref a ∧ y = .ref b ∧ SqT K H a xs ∧ SqT K H b ys ∧ xs ≠ [] ∧ xs.length + ys.length ≤ sizeLine ∧
  (ys = [] → Q (.ref a) H) ∧ (ys ≠ [] → ∀ p, H p = none → Q (.ref p) (upd H p (.tup (xs ++ ys))))
theorem Vals.nil_iff {xs : List V} {us : List Value} (r : Vals xs us) : us = [] ↔ xs = [] := by
  cases r with
  | nil => simp
  | cons _ _ => simp
theorem op_catT : OpR X (binaryOp .Add) (rCatT X.K) := by
  intro pins s σ H x y v u Q I rx ry h
  obtain ⟨a, b, xs, ys, rfl, rfl, ha, hb, hx, hz, q1, q2⟩ := h
  cases rx
  cases ry
  obtain ⟨its, r1, p1, _⟩ := I.tuple ha
  obtain ⟨its2, r2, p2, _⟩ := I.tuple hb
  refine HT.cat_tup p1 p2 (fun z => hx (r1.nil_iff.mp z)) (fun z => ⟨.ref a, H, I, rfl, q1 (r2.nil_iff.mp z)⟩) (fun z => ?_) (by rw [← r1.length, ← r2.length]; exact hz)
  refine ⟨.ref s.heap.objs.size, _, I.laid (t' := s.toks) (o := .tup (xs ++ ys)) (fun b ob q => Heap.get?_push_of_some _ q) (Nat.le_refl _) ?_, rfl, q2 (fun w => z (r2.nil_iff.mpr w)) _ (I.hok.fresh (Nat.le_refl _))⟩
  exact ⟨by rw [List.length_append]; exact hz, _, r1.append r2, PTup.new⟩
end
end L2

namespace L2
open PySem PySem.Spec PyProof.Rows

def ixN (n : Nat) (i : Int) : Option Nat := if 0 ≤ i then (if i < n then some i.toNat else none) else if -(n : Int) ≤ i then some (i + n).toNat else none
def atI {α : Type} (xs : List α) (i : Int) : Option α := (ixN xs.length i).bind fun j => xs[j]?
theorem ixN_seq {n : Nat} {i : Int} {j : Nat} (h : ixN n i = some j) : seqIndex? i n = some j ∧ j < n ∧ -(n : Int) ≤ i ∧ i < n := by
  unfold ixN at h
  by_cases h0 : 0 ≤ i
  · rw [if_pos h0] at h
    by_cases h1 : i < n
    · rw [if_pos h1] at h
      have e : i.toNat = j := Option.some.inj h
      exact ⟨by rw [seqIndex_of h0 h1, e], by omega, by omega, h1⟩
    · rw [if_neg h1] at h; cases h
  · rw [if_neg h0] at h
    by_cases h1 : -(n : Int) ≤ i
    · rw [if_pos h1] at h
      have e : (i + n).toNat = j := Option.some.inj h
      exact ⟨by rw [seqIndex_neg (by omega) h1, e], by omega, h1, by omega⟩
    · rw [if_neg h1] at h; cases h
theorem atI_get {α : Type} {xs : List α} {i : Int} {v : α} (h : atI xs i = some v) : ∃ j, seqIndex? i xs.length = some j ∧ xs[j]? = some v ∧ j < xs.length ∧ -(xs.length : Int) ≤ i ∧ i < xs.length := by
  unfold atI at h
  cases e : ixN xs.length i with
  | none => rw [e] at h; cases h
  | some j =>
    rw [e] at h
    obtain ⟨h1, h2, h3, h4⟩ := ixN_seq e
    exact ⟨j, h1, h, h2, h3, h4⟩
theorem atI_nat {α : Type} {xs : List α} {j : Nat} {v : α} (h : xs[j]? = some v) : atI xs (j : Int) = some v := by
  have hj : j < xs.length := (List.getElem?_eq_some_iff.mp h).1
  have e : ixN xs.length (j : Int) = some j := by
    unfold ixN
    rw [if_pos (by omega), if_pos (by omega)]; simp
  unfold atI; rw [e]; exact h
def PlainIx (b : Expr) : Prop := ∀ o i, subscripted b false o i = operate [o, i] (getItem o i)
def IxR (X : Cx) (r : R2) : Prop :=
  ∀ (value slice : Expr) (pins : List (Addr × Obj)) (s : Shared) (σ : St) (H : Hp) (x y : V) (v u : Value) (Q : VK), Inv X pins σ H s → RelV x v → RelV y u → r x y H Q →
    subscripted slice false v u = operate [v, u] (getItem v u) → wpAny (model X.prog X.w) X.A (subscriptTail value slice v u) (EP X pins σ Q) X.xe s
def MtR (X : Cx) (id : String) (r : V → List V → Hp → VK → Prop) : Prop :=
  ∀ (pins : List (Addr × Obj)) (s : Shared) (σ : St) (H : Hp) (x : V) (xs : List V) (v : Value) (us : List Value) (Q : VK), Inv X pins σ H s → RelV x v → Vals xs us → r x xs H Q →
    wpAny (model X.prog X.w) X.A (call (.builtin id) (v :: us)) (EP X pins σ Q) X.xe s
section
variable {X : Cx} {a b : Expr} {ta tb : TE} {pos : Pos}
theorem pe_ix {r : R2} (hr : IxR X r) (ha : PE X a ta) (hb : PE X b tb) (hs : PlainIx b) : PE X (.Subscript a b pos) (tOp r ta tb) := by
  intro pins s σ H Q I h
  exact Subscript_ (binT ha hb I h fun v u s2 x y H2 I2 rx ry q => hr a b pins s2 σ H2 x y v u Q I2 rx ry q (hs _ _))

def rIxL (K : PySem.W.Frag) : R2 := fun x y H Q => ∃ p xs i v, x = .ref p ∧ y = .int i ∧ SqL K H p xs ∧ atI xs i = some v ∧ Q v H
def rIxT (K : PySem.W.Frag) : R2 := fun x y H Q => ∃ p xs i v, x = .ref p ∧ y = .int i ∧ SqT K H p xs ∧ atI xs i = some v ∧ Q v H
def rIxS : R2 := fun x y H Q => ∃ z i c, x = .str z ∧ y = .int i ∧ z.length ≤ sizeLine ∧ atI z.cps.toList i = some c ∧ Q (.str ⟨#[c]⟩) H
theorem ix_list : IxR X (rIxL X.K) := by
  intro value slice pins s σ H x y v u Q I rx ry h hs
  obtain ⟨p, xs, i, z, rfl, rfl, hq, he, q⟩ := h
  cases rx
  obtain ⟨t, rfl⟩ := ry
  obtain ⟨its, r, pl, hz⟩ := I.list hq
  obtain ⟨j, h1, h2, h3, h4, h5⟩ := atI_get he
  obtain ⟨w, ew, rw'⟩ := r.get h2
  have hl := r.length
  have hn := line63
  have fin : EP X pins σ Q w s := ⟨z, H, I, rw', q⟩
  by_cases h0 : 0 ≤ i
  · have hj : i.toNat = j := by
      rw [seqIndex_of h0 h5] at h1
      exact Option.some.inj h1
    exact item_listR pl.isList h0 (by omega) (by rw [hj]; simpa using ew) fin hs
  · have hj : (i + (its.toArray.size : Int)).toNat = j := by
      rw [seqIndex_neg (by omega) h4] at h1
      rw [List.size_toArray, ← hl]
      exact Option.some.inj h1
    exact subscriptTail_builtinR (x := w) pl.isList.typeIs slot_list_getitem.lookup
      (wpAny_getItem_list_neg (Q := fun r s' => r = w ∧ EP X pins σ Q r s') pl.isList (by omega) (by rw [List.size_toArray] <;> omega) (by omega) (by rw [hj]; simpa using ew) ⟨rfl, fin⟩) hs
theorem ix_tup : IxR X (rIxT X.K) := by
  intro value slice pins s σ H x y v u Q I rx ry h hs
  obtain ⟨p, xs, i, z, rfl, rfl, hq, he, q⟩ := h
  cases rx
  obtain ⟨t, rfl⟩ := ry
  obtain ⟨its, r, pl, hz⟩ := I.tuple hq
  obtain ⟨j, h1, h2, h3, h4, h5⟩ := atI_get he
  obtain ⟨w, ew, rw'⟩ := r.get h2
  have hl := r.length
  have hn := line63
  have fin : EP X pins σ Q w s := ⟨z, H, I, rw', q⟩
  exact subscriptTail_builtinR (x := w) pl.typeIs slot_tuple_getitem.lookup
    (getItem_tuple (j := j) (Q := fun r s' => r = w ∧ EP X pins σ Q r s') pl (by omega) (by omega) (by rw [List.size_toArray, ← hl]; exact h1) (by simpa using ew) ⟨rfl, fin⟩) hs
def rIx (K : PySem.W.Frag) : R2 := fun x y H Q => rIxL K x y H Q ∨ rIxT K x y H Q ∨ rIxS x y H Q
theorem mapSeq_set (its : List Value) (n j : Nat) (u : Value) : Obj.mapSeq (·.setIfInBounds j u) { cls := .type "list", data := .seq its.toArray n } = { cls := .type "list", data := .seq (its.set j u).toArray n } := by
  simp [Obj.mapSeq]
theorem Inv.lst {pins : List (Addr × Obj)} {σ : St} {H : Hp} {s : Shared} {p : Addr} {xs : List V} (I : Inv X pins σ H s) (h : H p = some (.lst xs)) :
    ∃ (its : List Value) (n : Nat), Vals xs its ∧ s.heap.get? p = some { cls := .type "list", data := .seq its.toArray n } ∧ xs.length ≤ sizeLine := by
  obtain ⟨z, its, n, r, e⟩ := I.hok p _ h
  exact ⟨its, n, r, e, z⟩
theorem Inv.lstUpd {pins : List (Addr × Obj)} {σ : St} {H : Hp} {s : Shared} {p : Addr} {xs ys : List V} {its its' : List Value} {n n' : Nat} {f : Obj → Obj} (I : Inv X pins σ H s) (h : H p = some (.lst xs))
    (ho : s.heap.get? p = some { cls := .type "list", data := .seq its.toArray n }) (hf : f { cls := .type "list", data := .seq its.toArray n } = { cls := .type "list", data := .seq its'.toArray n' }) (r : Vals ys its') (hz : ys.length ≤ sizeLine) (t : Nat) :
    Inv X pins σ (upd H p (.lst ys)) { s with heap := s.heap.update p f, toks := t } := by
  have e : (s.heap.update p f).get? p = some { cls := .type "list", data := .seq its'.toArray n' } := by
    rw [Heap.get?_update_self f ho (by rw [hf] <;> rfl), hf]
  refine I.write (x := p) (e := p) (by rw [h]; trivial) (.inl rfl) (fun b u hb q => (Heap.get?_update_other _ _ (Ne.symm hb)).trans q) ⟨_, e⟩ ?_
  exact ⟨hz, its', n', r, e⟩
def rSetL : V → V → V → Hp → (Hp → Prop) → Prop := fun o i v H Q => ∃ p xs k j, o = .ref p ∧ i = .int k ∧ H p = some (.lst xs) ∧ ixN xs.length k = some j ∧ Q (upd H p (.lst (xs.set j v)))
theorem set_list : PSet X rSetL := by
  intro pins s σ H o i v ov iv u Q I ro ri rv h
  obtain ⟨p, xs, k, j, rfl, rfl, hp, hj, q⟩ := h
  cases ro
  obtain ⟨t, rfl⟩ := ri
  obtain ⟨its, n, r, ho, hz⟩ := I.lst hp
  obtain ⟨h1, h2, h3, h4⟩ := ixN_seq hj
  have hl := r.length
  have hn := line63
  have I' : Inv X pins σ (upd H p (.lst (xs.set j v))) { s with heap := s.heap.update p (Obj.mapSeq (·.setIfInBounds j u)) } :=
    I.lstUpd hp ho (mapSeq_set its n j u) (r.set rv j) (by rw [List.length_set]; exact hz) s.toks
  by_cases h0 : 0 ≤ k
  · have hk : k.toNat = j := by
      rw [seqIndex_of h0 h4] at h1
      exact Option.some.inj h1
    exact PySem.W.ki_setAt ho h0 (by omega) (by rw [List.size_toArray, ← hl]; exact h4) (by rw [hk]; exact ⟨_, I', q⟩)
  · have hk : (k + (its.toArray.size : Int)).toNat = j := by
      rw [seqIndex_neg (by omega) h3] at h1
      rw [List.size_toArray, ← hl]
      exact Option.some.inj h1
    exact PySem.W.ki_setBack ho (by omega) (by rw [List.size_toArray, ← hl]; exact h3) (by omega) (by rw [hk]; exact ⟨_, I', q⟩)

theorem slice_bounds (lo hi : Option Int) (n : Nat) : (sliceBounds lo hi none n).1 = ((HT.sIx n 0 lo : Nat) : Int) ∧ (sliceBounds lo hi none n).2.1 = ((HT.sIx n n hi : Nat) : Int) ∧ (sliceBounds lo hi none n).2.2 = 1 := by
  refine ⟨?_, ?_, rfl⟩
  · cases lo with
    | none => simp [sliceBounds, HT.sIx]
    | some i =>
      simp only [sliceBounds, HT.sIx, Option.getD_none, show (1 : Int) > 0 by decide, if_true]
      by_cases h : i < 0
      · simp only [h, if_true] <;> omega
      · simp only [h, if_false] <;> omega
  · cases hi with
    | none => simp [sliceBounds, HT.sIx]
    | some i =>
      simp only [sliceBounds, HT.sIx, Option.getD_none, show (1 : Int) > 0 by decide, if_true]
      by_cases h : i < 0
      · simp only [h, if_true] <;> omega
      · simp only [h, if_false] <;> omega
theorem slicePick_cut (its : List Value) (lo hi : Option Int) : slicePick its.toArray lo hi none = ((its.drop (HT.sIx its.length 0 lo)).take (HT.sIx its.length its.length hi - HT.sIx its.length 0 lo)).toArray := by
  obtain ⟨h1, h2, h3⟩ := slice_bounds lo hi its.toArray.size
  unfold slicePick
  rw [h1, h2, h3]
  simp only [sliceRange_one, pick_run, List.size_toArray] <;> rfl
def rSlL (K : PySem.W.Frag) : V → Option Int → Option Int → Hp → VK → Prop := fun x lo hi H Q => ∃ a xs, x = .ref a ∧ SqL K H a xs ∧ ∀ p, H p = none → Q (.ref p) (upd H p (.lst (cutV xs lo hi)))
theorem sl_list : SlR X (rSlL X.K) := by
  intro pins s σ H x v vl vu lo hi sl Q I rx hs pl pu h
  obtain ⟨a, xs, rfl, hx, q⟩ := h
  cases rx
  obtain ⟨its, r, ht, hz⟩ := I.list hx
  have hlen := r.length
  refine ⟨"list", _, slot_list_getitem.lookup, ht.isList.typeIs, ?_⟩
  refine wpAny_getItem_list_slice ht.isList hs pl pu .none (by simp) ?_ (by rw [List.size_toArray] <;> omega)
  rw [slicePick_cut, ← hlen]
  refine ⟨.ref s.heap.objs.size, _, I.laid (t' := s.toks) (o := .lst (cutV xs lo hi)) (fun b ob q => Heap.get?_push_of_some _ q) (Nat.le_refl _) ?_, rfl, q _ (I.hok.fresh (Nat.le_refl _))⟩
  exact ⟨Nat.le_trans (cutV_length xs lo hi) hz, _, 0, (r.drop (HT.sIx xs.length 0 lo)).take (HT.sIx xs.length xs.length hi - HT.sIx xs.length 0 lo), Heap.get?_push_size _ rfl⟩

def flatV : V → Bool
  | .non => true
  | .bl _ => true
  | .int _ => true
  | .str _ => true
  | _ => false
def eqV : V → V → Bool
  | .non, .non => true
  | .bl a, .bl b => a == b
  | .bl a, .int b => (if a then 1 else 0) == b
  | .int a, .bl b => a == (if b then 1 else 0)
  | .int a, .int b => a == b
  | .str a, .str b => a == b
  | _, _ => false
theorem eqAt_V {A : Around} {s : Shared} {y x : V} {u v : Value} (ry : RelV y u) (rx : RelV x v) (fy : flatV y = true) (fx : flatV x = true) : SeqAt.EqAt A s u v (eqV y x) := by
  cases y with
  | non =>
    cases ry
    cases x with
    | non => cases rx; exact SeqAt.EqAt.same _
    | bl b => cases rx; exact SeqAt.EqAt.none_bool b
    | int b => obtain ⟨t, rfl⟩ := rx; exact SeqAt.EqAt.none_int b t
    | str b => obtain ⟨t, rfl⟩ := rx; exact SeqAt.EqAt.none_str b t
    | _ => exact absurd (show false = true from fx) Bool.false_ne_true
  | bl a =>
    cases ry
    cases x with
    | non => cases rx; exact SeqAt.EqAt.bool_none a
    | bl b => cases rx; exact SeqAt.EqAt.bool_bool a b
    | int b => obtain ⟨t, rfl⟩ := rx; exact SeqAt.EqAt.bool_int a b t
    | str b => obtain ⟨t, rfl⟩ := rx; exact SeqAt.EqAt.bool_str a b t
    | _ => exact absurd (show false = true from fx) Bool.false_ne_true
  | int a =>
    obtain ⟨t', rfl⟩ := ry
    cases x with
    | non => cases rx; exact SeqAt.EqAt.int_none a t'
    | bl b => cases rx; exact SeqAt.EqAt.int_bool a t' b
    | int b => obtain ⟨t, rfl⟩ := rx; exact SeqAt.EqAt.int_int a t' b t
    | str b => obtain ⟨t, rfl⟩ := rx; exact SeqAt.EqAt.int_str a t' b t
    | _ => exact absurd (show false = true from fx) Bool.false_ne_true
  | str a =>
    obtain ⟨t', rfl⟩ := ry
    cases x with
    | non => cases rx; exact SeqAt.EqAt.str_none a t'
    | bl b => cases rx; exact SeqAt.EqAt.str_bool a t' b
    | int b => obtain ⟨t, rfl⟩ := rx; exact SeqAt.EqAt.str_int a t' b t
    | str b => obtain ⟨t, rfl⟩ := rx; exact SeqAt.EqAt.str_str a t' b t
    | _ => exact absurd (show false = true from fx) Bool.false_ne_true
  | _ => exact absurd (show false = true from fy) Bool.false_ne_true
def eqU (x : V) (u : Value) : Bool := match u with
  | .none => eqV .non x
  | .bool b => eqV (.bl b) x
  | .int i _ => eqV (.int i) x
  | .str z _ => eqV (.str z) x
  | _ => false
theorem eqU_of {x y : V} {u : Value} (r : RelV y u) (f : flatV y = true) : eqU x u = eqV y x := by
  cases y with
  | non => cases r; rfl
  | bl b => cases r; rfl
  | int i => obtain ⟨t, rfl⟩ := r; rfl
  | str z => obtain ⟨t, rfl⟩ := r; rfl
  | _ => exact absurd (show false = true from f) Bool.false_ne_true
theorem any_eqU {x : V} : ∀ {xs : List V} {us : List Value}, Vals xs us → xs.all flatV = true → us.any (eqU x) = xs.any fun y => eqV y x
  | _, _, .nil, _ => rfl
  | y :: xs, u :: us, .cons r t, f => by
    rw [List.all_cons, Bool.and_eq_true] at f
    rw [List.any_cons, List.any_cons, eqU_of r f.1, any_eqU t f.2]
theorem mem_eqAt {A : Around} {s : Shared} {x : V} {v : Value} (rx : RelV x v) (fx : flatV x = true) : ∀ {xs : List V} {us : List Value}, Vals xs us → xs.all flatV = true → ∀ u ∈ us, SeqAt.EqAt A s u v (eqU x u)
  | _, _, .nil, _ => fun u hu => by cases hu
  | y :: xs, u :: us, .cons r t, f => fun u' hu => by
    rw [List.all_cons, Bool.and_eq_true] at f
    rcases List.mem_cons.mp hu with rfl | hu
    · rw [eqU_of r f.1]; exact eqAt_V r rx f.1 fx
    · exact mem_eqAt rx fx t f.2 u' hu
def inV (x : V) (xs : List V) : Bool := xs.any fun y => eqV y x
def rIn (K : PySem.W.Frag) (neg : Bool) : R2 := fun x y H Q => ∃ p xs, y = .ref p ∧ (SqL K H p xs ∨ SqT K H p xs) ∧ flatV x = true ∧ xs.all flatV = true ∧ Q (.bl (if neg then !inV x xs else inV x xs)) H
theorem op_in_seq : OpR X (compareOp .In) (rIn X.K false) := by
  intro pins s σ H x y v u Q I rx ry h
  obtain ⟨p, xs, rfl, hq, fx, fs, q⟩ := h
  cases ry
  rcases hq with hq | hq
  · obtain ⟨its, r, pl, hz⟩ := I.list hq
    refine SeqAt.in_listAt (eqU x) pl.isList (fun w hw => mem_eqAt rx fx r fs w (by simpa using hw)) ⟨.bl _, H, I, rfl, ?_⟩
    rw [show its.toArray.any (eqU x) = its.any (eqU x) by simp, any_eqU r fs]
    exact q
  · obtain ⟨its, r, pl, hz⟩ := I.tuple hq
    refine SeqAt.in_tupleAt (eqU x) pl (fun w hw => mem_eqAt rx fx r fs w (by simpa using hw)) ⟨.bl _, H, I, rfl, ?_⟩
    rw [show its.toArray.any (eqU x) = its.any (eqU x) by simp, any_eqU r fs]
    exact q
theorem op_notIn_seq : OpR X (compareOp .NotIn) (rIn X.K true) := by
  intro pins s σ H x y v u Q I rx ry h
  obtain ⟨p, xs, rfl, hq, fx, fs, q⟩ := h
  cases ry
  rcases hq with hq | hq
  · obtain ⟨its, r, pl, hz⟩ := I.list hq
    refine SeqAt.notIn_listAt (eqU x) pl.isList (fun w hw => mem_eqAt rx fx r fs w (by simpa using hw)) ⟨.bl _, H, I, rfl, ?_⟩
    rw [show its.toArray.any (eqU x) = its.any (eqU x) by simp, any_eqU r fs]
    exact q
  · obtain ⟨its, r, pl, hz⟩ := I.tuple hq
    refine SeqAt.notIn_tupleAt (eqU x) pl (fun w hw => mem_eqAt rx fx r fs w (by simpa using hw)) ⟨.bl _, H, I, rfl, ?_⟩
    rw [show its.toArray.any (eqU x) = its.any (eqU x) by simp, any_eqU r fs]
    exact q
theorem call_len_seq : CallR X (.builtin "len") (fun xs H Q => ∃ p ys, xs = [.ref p] ∧ (SqL X.K H p ys ∨ SqT X.K H p ys) ∧ Q (.int ys.length) H) := by
  intro pins s σ H xs us Q I r h
  obtain ⟨p, ys, rfl, hq, q⟩ := h
  obtain ⟨u, rfl, rx⟩ := vals1 r
  cases rx
  have hn := line63
  rcases hq with hq | hq
  · obtain ⟨its, r', pl, hz⟩ := I.list hq
    have hlen := r'.length
    exact Calls.call_len_list pl.isList (by simp only [List.size_toArray] <;> omega) ⟨.int ys.length, H, I.tok _, ⟨s.toks + 1, by rw [List.size_toArray, hlen]⟩, q⟩
  · obtain ⟨its, r', pl, hz⟩ := I.tuple hq
    have hlen := r'.length
    exact len_tuple pl (by simp only [List.size_toArray] <;> omega) ⟨.int ys.length, H, I.tok _, ⟨s.toks + 1, by rw [List.size_toArray, hlen]⟩, q⟩
theorem call_tuple_of : CallR X (.type "tuple") (fun xs H Q => ∃ p ys, xs = [.ref p] ∧ ((SqL X.K H p ys ∧ ∀ l, H l = none → Q (.ref l) (upd H l (.tup ys))) ∨ (SqT X.K H p ys ∧ Q (.ref p) H))) := by
  intro pins s σ H xs us Q I r h
  obtain ⟨p, ys, rfl, h⟩ := h
  obtain ⟨u, rfl, rx⟩ := vals1 r
  cases rx
  rcases h with ⟨hq, q⟩ | ⟨hq, q⟩
  · obtain ⟨its, r', pl, hz⟩ := I.list hq
    have hlen := r'.length
    refine call_tuple_list pl.isList (fun h' kp => ?_) (by simp only [List.size_toArray] <;> omega)
    have I1 : Inv X pins σ H { s with heap := h' } := I.kept (t' := s.toks) kp
    have I2 : Inv X pins σ (upd H h'.objs.size (.tup ys)) { s with heap := h'.push { cls := .type "tuple", data := .seq its.toArray } } :=
      I1.laid (t' := s.toks) (fun b o e => Heap.get?_push_of_some _ e) (Nat.le_refl _) (show ObjOk X.prog X.w _ _ _ (.tup ys) from ⟨hz, its, r', PTup.new⟩)
    exact ⟨.ref h'.objs.size, _, I2, rfl, q _ (I1.hok.fresh (Nat.le_refl _))⟩
  · obtain ⟨its, r', pl, hz⟩ := I.tuple hq
    exact call_tuple_same pl ⟨.ref p, H, I, rfl, q⟩

def tyV (K : PySem.W.Frag) (T : String) (x : V) (H : Hp) : Prop := match x with
  | .str _ => T = "str"
  | .int _ => T = "int"
  | .ref p => (T = "list" ∧ ∃ xs, SqL K H p xs) ∨ (T = "tuple" ∧ ∃ o, K.lookup p = some o ∧ o.cls = .type "tuple" ∧ o.dict = none) ∨
      (T = "dict" ∧ ((∃ kvs, H p = some (.dK kvs)) ∨ ∃ kvs, H p = some (.dT kvs))) ∨ (T = "set" ∧ ∃ S n, H p = some (.set S n))
  | _ => False
theorem tyV_is {pins : List (Addr × Obj)} {σ : St} {H : Hp} {s : Shared} {T : String} {x : V} {v : Value} (I : Inv X pins σ H s) (r : RelV x v) (ty : tyV X.K T x H) :
    s.TypeIs v T ∧ ∀ a, v = .ref a → ∃ ob, s.heap.get? a = some ob ∧ ob.dict = none := by
  cases x with
  | str z =>
    obtain ⟨t, rfl⟩ := r
    cases (show T = "str" from ty)
    exact ⟨typeIs_str s z t, fun _ e => nomatch e⟩
  | int i =>
    obtain ⟨t, rfl⟩ := r
    cases (show T = "int" from ty)
    exact ⟨typeIs_int s i t, fun _ e => nomatch e⟩
  | ref p =>
    cases r
    rcases ty with ⟨rfl, xs, hq⟩ | ⟨rfl, o, hk, hc, hd⟩ | ⟨rfl, hk⟩ | ⟨rfl, S, n, hk⟩
    · obtain ⟨its, _, pl, _⟩ := I.list hq
      refine ⟨pl.isList.typeIs, fun a e => ?_⟩
      cases e
      obtain ⟨o, n, e, c, hd, _⟩ := pl
      exact ⟨o, e, hd⟩
    · refine ⟨⟨o, I.kIn p o hk, hc⟩, fun a e => ?_⟩
      cases e
      exact ⟨o, I.kIn _ o hk, hd⟩
    · have z : ∃ o, s.heap.get? p = some o ∧ o.ExactDict := by
        rcases hk with ⟨kvs, hk⟩ | ⟨kvs, hk⟩
        · obtain ⟨_, _, _, _, o, _, _, e, ex, _⟩ := I.hok p _ hk
          exact ⟨o, e, ex⟩
        · obtain ⟨_, _, _, _, o, _, _, e, ex, _⟩ := I.hok p _ hk
          exact ⟨o, e, ex⟩
      obtain ⟨o, e, ex⟩ := z
      refine ⟨⟨o, e, ex.1⟩, fun a e2 => ?_⟩
      cases e2
      exact ⟨o, e, ex.2.1⟩
    · obtain ⟨o, _, _, _, e, ex, _⟩ := I.hok p _ hk
      refine ⟨⟨o, e, ex.1⟩, fun a e2 => ?_⟩
      cases e2
      exact ⟨o, e, ex.2.1⟩
  | _ => exact False.elim ty
def tBM0 (K : PySem.W.Frag) (T : String) (r : V → List V → Hp → VK → Prop) (to : TE) : TE := fun σ H Q => to σ H fun x H1 => tyV K T x H1 ∧ r x [] H1 Q
def tBM (K : PySem.W.Frag) (T : String) (r : V → List V → Hp → VK → Prop) (to : TE) (t : TA) : TE := fun σ H Q => to σ H fun x H1 => tyV K T x H1 ∧ t σ H1 fun xs H2 => r x xs H2 Q
variable {o e : Expr} {es : List Expr} {to : TE} {t : TA} {name : Str} {apos cpos : Pos} {T id : String} {r : V → List V → Hp → VK → Prop}
theorem pe_bm (pa : PlainAttrs T) (slot : Slot T name id) (hty : typeOf (.builtin id) = pure (.type "method_descriptor")) (hm : MtR X id r) (ho : PE X o to) (ha : PA X (e :: es) t)
    (hbase : attributeBase o name X.env (eval o X.env) = eval o X.env := by rfl)
    (hfew : ((backTo cpos (starEach (e :: es) X.env)).all (fun x => !x.1) && (backToKw cpos (keywordEach [] X.env)).all (fun x => x.1.isSome)
      && decide ((e :: es).length + ([] : List Keyword).length + (if ([] : List Keyword).isEmpty then 0 else 1) < 30)) = true := by rfl)
    (hline : (apos.endLine == cpos.line) = true := by rfl) (hs : starEach (e :: es) X.env = (false, eval e X.env) :: starEach es X.env := by rfl) (hplain : (backTo cpos (starEach es X.env)).any (·.1) = false := by rfl) :
    PE X (.Call (.Attribute o name apos) (e :: es) [] cpos) (tBM X.K T r to t) := by
  intro pins s σ H Q I h
  refine wpAny_Call_method_late hbase hfew hline rfl (thn (ho pins s σ H _ I h) fun v s1 ⟨x, H1, I1, r1, ty, q1⟩ => ?_)
  obtain ⟨h1, h2⟩ := tyV_is I1 r1 ty
  refine ⟨T, id, pa, slot, hty, h1, h2, ?_⟩
  have hA := ha cpos pins s1 σ H1 _ I1 q1
  rw [hs] at hA ⊢
  refine Calls.callWith_builtin (by show (false || (backTo cpos (starEach es X.env)).any (·.1)) = false; rw [hplain] <;> rfl) (Calls.evalArgs_plain ?_)
  exact thn hA fun us s2 ⟨vs, H2, I2, r2, q2⟩ => hm pins s2 σ H2 x vs v us Q I2 r1 r2 q2
end
end L2

namespace L2
open PySem PySem.Spec PyProof.Rows

def MtM (X : Cx) (id : String) (r : V → List V → Hp → VK → Prop) : Prop :=
  ∀ (pins : List (Addr × Obj)) (s : Shared) (σ : St) (H : Hp) (x : V) (xs : List V) (v : Value) (us : List Value) (Q : VK), Inv X pins σ H s → RelV x v → Vals xs us → r x xs H Q →
    wpAny (model X.prog X.w) X.A (call (.builtin id) (v :: us)) (EP X pins σ Q) X.xe s

theorem Vals.one : ∀ {x : V} {us : List Value}, Vals [x] us → ∃ u, us = [u] ∧ RelV x u
  | _, _, .cons r .nil => ⟨_, rfl, r⟩
theorem Vals.rep {xs : List V} {us : List Value} (h : Vals xs us) : ∀ k : Nat, Vals (List.replicate k xs).flatten (List.replicate k us).flatten
  | 0 => .nil
  | k + 1 => by
    rw [List.replicate_succ, List.replicate_succ, List.flatten_cons, List.flatten_cons]
    exact Vals.append h (Vals.rep h k)
theorem foldl_rep (its : List Value) : ∀ (k : Nat) (acc : List Value),
    List.foldl (fun x1 x2 => x1 ++ x2) acc.toArray (List.replicate k its.toArray) = (acc ++ (List.replicate k its).flatten).toArray
  | 0, acc => by simp
  | k + 1, acc => by
    have e : acc.toArray ++ its.toArray = (acc ++ its).toArray := by simp
    have e2 : (acc ++ its) ++ (List.replicate k its).flatten = acc ++ (List.replicate (k + 1) its).flatten := by
      rw [List.replicate_succ, List.flatten_cons, List.append_assoc]
    rw [← e2, ← foldl_rep its k (acc ++ its), ← e, List.replicate_succ, List.foldl_cons]

section
variable {X : Cx} {pins : List (Addr × Obj)} {σ : St} {H : Hp} {s : Shared} {l b : Addr} {xs ys zs : List V}

theorem Inv.lset {its its' : List Value} {n : Nat} {f : Array Value → Array Value} {t' : Nat} (I : Inv X pins σ H s) (hH : H l = some (.lst xs))
    (e : s.heap.get? l = some { cls := .type "list", data := .seq its.toArray n }) (hf : f its.toArray = its'.toArray) (hv : Vals ys its') (hz : ys.length ≤ sizeLine) :
    Inv X pins σ (upd H l (.lst ys)) { s with heap := s.heap.update l (Obj.mapSeq f), toks := t' } := by
  have q := PySem.IsL.update e f
  rw [hf] at q
  refine I.write (x := l) (e := l) (by rw [hH]; exact trivial) (.inl rfl) (fun b' u hb hu => (Heap.get?_update_other s.heap (Obj.mapSeq f) (Ne.symm hb)).trans hu) ⟨_, q⟩ ?_
  exact ⟨hz, its', _, hv, q⟩
theorem Inv.lnew {its : List Value} {t' : Nat} (I : Inv X pins σ H s) (hv : Vals ys its) (hz : ys.length ≤ sizeLine) :
    Inv X pins σ (upd H s.heap.objs.size (.lst ys)) { s with heap := s.heap.push { cls := .type "list", data := .seq its.toArray }, toks := t' } :=
  I.laid (fun _ _ q => Heap.get?_push_of_some _ q) (Nat.le_refl _) ⟨hz, its, 0, hv, Heap.get?_push_size _ rfl⟩
theorem Inv.fresh (I : Inv X pins σ H s) : H s.heap.objs.size = none := I.hok.fresh (Nat.le_refl _)
theorem Inv.lstM (I : Inv X pins σ H s) (hH : H l = some (.lst xs)) : xs.length ≤ sizeLine ∧ ∃ (its : List Value) (n : Nat), Vals xs its ∧ xs.length = its.length ∧ s.heap.get? l = some { cls := .type "list", data := .seq its.toArray n } := by
  obtain ⟨z, its, n, r, e⟩ := I.hok l _ hH
  exact ⟨z, its, n, r, r.length, e⟩

theorem notLongL {n : Nat} (h : n ≤ sizeLine) : Builtin.List.listTooLong n = false := by
  unfold Builtin.List.listTooLong
  exact decide_eq_false (by omega)
end

section
variable {X : Cx}

def rAppend : V → List V → Hp → VK → Prop := fun x vs H Q => ∃ l xs y, x = .ref l ∧ vs = [y] ∧ H l = some (.lst xs) ∧ xs.length < sizeLine ∧ Q .non (upd H l (.lst (xs ++ [y])))
theorem mt_append : MtM X "list.append" rAppend := by
  intro pins s σ H x vs v us Q I rx rv h
  obtain ⟨l, xs, y, rfl, rfl, hH, hz, q⟩ := h
  cases rx
  obtain ⟨u, rfl, ru⟩ := rv.one
  obtain ⟨z, its, n, r, hl, e⟩ := I.lstM hH
  refine call_meets F.slot_list_append ⟨_, e, rfl⟩ F.entry_list_append (F.args_list_append_2 _ _) (PySem.list_append l its.toArray n u (by rw [List.size_toArray]; omega)) ⟨e, ?_⟩
  refine ⟨.non, _, I.lset (its' := its ++ [u]) hH e (by simp) (r.append (.cons ru .nil)) ?_, rfl, q⟩
  rw [List.length_append, List.length_singleton]
  omega

def rExtend : V → List V → Hp → VK → Prop := fun x vs H Q => ∃ l b xs zs, x = .ref l ∧ vs = [.ref b] ∧ H l = some (.lst xs) ∧ H b = some (.lst zs) ∧ xs.length + zs.length ≤ sizeLine ∧ Q .non (upd H l (.lst (xs ++ zs)))
theorem mt_extend : MtM X "list.extend" rExtend := by
  intro pins s σ H x vs v us Q I rx rv h
  obtain ⟨l, b, xs, zs, rfl, rfl, hH, hB, hz, q⟩ := h
  cases rx
  obtain ⟨u, rfl, ru⟩ := rv.one
  cases ru
  obtain ⟨z, its, n, r, hl, e⟩ := I.lstM hH
  obtain ⟨z2, its2, n2, r2, hl2, e2⟩ := I.lstM hB
  have hsz : its.toArray.size + its2.toArray.size ≤ sizeLine := by rw [List.size_toArray, List.size_toArray]; omega
  have hlong : ¬ (!its.toArray.isEmpty && Builtin.List.listTooLong (its.toArray.size + its2.toArray.size)) = true := by
    rw [notLongL hsz, Bool.and_false]
    exact Bool.false_ne_true
  refine call_meets F.slot_list_extend ⟨_, e, rfl⟩ F.entry_list_extend (F.args_list_extend_2 _ _)
    (AutoSeq1.list_extend_list_list_0 l its.toArray n b its2.toArray n2 hlong (by rw [List.size_toArray]; omega) (by omega)) ⟨e, e2, ?_⟩
  refine ⟨.non, _, I.lset (its' := its ++ its2) hH e (by simp) (r.append r2) ?_, rfl, q⟩
  rw [List.length_append]
  omega

def rPop : V → List V → Hp → VK → Prop := fun x vs H Q => ∃ l xs y, x = .ref l ∧ vs = [] ∧ H l = some (.lst xs) ∧ xs[xs.length - 1]? = some y ∧ Q y (upd H l (.lst xs.dropLast))
def rPopAt : V → List V → Hp → VK → Prop := fun x vs H Q => ∃ l xs i k y, x = .ref l ∧ vs = [.int i] ∧ H l = some (.lst xs) ∧ -(2 ^ 63) ≤ i ∧ i < 2 ^ 63 ∧ seqIndex? i xs.length = some k ∧ xs[k]? = some y ∧ Q y (upd H l (.lst (xs.eraseIdx k)))
def rReverse : V → List V → Hp → VK → Prop := fun x vs H Q => ∃ l xs, x = .ref l ∧ vs = [] ∧ H l = some (.lst xs) ∧ Q .non (upd H l (.lst xs.reverse))
def rClear : V → List V → Hp → VK → Prop := fun x vs H Q => ∃ l xs, x = .ref l ∧ vs = [] ∧ H l = some (.lst xs) ∧ Q .non (upd H l (.lst []))
def rCat : R2 := fun x y H Q => ∃ l b xs zs, x = .ref l ∧ y = .ref b ∧ H l = some (.lst xs) ∧ H b = some (.lst zs) ∧ xs.length + zs.length ≤ sizeLine ∧ ∀ p, H p = none → Q (.ref p) (upd H p (.lst (xs ++ zs)))
theorem op_cat : OpR X (binaryOp .Add) rCat := by
  intro pins s σ H x y v u Q I rx ry h
  obtain ⟨l, b, xs, zs, rfl, rfl, hH, hB, hz, q⟩ := h
  cases rx
  cases ry
  obtain ⟨z, its, n, r, hl, e⟩ := I.lstM hH
  obtain ⟨z2, its2, n2, r2, hl2, e2⟩ := I.lstM hB
  refine PySem.P.add_list e e2 ?_ (by rw [List.size_toArray, List.size_toArray]; omega)
  have ea : its.toArray ++ its2.toArray = (its ++ its2).toArray := by simp
  rw [ea]
  exact ⟨.ref _, _, I.lnew (t' := s.toks) (r.append r2) (by rw [List.length_append]; omega), rfl, q _ I.fresh⟩
def rRep : R2 := fun x y H Q => ∃ l k xs, x = .ref l ∧ y = .int k ∧ H l = some (.lst xs) ∧ -(2 ^ 63) ≤ k ∧ k < 2 ^ 63 ∧ xs.length * k.toNat ≤ sizeLine ∧
  ∀ p, H p = none → Q (.ref p) (upd H p (.lst (List.replicate k.toNat xs).flatten))
theorem len_rep {α : Type} (xs : List α) (k : Nat) : (List.replicate k xs).flatten.length = k * xs.length := by
  induction k with
  | zero => simp
  | succ k ih => rw [List.replicate_succ, List.flatten_cons, List.length_append, ih, Nat.succ_mul, Nat.add_comm]
theorem op_rep : OpR X (binaryOp .Mult) rRep := by
  intro pins s σ H x y v u Q I rx ry h
  obtain ⟨l, k, xs, rfl, rfl, hH, h1, h2, hz, q⟩ := h
  cases rx
  obtain ⟨t, rfl⟩ := ry
  obtain ⟨z, its, n, r, hl, e⟩ := I.lstM hH
  have hlen : its.toArray.size * k.toNat ≤ sizeLine := by rw [List.size_toArray, ← hl]; exact hz
  have hcap : ¬ its.toArray.size * k.toNat > (2 ^ 63 - 1) / 8 := by
    have : (sizeLine : Nat) ≤ (2 ^ 63 - 1) / 8 := by decide
    omega
  have hfit : ¬ (!Builtin.List.listFitsIndex k) = true := by
    rw [fitsIndex_both h1 h2]
    exact Bool.false_ne_true
  have hlong : ¬ Builtin.List.listTooLong (its.toArray.size * k.toNat) = true := by
    rw [notLongL hlen]
    exact Bool.false_ne_true
  have hnew : List.foldl (fun x1 x2 => x1 ++ x2) #[] (List.replicate (if its.toArray.isEmpty = true then 0 else k.toNat) its.toArray) = (List.replicate k.toNat its).flatten.toArray := by
    have f0 : ∀ m : Nat, List.foldl (fun x1 x2 => x1 ++ x2) #[] (List.replicate m its.toArray) = (List.replicate m its).flatten.toArray := fun m => by
      have := foldl_rep its m []
      rw [List.nil_append] at this
      exact this
    rw [f0]
    cases its with
    | nil => simp
    | cons a r' => rw [if_neg (by simp)]
  refine wpAny_binaryOp_repeat_ref (T := "list") (U := "int") (by decide) ⟨_, e, rfl⟩ (fun s' => typeIs_int s' k t) noFill_list_mul F.fills_int_mul F.slot_int_rmul repeat_list F.slot_int_index.lookup
    (call_meets F.slot_int_rmul (typeIs_int s k t) F.entry_int_rmul (F.args_int_rmul_2 _ _) (int___rmul___int_list k t l its.toArray n)
      ⟨e, rfl, ⟨_, e, rfl⟩, call_meets F.slot_list_mul ⟨_, e, rfl⟩ F.entry_list_mul (F.args_list_mul_2 _ _) (AutoListH.list___mul___list_int_3 l its.toArray n k t hfit hcap hlong) ⟨e, ?_⟩⟩)
  rw [hnew]
  exact ⟨.ref _, _, I.lnew (t' := s.toks) (r.rep k.toNat) (by rw [len_rep, Nat.mul_comm]; exact hz), rfl, q _ I.fresh⟩

end

section
variable {prog : Program} {w : World} {A : Around} {E : Value → Shared → Prop} {s : Shared}
end

section
variable {X : Cx}
end
end L2

namespace Att
open PySem PySem.W PySem.Calls PyProof.Rows

theorem ints_of_wellAll {P : Params} {h : Heap} : ∀ (ns : List Int) (vs : List Value), WellAll P h vs (ns.map WData.int) → IntsAre vs ns := by
  intro ns
  induction ns with
  | nil =>
    intro vs w
    rw [List.map_nil] at w
    cases w
    exact .nil
  | cons n ns ih =>
    intro vs w
    rw [List.map_cons] at w
    cases w with
    | cons a b =>
      cases a
      exact .cons _ _ (ih _ b)

theorem script_of {l : OpenLaw} {n : Nat} (hn : l.most = some n) {P : Params} {h : Heap} {args : List WData} {vals : List Value}
    (hpre : l.row.toRowW.claim.pre args = true) (hwl : WellAll P h vals args) :
    ∃ a vs ns, vals = [Value.ref a] ∧ args = [WData.list (ns.map WData.int)] ∧ h.get? a = some { cls := .type "list", data := .seq vs.toArray } ∧ IntsAre vs ns ∧ ns.length ≤ n := by
  have hsh : WShape.hasAll [] args [.list .int] = true := (pre_splitW hpre).1
  have hc : l.pre.holds [] { args := args } = true := (pre_splitW hpre).2
  obtain ⟨d, r, rfl, h1, h2⟩ := hasAllW_cons hsh
  obtain rfl := hasAllW_nil h2
  obtain ⟨xs, rfl, h3⟩ := hasW_list h1
  obtain ⟨ns, rfl⟩ := items_int h3
  have hlen : ns.length ≤ n := by
    unfold OpenLaw.pre at hc
    have h4 : (WTm.not (.lt (.lit (.int (n : Int))) (.len (.arg 0)))).holds [] { args := [.list (ns.map .int)] } = true := by
      have h4 := (holds_andW hc).1
      rw [hn] at h4
      exact h4
    have h5 := condW_of h4 (w_not (w_lt w_lit (w_len_list (w_arg rfl))))
    rw [List.length_map] at h5
    refine Nat.le_of_not_lt fun q => ?_
    have q' : (n : Int) < ((ns.length : Nat) : Int) := by omega
    first
      | (rw [decide_eq_true q'] at h5; exact absurd h5 (by decide))
      | (simp at h5; omega)
  cases hwl with
  | cons w1 w2 =>
    cases w2
    cases w1 with
    | list ho hall => exact ⟨_, _, ns, rfl, rfl, ho, ints_of_wellAll ns _ hall, hlen⟩

theorem post_true (l : OpenLaw) (args : List WData) : l.row.toRowW.claim.post args (.bool true) args = true :=
  postW_of (r := l.row.toRowW) (X := (true == true))
    (show WShape.has [] (.bool true) .bool = true by first | rfl | decide | simp [WShape.has, WShape.arms, WShape.armsAll])
    (show (WTm.eq .res (.lit (.bool true))).value [] { args := args, res := some (.bool true), after := args } = some (.bool (true == true)) from w_eq_bool (w_res rfl) w_lit) rfl

theorem attach_call {l : OpenLaw} {n : Nat} {q : Program} {loose : List Str} {XP : (Str → Option Value) → Heap → Prop} {YP : World → Heap → Prop} {d : DefRec}
    (hn : l.most = some n) (hdf : d.params.defaults = [])
    (call : ∀ (w : World) (s₀ s₁ : Shared) (mg mb : Str → Option Value) (fa : Addr) (o : Obj) (pm cd doc : Value) (a : Addr) (vs : List Value) (ns : List Int),
      Ground q loose [] XP w s₀ mg mb s₁.heap → YP w s₁.heap →
      s₁.heap.get? fa = some o → o.data = .func (docDef d.name d.params d.body d.scope pm cd doc) → s₁.heap.CodeRec cd d.name → mg d.name = some (.ref fa) →
      s₁.heap.get? a = some { cls := .type "list", data := .seq vs.toArray } → IntsAre vs ns → ns.length ≤ n → s₁.gens = #[] →
      codeAny (model l.prog w) callerA (.call (.ref fa) ⟨[.ref a], []⟩) (fun r s' => r = .ok (.ret (.bool true)) ∧ OldK s₁.heap s'.heap ∧ s'.os = s₁.os ∧ AllBare s'.gens) s₁) :
    WalkO q loose XP YP l.row.toRowW d [] (fun f vs => PySem.call f vs) := by
  intro w s₀ s₁ mg mb G Y fa o pm cd doc dV kV ho hd hcd hD hmg hg args vals as hpre hlay hrd hwl hlo
  obtain rfl : dV = .none := Dflts.none hD hdf
  obtain rfl : kV = .none := Dflts.noKw hD
  obtain ⟨a, vs, ns, rfl, rfl, hobj, hints, hlen⟩ := script_of hn hpre hwl
  refine enter_call (codeAny_mono (call w s₀ s₁ mg mb fa o pm cd doc a vs ns G Y ho (fd_plain hd) hcd hmg hobj hints hlen hg) fun r s' hq => ?_)
  obtain ⟨rfl, h2, h3, h4⟩ := hq
  exact ⟨.inl ⟨.bool true, .bool true, [], rfl, fun _ => rfl, .bool true, post_true l _, fun _ => ⟨List.Pairwise.nil, fun _ hm => (nomatch hm)⟩⟩, h2, h3, h4⟩

section
variable {prog : Program} {w : World} {A : Around} {E : Value → Shared → Prop} {s : Shared} {K : Frag}

def noObjs (h : Heap) : Heap := { h with objs := #[] }
def ledger (h : Heap) (L d : Addr) : List (Addr × Obj) := (List.range h.objs.size).filterMap fun a => if a = L ∨ a = d then none else (h.get? a).map fun o => (a, o)
end
end Att

namespace L2
open PySem PySem.Spec PyProof.Rows

theorem vals_ints : ∀ {vs : List Value} {ns : List Int}, IntsAre vs ns → Vals (ns.map V.int) vs
  | _, _, .nil => .nil
  | _, _, .cons n t h => .cons ⟨t, rfl⟩ (vals_ints h)

def Only (H : Hp) : Prop := ∀ b, H b = none ∨ ∃ o xs, H b = some (.frz o (.lst xs))

theorem law_call {P : Program} {w : World} {K : PySem.W.Frag} {mg mb : Str → Option Value} {CX : CXT} {k : Nat} {fa a : Addr} {fd : FuncData} {x : Str} {sp : Sp} {s₁ : Shared} {vs : List Value} {ns : List Int}
    (KX : K.In s₁.heap) (hns : s₁.heap.Ns mainGlobals mg) (hb : s₁.heap.Ns builtinsNs mb) (hbb : ∀ x : Str, x ≠ "__name__" → mb x = bootBuiltins x) (hlim : s₁.heap.NoLimit) (hg : s₁.gens = #[])
    (ha : s₁.heap.get? a = some { cls := .type "list", data := .seq vs.toArray }) (hi : IntsAre vs ns) (hl : ns.length ≤ sizeLine) (hr : Room k callerA)
    (F : ∀ base : Heap, K.In base → base.Ns mainGlobals mg → FnOk P w K mg base CX k fa fd [x] sp) (hbind : ∀ (s : Shared) (u : Value), BindsTo s fd ⟨[u], []⟩ [(x, u)])
    (hsp : ∀ H : Hp, Only H → SqL K H a (ns.map V.int) → sp [.ref a] H (fun v _ => v = .bl true) fun _ _ _ => False)
    (hCX : ∀ H e s', CX [] H s₁ (fun _ _ _ => False) e s' → False) :
    codeAny (model P w) callerA (.call (.ref fa) ⟨[.ref a], []⟩) (fun r s' => r = .ok (.ret (.bool true)) ∧ OldK s₁.heap s'.heap ∧ s'.os = s₁.os ∧ AllBare s'.gens) s₁ := by
  have rv := vals_ints hi
  have lenV := hi.length
  -- from an abstract heap in which nothing but the script may be tracked
  have core : ∀ H : Hp, Only H → SqL K H a (ns.map V.int) → HOk P w H s₁.heap → (∀ b, H b ≠ none → b = a) → (H a ≠ none → K.lookup a = none) →
      codeAny (model P w) callerA (.call (.ref fa) ⟨[.ref a], []⟩) (fun r s' => r = .ok (.ret (.bool true)) ∧ OldK s₁.heap s'.heap ∧ s'.os = s₁.os ∧ AllBare s'.gens) s₁ := by
    intro H hO hS hok hA hK
    have base_of : ∀ {b : Addr} {o : Obj}, s₁.heap.get? b = some o → H b = none → (hidT s₁.heap H).get? b = some o := fun e n => hidT_get e n
    have noA : ∀ {b : Addr} {o : Obj} {es : Array DictEntry} {ep : Nat}, s₁.heap.get? b = some o → o.data = .dict es ep → H b = none := fun {b o es ep} e d => by
      cases q : H b with
      | none => rfl
      | some u =>
        have e' : b = a := hA b (by rw [q]; simp)
        subst e'
        rw [ha] at e; cases e
        have d' : Data.seq vs.toArray _ = Data.dict es ep := d
        cases d'
    have nsK : ∀ {b : Addr} {m : Str → Option Value}, s₁.heap.Ns b m → (hidT s₁.heap H).Ns b m := fun {b m} ⟨o, es, ep, e, d, r⟩ => ⟨o, es, ep, base_of e (noA e d), d, r⟩
    have hKb : K.In (hidT s₁.heap H) := fun b o e => base_of (KX b o e) (by
      cases q : H b with
      | none => rfl
      | some u =>
        have e' : b = a := hA b (by rw [q]; simp)
        subst e'
        rw [hK (by rw [q]; simp)] at e; cases e)
    have hM : Mod K mg (hidT s₁.heap H) := ⟨hKb, nsK hns, ⟨mb, nsK hb, hbb⟩, let ⟨mc, h1, h2⟩ := hlim; ⟨mc, nsK h1, h2⟩⟩
    have e0 : Env0 P w K mg (hidT s₁.heap H) callerA [] s₁ H := ⟨rfl, hM, fun b o e => of_hidT e, Nat.le_of_eq (hidT_size _ _), trivial, fun b hb => absurd (show b ∈ ([] : List Addr) from hb) (by simp), hok, .of_eq hg⟩
    refine codeAny_mono ((F _ hKb (nsK hns)).run callerA [] s₁ H ⟨[.ref a], []⟩ [.ref a] [.ref a] _ _ hr e0 (hbind s₁ (.ref a)) (.cons rfl .nil) (hsp H hO hS)) fun r s' h => ?_
    cases r with
    | error e => exact (hCX H e s' h).elim
    | ok fl =>
      cases fl with
      | next => exact False.elim h
      | brk => exact False.elim h
      | cont => exact False.elim h
      | ret u =>
        obtain ⟨v, H', os, bare, un, hok', r', q⟩ := h
        have q' : v = .bl true := q
        subst q'
        obtain rfl : u = Value.bool true := r'
        refine ⟨rfl, OldK.of_keep fun b o e => ?_, os, bare⟩
        cases q : H b with
        | none => exact un.keep b o e q (by intro z; exact absurd (show b ∈ ([] : List Addr) from z) (by simp)) (by simp)
        | some u =>
          rcases hO b with z | ⟨ob, xs, z⟩
          · rw [q] at z; cases z
          · have z2 := un.frzs b ob _ z
            obtain ⟨e1, _⟩ := hok b _ z
            obtain ⟨e2, _⟩ := hok' b _ z2
            rw [e] at e1; cases e1
            exact e2
  cases hk : K.lookup a with
  | some o =>
    -- the script is one of the module's own objects
    have e := KX a o hk
    rw [ha] at e
    cases e
    refine core (fun _ => none) (fun _ => .inl rfl) (.inr ⟨_, vs.toArray, _, hk, rfl, rfl, rfl, by rw [List.size_toArray, lenV]; exact hl, by simpa using rv⟩) (fun b u z => by have z' : (none : Option HO) = some u := z; cases z') (fun b z => absurd rfl z) fun z => absurd rfl z
  | none =>
    refine core (fun b => if b = a then some (.frz { cls := .type "list", data := .seq vs.toArray } (.lst (ns.map V.int))) else none) (fun b => ?_) (.inl (.inr ⟨{ cls := .type "list", data := .seq vs.toArray }, if_pos rfl⟩)) (fun b u z => ?_) (fun b z => ?_) fun _ => hk
    · by_cases hb : b = a
      · exact .inr ⟨_, _, if_pos hb⟩
      · exact .inl (if_neg hb)
    · by_cases hb : b = a
      · have z' := (if_pos hb).symm.trans z
        cases z'
        subst hb
        exact ⟨ha, by rw [List.length_map]; exact hl, vs, _, rv, ha⟩
      · have z' := (if_neg hb).symm.trans z
        cases z'
    · by_cases hb : b = a
      · exact hb
      · exact absurd (if_neg hb) z
end L2

namespace L2
open PySem PySem.Spec PyProof.Rows

abbrev KOf {K : PySem.W.Frag} {h : Heap} (_ : K.In h) : PySem.W.Frag := K

theorem walk_of {l : PySem.W.OpenLaw} {n k : Nat} {q : Program} {loose : List Str} {XP : (Str → Option Value) → Heap → Prop} {YP : World → Heap → Prop} {d : DefRec} {K : Params → PySem.W.Frag} {CX : World → CXT} {sp : World → Sp} {x : Str}
    (hn : l.most = some n) (hn2 : n ≤ sizeLine) (hdf : d.params.defaults = []) (hr : Room k callerA)
    (hY : ∀ (w : World) (h : Heap), YP w h → (K w.params).In h)
    (F : ∀ (w : World) (mg : Str → Option Value) (fa : Addr) (h : Heap), (K w.params).In h → h.Ns mainGlobals mg → mg d.name = some (.ref fa) →
      ∃ fd : FuncData, (∀ (s : Shared) (u : Value), BindsTo s fd ⟨[u], []⟩ [(x, u)]) ∧
        ∀ base : Heap, (K w.params).In base → base.Ns mainGlobals mg → FnOk l.prog w (K w.params) mg base (CX w) k fa fd [x] (sp w))
    (hsp : ∀ (w : World) (H : Hp) (a : Addr) (ns : List Int), ns.length ≤ n → Only H → SqL (K w.params) H a (ns.map V.int) → sp w [.ref a] H (fun v _ => v = .bl true) fun _ _ _ => False)
    (hCX : ∀ (w : World) (H : Hp) (s : Shared) (e : Value) (s' : Shared), CX w [] H s (fun _ _ _ => False) e s' → False) :
    PySem.W.WalkO q loose XP YP l.row.toRowW d [] (fun f vs => PySem.call f vs) := by
  refine Att.attach_call hn hdf fun w s₀ s₁ mg mb fa o pm cd doc a vs ns G Y ho hd hcd hmg hobj hints hlen hg => ?_
  have KX := hY w _ Y
  obtain ⟨fd, hb, hF⟩ := F w mg fa _ KX G.T.g hmg
  exact law_call KX G.T.g G.T.b G.T.builtins G.T.nolimit hg hobj hints (Nat.le_trans hlen hn2) hr hF hb (fun H hO hS => hsp w H a ns hlen hO hS) fun H e s' => hCX w H s₁ e s'
end L2


namespace L2
open PySem PySem.Spec PyProof.Rows

def inClass (s : Stmt) (j : Nat) : Stmt := match s with
  | .ClassDef _ _ _ body _ _ _ _ _ _ _ => body.getD j (.Pass ⟨0, 0, 0, 0⟩)
  | _ => .Pass ⟨0, 0, 0, 0⟩
def defArgs (s : Stmt) : Arguments := match s with
  | .FunctionDef _ a _ _ _ _ _ _ _ _ => a
  | _ => { posonlyargs := [], args := [], vararg := none, kwonlyargs := [], kw_defaults := [], kwarg := none, defaults := [] }
def defBody (s : Stmt) : List Stmt := match s with
  | .FunctionDef _ _ b _ _ _ _ _ _ _ => b
  | _ => []
def defScope (s : Stmt) : Scope := match s with
  | .FunctionDef _ _ _ _ _ _ sc _ _ _ => sc
  | _ => { kind := .function, names := [], isGenerator := false, isCoroutine := false }

abbrev CX0 : CXT := fun _ _ _ _ _ _ => False
abbrev E0 : XK := fun _ _ _ => False
theorem pass0 {X : Cx} : Passes CX0 X E0 := fun _ _ _ _ _ _ _ h => h.elim

structure Fun (K : PySem.W.Frag) (x qual : Str) (st : Stmt) (f : Addr) (fd : FuncData) : Prop where
  ex : ∃ (oc : Value) (od : Option Addr) (kV doc pm : Value) (an : Option Addr) (cdv ct : Value) (osl : Array (Option Value)),
    fd = PySem.W.fnOf x qual (defArgs st) (defBody st) (defScope st) .none kV doc pm an cdv ct ∧ K.lookup f = some ⟨oc, od, .func fd, osl⟩ ∧ PySem.W.codeIn K cdv qual = true
  kp : PySem.W.keepIn K (.ref f) = true
section
variable {P : Program} {w : World} {K : PySem.W.Frag} {mg : Str → Option Value} {base : Heap}
theorem Fun.ok {x qual : Str} {st : Stmt} {f : Addr} {fd : FuncData} {N ps : List Str} {k : Nat} {sp : Sp} (F : Fun K x qual st f fd) (S : FnScope N ps (defScope st)) (len : ∀ vs H Q E, sp vs H Q E → vs.length = ps.length)
    (hbody : ∀ (cdv : Value) (A : Around) (outer : List Env) (s : Shared) (H : Hp) (vs : List V) (Q : VK) (E : XK), Room k (A.deeper (envOfC qual (defScope st) s.heap.objs.size f cdv)) → sp vs H Q E →
      ∃ t, PSs (cxOf CX0 P w K mg base N qual (defScope st) f cdv A outer s H E).nox (defBody st) t ∧ t { nx := fun _ H' => Q .non H', rt := Q } (start N vs) H) : FnOk P w K mg base CX0 (k + 1) f fd ps sp := by
  obtain ⟨oc, od, kV, doc, pm, an, cdv, ct, osl, rfl, lk, hcd⟩ := F.ex
  refine fn_of lk hcd S len fun A outer s H vs Q E hr hsp => ?_
  obtain ⟨t, h, q⟩ := hbody cdv A outer s H vs Q E hr hsp
  exact ⟨t, h.nox, q⟩
theorem Fun.binds {x qual : Str} {st : Stmt} {f : Addr} {fd : FuncData} {ps : List Str} (F : Fun K x qual st f fd)
    (h : ∀ (kV doc pm : Value) (an : Option Addr) (cdv ct : Value) (us : List Value), us.length = ps.length → bindArgs (PySem.W.fnOf x qual (defArgs st) (defBody st) (defScope st) .none kV doc pm an cdv ct) ⟨us, []⟩ = pure (ps.zip us)) : Binds K fd ps [] := by
  obtain ⟨oc, od, kV, doc, pm, an, cdv, ct, osl, rfl, lk, hcd⟩ := F.ex
  exact .all (h kV doc pm an cdv ct)
theorem fun_mk {x qual : Str} {st : Stmt} {f : Addr} {oc : Value} {od an : Option Addr} {osl : Array (Option Value)} {kV doc pm cdv ct : Value} (l : K.lookup f = some ⟨oc, od, .func (PySem.W.fnOf x qual (defArgs st) (defBody st) (defScope st) .none kV doc pm an cdv ct), osl⟩)
    (c : PySem.W.codeIn K cdv qual = true) (k : PySem.W.keepIn K (.ref f) = true) : Fun K x qual st f (PySem.W.fnOf x qual (defArgs st) (defBody st) (defScope st) .none kV doc pm an cdv ct) := ⟨⟨oc, od, kV, doc, pm, an, cdv, ct, osl, rfl, l, c⟩, k⟩
end
section
variable {X : Cx}
theorem pv (i : Nat) {x : Str} {pos : Pos} (hN : X.N[i]? = some x := by rfl) (hv : Vis X.env.scope x := by first | exact Or.inl rfl | exact Or.inr (Or.inl rfl) | exact Or.inr (Or.inr rfl)) (hd : (x == ("__debug__" : Str)) = false := by decide)
    (hcd : (x == ("__classdict__" : Str)) = false := by decide) : PE X (.Name x pos) (tVar i) := pe_var hN hv hd hcd
end

theorem iteF {A B : Prop} (h : B) : if false = true then A else B := by
  rw [if_neg Bool.false_ne_true]
  exact h
theorem iteT {A B : Prop} (h : A) : if true = true then A else B := by
  rw [if_pos rfl]
  exact h
theorem ite2 {c A B : Prop} [Decidable c] (h1 : c → A) (h2 : ¬ c → B) : if c then A else B := by
  by_cases h : c
  · rw [if_pos h]
    exact h1 h
  · rw [if_neg h]
    exact h2 h
def Same (H H' : Hp) : Prop := ∀ b o, H b = some o → H' b = some o
theorem Same.refl (H : Hp) : Same H H := fun _ _ h => h
theorem Same.trans {H H1 H2 : Hp} (a : Same H H1) (b : Same H1 H2) : Same H H2 := fun c o h => b c o (a c o h)
theorem Same.free {H H' : Hp} (e : Same H H') {l : Addr} (h : H' l = Option.none) : H l = Option.none := by
  cases q : H l with
  | none => rfl
  | some o =>
    rw [e l o q] at h
    cases h
theorem Same.seq {K : PySem.W.Frag} {H H' : Hp} {a : Addr} {xs : List V} (e : Same H H') (h : SqL K H a xs) : SqL K H' a xs := by
  rcases h with (h | ⟨o, h⟩) | h
  · exact .inl (.inl (e _ _ h))
  · exact .inl (.inr ⟨o, e _ _ h⟩)
  · exact .inr h

end L2


namespace L2
open PySem PySem.Spec PyProof.Rows


theorem closure_ok {env : Env} {scope : Scope} (h : ∀ y ∈ scope.names, y.2 = .free → ∃ c, env.cells.lookup y.1 = some c) :
    ∃ cl, closureFor scope env = pure cl ∧ (∀ x c, cl.lookup x = some c → env.cells.lookup x = some c) ∧ ∀ y ∈ scope.names, y.2 = .free → cl.lookup y.1 = env.cells.lookup y.1 := by
  have go : ∀ (names : List (Str × NameKind)) (acc : List (Str × Addr)), (∀ y ∈ names, y.2 = .free → ∃ c, env.cells.lookup y.1 = some c) →
      (∀ x c, acc.lookup x = some c → env.cells.lookup x = some c) →
      ∃ cl, (forIn names acc (fun (y : Str × NameKind) (cs : List (Str × Addr)) => if (y.2 == .free) = true then (do let c ← cellOf env y.1; pure (ForInStep.yield ((y.1, c) :: cs))) else pure (ForInStep.yield cs)) : Sem (List (Str × Addr))) = pure cl ∧
        (∀ x c, cl.lookup x = some c → env.cells.lookup x = some c) ∧ (∀ x c, acc.lookup x = some c → cl.lookup x = some c) ∧ ∀ y ∈ names, y.2 = .free → cl.lookup y.1 = env.cells.lookup y.1 := by
    intro names
    induction names with
    | nil => intro acc _ ha; exact ⟨acc, rfl, ha, fun _ _ h => h, fun y hy => nomatch hy⟩
    | cons y r ih =>
      intro acc hn ha
      obtain ⟨n, k⟩ := y
      by_cases hk : k = .free
      · subst hk
        obtain ⟨c, hc⟩ := hn (n, .free) List.mem_cons_self rfl
        have ha' : ∀ x d, (((n, c) :: acc : List (Str × Addr))).lookup x = some d → env.cells.lookup x = some d := fun x d e => by
          rw [List.lookup_cons] at e
          cases hx : x == n with
          | true =>
            rw [hx] at e
            have e1 : x = n := eq_of_beq hx
            subst e1
            cases e
            exact hc
          | false => rw [hx] at e; exact ha x d e
        obtain ⟨cl, e, h1, h2, h3⟩ := ih ((n, c) :: acc) (fun y hy => hn y (List.mem_cons_of_mem _ hy)) ha'
        refine ⟨cl, ?_, h1, fun x d e => ?_, fun y hy hf => ?_⟩
        · rw [List.forIn_cons]
          have ec : cellOf env n = pure c := by unfold cellOf; rw [hc]
          simp only [beq_self_eq_true, if_true]
          rw [ec]
          exact e
        · have e' := ha x d e
          by_cases hx : x = n
          · subst hx
            rw [hc] at e'; cases e'
            exact h2 x c (by rw [List.lookup_cons]; simp)
          · exact h2 x d (by rw [List.lookup_cons, beq_eq_false_iff_ne.mpr hx]; exact e)
        · rcases List.mem_cons.mp hy with rfl | hy
          · show cl.lookup n = env.cells.lookup n
            rw [hc]
            exact h2 n c (by rw [List.lookup_cons]; simp)
          · exact h3 y hy hf
      · obtain ⟨cl, e, h1, h2, h3⟩ := ih acc (fun y hy => hn y (List.mem_cons_of_mem _ hy)) ha
        refine ⟨cl, ?_, h1, h2, fun y hy hf => ?_⟩
        · rw [List.forIn_cons]
          have : (k == NameKind.free) = false := by simpa using hk
          simp only [this, Bool.false_eq_true, if_false]
          exact e
        · rcases List.mem_cons.mp hy with rfl | hy
          · exact absurd hf hk
          · exact h3 y hy hf
  obtain ⟨cl, e, h1, _, h3⟩ := go scope.names [] h (fun x c e => by simp at e)
  refine ⟨cl, ?_, h1, h3⟩
  unfold closureFor
  exact (congrArg (fun m => m >>= fun r => pure r) e).trans rfl

def compSt (n : Nat) (ix : List Nat) (σ : St) : St := List.replicate n none ++ ix.map fun i => σ.getD i none

def Cx.comp (X : Cx) (s₂ : Shared) (H₂ : Hp) (N' : List Str) (scope : Scope) (cl : List (Str × Addr)) (C : Addr) (fp : List Addr) : Cx :=
  { X with N := N', s₀ := s₂, H₀ := H₂, env := compEnvC scope cl C X.env, outer := X.stack, stack := X.stack, ex := fp, fn := fun _ => false, pn := [], xe := fun _ _ => False }

structure CompScope (X : Cx) (scope : Scope) (N' : List Str) (n : Nat) (ix : List Nat) : Prop where
  kind : scope.kind = .function
  nocell : ∀ y ∈ scope.names, y.2 ≠ .cell
  names : ∀ y ∈ scope.names, y.2 = .local → scope.names.lookup y.1 = some .local
  free : ∀ y ∈ scope.names, y.2 = .free → X.env.scope.names.lookup y.1 = some .cell ∨ X.env.scope.names.lookup y.1 = some .free
  nodup : ∀ y : Str, (y, NameKind.free) ∈ scope.names → scope.names.lookup y = some .local → False
  len : N'.length = n + ix.length
  at_ : ∀ (j i : Nat), ix[j]? = some i → ∃ x, N'[n + j]? = some x ∧ X.N[i]? = some x ∧ (x, NameKind.free) ∈ scope.names
end L2
namespace L2
open PySem PySem.Spec PyProof.Rows

theorem relabel_lookup {env : Env} {scope : Scope} (x : Str) : (relabel scope env).names.lookup x = (scope.names.lookup x).map fun k => if (k == .free && env.scope.kind == .function && env.kindOf x == some .cell) then .cell else k := by
  show (scope.names.map fun (n, k) => if (k == NameKind.free && env.scope.kind == .function && env.kindOf n == some .cell) then (n, NameKind.cell) else (n, k)).lookup x = _
  generalize scope.names = l
  induction l with
  | nil => rfl
  | cons y r ih =>
    obtain ⟨n, k⟩ := y
    rw [List.map_cons, List.lookup_cons]
    cases hx : x == n with
    | true =>
      have e : x = n := eq_of_beq hx
      subst e
      by_cases hc : (k == NameKind.free && env.scope.kind == .function && env.kindOf x == some .cell) = true
      · rw [if_pos hc, List.lookup_cons]
        simp only [beq_self_eq_true]
        show some NameKind.cell = some (ite _ _ _)
        rw [if_pos hc]
      · rw [if_neg hc, List.lookup_cons]
        simp only [beq_self_eq_true]
        show some k = some (ite _ _ _)
        rw [if_neg hc]
    | false =>
      by_cases hc : (k == NameKind.free && env.scope.kind == .function && env.kindOf n == some .cell) = true
      · rw [if_pos hc, List.lookup_cons, hx]; exact ih
      · rw [if_neg hc, List.lookup_cons, hx]; exact ih

section
variable {X : Cx} {pins : List (Addr × Obj)} {σ : St} {H : Hp} {s : Shared}

theorem relabel_free {env : Env} {scope : Scope} {x : Str} (h : scope.names.lookup x = some .free) : (relabel scope env).names.lookup x = some .cell ∨ (relabel scope env).names.lookup x = some .free := by
  rw [relabel_lookup, h]
  by_cases hc : (NameKind.free == NameKind.free && env.scope.kind == .function && env.kindOf x == some .cell) = true
  · exact .inl (by show some (ite _ _ _) = _; rw [if_pos hc])
  · exact .inr (by show some (ite _ _ _) = _; rw [if_neg hc])
theorem of_relabel {env : Env} {scope : Scope} {x : Str} (hn : ∀ y ∈ scope.names, y.2 ≠ .cell) (h : (relabel scope env).names.lookup x = some .cell ∨ (relabel scope env).names.lookup x = some .free) : scope.names.lookup x = some .free := by
  rw [relabel_lookup] at h
  cases e : scope.names.lookup x with
  | none => rw [e] at h; rcases h with h | h <;> cases h
  | some k =>
    rw [e] at h
    have hk := hn _ (PySem.mem_of_lookup e)
    by_cases hf : k = .free
    · rw [hf]
    · have hb : (k == NameKind.free) = false := by simpa using hf
      have hr : Option.map (fun k => if (k == NameKind.free && env.scope.kind == .function && env.kindOf x == some .cell) = true then NameKind.cell else k) (some k) = some k := by
        show some (ite _ _ _) = _
        rw [if_neg (by rw [hb]; simp)]
      rw [hr] at h
      rcases h with h | h
      · cases h; exact absurd rfl hk
      · exact h

theorem inv_comp {scope : Scope} {N' : List Str} {n : Nat} {ix : List Nat} {cl : List (Str × Addr)} {fp : List Addr} {h₁ : Heap} {acc C : Addr} {na : Nat} {m : Str → Option Value} {tk : Nat}
    (I : Inv X pins σ H s) (S : CompScope X scope N' n ix) (hcl1 : ∀ x c, cl.lookup x = some c → X.env.cells.lookup x = some c) (hcl2 : ∀ y ∈ scope.names, y.2 = .free → cl.lookup y.1 = X.env.cells.lookup y.1)
    (hf : ∀ b ∈ fp, FpOk X pins H b) (hlt : ∀ b ∈ fp, b < s.heap.objs.size) (ha : s.heap.objs.size ≤ acc) (hC : s.heap.objs.size ≤ C) (hne : C ≠ acc)
    (k : ∀ b u, s.heap.get? b = some u → h₁.get? b = some u) (hacc : h₁.get? acc = some { cls := .type "list", data := .seq ([] : List Value).toArray na }) (hns : h₁.Ns C m) :
    Inv (X.comp s H N' scope cl C fp) [] (compSt n ix σ) (upd H acc (.lst [])) { s with heap := h₁, toks := tk } := by
  have fr : ∀ b : Addr, s.heap.objs.size ≤ b → H b = none := fun b hb => I.hok.fresh hb
  have cellLt : ∀ x c, cl.lookup x = some c → c < s.heap.objs.size := fun x c e => by
    obtain ⟨v, q⟩ := I.cell x c (hcl1 x c e)
    exact q.lt
  refine ⟨⟨I.ok.mod, S.kind, I.ok.glob, I.ok.blt, hC, fun x y c e1 e2 => I.ok.inj x y c (hcl1 x c e1) (hcl1 y c e2), fun x hx => ?_, fun x c e _ => absurd e Bool.false_ne_true, I.ok.hd, I.ok.frames, .inl rfl, fun b hb => ⟨Nat.ne_of_lt (Nat.lt_of_lt_of_le (hlt b hb) hC), fun x c e => (hf b hb).2.2.2.2.1 x c (hcl1 x c e)⟩,
      I.bs, Nat.le_trans I.ok.bsz I.sz, fun b o e hb => ?_, fun b hb hs => ?_, I.stack, I.stkFree⟩,
    rfl, I.bare, Un.laid k ha (fr acc ha), ⟨m, hns, fun i x v e1 e2 e3 => ?_⟩, fun x c e => ?_, ?_, fun x c e => ?_, fun p hp => absurd (show p ∈ ([] : List (Addr × Obj)) from hp) (by simp), I.hok.laid k ha ⟨Nat.zero_le _, [], na, .nil, hacc⟩, ?_⟩
  · have hx' : scope.names.lookup x = some .free := of_relabel (env := X.env) S.nocell hx
    have hm := PySem.mem_of_lookup hx'
    obtain ⟨c, e⟩ := I.ok.has x (S.free _ hm rfl)
    exact ⟨c, (hcl2 _ hm rfl).trans e⟩
  · rcases (hf b hb).2.2.2.1 with z | z
    · exact I.ok.noex b o e z
    · exact absurd (Nat.lt_of_lt_of_le (Heap.lt_size e) (Nat.le_trans I.ok.bsz z)) (Nat.lt_irrefl _)
  · rcases List.mem_cons.mp (I.stkSub b hs) with z | z
    · exact (hf b hb).2.1 z
    · exact (hf b hb).2.2.1 z
  · -- a name of the frame, seen through its cell
    have hi : n ≤ i := by
      by_cases hi : n ≤ i
      · exact hi
      · unfold compSt at e2
        rw [List.getElem?_append_left (by simp; omega), List.getElem?_replicate] at e2
        split at e2 <;> cases e2
    obtain ⟨j, rfl⟩ : ∃ j, i = n + j := ⟨i - n, by omega⟩
    unfold compSt at e2
    rw [List.getElem?_append_right (by simp), List.length_replicate, Nat.add_sub_cancel_left, List.getElem?_map] at e2
    cases ej : ix[j]? with
    | none => rw [ej] at e2; cases e2
    | some q =>
      rw [ej] at e2
      have e2' : σ.getD q none = some v := Option.some.inj e2
      have e2'' : σ[q]? = some (some v) := by
        rw [List.getD_eq_getElem?_getD] at e2'
        cases eq : σ[q]? with
        | none => rw [eq] at e2'; cases e2'
        | some z => rw [eq] at e2'; exact congrArg some e2'
      obtain ⟨y, h1, h2, h3⟩ := S.at_ j q ej
      have ey : y = x := Option.some.inj (h1.symm.trans e1)
      subst ey
      have hk := S.free _ h3 rfl
      obtain ⟨mX, _, hl⟩ := I.loc
      obtain ⟨u, r, l⟩ := hl q y v h2 e2'' (.inr hk)
      refine ⟨u, r, .inr ?_⟩
      have hkc : X.env.kindOf y = some .cell ∨ X.env.kindOf y = some .free := hk
      have l' : ∃ c, X.env.cells.lookup y = some c ∧ s.heap.IsCell c (some u) := by
        rcases l with ⟨z, _⟩ | ⟨_, c, ec, hc⟩
        · rcases hkc with q | q <;> (rw [q] at z; cases z)
        · exact ⟨c, ec, hc⟩
      obtain ⟨c, ec, o, ho, hd⟩ := l'
      have e3' : Vis (relabel scope X.env) y := e3
      refine ⟨?_, c, (hcl2 _ h3 rfl).trans ec, o, k _ _ ho, hd⟩
      -- its kind in the block
      have nl : scope.names.lookup y ≠ some .local := fun z => ?_
      · cases el : scope.names.lookup y with
        | none =>
          have : (relabel scope X.env).names.lookup y = none := by rw [relabel_lookup, el]; rfl
          rcases e3' with z | z | z <;> (rw [this] at z; cases z)
        | some kk =>
          have hmem := PySem.mem_of_lookup el
          have ncell := S.nocell _ hmem
          have hr : (relabel scope X.env).names.lookup y = some (if (kk == NameKind.free && X.env.scope.kind == .function && X.env.kindOf y == some .cell) = true then .cell else kk) := by rw [relabel_lookup, el]; rfl
          by_cases hkf : kk = .free
          · subst hkf
            exact relabel_free (env := X.env) el
          · have hb : (kk == NameKind.free) = false := by simpa using hkf
            have hr' : (relabel scope X.env).names.lookup y = some kk := by rw [hr, hb]; rfl
            rcases e3' with z | z | z
            · rw [hr'] at z; cases z; exact absurd el nl
            · rw [hr'] at z; cases z; exact absurd rfl ncell
            · rw [hr'] at z; cases z; exact absurd rfl hkf
      · exact S.nodup _ h3 z
  · obtain ⟨v, o, ho, hd⟩ := I.cell x c (hcl1 x c e)
    exact ⟨v, o, k _ _ ho, hd⟩
  · show upd H acc (.lst []) C = none
    rw [upd_ne hne]; exact fr C hC
  · show upd H acc (.lst []) c = none
    have := cellLt x c e
    rw [upd_ne (Nat.ne_of_lt (Nat.lt_of_lt_of_le this ha))]
    exact I.freeC x c (hcl1 x c e)
  · show (compSt n ix σ).length = N'.length
    unfold compSt
    rw [List.length_append, List.length_replicate, List.length_map, S.len]
end
end L2


namespace L2
open PySem PySem.Spec PyProof.Rows

def Wk (σ σ' : St) : Prop := σ.length = σ'.length ∧ ∀ (i : Nat) v, σ[i]? = some (some v) → σ'[i]? = some (some v)
def PTs (Y : Cx) (ifs : List Expr) (t : TT) : Prop :=
  ∀ (pins : List (Addr × Obj)) (s : Shared) (σ : St) (H : Hp) (Q : Bool → Hp → Prop), Inv Y pins σ H s → t σ H Q →
    wpAny (model Y.prog Y.w) Y.A (forIn ifs true fun c r => if r = true then do let ok ← isTrue c Y.env (eval c Y.env); pure (ForInStep.yield ok) else pure (ForInStep.yield r)) (TP Y pins σ Q) Y.xe s
def tNoTest : TT := fun _ H Q => Q true H
theorem pts_nil {Y : Cx} : PTs Y [] tNoTest := fun _ _ _ H _ I h => wpAny_tests_nil ⟨H, I, h⟩
theorem pts_one {Y : Cx} {c : Expr} {t : TT} (h : PT Y c t) : PTs Y [c] t := fun pins s σ H Q I q => wpAny_tests_one (h pins s σ H Q I q)

theorem compLoop_gen {prog : Program} {w : World} {A : Around} {R : Result → Shared → Prop} {s : Shared} {elt target iter : Expr} {ifs : List Expr} {scope : Scope} {pos : Pos} {it acc : Value} {env : Env} (I : Nat → Shared → Prop)
    (turn : ∀ n s, I n s → wpAny (model prog w) A (pyNext it) (fun r s₁ => match r with
      | none => R (.ok .next) s₁
      | some v => wpAny (model prog w) A (letOwnedTupleGo target it v) (fun _ s₂ => wpAny (model prog w) A (assign target env v) (fun _ s₃ =>
          wpAny (model prog w) A (forIn ifs true fun c r => if r = true then do let ok ← isTrue c env (eval c env); pure (ForInStep.yield ok) else pure (ForInStep.yield r)) (fun ok s₄ =>
            if ok = true then wpAny (model prog w) A (eval elt env) (fun x s₅ =>
              wpAny (model prog w) A (call (.builtin "list.append") [acc, x]) (fun _ s₆ => ∃ m, m < n ∧ I m s₆) (fun _ _ => False) s₅) (fun _ _ => False) s₄
            else ∃ m, m < n ∧ I m s₄) (fun _ _ => False) s₃) (fun _ _ => False) s₂) (fun _ _ => False) s₁) (fun _ _ => False) s)
    (n : Nat) (h : I n s) :
    codeAny (model prog w) A (.compLoop (.ListComp elt [⟨target, iter, ifs, 0⟩] scope pos) 0 it acc env) R s := by
  refine codeAny_loop rfl I (fun n s hI => ?_) n h
  show wpAny _ A ((compTurn (.ListComp elt [⟨target, iter, ifs, 0⟩] scope pos) 0 it acc env).onRaise (fun x => do noteFrame x env; theTreesLotGoes x)) _ _ s
  refine wpAny_noted (wpAny_noRaise ?_)
  rw [compTurn_list]
  refine wpAny_bind (wpAny_standAt (wpAny_bind (thn (turn n s hI) fun r s₁ h₁ => ?_)))
  cases r with
  | none => exact wpAny_pure h₁
  | some v =>
    refine wpAny_bind (thn h₁ fun _ s₂ h₂ => wpAny_bind (thn h₂ fun _ s₃ h₃ => wpAny_bind (thn h₃ fun ok s₄ h₄ => ?_)))
    cases ok with
    | false => exact wpAny_pure ⟨rfl, h₄⟩
    | true => exact wpAny_bind (wpAny_bind (thn h₄ fun x s₅ h₅ => wpAny_bind (thn h₅ fun _ s₆ h₆ => wpAny_pure (wpAny_pure ⟨rfl, h₆⟩))))

def LcW (J : It) (H1 : Hp) (g : TG) (tt : TT) (te : TE) (n : Nat) (ix : List Nat) (σ : St) (Q : VK) : Prop := ∀ acc, H1 acc = none →
  ∃ W : Nat → Nat → Hp → Prop, (∃ m, W 0 m (upd H1 acc (.lst []))) ∧ ∀ i m H, W i m H →
    (J.stop i H ∧ Q (.ref acc) H) ∨ (J.go i H ∧ ∀ x H', J.yld i H x H' → g x (compSt n ix σ) H' fun σ2 H2 => Wk (compSt n ix σ) σ2 ∧ tt σ2 H2 fun b H3 =>
      if b = true then te σ2 H3 fun v H4 => ∃ ys, H4 acc = some (.lst ys) ∧ ys.length < sizeLine ∧ ∃ m', m' < m ∧ W (i + 1) m' (upd H4 acc (.lst (ys ++ [v])))
      else ∃ m', m' < m ∧ W (i + 1) m' H3)
def tLc (wi : TI) (g : TG) (tt : TT) (te : TE) (n : Nat) (ix : List Nat) : TE := fun σ H Q => wi σ H fun J H1 => LcW J H1 g tt te n ix σ Q

section
variable {X : Cx} {elt tg iter : Expr} {ifs : List Expr} {scope : Scope} {pos : Pos} {wi : TI} {g : TG} {tt : TT} {te : TE} {N' : List Str} {n : Nat} {ix : List Nat}
theorem lc_core {pins : List (Addr × Obj)} {σ : St} {H2 : Hp} {s2 : Shared} {cl : List (Str × Addr)} {it : Addr} {fp : List Addr} {tn : Nat → Heap → Prop} {J : It} {Q : VK} {R : Value → Addr → Result → Shared → Prop}
    (hc : X.calm = true) (S : CompScope X scope N' n ix)
    (hY : ∀ s₂ H₂ cl C fp, PG (X.comp s₂ H₂ N' scope cl C fp) tg g ∧ PTs (X.comp s₂ H₂ N' scope cl C fp) ifs tt ∧ PE (X.comp s₂ H₂ N' scope cl C fp) elt te)
    (I2 : Inv X pins σ H2 s2) (hcl1 : ∀ x c, cl.lookup x = some c → X.env.cells.lookup x = some c) (hcl2 : ∀ y ∈ scope.names, y.2 = .free → cl.lookup y.1 = X.env.cells.lookup y.1)
    (T : Turn X.prog X.w X.K tg J fp it tn) (st2 : tn 0 s2.heap) (f2 : ∀ b ∈ fp, FpOk X pins H2 b)
    (hW : LcW J H2 g tt te n ix σ Q)
    (hR : ∀ acc C s' H' m, s'.heap.Ns C m → Inv X pins σ H' s' → H' C = none → C ≠ X.env.locals → (C ∈ X.ex ∨ X.s₀.heap.objs.size ≤ C) → (∀ x c, X.env.cells.lookup x = some c → c ≠ C) → (∀ p ∈ X.pn ++ pins, p.1 ≠ C) → C ∉ X.fs → Q (.ref acc) H' → R (.ref acc) C (.ok .next) s') :
    wpAny (model X.prog X.w) X.A (newList []) (fun acc s₃ => wpAny (model X.prog X.w) X.A (newFunctionEnv scope X.env.globals cl [] X.env.qual none .none (some X.env)) (fun cenv s₄ =>
      codeAny (model X.prog X.w) X.A (.compStart (.ListComp elt [⟨tg, iter, ifs, 0⟩] scope pos) 0 (.ref it) acc { cenv with scope := relabel scope X.env }) (R acc cenv.locals) s₄) X.xe s₃) X.xe s2 := by
  refine wpAny_newObj_type (wpAny_newFunctionEnv S.nocell (by intro y hy; simp at hy) (fun h₁ hns₁ hsb₁ => ?_) S.kind)
  dsimp only at hns₁ hsb₁ ⊢
  generalize hH2 : s2.heap.push { cls := .type "list", dict := none, data := .seq ([] : List Value).toArray } = G at hns₁ hsb₁ ⊢
  have hC : G.objs.size = s2.heap.objs.size + 1 := by rw [← hH2, Heap.size_push]
  have hlt : ∀ b ∈ fp, b < s2.heap.objs.size := fun b hb => by
    obtain ⟨o, e, _⟩ := T.obj _ _ st2 b hb
    exact Heap.lt_size e
  have old : ∀ b o, s2.heap.get? b = some o → h₁.get? b = some o := fun b o e => hsb₁.extBut b o (by rw [hC]; exact Nat.ne_of_lt (Nat.lt_succ_of_lt (Heap.lt_size e))) (Heap.get?_push_of_some _ (hH2 ▸ Heap.get?_push_of_some _ e))
  have hacc : h₁.get? s2.heap.objs.size = some { cls := .type "list", dict := none, data := .seq ([] : List Value).toArray } := hsb₁.extBut _ _ (by rw [hC]; exact Nat.ne_of_lt (Nat.lt_succ_self _)) (Heap.get?_push_of_some _ (hH2 ▸ Heap.get?_push_size _ rfl))
  obtain ⟨W, ⟨m0, w0⟩, turn⟩ := hW s2.heap.objs.size (I2.hok.fresh (Nat.le_refl _))
  obtain ⟨hYg, hYt, hYe⟩ := hY s2 H2 cl G.objs.size fp
  have fpY : ∀ {H' : Hp}, (∀ b ∈ fp, H' b = none) → ∀ b ∈ fp, FpOk (X.comp s2 H2 N' scope cl G.objs.size fp) [] H' b := fun {H'} hn b hb => by
    obtain ⟨_, q1, q2, q3, q4, q5⟩ := f2 b hb
    refine ⟨hn b hb, ?_, fun z => ?_, .inl hb, fun x c e => q4 x c (hcl1 x c e), fun p hp => absurd (show p ∈ ([] : List (Addr × Obj)) from hp) (by simp)⟩
    · show b ≠ G.objs.size
      rw [hC]
      exact Nat.ne_of_lt (Nat.lt_succ_of_lt (hlt b hb))
    · rcases List.mem_cons.mp (I2.stkSub b z) with y | y
      · exact q1 y
      · exact q2 y
  have loop : ∀ s₃ : Shared, s₃ = { s2 with heap := h₁, toks := s2.toks + ([] : List (Str × Value)).length } →
      codeAny (model X.prog X.w) X.A (.compLoop (.ListComp elt [⟨tg, iter, ifs, 0⟩] scope pos) 0 (.ref it) (.ref s2.heap.objs.size) (compEnvC scope cl G.objs.size X.env)) (R (.ref s2.heap.objs.size) G.objs.size) s₃ := by
    rintro s₃ rfl
    have I4 := inv_comp (tk := s2.toks + ([] : List (Str × Value)).length) I2 S hcl1 hcl2 f2 hlt (Nat.le_refl _) (by rw [hC]; exact Nat.le_succ _) (by rw [hC]; exact Nat.ne_of_gt (Nat.lt_succ_self _)) old hacc hns₁
    refine compLoop_gen (fun n' s' => ∃ i H', Inv (X.comp s2 H2 N' scope cl G.objs.size fp) [] (compSt n ix σ) H' s' ∧ tn i s'.heap ∧ (∀ b ∈ fp, H' b = none) ∧ W i n' H') ?_ m0
      ⟨0, _, I4, T.keep _ _ _ st2 fun b hb o e => old b o e, fun b hb => ?_, w0⟩
    · rintro n' s3 ⟨i, H3, I3, st3, fr3, w3⟩
      rcases turn i n' H3 w3 with ⟨stop, q⟩ | ⟨go, step⟩
      · refine thn (T.done (X.comp s2 H2 N' scope cl G.objs.size fp) rfl rfl rfl hc i [] s3 _ H3 _ I3 (fpY fr3) st3 stop) fun r s4 ⟨hr, I5⟩ => ?_
        subst hr
        obtain ⟨mC, hnC, _⟩ := I5.loc
        have IX : Inv X pins σ H3 s4 := I2.call' I5.os I5.base I5.hok I5.bare fun b hb => by
          obtain ⟨_, q1, q2, q3, q4, q5⟩ := f2 b hb
          exact ⟨q3, q1, q4, q5⟩
        refine hR _ _ s4 H3 mC hnC IX I5.free ?_ (.inr ?_) (fun x c e z => ?_) (fun p hp z => ?_) (I2.nofs (by rw [hC]; exact Nat.le_succ _)) q
        · rw [hC]
          exact Nat.ne_of_gt (Nat.lt_succ_of_lt I2.lt)
        · rw [hC]
          exact Nat.le_succ_of_le I2.sz
        · obtain ⟨v, q⟩ := I2.cell x c e
          rw [hC] at z
          exact absurd z (Nat.ne_of_lt (Nat.lt_succ_of_lt q.lt))
        · rw [hC] at z
          exact absurd z (Nat.ne_of_lt (Nat.lt_succ_of_lt (Heap.lt_size (I2.pin p hp).1)))
      · refine thn (T.item (X.comp s2 H2 N' scope cl G.objs.size fp) rfl rfl rfl hc i [] s3 _ H3 _ I3 (fpY fr3) st3 go) fun r s4 ⟨u, hr, h4⟩ => ?_
        subst hr
        refine thn h4 fun _ s5 ⟨x, H5, I5, r5, y5, st5, fr5⟩ => ?_
        have I5' := I5.pinned (fpY fr5) (T.obj _ _ st5)
        refine thn (hYg _ s5 _ H5 x u _ I5' r5 (step x H5 y5)) fun _ s6 ⟨σ6, H6, I6, wk, q6⟩ => ?_
        have back : ∀ {H' : Hp} {s' : Shared}, Inv (X.comp s2 H2 N' scope cl G.objs.size fp) ([] ++ pinsAt fp s5.heap) σ6 H' s' →
            Inv (X.comp s2 H2 N' scope cl G.objs.size fp) [] (compSt n ix σ) H' s' ∧ tn (i + 1) s'.heap ∧ ∀ b ∈ fp, H' b = none := fun {H' s'} I7 => by
          refine ⟨I7.unpinned.weak wk.1 wk.2, T.keep _ _ _ st5 fun b hb o e => (I7.pin (b, o) (List.mem_append_right _ (List.mem_append_right _ (mem_pinsAt hb e)))).1, fun b hb => ?_⟩
          obtain ⟨o, e, d⟩ := T.obj _ _ st5 b hb
          exact (I7.pin (b, o) (List.mem_append_right _ (List.mem_append_right _ (mem_pinsAt hb e)))).2.1
        refine thn (hYt _ s6 σ6 H6 _ I6 q6) fun ok s7 ⟨H7, I7, q7⟩ => ?_
        cases ok with
        | false =>
          rw [if_neg Bool.false_ne_true] at q7 ⊢
          obtain ⟨m', hm, w7⟩ := q7
          obtain ⟨b1, b2, b3⟩ := back I7
          exact ⟨m', hm, i + 1, H7, b1, b2, b3, w7⟩
        | true =>
          rw [if_pos rfl] at q7 ⊢
          refine thn (hYe _ s7 σ6 H7 _ I7 q7) fun xv s8 ⟨v8, H8, I8, r8, ys, ha, hz, m', hm, w8⟩ => ?_
          refine thn (mt_append _ s8 σ6 H8 (.ref s2.heap.objs.size) [v8] (.ref s2.heap.objs.size) [xv] (fun _ H' => H' = upd H8 s2.heap.objs.size (.lst (ys ++ [v8]))) I8 rfl (.cons r8 .nil) ⟨_, ys, v8, rfl, rfl, ha, hz, rfl⟩) fun _ s9 ⟨_, H9, I9, _, e9⟩ => ?_
          subst e9
          obtain ⟨b1, b2, b3⟩ := back I9
          exact ⟨m', hm, i + 1, _, b1, b2, b3, w8⟩
    · rw [upd_ne (Nat.ne_of_lt (hlt b hb))]
      exact (f2 b hb).1
  exact codeAny_compStart_list (loop _ rfl) (T.self _ 0 _ _ _ (T.keep _ _ _ st2 fun b hb o e => old b o e) (loop _ rfl))

theorem pe_lc (hc : X.calm = true) (S : CompScope X scope N' n ix) (hi : PI X tg iter wi)
    (hY : ∀ s₂ H₂ cl C fp, PG (X.comp s₂ H₂ N' scope cl C fp) tg g ∧ PTs (X.comp s₂ H₂ N' scope cl C fp) ifs tt ∧ PE (X.comp s₂ H₂ N' scope cl C fp) elt te)
    (hs : ∀ x, foldedSetIterable iter X.env x = pure x := by intro _; rfl) : PE X (.ListComp elt [⟨tg, iter, ifs, 0⟩] scope pos) (tLc wi g tt te n ix) := by
  intro pins s σ H Q I h
  obtain ⟨cl, hcl, hcl1, hcl2⟩ := closure_ok (env := X.env) (scope := scope) fun y hy hf => I.ok.has _ (S.free y hy hf)
  rw [eval_ListComp]
  refine wpAny_comprehension_free (use := none) rfl hs hcl S.kind S.names (thn (hi pins s σ H _ I h) fun v s1 h1 => thn h1 fun itv s2 h2 => ?_)
  obtain ⟨it, fp, tn, J, H2, rfl, I2, T, st2, f2, hW⟩ := h2
  refine lc_core (R := fun acc C => compPost (model X.prog X.w) X.A X.xe none (EP X pins σ Q) acc C) hc S hY I2 hcl1 hcl2 T st2 f2 hW ?_
  intro acc C s' H' m hn IX hf hL h1 h2 h3 h4 q
  exact ⟨m, hn, fun h' sb => ⟨.ref acc, H', IX.turned (t' := s'.toks) (fun b o hb e => sb.extBut b o hb e) hf hL h1 h2 h3, rfl, q⟩⟩

theorem ps_lcset {x : Str} {i : Nat} {pos' spos : Pos} (hsw : swapsWith (.ListComp elt [⟨tg, iter, ifs, 0⟩] scope pos) (some (.Name x pos')) spos.line X.env = pure true) (hN : X.N.Nodup) (hi' : X.N[i]? = some x) (hx : X.env.scope.names.lookup x = some .local)
    (hc : X.calm = true) (S : CompScope X scope N' n ix) (hi : PI X tg iter wi)
    (hY : ∀ s₂ H₂ cl C fp, PG (X.comp s₂ H₂ N' scope cl C fp) tg g ∧ PTs (X.comp s₂ H₂ N' scope cl C fp) ifs tt ∧ PE (X.comp s₂ H₂ N' scope cl C fp) elt te)
    (hs : ∀ x, foldedSetIterable iter X.env x = pure x := by intro _; rfl) : PS X (.Assign [.Name x pos'] (.ListComp elt [⟨tg, iter, ifs, 0⟩] scope pos) spos) (tAsg (tLc wi g tt te n ix) (gName i)) := by
  intro pins s σ H D I h
  obtain ⟨cl, hcl, hcl1, hcl2⟩ := closure_ok (env := X.env) (scope := scope) fun y hy hf => I.ok.has _ (S.free y hy hf)
  rw [exec_Assign_Name_used _ _ _ _ hsw]
  refine wpAny_bind (wpAny_standAt (wpAny_bind ?_))
  show wpAny _ _ (do let _ ← comprehension (.ListComp elt [⟨tg, iter, ifs, 0⟩] scope pos) scope X.env _ (newList []) false (eval iter X.env) (some (assign (.Name x pos') X.env))) _ _ s
  refine wpAny_bind (thn (wpAny_comprehension_free (use := some (assign (.Name x pos') X.env)) (Q := fun _ s' => SP X pins D .next s') rfl hs hcl S.kind S.names (thn (hi pins s σ H _ I h) fun v s1 h1 => thn h1 fun itv s2 h2 => ?_)) fun _ s' hq => wpAny_pure (wpAny_pure hq))
  obtain ⟨it, fp, tn, J, H2, rfl, I2, T, st2, f2, hW⟩ := h2
  refine lc_core (Q := fun x H1 => gName i x σ H1 D.nx) (R := fun acc C => compPost (model X.prog X.w) X.A X.xe (some (assign (.Name x pos') X.env)) (fun _ s' => SP X pins D .next s') acc C) hc S hY I2 hcl1 hcl2 T st2 f2 hW ?_
  intro acc C s' H' m hn IX hf hL h1 h2 h3 h4 q
  show wpAny _ _ (assign (.Name x pos') X.env (.ref acc)) _ _ _
  -- the block's own dict is pinned through the store
  obtain ⟨oC, esC, epC, hoC, hdC, rC⟩ := id hn
  have IP : Inv X (pins ++ [(C, oC)]) σ H' s' := IX.pins_of fun p hp => by
    rcases List.mem_append.mp hp with z | z
    · exact IX.pin p (List.mem_append_right _ z)
    · have e : p = (C, oC) := by simpa using z
      subst e
      exact ⟨hoC, hf, hL, h4, fun v z => by rw [hdC] at z; cases z⟩
  refine thn (pg_name hN hi' (.inl hx) (.inr hx) _ s' σ H' (.ref acc) (.ref acc) D.nx IP rfl q) fun _ s'' ⟨σ', H'', I'', q''⟩ => ?_
  obtain ⟨e1, e2, _⟩ := I''.pin (C, oC) (List.mem_append_right _ (List.mem_append_right _ (by simp)))
  refine ⟨m, ⟨oC, esC, epC, e1, hdC, rC⟩, fun h' sb => ⟨σ', H'', ?_, q''⟩⟩
  exact I''.unpinned.turned (t' := s''.toks) (fun b o hb e => sb.extBut b o hb e) e2 hL h1 h2 h3
end
end L2


namespace L2
open PySem PySem.Spec PyProof.Rows

theorem PE.mono {X : Cx} {e : Expr} {t t' : TE} (h : PE X e t) (m : ∀ σ H Q, t' σ H Q → t σ H Q) : PE X e t' := fun pins s σ H Q I q => h pins s σ H Q I (m σ H Q q)

theorem same_upd {H : Hp} {a : Addr} {o : HO} (h : H a = none) : Same H (upd H a o) := fun b u e => by
  rw [upd_ne (ne_of_none e h)]; exact e
theorem same_updR {H H' : Hp} {a : Addr} {o : HO} (s : Same H H') (h : H a = none) : Same H (upd H' a o) := fun b u e => by
  rw [upd_ne (ne_of_none e h)]; exact s b u e

def SameT (H H' : Hp) : Prop := ∀ b xs, H b = some (.tup xs) → H' b = some (.tup xs)
theorem Same.t {H H' : Hp} (h : Same H H') : SameT H H' := fun b xs e => h b _ e
theorem SameT.trans {H H1 H2 : Hp} (a : SameT H H1) (b : SameT H1 H2) : SameT H H2 := fun c o h => b c o (a c o h)
theorem sameT_lst {H : Hp} {a : Addr} {xs ys : List V} (h : H a = some (.lst xs)) : SameT H (upd H a (.lst ys)) := fun b zs e => by
  rw [upd_ne (ne_of e h (by intro z; cases z))]; exact e

structure Yields (J : It) (Ok : Hp → Prop) (xs : List V) : Prop where
  go : ∀ i H, Ok H → i < xs.length → J.go i H
  yld : ∀ i H x H', Ok H → i < xs.length → J.yld i H x H' → H' = H ∧ xs[i]? = some x
  stop : ∀ H, Ok H → J.stop xs.length H
theorem yields_list {K : PySem.W.Frag} {a : Addr} {xs : List V} : Yields (Itl K a) (fun H => SqL K H a xs) xs :=
  ⟨fun i H q h => ⟨xs, xs[i], q, by simp [h]⟩, fun i H x H' q _ y => ⟨y.1, y.2 xs q⟩, fun H q => ⟨xs, q, Nat.le_refl _⟩⟩
theorem yields_tup {K : PySem.W.Frag} {a : Addr} {xs : List V} : Yields (Itt K a) (fun H => SqT K H a xs) xs :=
  ⟨fun i H q h => ⟨xs, xs[i], q, by simp [h]⟩, fun i H x H' q _ y => ⟨y.1, y.2 xs q⟩, fun H q => ⟨xs, q, Nat.le_refl _⟩⟩
def rangeV (lo : Int) (n : Nat) : List V := (List.range n).map fun (i : Nat) => V.int (lo + (i : Int))
theorem rangeV_len (lo : Int) (n : Nat) : (rangeV lo n).length = n := by simp [rangeV]
theorem rangeV_get {lo : Int} {n i : Nat} (h : i < n) : (rangeV lo n)[i]? = some (V.int (lo + (i : Int))) := by
  simp [rangeV, h]
theorem yields_range {lo : Int} {n : Nat} : Yields (Itr lo n) (fun _ => True) (rangeV lo n) := by
  refine ⟨fun i H _ h => ?_, fun i H x H' _ h y => ?_, fun H _ => ?_⟩
  · rw [rangeV_len] at h; exact h
  · obtain ⟨y1, y2⟩ := y
    rw [rangeV_len] at h
    exact ⟨y1, by rw [rangeV_get h, y2]⟩
  · rw [rangeV_len]; exact Nat.le_refl _

section
variable {J : It} {Ok : Hp → Prop} {xs : List V} {tt : TT} {te : TE} {ix : List Nat} {σ : St} {H1 : Hp} {Q : VK}
theorem lc_pure (Y : Yields J Ok xs) (small : xs.length < sizeLine) (p : V → Bool) (f : V → V) (hok : ∀ H, Same H1 H → Ok H)
    (ht : ∀ x ∈ xs, ∀ H, Same H1 H → ∀ Q' : Bool → Hp → Prop, Q' (p x) H → tt (some x :: ix.map fun i => σ.getD i none) H Q')
    (he : ∀ x ∈ xs, p x = true → ∀ H, Same H1 H → ∀ Q' : VK, Q' (f x) H → te (some x :: ix.map fun i => σ.getD i none) H Q')
    (fin : ∀ acc, H1 acc = none → Q (.ref acc) (upd H1 acc (.lst ((xs.filter p).map f)))) :
    LcW J H1 (gName 0) tt te 1 ix σ Q := by
  intro acc ha
  refine ⟨fun i m H => m = xs.length - i ∧ i ≤ xs.length ∧ H = upd H1 acc (.lst (((xs.take i).filter p).map f)), ⟨xs.length, by simp, Nat.zero_le _, rfl⟩, ?_⟩
  rintro i m H ⟨rfl, hi, rfl⟩
  have sm : Same H1 (upd H1 acc (.lst (((xs.take i).filter p).map f))) := same_upd ha
  have o := hok _ sm
  by_cases hlt : i < xs.length
  · refine .inr ⟨Y.go i _ o hlt, fun x H' y => ?_⟩
    obtain ⟨rfl, hx⟩ := Y.yld i _ x H' o hlt y
    have hmem : x ∈ xs := List.mem_of_getElem? hx
    have htk : xs.take (i + 1) = xs.take i ++ [x] := by
      rw [List.take_succ, hx]; rfl
    refine ⟨⟨rfl, fun j v e => ?_⟩, ?_⟩
    · cases j with
      | zero => cases e
      | succ j => exact e
    · refine ht x hmem _ sm _ ?_
      cases hp : p x with
      | false =>
        rw [if_neg Bool.false_ne_true]
        refine ⟨xs.length - (i + 1), by omega, rfl, hlt, ?_⟩
        rw [htk, List.filter_append]
        simp [hp]
      | true =>
        rw [if_pos rfl]
        refine he x hmem hp _ sm _ ?_
        refine ⟨_, upd_same, ?_, xs.length - (i + 1), by omega, rfl, hlt, ?_⟩
        · rw [List.length_map]
          refine Nat.lt_of_le_of_lt (List.length_filter_le _ _) ?_
          rw [List.length_take]; omega
        · rw [upd_upd, htk, List.filter_append, List.map_append]
          simp [hp]
  · have e : i = xs.length := by omega
    subst e
    refine .inl ⟨Y.stop _ o, ?_⟩
    rw [List.take_length]
    exact fin acc ha

theorem lc_grow (Y : Yields J Ok xs) (small : xs.length < sizeLine) (R : V → V → Hp → Prop) (hR : ∀ x v H H', SameT H H' → R x v H → R x v H') (hok : ∀ H, Same H1 H → Ok H)
    (he : ∀ x ∈ xs, ∀ H, Same H1 H → ∀ Q' : VK, (∀ v H', Same H H' → R x v H' → Q' v H') → te (some x :: ix.map fun i => σ.getD i none) H Q')
    (fin : ∀ acc ys H', H1 acc = none → Same H1 H' → H' acc = some (.lst ys) → Paired (fun x v => R x v H') xs ys → Q (.ref acc) H') :
    LcW J H1 (gName 0) tNoTest te 1 ix σ Q := by
  intro acc ha
  refine ⟨fun i m H => m = xs.length - i ∧ i ≤ xs.length ∧ Same H1 H ∧ ∃ ys, H acc = some (.lst ys) ∧ Paired (fun x v => R x v H) (xs.take i) ys, ⟨xs.length, by simp, Nat.zero_le _, same_upd ha, [], upd_same, .nil⟩, ?_⟩
  rintro i m H ⟨rfl, hi, sm, ys, hacc, pr⟩
  have o := hok _ sm
  have hlen : ys.length = i := by rw [← Paired.length pr, List.length_take]; omega
  by_cases hlt : i < xs.length
  · refine .inr ⟨Y.go i _ o hlt, fun x H' y => ?_⟩
    obtain ⟨rfl, hx⟩ := Y.yld i _ x H' o hlt y
    have hmem : x ∈ xs := List.mem_of_getElem? hx
    have htk : xs.take (i + 1) = xs.take i ++ [x] := by
      rw [List.take_succ, hx]; rfl
    refine ⟨⟨rfl, fun j v e => ?_⟩, ?_⟩
    · cases j with
      | zero => cases e
      | succ j => exact e
    · unfold tNoTest
      dsimp only
      rw [if_pos rfl]
      refine he x hmem _ sm _ fun v H4 s4 r4 => ?_
      have h4 : H4 acc = some (.lst ys) := s4 _ _ hacc
      refine ⟨ys, h4, by omega, xs.length - (i + 1), by omega, rfl, hlt, same_updR (sm.trans s4) ha, ys ++ [v], upd_same, ?_⟩
      rw [htk]
      have st : SameT H4 (upd H4 acc (.lst (ys ++ [v]))) := sameT_lst h4
      exact Paired.snoc (Paired.mapP pr fun x' v' r' => hR _ _ _ _ (s4.t.trans st) r') (hR _ _ _ _ st r4)
  · have e : i = xs.length := by omega
    subst e
    refine .inl ⟨Y.stop _ o, ?_⟩
    rw [List.take_length] at pr
    exact fin acc ys H ha sm hacc pr
end
end L2


namespace L2
open PySem PySem.Spec PyProof.Rows
section
variable {prog : Program} {w : World} {A : Around} {E : Value → Shared → Prop} {s : Shared}

theorem nextT_item {it t : Addr} {i : Nat} {its : Array Value} {x : Value} {Q : Value → Shared → Prop} (hi : s.heap.IsTupleIter it t i) (ht : s.heap.IsTuple t its) (hx : its[i]? = some x)
    (q : ∀ h', h'.IsTupleIter it t (i + 1) → Heap.SameBut it s.heap h' → Q x { s with heap := h' }) : wpAny (model prog w) A (Builtin.SmallTypes.nextOf (.ref it)) Q E s := by
  obtain ⟨o, e1, e2, e3⟩ := id hi
  obtain ⟨u, f1, f2, nu, f3⟩ := ht
  unfold Builtin.SmallTypes.nextOf
  refine wpAny_bind (wpAny_callSpecial?_slot (name := Str.ofString "__next__") hi.typeIs F.slot_tuple_iterator_next (wpAny_call_entry F.slot_tuple_iterator_next hi.typeIs F.entry_tuple_iterator_next ?_ (F.args_tuple_iterator_next_1 _)))
  show wpAny _ _ (field (.ref it) 0 >>= _) _ _ s
  refine wpAny_bind (wpAny_field e1 e3 (x := .ref t) rfl ?_)
  show wpAny _ _ (if (Value.ref t == Value.none) = true then _ else _) _ _ s
  rw [if_neg (show ¬ ((Value.ref t == Value.none) = true) from Bool.false_ne_true)]
  show wpAny _ _ (field (.ref it) 1 >>= _) _ _ s
  refine wpAny_bind (wpAny_field e1 e3 (x := .int i 0) rfl ?_)
  show wpAny _ _ (seqItems? (.ref t) >>= _) _ _ s
  refine wpAny_bind (wpAny_seqItems f1 f3 ?_)
  simp only [Int.toNat_natCast, hx]
  refine wpAny_bind (wpAny_setField e1 e3 (by simp) (wpAny_pure ⟨x, rfl, wpAny_pure (q _ ⟨_, Heap.get?_update_self _ e1 (Obj.isFreed_of_fields (Obj.data_mapFields e3 _)), (Obj.cls_mapFields ..).trans e2, ?_⟩ (Heap.SameBut.update ..))⟩))
  rw [Obj.data_mapFields e3]
  simp [rawInt]
theorem nextT_end {it t : Addr} {i : Nat} {its : Array Value} {Q : Value → Shared → Prop} (hh : A.handled = none) (hi : s.heap.IsTupleIter it t i) (ht : s.heap.IsTuple t its) (hx : its[i]? = none)
    (q : ∀ h' e, Heap.ExtBut it s.heap h' → (∃ o, h'.get? e = some o ∧ o.cls = .type "StopIteration") → E (.ref e) { s with heap := h' }) : wpAny (model prog w) A (Builtin.SmallTypes.nextOf (.ref it)) Q E s := by
  obtain ⟨o, e1, e2, e3⟩ := id hi
  obtain ⟨u, f1, f2, nu, f3⟩ := ht
  unfold Builtin.SmallTypes.nextOf
  refine wpAny_bind (wpAny_callSpecial?_slot (name := Str.ofString "__next__") hi.typeIs F.slot_tuple_iterator_next (wpAny_call_entry F.slot_tuple_iterator_next hi.typeIs F.entry_tuple_iterator_next ?_ (F.args_tuple_iterator_next_1 _)))
  show wpAny _ _ (field (.ref it) 0 >>= _) _ _ s
  refine wpAny_bind (wpAny_field e1 e3 (x := .ref t) rfl ?_)
  show wpAny _ _ (if (Value.ref t == Value.none) = true then _ else _) _ _ s
  rw [if_neg (show ¬ ((Value.ref t == Value.none) = true) from Bool.false_ne_true)]
  show wpAny _ _ (field (.ref it) 1 >>= _) _ _ s
  refine wpAny_bind (wpAny_field e1 e3 (x := .int i 0) rfl ?_)
  show wpAny _ _ (seqItems? (.ref t) >>= _) _ _ s
  refine wpAny_bind (wpAny_seqItems f1 f3 ?_)
  simp only [Int.toNat_natCast, hx]
  refine wpAny_bind (wpAny_rule (wpAny_bind (wpAny_setField e1 e3 (by simp) ?_)))
  show wpAny _ _ (newExc (.type "StopIteration") [] >>= _) _ _ _
  refine wpAny_bind ?_
  simp only [newExc, newTuple]
  refine wpAny_bind (wpAny_newObj_type ?_ (by size_fits))
  refine wpAny_bind (m := firstArgMember _ _) (wpAny_of_eq (a := Value.none) (by first | rfl | (simp only [firstArgMember]; rfl)) ?_)
  refine wpAny_newObj_type ?_ (by size_fits)
  simp only [raiseNew]
  refine wpAny_bind (wpAny_handled ?_)
  first | rw [show A.in1.handled = none from hh] | rw [hh]
  refine wpAny_bind (wpAny_pure (wpAny_throw ?_))
  exact q _ _ (((Heap.SameBut.update ..).extBut.push _).push _) ⟨_, Heap.get?_push_size _ rfl, rfl⟩
end
theorem drawsT {prog : Program} {w : World} {A : Around} (hh : A.handled = none) (it t : Addr) (hne : t ≠ it) (its : Array Value) :
    Draws prog w A it [it, t] its.size (fun i v => its[i]? = some v) (fun i h => h.IsTupleIter it t i ∧ h.IsTuple t its) where
  live := fun _ _ st => let ⟨o, ho, _⟩ := st.1; ⟨o, ho⟩
  frame := fun _ _ _ st hk => ⟨let ⟨o, ho, r⟩ := st.1; ⟨o, hk it (by simp) o ho, r⟩, let ⟨o, ho, r⟩ := st.2; ⟨o, hk t (by simp) o ho, r⟩⟩
  item := fun i s Q E hi st hQ => nextT_item st.1 st.2 (x := its[i]) (by simp [hi]) fun h' a b => hQ _ h' s.toks (by simp [hi]) ⟨a, st.2.extBut b.extBut hne⟩ b
  done := fun s Q E st hE => nextT_end hh st.1 st.2 (by simp) hE

theorem enum_newT (l : Addr) (items : Array Value) (n : Nat) (dct : Option Addr) (sl : Array (Option Value)) :
    Meets (Builtin.«enumerate.__new__» ⟨[.type "enumerate", .ref l], []⟩) (fun _ R s => s.heap.get? l = some { cls := .type "tuple", dict := dct, data := .seq items n, slots := sl } ∧
      R (.ok (.ret (.ref (s.heap.push { cls := .type "tuple_iterator", data := .fields #[.ref l, .int 0 0] }).objs.size)))
        { s with heap := (s.heap.push { cls := .type "tuple_iterator", data := .fields #[.ref l, .int 0 0] }).push { cls := .type "enumerate", data := .fields #[.none, .bool false, .ref s.heap.objs.size, rawInt 0, .none, .none] } }) :=
  .of_wp fun prog w A R s h => by
    obtain ⟨hp, g, d, tk, os⟩ := s; obtain ⟨hl, h⟩ := h
    have hsub := sub_enumerate
    have hL : Heap.IsTuple (Shared.heap ⟨hp, g, d, tk, os⟩) l items := ⟨_, hl, rfl, n, rfl⟩
    wp_walk using AutoSeq1.wpAny_loadPart' hl
    refine wpAny_stack_any fun st => wpAny_pure ?_
    split
    · rename_i c _ _ _ _ _
      cases (c == Value.type "enumerate") <;> (wp_walk using AutoSeq1.wpAny_loadPart' hl, wpAny_pyIter_tuple hL; exact ⟨_, rfl, h⟩)
    · wp_walk using AutoSeq1.wpAny_loadPart' hl, wpAny_pyIter_tuple hL
      exact ⟨_, rfl, h⟩
theorem call_enumT {prog : Program} {w : World} {A : Around} {E : Value → Shared → Prop} {s : Shared} {l : Addr} {items : Array Value} {Q : Value → Shared → Prop} (hL : s.heap.IsTuple l items)
    (h : ∀ h', IsEnum h' (s.heap.objs.size + 1) s.heap.objs.size 0 .none → h'.IsTupleIter s.heap.objs.size l 0 → h'.objs.size = s.heap.objs.size + 2 →
      (∀ b o, s.heap.get? b = some o → h'.get? b = some o) → Q (.ref (s.heap.objs.size + 1)) { s with heap := h' }) :
    wpAny (model prog w) A (call (.type "enumerate") [.ref l]) Q E s := by
  obtain ⟨⟨c, dct, dt, sl⟩, hl, hc, n, hd⟩ := hL
  replace hc : c = .type "tuple" := hc
  replace hd : dt = .seq items n := hd
  subst hc hd
  refine callType_new F.called_enumerate (by decide) (F.typeCall_enumerate_1 _) (F.newCall_enumerate_1 _) (fun obj => F.args_object_init_2 obj _) F.entry_enumerate_new (enum_newT l items n dct sl) ⟨hl, ?_⟩
  have hz : (s.heap.push { cls := .type "tuple_iterator", data := .fields #[.ref l, .int 0 0] }).objs.size = s.heap.objs.size + 1 := Heap.size_push ..
  show _ ∧ _
  rw [hz]
  have he := Heap.get?_push_size (s.heap.push { cls := .type "tuple_iterator", data := .fields #[.ref l, .int 0 0] }) (o := { cls := .type "enumerate", data := .fields #[.none, .bool false, .ref s.heap.objs.size, rawInt 0, .none, .none] }) rfl
  rw [hz] at he
  exact ⟨⟨_, he, rfl⟩, h _ he ⟨_, Heap.get?_push_of_some _ (Heap.get?_push_size _ rfl), rfl, rfl⟩ (by rw [Heap.size_push, hz]) fun b o x => Heap.get?_push_of_some _ (Heap.get?_push_of_some _ x)⟩
end L2


namespace L2
open PySem PySem.Spec PyProof.Rows
section
variable {X : Cx} {pins : List (Addr × Obj)} {σ : St} {H : Hp} {s : Shared} {h' : Heap}
theorem Inv.turnedN {t' : Nat} {fp : List Addr} (I : Inv X pins σ H s) (hf : ∀ b ∈ fp, FpOk X pins H b) (k : ∀ b o, b ∉ fp → s.heap.get? b = some o → h'.get? b = some o) : Inv X pins σ H { s with heap := h', toks := t' } := by
  have nit : ∀ b u, H b = some u → b ∉ fp := fun b u e z => by rw [(hf b z).1] at e; cases e
  refine I.step (g' := s.gens) (d' := s.drawn) (ch := fp) (fun b hb => ?_) (fun b o _ _ hc e _ => k b o hc e) (fun b o _ _ hc e _ => ⟨o.slots, k b o hc e⟩) (fun _ _ _ _ n => n)
    (fun b o hc e => ⟨o, k b o hc e⟩) (fun _ _ e => e) (fun _ _ _ e => e) (fun b ps e => ⟨#[], by rw [e]; simp⟩) (fun m hm => ?_) (fun b u e => ?_) I.bare
  · obtain ⟨_, q1, q2, q3, q4, q5⟩ := hf b hb
    exact ⟨q3, q1, q4, q5⟩
  · obtain ⟨o, es, ep, ho, r⟩ := hm
    exact ⟨o, es, ep, k _ o (fun z => (hf _ z).2.1 rfl) ho, r⟩
  · refine (I.hok b u e).stay (fun c v hc q => k c v ?_ q) (fun _ q => q) fun _ _ q => q
    rcases hc with z | z
    · rw [z]; exact nit b u e
    · exact nit c _ z
theorem Inv.trackT {a : Addr} {xs : List V} {its : List Value} (I : Inv X pins σ H s) (hn : H a = none) (hs : X.s₀.heap.objs.size ≤ a) (hL : a ≠ X.env.locals) (hc : ∀ x c, X.env.cells.lookup x = some c → c ≠ a) (hp : ∀ p ∈ X.pn ++ pins, p.1 ≠ a)
    (rv : Vals xs its) (ht : PTup s.heap a its.toArray) (hz : xs.length ≤ sizeLine) : Inv X pins σ (upd H a (.tup xs)) s := by
  have ne : ∀ {b u}, H b = some u → b ≠ a := fun e => ne_of_none e hn
  refine ⟨I.ok, I.os, I.bare, ⟨I.base.keep, I.base.slot, fun b o e n hx => ?_, I.base.there, fun b ys e => ?_, fun b o u e => ?_, fun b ps e => ?_⟩, I.loc, I.cell, ?_, fun x c e => ?_, fun p hp' => ?_, fun b u e => ?_, I.len⟩
  · rw [upd_ne (Nat.ne_of_lt (Nat.lt_of_lt_of_le (Heap.lt_size e) hs))]
    exact I.base.free b o e n hx
  · have q := I.base.tups b ys e
    rw [upd_ne (ne q)]; exact q
  · have q := I.base.frzs b o u e
    rw [upd_ne (ne q)]; exact q
  · obtain ⟨m, q⟩ := I.base.tbls b ps e
    exact ⟨m, by rw [upd_ne (ne q)]; exact q⟩
  · rw [upd_ne (Ne.symm hL)]; exact I.free
  · rw [upd_ne (hc x c e)]; exact I.freeC x c e
  · obtain ⟨q1, q2, q3⟩ := I.pin p hp'
    exact ⟨q1, by rw [upd_ne (hp p hp')]; exact q2, q3⟩
  · by_cases hb : b = a
    · subst hb
      rw [upd_same] at e; cases e
      exact ⟨hz, its, rv, ht⟩
    · rw [upd_ne hb] at e
      exact (I.hok b u e).stay (fun _ _ _ q => q) (fun c q => by rw [upd_ne (ne q)]; exact q) fun c ys q => by rw [upd_ne (ne q)]; exact q
theorem Inv.turnedT {t' : Nat} {fp : List Addr} {xs : List V} {its : List Value} (I : Inv X pins σ H s) (hf : ∀ b ∈ fp, FpOk X pins H b) (k : ∀ b o, b ∉ fp → s.heap.get? b = some o → h'.get? b = some o)
    (rv : Vals xs its) (ht : PTup h' s.heap.objs.size its.toArray) (hz : xs.length ≤ sizeLine) : Inv X pins σ (upd H s.heap.objs.size (.tup xs)) { s with heap := h', toks := t' } := by
  refine (I.turnedN (t' := t') hf k).trackT (I.hok.fresh (Nat.le_refl _)) I.sz (Nat.ne_of_gt I.lt) (fun x c e => ?_) (fun p hp => ?_) rv ht hz
  · obtain ⟨v, q⟩ := I.cell x c e
    exact Nat.ne_of_lt q.lt
  · exact Nat.ne_of_lt (Heap.lt_size (I.pin p hp).1)
end

def Ite (K : PySem.W.Frag) (a : Addr) : It :=
  ⟨fun i H => ∃ xs x, SqT K H a xs ∧ xs[i]? = some x, fun i H v H' => ∃ t x, H t = none ∧ v = .ref t ∧ H' = upd H t (.tup [.int i, x]) ∧ ∀ xs, SqT K H a xs → xs[i]? = some x, fun i H => ∃ xs, SqT K H a xs ∧ xs.length = i⟩
theorem turn_enumT {P : Program} {w : World} {K : PySem.W.Frag} {els : List Expr} {kx} {tp : Pos} (a e it : Addr) (hne : e ≠ it) : Turn P w K (.Tuple els kx tp) (Ite K a) [e, it] e (fun i h => (∃ old, IsEnum h e it i old) ∧ h.IsTupleIter it a i) where
  mem := by simp
  obj := fun i h st b hb => by
    obtain ⟨⟨old, he⟩, o, ho, hc, hd⟩ := st
    rcases List.mem_cons.mp hb with rfl | hb
    · exact ⟨_, he, fun v z => by cases z⟩
    · rw [List.mem_singleton.mp hb]
      exact ⟨o, ho, fun v z => by rw [hd] at z; cases z⟩
  keep := fun i h h' st k => by
    obtain ⟨⟨old, he⟩, o, ho, r⟩ := st
    exact ⟨⟨old, k e (by simp) _ he⟩, o, k it (by simp) _ ho, r⟩
  item := by
    intro X hP hw hK hc i pins s σ H E I hf st hg
    subst hP hw hK
    obtain ⟨xs, x, hq, hx⟩ := hg
    obtain ⟨its, rv, p, hz⟩ := I.tuple hq
    obtain ⟨u, hu, ru⟩ := rv.get hx
    obtain ⟨⟨old, he⟩, hi⟩ := st
    obtain ⟨o, ho, hcl, hd⟩ := id hi
    have hT : s.heap.IsTuple a its.toArray := p
    have hai : a ≠ it := fun z => by
      obtain ⟨o', e1, e2, _⟩ := p
      rw [z, ho] at e1; cases e1; rw [hcl] at e2; injection e2 with z2; revert z2; decide
    have hae : e ≠ a := fun z => by
      obtain ⟨o', e1, e2, _⟩ := p
      rw [← z, he] at e1; cases e1; injection e2 with z2; revert z2; decide
    have hlt : i < its.toArray.size := by
      have := (List.getElem?_eq_some_iff.mp hu).1
      simpa using this
    have hh : X.A.in1.handled = none := I.ok.hd hc
    refine wpAny_pyNext_enum_itemD (drawsT hh it a hai its.toArray) he ⟨hi, hT⟩ hlt hne (by simp [hne, hae]) fun x' h1 tk hP1 ho1 hs1 hT1 hz1 hk1 => ?_
    have ex : x' = u := by
      have q : its[i]? = some x' := by simpa using hP1
      rw [hu] at q; exact (Option.some.inj q).symm
    subst ex
    refine ⟨_, rfl, wpAny_letOwnedTupleGo_enum ho1 fun h2 he2 hs2 => ?_⟩
    have hne0 : s.heap.objs.size ≠ e := Nat.ne_of_gt (Heap.lt_size he)
    have keep : ∀ b o, b ∉ [e, it] → s.heap.get? b = some o → h2.get? b = some o := fun b o hb e0 => (hs2.2 b fun z => hb (by simp [z])).trans (hk1 b o (fun z => hb (by simp [z])) (fun z => hb (by simp [z])) e0)
    refine ⟨.ref s.heap.objs.size, _, I.turnedT (h' := h2) (t' := tk + 1) (xs := [.int i, x]) hf keep (.cons ⟨tk, rfl⟩ (.cons ru .nil)) ⟨_, (hs2.2 _ hne0).trans hT1, rfl, ⟨_, rfl⟩, rfl, rfl⟩ (by show 2 ≤ sizeLine; decide), rfl, ⟨_, x, I.hok.fresh (Nat.le_refl _), rfl, rfl, fun ys hy => by rw [I.tuple_inj hy hq]; exact hx⟩, ⟨⟨_, by simpa using he2⟩, ?_⟩, fun b hb => ?_⟩
    · obtain ⟨⟨o1, e1, r1⟩, _⟩ := hs1
      exact ⟨o1, (hs2.2 it (Ne.symm hne)).trans e1, r1⟩
    · rcases List.mem_cons.mp hb with rfl | hb'
      · rw [upd_ne (Nat.ne_of_lt (Heap.lt_size he))]; exact (hf _ hb).1
      · have e9 := List.mem_singleton.mp hb'
        subst e9
        rw [upd_ne (Nat.ne_of_lt (Heap.lt_size ho))]; exact (hf _ hb).1
  done := by
    intro X hP hw hK hc i pins s σ H E I hf st hg
    subst hP hw hK
    obtain ⟨xs, hq, hx⟩ := hg
    obtain ⟨its, rv, p, hz⟩ := I.tuple hq
    obtain ⟨⟨old, he⟩, hi⟩ := st
    obtain ⟨o, ho, hcl, hd⟩ := id hi
    have hT : s.heap.IsTuple a its.toArray := p
    have hai : a ≠ it := fun z => by
      obtain ⟨o', e1, e2, _⟩ := p
      rw [z, ho] at e1; cases e1; rw [hcl] at e2; injection e2 with z2; revert z2; decide
    have hh : X.A.in1.handled = none := I.ok.hd hc
    have hl : its.toArray.size = i := by rw [List.size_toArray, ← rv.length, hx]
    refine wpAny_pyNext_enum_endD (drawsT hh it a hai its.toArray) he (by rw [hl]; exact ⟨hi, hT⟩) fun h1 hk => ⟨rfl, ?_⟩
    exact I.turnedN (t' := s.toks) hf fun b o hb e0 => hk b o (fun z => hb (by simp [z])) e0
  self := fun _ _ _ _ _ st h => by
    obtain ⟨⟨old, he⟩, _⟩ := st
    exact wpAny_pyIter_enum he h
section
variable {X : Cx}
def iEnum (K : PySem.W.Frag) (ta : TA) : TI := fun σ H R => ta σ H fun vs H1 => ∃ a, vs = [.ref a] ∧ (∃ xs, SqT K H1 a xs) ∧ R (Ite K a) H1
theorem pi_enumT {els : List Expr} {kx} {tp : Pos} {l : Expr} {ta : TA} {p pos : Pos} (hg : Gl X "enumerate") (hm : X.mg "enumerate" = none) (ha : PA X [l] ta) (hs : starEach [l] X.env = [(false, eval l X.env)] := by rfl) :
    PI X (.Tuple els kx tp) (.Call (.Name "enumerate" p) [l] [] pos) (iEnum X.K ta) := by
  intro pins s σ H R I h
  refine Call_ (ld_blt I hg hm boot_enumerate (PyProof.Rows.callWith_type1 (thn (ha pos pins s σ H _ I h) fun us s1 ⟨vs, H1, I1, r1, q1⟩ => ?_) hs rfl))
  obtain ⟨a, rfl, ⟨xs, hq⟩, q⟩ := q1
  obtain ⟨u, rfl, ru⟩ := vals1 r1
  cases (show u = Value.ref a from ru)
  obtain ⟨its, rv, p', hz⟩ := I1.tuple hq
  refine call_enumT (show s1.heap.IsTuple a its.toArray from p') fun h' he hi hsz hk => wpAny_pyIter_enum he ?_
  have I2 : Inv X pins σ H1 { s1 with heap := h' } := I1.kept (t' := s1.toks) hk
  refine ⟨s1.heap.objs.size + 1, [s1.heap.objs.size + 1, s1.heap.objs.size], _, _, H1, rfl, I2, turn_enumT a _ _ (Nat.ne_of_gt (Nat.lt_succ_self _)), ⟨⟨_, he⟩, hi⟩, fun b hb => ?_, q⟩
  rcases List.mem_cons.mp hb with rfl | hb
  · exact I1.fpOk (Nat.le_succ _) (I1.hok.fresh (Nat.le_succ _))
  · rw [List.mem_singleton.mp hb]
    exact I1.fpOk (Nat.le_refl _) (I1.hok.fresh (Nat.le_refl _))
end
end L2


namespace L2
open PySem PySem.Spec PyProof.Rows

structure ZipT (h : Heap) (z TI TO i1 i2 a b : Addr) (i : Nat) : Prop where
  z : IsZip h z TI TO .none
  ti : IsPair h TI (.ref i1) (.ref i2)
  to : ∃ x y, IsPair h TO x y
  one : h.IsTupleIter i1 a i
  two : h.IsTupleIter i2 b i
structure ZipNe (z TI TO i1 i2 : Addr) : Prop where
  az : TI ≠ z
  bz : TO ≠ z
  cz : i1 ≠ z
  dz : i2 ≠ z
  ab : TI ≠ TO
  ac : TI ≠ i1
  ad : TI ≠ i2
  bc : TO ≠ i1
  bd : TO ≠ i2
  cd : i1 ≠ i2
section
variable {prog : Program} {w : World} {A : Around} {E : Value → Shared → Prop} {s : Shared} {z TI TO i1 i2 a b : Addr} {i : Nat} {xs ys : Array Value}
theorem pairSet {T : Addr} {p q x : Value} {k : Nat} {Q : Unit → Shared → Prop} (hT : IsPair s.heap T p q) (h : ∀ h', h'.get? T = some { cls := .type "tuple", data := .seq ((#[p, q] : Array Value).setIfInBounds k x) } → Heap.SameBut T s.heap h' → Q () { s with heap := h' }) :
    wpAny (model prog w) A (updateSeq T (·.setIfInBounds k x)) Q E s := wpAny_updateSeq_pair hT h

end
end L2


namespace L2
open PySem PySem.Spec PyProof.Rows
section
variable {prog : Program} {w : World} {A : Around} {E : Value → Shared → Prop} {s : Shared} {z TI TO i1 i2 a b : Addr} {i : Nat} {xs ys : Array Value}
abbrev zT1 (h : Heap) (l1 : Addr) : Heap := h.push { cls := .type "tuple_iterator", data := .fields #[.ref l1, .int 0 0] }
abbrev zT2 (h : Heap) (l1 l2 : Addr) : Heap := (zT1 h l1).push { cls := .type "tuple_iterator", data := .fields #[.ref l2, .int 0 0] }
abbrev zT3 (h : Heap) (l1 l2 : Addr) : Heap := (zT2 h l1 l2).push { cls := .type "tuple", data := .seq #[.ref h.objs.size, .ref (zT1 h l1).objs.size] }
abbrev zT4 (h : Heap) (l1 l2 : Addr) : Heap := (zT3 h l1 l2).push { cls := .type "tuple", data := .seq #[.none, .none] }
abbrev zT5 (h : Heap) (l1 l2 : Addr) : Heap := (zT4 h l1 l2).push { cls := .type "zip", data := .fields #[.none, .bool false, .bool false, .ref (zT2 h l1 l2).objs.size, .ref (zT3 h l1 l2).objs.size] }
end

def Itz (K : PySem.W.Frag) (a b : Addr) : It :=
  ⟨fun i H => ∃ xs ys x y, SqT K H a xs ∧ SqT K H b ys ∧ xs[i]? = some x ∧ ys[i]? = some y, fun i H v H' => ∃ t x y, H t = none ∧ v = .ref t ∧ H' = upd H t (.tup [x, y]) ∧ ∀ xs ys, SqT K H a xs → SqT K H b ys → xs[i]? = some x ∧ ys[i]? = some y,
    fun i H => ∃ xs ys, SqT K H a xs ∧ SqT K H b ys ∧ (xs[i]? = none ∨ ys[i]? = none)⟩
theorem SqT.fpNe {X : Cx} {pins : List (Addr × Obj)} {σ : St} {H : Hp} {s : Shared} {t c : Addr} {zs : List V} (I : Inv X pins σ H s) (hq : SqT X.K H t zs) (f : FpOk X pins H c) : t ≠ c := by
  rintro rfl
  rcases hq with (h | ⟨o, h⟩) | h
  · rw [f.1] at h; cases h
  · rw [f.1] at h; cases h
  · obtain ⟨o, _, _, hl, _⟩ := h
    have e := I.ok.mod.kin _ _ hl
    rcases f.2.2.2.1 with z | z
    · exact I.ok.noex _ _ e z
    · exact absurd (Nat.lt_of_lt_of_le (Heap.lt_size e) (Nat.le_trans I.ok.bsz z)) (Nat.lt_irrefl _)
section
variable {X : Cx}
def iZip (K : PySem.W.Frag) (ta : TA) : TI := fun σ H R => ta σ H fun vs H1 => ∃ a b, vs = [.ref a, .ref b] ∧ (∃ xs, SqT K H1 a xs) ∧ (∃ ys, SqT K H1 b ys) ∧ R (Itz K a b) H1
end
end L2


namespace L2
open PySem PySem.Spec PyProof.Rows

section
variable {X : Cx} {e : Expr} {te : TE} {p2 pos : Pos}
def RvR (X : Cx) (r : V → Hp → VK → Prop) : Prop :=
  ∀ (pins : List (Addr × Obj)) (s : Shared) (σ : St) (H : Hp) (x : V) (v vs : Value) (sl : Addr) (Q : VK), Inv X pins σ H s → RelV x v → s.heap.IsSliceOf sl .none .none vs → IsPart vs (some (-1)) → r x H Q →
    ∃ T id, typeLookup (.type T) "__getitem__" = pure (some (.builtin id)) ∧ s.TypeIs v T ∧ wpAny (model X.prog X.w) X.A (getItem v (.ref sl)) (EP X pins σ Q) X.xe s
def rRvL (K : PySem.W.Frag) : V → Hp → VK → Prop := fun x H Q => ∃ a xs, x = .ref a ∧ SqL K H a xs ∧ ∀ p, H p = none → Q (.ref p) (upd H p (.lst xs.reverse))
def rRvT (K : PySem.W.Frag) : V → Hp → VK → Prop := fun x H Q => ∃ a xs, x = .ref a ∧ SqT K H a xs ∧ ∀ p, H p = none → Q (.ref p) (upd H p (.tup xs.reverse))
end
end L2


namespace L2
open PySem PySem.Spec PyProof.Rows
section
variable {X : Cx}
def rRange1 : List V → Hp → VK → Prop := fun xs H Q => ∃ j : Int, xs = [.int j] ∧ ∀ p, H p = none → Q (.ref p) (upd H p (.rng 0 j))
def rListRng : List V → Hp → VK → Prop := fun xs H Q => ∃ (a : Addr) (j : Int), xs = [.ref a] ∧ H a = some (.rng 0 j) ∧ 0 ≤ j ∧ j ≤ 1000 ∧ ∀ p, H p = none → Q (.ref p) (upd H p (.lst (rangeV 0 j.toNat)))
def rCatTT (K : PySem.W.Frag) : R2 := fun x y H Q => ∃ a b xs ys, x = .ref a ∧ y = .ref b ∧ SqT K H a xs ∧ SqT K H b ys ∧ xs.length + ys.length ≤ sizeLine ∧
  ∀ p H', Same H H' → SqT K H' p (xs ++ ys) → (H' p = H p ∨ H' p = some (.tup (xs ++ ys))) → Q (.ref p) H'
end
end L2


namespace L2
open PySem PySem.Spec PyProof.Rows

section
variable {X : Cx}

def rIsi (K : PySem.W.Frag) : List V → Hp → VK → Prop := fun xs H Q => ∃ x T t b, xs = [x, .ty T] ∧ TyOf K H x t ∧ PySem.W.kitOne K t (.type T) = some b ∧ Q (.bl b) H
theorem call_isi : CallR X (.builtin "isinstance") (rIsi X.K) := by
  intro pins s σ H xs us Q I rs h
  obtain ⟨x, T, t, b, rfl, ty, e, q⟩ := h
  obtain ⟨u, c, rfl, ru, rc⟩ := vals2 rs
  cases (show c = Value.type T from rc)
  exact isinst_ok I ru ty e fun tk => ⟨.bl b, H, I.tok tk, rfl, q⟩

def rAll : List V → Hp → VK → Prop := fun xs H Q => ∃ (a : Addr) (bs : List Bool), xs = [.ref a] ∧ H a = some (.lst (bs.map V.bl)) ∧ Q (.bl (bs.all id)) H
def rInsert : V → List V → Hp → VK → Prop := fun x vs H Q => ∃ l xs i y, x = .ref l ∧ vs = [.int i, y] ∧ H l = some (.lst xs) ∧ 0 ≤ i ∧ i ≤ xs.length ∧ xs.length < sizeLine ∧ Q .non (upd H l (.lst (xs.take i.toNat ++ y :: xs.drop i.toNat)))
end
end L2


namespace L2
open PySem PySem.Spec PyProof.Rows

mutual
inductive Is (H : Hp) : V → PyData → Prop
  | non : Is H .non .none
  | bl (b : Bool) : Is H (.bl b) (.bool b)
  | int (i : Int) : Is H (.int i) (.int i)
  | str (x : Str) : Is H (.str x) (.str x)
  | tup {a : Addr} {vs : List V} {ds : List PyData} : H a = some (.tup vs) → IsAll H vs ds → Is H (.ref a) (.tuple ds)
  | lst {a : Addr} {vs : List V} {ds : List PyData} : H a = some (.lst vs) → IsAll H vs ds → Is H (.ref a) (.list ds)
inductive IsAll (H : Hp) : List V → List PyData → Prop
  | nil : IsAll H [] []
  | cons {v : V} {vs : List V} {d : PyData} {ds : List PyData} : Is H v d → IsAll H vs ds → IsAll H (v :: vs) (d :: ds)
end

section
variable {X : Cx} {pins : List (Addr × Obj)} {σ : St} {H : Hp} {s : Shared}

def rEqD : R2 := fun x y H Q => ∃ d e, Is H x d ∧ Is H y e ∧ SeqAt.shaped d = true ∧ SeqAt.shaped e = true ∧ Q (.bl (PyData.eqv d e)) H
def rNeD : R2 := fun x y H Q => ∃ d e, Is H x d ∧ Is H y e ∧ SeqAt.shaped d = true ∧ SeqAt.shaped e = true ∧ Q (.bl (!PyData.eqv d e)) H
end

end L2


namespace L2
open PySem PySem.Spec PyProof.Rows

def cscopeB (sc : Scope) (N : List Str) (scope : Scope) (N' : List Str) (n : Nat) (ix : List Nat) : Bool :=
  scope.kind == .function && scope.names.all (fun y => y.2 != .cell) && scope.names.all (fun y => y.2 != .local || scope.names.lookup y.1 == some .local) &&
  scope.names.all (fun y => y.2 != .free || (sc.names.lookup y.1 == some .cell || sc.names.lookup y.1 == some .free)) && scope.names.all (fun y => y.2 != .free || scope.names.lookup y.1 != some .local) &&
  N'.length == n + ix.length && (List.range ix.length).all fun j => match ix[j]?, N'[n + j]? with
    | some i, some x => N[i]? == some x && scope.names.contains (x, .free)
    | _, _ => false
theorem CompScope.of {X : Cx} {sc : Scope} {N : List Str} {scope : Scope} {N' : List Str} {n : Nat} {ix : List Nat} (h : cscopeB sc N scope N' n ix = true) (hs : X.env.scope = sc) (hN : X.N = N) : CompScope X scope N' n ix := by
  unfold cscopeB at h
  simp only [Bool.and_eq_true, List.all_eq_true] at h
  obtain ⟨⟨⟨⟨⟨⟨h1, h2⟩, h3⟩, h4⟩, h5⟩, h6⟩, h7⟩ := h
  subst hs hN
  refine ⟨eq_of_beq h1, fun y hy => by simpa using h2 y hy, fun y hy hl => ?_, fun y hy hf => ?_, fun y hy hl => ?_, eq_of_beq h6, fun j i e => ?_⟩
  · have := h3 y hy
    rw [hl] at this
    simpa using this
  · have := h4 y hy
    rw [hf] at this
    simpa using this
  · have := h5 _ hy
    rw [hl] at this
    simp at this
  · have hj : j < ix.length := (List.getElem?_eq_some_iff.mp e).1
    have := h7 j (List.mem_range.mpr hj)
    rw [e] at this
    cases hx : N'[n + j]? with
    | none => rw [hx] at this; simp at this
    | some x =>
      rw [hx] at this
      simp only [Bool.and_eq_true] at this
      exact ⟨x, rfl, eq_of_beq this.1, by simpa using this.2⟩

structure Cal (P : Program) (w : World) (K : PySem.W.Frag) (mg : Str → Option Value) (base : Heap) (k : Nat) (x : Str) (ps : List Str) (sp : Sp) : Prop where
  ex : ∃ f fd, FnOk P w K mg base CX0 k f fd ps sp ∧ mg x = some (.ref f) ∧ PySem.W.keepIn K (.ref f) = true ∧ Binds K fd ps []
section
variable {X : Cx} {k : Nat} {ps : List Str} {sp : Sp} {x : Str} {p pos : Pos} {e : Expr} {es : List Expr} {t : TA}
theorem pe_cal (C : Cal X.prog X.w X.K X.mg X.base k x ps sp) (hr : Room k X.A) (hg : Gl X x) (ha : PA X (e :: es) t) (hdb : (x == ("__debug__" : Str)) = false := by decide) (he : starEach (e :: es) X.env = (false, eval e X.env) :: starEach es X.env := by rfl)
    (hpl : (backTo pos (starEach es X.env)).any (·.1) = false := by rfl) : PE X (.Call (.Name x p) (e :: es) [] pos) (fun σ H Q => t σ H fun vs H1 => sp vs H1 Q E0) := by
  obtain ⟨f, fd, F, hm, hk, hb⟩ := C.ex
  exact (pe_call F hr hg hm hk hb .nil pass0 ha hdb he hpl).mono fun σ H Q q => by
    have e : (fun (vs : List V) (H1 : Hp) => sp (vs ++ []) H1 Q E0) = fun vs H1 => sp vs H1 Q E0 := by funext vs H1; rw [List.append_nil]
    show t σ H fun vs H1 => sp (vs ++ []) H1 Q E0
    rw [e]
    exact q
end
structure Top (mg : Str → Option Value) : Prop where
  n_len : mg "len" = none
  n_tuple : mg "tuple" = none
  n_list : mg "list" = none
  n_range : mg "range" = none
  n_int : mg "int" = none
  n_bool : mg "bool" = none
  n_isinstance : mg "isinstance" = none
  n_all : mg "all" = none
  n_zip : mg "zip" = none
  n_enumerate : mg "enumerate" = none
  n_min : mg "min" = none
  n_sum : mg "sum" = none
  n_max : mg "max" = none
  n_abs : mg "abs" = none
  n_sorted : mg "sorted" = none
end L2


namespace L2
open PySem PySem.Spec PyProof.Rows
section
variable {X : Cx}
def rCat2 : R2 := fun x y H Q => ∃ a b xs ys, x = .ref a ∧ y = .ref b ∧ H a = some (.tup xs) ∧ H b = some (.tup ys) ∧ xs.length + ys.length ≤ sizeLine ∧ ∀ p H', Same H H' → H' p = some (.tup (xs ++ ys)) → Q (.ref p) H'
theorem op_cat2 : OpR X (binaryOp .Add) rCat2 := by
  intro pins s σ H x y v u Q I rx ry h
  obtain ⟨a, b, xs, ys, rfl, rfl, ha, hb, hz, q⟩ := h
  have ha' : SqT X.K H a xs := SqT.of ha
  have hb' : SqT X.K H b ys := SqT.of hb
  by_cases hx : xs = []
  · subst hx
    cases rx
    cases ry
    obtain ⟨its, r1, p1, _⟩ := I.tuple ha'
    obtain ⟨its2, r2, p2, _⟩ := I.tuple hb'
    cases r1
    obtain ⟨⟨cls, dd, data, sl⟩, ho, hc, n, hd⟩ := id p1
    obtain ⟨⟨cls2, dd2, data2, sl2⟩, ho2, hc2, n2, hd2⟩ := id p2
    simp only at hc hd hc2 hd2
    subst hc hd hc2 hd2
    exact concat_meets ⟨_, ho, rfl⟩ ⟨_, ho2, rfl⟩ noFill_tuple_add seq_tuple_add PySem.F.slot_tuple_add PySem.F.entry_tuple_add (PySem.F.args_tuple_add_2 _ _)
      (tuple_addW0 a b #[] its2.toArray n n2 dd dd2 sl sl2 rfl) ⟨ho, ho2, ⟨.ref b, H, I, rfl, q b H (Same.refl H) hb⟩⟩
  · refine op_catT pins s σ H _ _ v u Q I rx ry ⟨a, b, xs, ys, rfl, rfl, ha', hb', hx, hz, fun hy => ?_, fun _ p hp => ?_⟩
    · subst hy
      exact q a H (Same.refl H) (by rw [List.append_nil]; exact ha)
    · exact q p _ (same_upd hp) upd_same
end
def spU (f : List Int → List Int) : Sp := fun vs H Q _ => ∃ (a : Addr) (ns : List Int), vs = [.ref a] ∧ H a = some (.tup (ns.map V.int)) ∧ ns.length ≤ 1000 ∧ ∀ p H', Same H H' → H' p = some (.tup ((f ns).map V.int)) → Q (.ref p) H'
def spUI (f : List Int → Int → List Int) : Sp := fun vs H Q _ => ∃ (a : Addr) (ns : List Int) (k : Int), vs = [.ref a, .int k] ∧ H a = some (.tup (ns.map V.int)) ∧ ns.length ≤ 1000 ∧ ∀ p H', Same H H' → H' p = some (.tup ((f ns k).map V.int)) → Q (.ref p) H'
def spB (f : List Int → List Int → List Int) : Sp := fun vs H Q _ => ∃ (a b : Addr) (ns ms : List Int), vs = [.ref a, .ref b] ∧ H a = some (.tup (ns.map V.int)) ∧ H b = some (.tup (ms.map V.int)) ∧ ns.length ≤ 500 ∧ ms.length ≤ 500 ∧
  ∀ p H', Same H H' → H' p = some (.tup ((f ns ms).map V.int)) → Q (.ref p) H'
theorem small1 {n : Nat} (h : n ≤ 1000) : n < sizeLine := Nat.lt_of_le_of_lt h (by decide)
theorem mapI_len (ns : List Int) : (ns.map V.int).length = ns.length := List.length_map ..
end L2


namespace L2
open PySem PySem.Spec PyProof.Rows
def Hand (H : Hp) (p q : Addr) : Prop := ∃ (ns : List Int) (seed : Int), H p = some (.lst [.ref q, .int seed]) ∧ H q = some (.lst (ns.map V.int)) ∧ (∀ n ∈ ns, 0 ≤ n) ∧ ns.length ≤ 63
def Keep (p q : Addr) (H H' : Hp) : Prop := ∀ b o, H b = some o → b ≠ p → b ≠ q → H' b = some o
theorem Keep.refl (p q : Addr) (H : Hp) : Keep p q H H := fun _ _ h _ _ => h
theorem Keep.trans {p q : Addr} {H H1 H2 : Hp} (a : Keep p q H H1) (b : Keep p q H1 H2) : Keep p q H H2 := fun c o h h1 h2 => b c o (a c o h h1 h2) h1 h2
theorem Same.keep {p q : Addr} {H H' : Hp} (s : Same H H') : Keep p q H H' := fun b o h _ _ => s b o h
def spHand (K : PySem.W.Frag) : Sp := fun vs H Q _ => ∃ (a : Addr) (ns : List Int), vs = [.ref a] ∧ SqL K H a (ns.map V.int) ∧ ns.length ≤ 63 ∧ ∀ p q H', Same H H' → Hand H' p q → H p = none → H q = none → Q (.ref p) H'
def spPick : Sp := fun vs H Q _ => ∃ (p q : Addr) (m : Int), vs = [.ref p, .int m] ∧ 0 < m ∧ m < 1073741824 ∧ Hand H p q ∧ ∀ d H', 0 ≤ d → d < m → Hand H' p q → Keep p q H H' → Q (.int d) H'
def spSize : Sp := fun vs H Q _ => ∃ (p q : Addr) (m : Int), vs = [.ref p, .int m] ∧ 9 ≤ m ∧ m < 1000 ∧ Hand H p q ∧ ∀ d H', 0 ≤ d → d ≤ m → Hand H' p q → Keep p q H H' → Q (.int d) H'
def num0 (n : Nat) : List Int := (List.range n).map fun (i : Nat) => (i : Int)
def spAny : Sp := fun vs H Q _ => ∃ (p q : Addr) (m : Nat), vs = [.ref p, .int m] ∧ m ≤ 500 ∧ Hand H p q ∧ ∀ (l : Addr) (ys : List Int) (H' : Hp), ys.Perm (num0 m) → H l = none → H' l = some (.lst (ys.map V.int)) → Hand H' p q → Keep p q H H' → Q (.ref l) H'
def spOrder : Sp := fun vs H Q _ => ∃ (p q : Addr) (m : Nat), vs = [.ref p, .int m] ∧ m ≤ 500 ∧ Hand H p q ∧ ∀ (l : Addr) (ys : List Int) (H' : Hp), ys.Perm (num0 m) → H' l = some (.tup (ys.map V.int)) → Hand H' p q → Keep p q H H' → Q (.ref l) H'
end L2


namespace L2
open PySem PySem.Spec PyProof.Rows
theorem rangeV_num0 (n : Nat) : rangeV 0 n = (num0 n).map V.int := by
  unfold rangeV num0
  rw [List.map_map]
  apply List.map_congr_left
  intro i _
  show V.int (0 + (i : Int)) = V.int (i : Int)
  rw [Int.zero_add]
theorem num0_mem {n : Nat} {x : Int} (h : x ∈ num0 n) : 0 ≤ x ∧ x < n := by
  unfold num0 at h
  obtain ⟨i, hi, rfl⟩ := List.mem_map.mp h
  have := List.mem_range.mp hi
  omega
end L2


namespace L2
open PySem PySem.Spec PyProof.Rows
theorem kit_tt {K : PySem.W.Frag} {a b : String} {r : Bool} (h : (if (Value.type a == Value.type b) = true then some true else if PySem.W.kitMeta b = true then (fastBuiltinMro a).map (·.contains (Value.type b)) else none) = some r) : PySem.W.kitOne K (.type a) (.type b) = some r := h
theorem kit_int_bool {K : PySem.W.Frag} : PySem.W.kitOne K (.type "int") (.type "bool") = some false := kit_tt (by decide +kernel)
theorem kit_int_int {K : PySem.W.Frag} : PySem.W.kitOne K (.type "int") (.type "int") = some true := kit_tt (by decide +kernel)
theorem pg_pair {X : Cx} {i j : Nat} {x y : Str} {px py pt : Pos} {kt : Nat} (hc : X.calm = true) (hN : X.N.Nodup) (hi : X.N[i]? = some x) (hj : X.N[j]? = some y) (hx : Loc X.env.scope x) (hy : Loc X.env.scope y) (fx : X.fn x = true ∨ X.env.scope.names.lookup x = some .local) (fy : X.fn y = true ∨ X.env.scope.names.lookup y = some .local) :
    PG X (.Tuple [.Name x px, .Name y py] kt pt) (gTup X.K 2 (gCons (gName i) (gCons (gName j) gNil))) := pg_tup hc (pgs_cons (pg_name hN hi hx fx) (pgs_cons (pg_name hN hj hy fy) pgs_nil))
theorem ix_listK {X : Cx} (K : PySem.W.Frag) (hK : X.K = K) : IxR X (rIxL K) := hK ▸ ix_list
def Alike (H : Hp) : Nat → V → V → Prop
  | 0, x, y => ∃ a : Int, x = .int a ∧ y = .int a
  | n + 1, x, y => (∃ a : Int, x = .int a ∧ y = .int a) ∨ ∃ a b xs ys, x = .ref a ∧ y = .ref b ∧ H a = some (.tup xs) ∧ H b = some (.tup ys) ∧ xs.length ≤ 1000 ∧ Paired (Alike H n) xs ys
def spSame (n : Nat) : Sp := fun vs H Q _ => ∃ x y, vs = [x, y] ∧ Alike H n x y ∧ ∀ H', Same H H' → Q (.bl true) H'

end L2


namespace L2
open PySem PySem.Spec PyProof.Rows
theorem at_getD {ys : List Int} {i : Int} (h0 : 0 ≤ i) (h1 : i < ys.length) : atI (ys.map V.int) i = some (.int (ys.getD i.toNat 0)) := by
  have hlt : i.toNat < ys.length := by omega
  have e : ((i.toNat : Nat) : Int) = i := by omega
  have := atI_nat (xs := ys.map V.int) (j := i.toNat) (v := .int (ys.getD i.toNat 0)) (by rw [List.getElem?_map, List.getD_eq_getElem?_getD, List.getElem?_eq_getElem hlt]; rfl)
  rwa [e] at this
theorem mem_rangeV {n : Nat} {x : V} (h : x ∈ rangeV 0 n) : ∃ k : Int, x = .int k ∧ 0 ≤ k ∧ k < n := by
  rw [rangeV_num0] at h
  obtain ⟨k, hk, rfl⟩ := List.mem_map.mp h
  exact ⟨k, rfl, num0_mem hk⟩
end L2


namespace L2
open PySem PySem.Spec PyProof.Rows
structure Def (K : PySem.W.Frag) (x : Str) (st : Stmt) : Prop where
  ex : ∃ (f : Addr) (oc : Value) (od an : Option Addr) (kV doc pm cdv ct : Value) (osl : Array (Option Value)), PySem.W.nsIn K mainGlobals x = some (some (.ref f)) ∧
    K.lookup f = some ⟨oc, od, .func (PySem.W.fnOf x x (defArgs st) (defBody st) (defScope st) .none kV doc pm an cdv ct), osl⟩ ∧ PySem.W.codeIn K cdv x = true ∧ PySem.W.keepIn K (.ref f) = true
section
variable {K : PySem.W.Frag} {h : Heap} {mg : Str → Option Value} {x : Str} {st : Stmt}
theorem Def.of {f : Addr} {oc : Value} {od an : Option Addr} {kV doc pm cdv ct : Value} {osl : Array (Option Value)} (a : PySem.W.nsIn K mainGlobals x = some (some (.ref f)))
    (l : K.lookup f = some ⟨oc, od, .func (PySem.W.fnOf x x (defArgs st) (defBody st) (defScope st) .none kV doc pm an cdv ct), osl⟩) (c : PySem.W.codeIn K cdv x = true) (k : PySem.W.keepIn K (.ref f) = true) : Def K x st :=
  ⟨f, oc, od, an, kV, doc, pm, cdv, ct, osl, a, l, c, k⟩
theorem Def.fn (D : Def K x st) (X : K.In h) (G : h.Ns mainGlobals mg) : ∃ f fd, Fun K x x st f fd ∧ mg x = some (.ref f) := by
  obtain ⟨f, oc, od, an, kV, doc, pm, cdv, ct, osl, a, l, c, k⟩ := D.ex
  exact ⟨f, _, fun_mk (st := st) l c k, PySem.W.mg_of X G a⟩
end
structure TopK (K : PySem.W.Frag) : Prop where
  k_len : PySem.W.nsIn K mainGlobals "len" = some none
  k_tuple : PySem.W.nsIn K mainGlobals "tuple" = some none
  k_list : PySem.W.nsIn K mainGlobals "list" = some none
  k_range : PySem.W.nsIn K mainGlobals "range" = some none
  k_int : PySem.W.nsIn K mainGlobals "int" = some none
  k_bool : PySem.W.nsIn K mainGlobals "bool" = some none
  k_isinstance : PySem.W.nsIn K mainGlobals "isinstance" = some none
  k_all : PySem.W.nsIn K mainGlobals "all" = some none
  k_zip : PySem.W.nsIn K mainGlobals "zip" = some none
  k_enumerate : PySem.W.nsIn K mainGlobals "enumerate" = some none
  k_min : PySem.W.nsIn K mainGlobals "min" = some none
  k_sum : PySem.W.nsIn K mainGlobals "sum" = some none
  k_max : PySem.W.nsIn K mainGlobals "max" = some none
  k_abs : PySem.W.nsIn K mainGlobals "abs" = some none
  k_sorted : PySem.W.nsIn K mainGlobals "sorted" = some none
theorem TopK.top {K : PySem.W.Frag} {h : Heap} {mg : Str → Option Value} (T : TopK K) (X : K.In h) (G : h.Ns mainGlobals mg) : Top mg :=
  ⟨PySem.W.mg_none_of X G T.k_len, PySem.W.mg_none_of X G T.k_tuple, PySem.W.mg_none_of X G T.k_list, PySem.W.mg_none_of X G T.k_range, PySem.W.mg_none_of X G T.k_int, PySem.W.mg_none_of X G T.k_bool, PySem.W.mg_none_of X G T.k_isinstance,
   PySem.W.mg_none_of X G T.k_all, PySem.W.mg_none_of X G T.k_zip, PySem.W.mg_none_of X G T.k_enumerate, PySem.W.mg_none_of X G T.k_min, PySem.W.mg_none_of X G T.k_sum, PySem.W.mg_none_of X G T.k_max, PySem.W.mg_none_of X G T.k_abs, PySem.W.mg_none_of X G T.k_sorted⟩
end L2


namespace L2
open PySem PySem.Spec PyProof.Rows
open Sem (wp)
open AutoSeq1 (wpAny_loadPart')
section
variable {prog : Program} {w : World} {A : Around} {E : Value → Shared → Prop} {s : Shared}
end
section
variable {X : Cx}
def tBMT (r : V → List V → Hp → VK → Prop) (to : TE) (t : TA) : TE := fun σ H Q => to σ H fun x H1 => (∃ a xs, x = .ref a ∧ H1 a = some (.tup xs)) ∧ t σ H1 fun xs H2 => r x xs H2 Q
def rTIndex : V → List V → Hp → VK → Prop := fun x vs H Q => ∃ (a : Addr) (ns : List Int) (n : Int), x = .ref a ∧ vs = [.int n] ∧ H a = some (.tup (ns.map V.int)) ∧ n ∈ ns ∧ Q (.int (ns.idxOf n)) H
end
end L2


namespace L2
open PySem PySem.Spec PyProof.Rows
open Sem (wp)
open AutoSeq1 (wpAny_loadPart')
section
variable {prog : Program} {w : World} {A : Around} {E : Value → Shared → Prop} {s : Shared}
theorem draw_lst {it t : Addr} {items : Array Value} (hne : t ≠ it) : ∀ (n i : Nat) (s : Shared) (Q : List Value → Shared → Prop), s.heap.IsListIter it t i → s.heap.IsList t items → i + n ≤ items.size →
    (∀ h', h'.IsListIter it t (i + n) → Heap.SameBut it s.heap h' → Q ((items.toList.drop i).take n) { s with heap := h' }) → wpAny (model prog w) A (draw (.ref it) n) Q E s
  | 0, i, s, Q, hit, _, _, hQ => by
    show wpAny _ _ (pure []) Q E s
    exact wpAny_pure (by simpa using hQ s.heap hit (Heap.SameBut.refl ..))
  | n + 1, i, s, Q, hit, ht, hle, hQ => by
    have hlt : i < items.size := by omega
    show wpAny _ _ (pyNext (.ref it) >>= _) Q E s
    refine wpAny_bind (wpAny_pyNext_list_item hit ht (x := items[i]) (by simp [hlt]) fun h₁ hit₁ hs₁ => ?_)
    have ht' : h₁.IsList t items := by
      obtain ⟨o, e, r⟩ := ht
      exact ⟨o, (hs₁.2 t hne).trans e, r⟩
    refine wpAny_bind (wpAny_holding (draw_lst hne n (i + 1) _ _ hit₁ ht' (by omega) fun h₂ hit₂ hs₂ => wpAny_pure ?_))
    have hd : items.toList.drop i = items[i] :: items.toList.drop (i + 1) := by simp [List.drop_eq_getElem_cons, hlt]
    have := hQ h₂ (by rw [show i + (n + 1) = i + 1 + n by omega]; exact hit₂) (hs₁.trans hs₂)
    rw [hd, List.take_succ_cons] at this
    exact this
theorem assign_Tuple_lst {env : Env} {elts : List Expr} {x1} {pos : Pos} {t : Addr} {items : Array Value} {Q : Unit → Shared → Prop} (hh : A.handled = none) (ht : s.heap.IsList t items)
    (hn : (assignEach elts env).length = items.size) (hstar : (assignEach elts env).findIdx? (·.1) = none)
    (h : ∀ h', Heap.ExtBut s.heap.objs.size s.heap h' → wpAny (model prog w) A (assignInOrder ((assignEach elts env).map (·.2)) items.toList) Q E { s with heap := h' }) :
    wpAny (model prog w) A (assign (.Tuple elts x1 pos) env (.ref t)) Q E s := by
  rw [assign_Tuple]
  refine wpAny_bind (wpAny_standAt ?_)
  unfold unpack
  rw [hn, hstar]
  have hlt : t ≠ s.heap.objs.size := by obtain ⟨o, ho, _⟩ := ht; exact Nat.ne_of_lt (Heap.lt_size ho)
  have hty : s.TypeIs (.ref t) "list" := by obtain ⟨o, ho, hc, _⟩ := ht; exact ⟨o, ho, hc⟩
  have kp : ∀ {h' : Heap}, Heap.ExtBut s.heap.objs.size s.heap h' → h'.IsList t items := fun k => by
    obtain ⟨o, e, r⟩ := ht
    exact ⟨o, k t o hlt e, r⟩
  refine wpAny_bind (wpAny_holding ?_)
  unfold unpackItems
  refine wpAny_bind ?_
  unfold notIterableAtAll
  refine wpAny_bind (wpAny_specialOf hty PySem.F.slot_list_iter.lookup ?_)
  refine wpAny_pure ?_
  simp only [Bool.false_eq_true, if_false]
  refine wpAny_bind (wpAny_holding (wpAny_pyIter_list ht ?_))
  have ht0 : (s.heap.push { cls := .type "list_iterator", data := .fields #[.ref t, .int 0 0] }).IsList t items := by
    obtain ⟨o, e, r⟩ := ht
    exact ⟨o, Heap.get?_push_of_some _ e, r⟩
  refine wpAny_bind (wpAny_holding (draw_lst hlt items.size 0 _ _ ⟨_, Heap.get?_push_size _ rfl, rfl, rfl⟩ ht0 (by omega) fun h₁ hit₁ hs₁ => ?_))
  have hall : List.take items.size (List.drop 0 items.toList) = items.toList := by
    rw [List.drop_zero]; exact List.take_of_length_le (by simp)
  rw [hall]
  rw [if_neg (by simp)]
  have ht₁ : h₁.IsList t items := by
    obtain ⟨o, e, r⟩ := ht0
    exact ⟨o, (hs₁.2 t hlt).trans e, r⟩
  refine wpAny_bind (wpAny_holding (wpAny_pyNext_list_end hh hit₁ ht₁ (by simp) fun h₂ he₂ => ?_))
  simp only [Option.isSome_none, Bool.false_eq_true, if_false]
  exact wpAny_pure (h h₂ fun b o hb e => he₂ b o hb (hs₁.extBut b o hb (Heap.get?_push_of_some _ e)))
end
section
variable {X : Cx} {pos : Pos}
def gLst (K : PySem.W.Frag) (n : Nat) (t : TGs) : TG := fun v σ H Q => ∃ a xs, v = .ref a ∧ SqL K H a xs ∧ xs.length = n ∧ t xs σ H Q
theorem pg_lst {es : List Expr} {k : Nat} {t : TGs} {n : Nat} (hc : X.calm = true) (h : PGs X es t)
    (hn : (assignEach es X.env).length = n := by rfl) (hst : (assignEach es X.env).findIdx? (·.1) = none := by rfl) : PG X (.Tuple es k pos) (gLst X.K n t) := by
  intro pins s σ H v u Q I r hw
  obtain ⟨a, xs, e1, hq, hl, hw⟩ := hw
  subst e1
  cases r
  obtain ⟨its, rv, ht, hz⟩ := I.list hq
  refine assign_Tuple_lst (I.ok.hd hc) ht.isList (by simp [hn, ← hl, rv.length]) hst fun h' hx => ?_
  have I1 : Inv X pins σ H { s with heap := h' } := I.kept (t' := s.toks) fun b o e => hx b o (Nat.ne_of_lt (Heap.lt_size e)) e
  exact h pins _ σ H xs _ Q I1 (by simpa using rv) hw
end
section
variable {prog : Program} {w : World} {A : Around} {E : Value → Shared → Prop} {s : Shared}
end
section
variable {X : Cx}
def rTupRng : List V → Hp → VK → Prop := fun xs H Q => ∃ (a : Addr) (j : Int), xs = [.ref a] ∧ H a = some (.rng 0 j) ∧ 0 ≤ j ∧ j ≤ 1000 ∧ ∀ p, H p = none → Q (.ref p) (upd H p (.tup (rangeV 0 j.toNat)))
end
end L2


namespace L2
open PySem PySem.Spec PyProof.Rows
def atO (ns : List Int) (x : Int) : Int := ns.getD x.toNat 0
def invO (ns : List Int) : List Int := (num0 ns.length).map fun x => ((ns.idxOf x : Nat) : Int)
def compO (ns ms : List Int) : List Int := ms.map (atO ns)
def Ord (m : Nat) (ns : List Int) : Prop := ns.Perm (num0 m)
theorem num0_len' (n : Nat) : (num0 n).length = n := by simp [num0]
theorem num0_nodup' (n : Nat) : (num0 n).Nodup := by
  unfold num0
  refine List.Pairwise.map _ (fun a b (h : a ≠ b) => ?_) (List.nodup_range (n := n))
  show (a : Int) ≠ (b : Int)
  omega
theorem mem_num0 {n : Nat} {x : Int} : x ∈ num0 n ↔ 0 ≤ x ∧ x < n := by
  refine ⟨num0_mem, fun ⟨h0, h1⟩ => ?_⟩
  unfold num0
  exact List.mem_map.mpr ⟨x.toNat, List.mem_range.mpr (by omega), by omega⟩
section
variable {m : Nat} {ns ms ks : List Int} {x : Int}
theorem Ord.len (h : Ord m ns) : ns.length = m := by rw [List.Perm.length_eq h, num0_len']
end
theorem for_enum {K : PySem.W.Frag} {a : Addr} {xs : List V} {g : TG} {tb : TS} {D : Ends} {σ : L2.St} {H : Hp} (Pv : Nat → L2.St → Hp → Prop) (h0 : Pv 0 σ H) (hl : ∀ i σ H, i ≤ xs.length → Pv i σ H → SqT K H a xs)
    (hs : ∀ i x t σ H, xs[i]? = some x → Pv i σ H → H t = none → g (.ref t) σ (upd H t (.tup [.int i, x])) fun σ2 H2 => tb { D with nx := Pv (i + 1), ct := Pv (i + 1), bk := D.nx } σ2 H2) (hd : ∀ σ H, Pv xs.length σ H → D.nx σ H) :
    ∃ W : Nat → Nat → L2.St → Hp → Prop, (∃ m, W 0 m σ H) ∧ ∀ i m σ H, W i m σ H →
      ((Ite K a).stop i H ∧ D.nx σ H) ∨ ((Ite K a).go i H ∧ ∃ N : L2.St → Hp → Prop, (∀ σ' H', N σ' H' → ∃ m', m' < m ∧ W (i + 1) m' σ' H') ∧ ∀ x H', (Ite K a).yld i H x H' → g x σ H' fun σ2 H2 => tb { D with nx := N, ct := N, bk := D.nx } σ2 H2) := by
  refine ⟨fun i m σ H => m = xs.length - i ∧ i ≤ xs.length ∧ Pv i σ H, ⟨xs.length, by simp, Nat.zero_le _, h0⟩, ?_⟩
  rintro i m σ H ⟨rfl, hi, p⟩
  have q := hl i σ H hi p
  by_cases hlt : i < xs.length
  · refine .inr ⟨⟨xs, xs[i], q, by simp [hlt]⟩, Pv (i + 1), fun σ' H' p' => ⟨xs.length - (i + 1), by omega, rfl, hlt, p'⟩, fun x H' y => ?_⟩
    obtain ⟨t, x', ht, rfl, rfl, y⟩ := y
    exact hs i x' t σ _ (y xs q) p ht
  · have e : i = xs.length := by omega
    subst e
    exact .inl ⟨⟨xs, q, rfl⟩, hd σ H p⟩
def spUndone : Sp := fun vs H Q _ => ∃ (a : Addr) (ns : List Int) (m : Nat), vs = [.ref a] ∧ H a = some (.tup (ns.map V.int)) ∧ Ord m ns ∧ m ≤ 500 ∧ ∀ p H', Same H H' → H' p = some (.tup ((invO ns).map V.int)) → Q (.ref p) H'
def spAfter : Sp := fun vs H Q _ => ∃ (a b : Addr) (ns ms : List Int), vs = [.ref a, .ref b] ∧ H a = some (.tup (ns.map V.int)) ∧ H b = some (.tup (ms.map V.int)) ∧ ns.length ≤ 500 ∧ ms.length ≤ 500 ∧ (∀ y ∈ ms, 0 ≤ y ∧ y < ns.length) ∧
  ∀ p H', Same H H' → H' p = some (.tup ((compO ns ms).map V.int)) → Q (.ref p) H'
end L2


namespace L2
open PySem PySem.Spec PyProof.Rows
def itO (ns : List Int) (x : Int) : Nat → Int
  | 0 => x
  | k + 1 => atO ns (itO ns x k)
def orbO (ns : List Int) (x : Int) (k : Nat) : List Int := (List.range k).map (itO ns x)
structure IsRound (ns : List Int) (x : Int) (row : List Int) : Prop where
  ex : ∃ k, row = orbO ns x (k + 1) ∧ itO ns x (k + 1) = x
  nd : row.Nodup
theorem len_le {α : Type} [DecidableEq α] : ∀ {l L : List α}, l.Nodup → (∀ y ∈ l, y ∈ L) → l.length ≤ L.length
  | [], _, _, _ => Nat.zero_le _
  | a :: t, L, h, s => by
    have ha := s a (by simp)
    have hn := List.nodup_cons.mp h
    have h1 : t.length ≤ (L.erase a).length := len_le hn.2 fun y hy => by
      have hne : y ≠ a := fun e => hn.1 (e ▸ hy)
      exact (List.mem_erase_of_ne hne).mpr (s y (by simp [hy]))
    have h2 := List.length_erase_of_mem ha
    have h3 : 0 < L.length := List.length_pos_of_mem ha
    simp only [List.length_cons]
    omega
section
variable {m : Nat} {ns : List Int} {x y : Int}
open Classical in
noncomputable def rowO (ns : List Int) (x : Int) : List Int := if h : ∃ row, IsRound ns x row then choose h else []
noncomputable def stepO (ns : List Int) (acc : List (List Int)) (f : Int) : List (List Int) := if f ∈ acc.flatten then acc else acc ++ [rowO ns f]
noncomputable def walkO (ns fs : List Int) : List (List Int) := fs.foldl (stepO ns) []
noncomputable def roundsO (ns : List Int) : List (List Int) := walkO ns (num0 ns.length)
structure MetO (ns : List Int) (m : Nat) (rows : List (List Int)) : Prop where
  nd : rows.flatten.Nodup
  rng : ∀ y ∈ rows.flatten, 0 ≤ y ∧ y < m
  clo : ∀ y ∈ rows.flatten, atO ns y ∈ rows.flatten
  row : ∀ r ∈ rows, ∃ f : Int, 0 ≤ f ∧ f < m ∧ r = rowO ns f
theorem perm_of_nd {l L : List Int} (hl : l.Nodup) (hL : L.Nodup) (e : ∀ y, y ∈ l ↔ y ∈ L) : l.Perm L := (List.perm_ext_iff_of_nodup hl hL).mpr e
def flipO (r : List Int) : List Int := r.take 1 ++ (r.drop 1).reverse
end
end L2


namespace L2
open PySem PySem.Spec PyProof.Rows
section
variable {X : Cx}
def rExtendT : V → List V → Hp → VK → Prop := fun x vs H Q => ∃ l b xs zs, x = .ref l ∧ vs = [.ref b] ∧ H l = some (.lst xs) ∧ H b = some (.tup zs) ∧ xs.length + zs.length ≤ sizeLine ∧ Q .non (upd H l (.lst (xs ++ zs)))
def rSorted : List V → Hp → VK → Prop := fun xs H Q => ∃ (l : Addr) (ns : List Int), xs = [.ref l] ∧ H l = some (.lst (ns.map V.int)) ∧ ns.length < 64 ∧
  ∀ p (ns' : List Int), ns'.Perm ns → ns'.Pairwise (· ≤ ·) → H p = none → Q (.ref p) (upd H p (.lst (ns'.map V.int)))
end
section
variable {prog : Program} {w : World} {A : Around} {E : Value → Shared → Prop} {s : Shared}
end
section
variable {X : Cx} {e : Expr} {te : TE} {p2 pos : Pos}
def rRv0 : V → Hp → VK → Prop := fun x H Q => ∃ a xs, x = .ref a ∧ H a = some (.tup xs) ∧ 1 ≤ xs.length ∧ ∀ p, H p = none → Q (.ref p) (upd H p (.tup (xs.drop 1).reverse))
def rTake1 : V → Option Int → Option Int → Hp → VK → Prop := fun x lo hi H Q => ∃ a xs, x = .ref a ∧ lo = none ∧ hi = some 1 ∧ H a = some (.tup xs) ∧ 1 ≤ xs.length ∧ ∀ p H', Same H H' → H' p = some (.tup (xs.take 1)) → Q (.ref p) H'
end
end L2


namespace L2
open PySem PySem.Spec PyProof.Rows
abbrev RowsAt (H : Hp) (zs : List Addr) (rows : List (List Int)) : Prop := Paired (fun (z : Addr) (r : List Int) => H z = some (.tup (r.map V.int))) zs rows
theorem RowsAt.sameT {H H' : Hp} {zs : List Addr} {rows : List (List Int)} (h : RowsAt H zs rows) (s : SameT H H') : RowsAt H' zs rows := Paired.mapP h fun _ _ q => s _ _ q
theorem RowsAt.same {H H' : Hp} {zs : List Addr} {rows : List (List Int)} (h : RowsAt H zs rows) (s : Same H H') : RowsAt H' zs rows := h.sameT s.t
structure Bits (bs : List Bool) (m : Nat) (S : List Int) : Prop where
  len : bs.length = m
  bit : ∀ i, i < m → bs[i]? = some (decide ((i : Int) ∈ S))
def spRoundFrom : Sp := fun vs H Q _ => ∃ (a : Addr) (ns : List Int) (m : Nat) (x : Int), vs = [.ref a, .int x] ∧ H a = some (.tup (ns.map V.int)) ∧ Ord m ns ∧ m ≤ 500 ∧ 0 ≤ x ∧ x < m ∧ ∀ p H', Same H H' → H' p = some (.tup ((rowO ns x).map V.int)) → Q (.ref p) H'
def spRoundsMet : Sp := fun vs H Q _ => ∃ (a l : Addr) (ns fs : List Int) (m : Nat), vs = [.ref a, .ref l] ∧ H a = some (.tup (ns.map V.int)) ∧ H l = some (.lst (fs.map V.int)) ∧ Ord m ns ∧ m ≤ 500 ∧ (∀ f ∈ fs, 0 ≤ f ∧ f < m) ∧
  ∀ p zs H', Same H H' → H' p = some (.lst (zs.map V.ref)) → RowsAt H' zs (walkO ns fs) → Q (.ref p) H'
def spRounds : Sp := fun vs H Q _ => ∃ (a : Addr) (ns : List Int) (m : Nat), vs = [.ref a] ∧ H a = some (.tup (ns.map V.int)) ∧ Ord m ns ∧ m ≤ 500 ∧ ∀ p zs H', Same H H' → H' p = some (.tup (zs.map V.ref)) → RowsAt H' zs (roundsO ns) → Q (.ref p) H'
theorem mapR_len (zs : List Addr) : (zs.map V.ref).length = zs.length := List.length_map ..
end L2


namespace L2
open PySem PySem.Spec PyProof.Rows
inductive Ents (P : Params) : List DictEntry → List (Str × Addr) → Prop
  | nil : Ents P [] []
  | cons {x : Str} {t : Tok} {f : Addr} {es : List DictEntry} {kvs : List (Str × Addr)} : Ents P es kvs → Ents P (⟨PyData.keyHash P x, .str x t, .ref f⟩ :: es) ((x, f) :: kvs)
structure GDict (K : PySem.W.Frag) (P : Params) (C : Addr) (kvs : List (Str × Addr)) : Prop where
  ex : ∃ es n, K.lookup C = some { cls := .type "dict", data := .dict es n } ∧ Ents P es.toList kvs
  nd : (kvs.map (·.1)).Nodup
section
variable {X : Cx}
def rGd (K : PySem.W.Frag) (P : Params) : R2 := fun x y H Q => ∃ C kvs z f, x = .ref C ∧ y = .str z ∧ GDict K P C kvs ∧ kvs.lookup z = some f ∧ Q (.ref f) H
end
structure CalF (P : Program) (w : World) (K : PySem.W.Frag) (mg : Str → Option Value) (base : Heap) (k : Nat) (f : Addr) (ps : List Str) (sp : Sp) : Prop where
  ex : ∃ fd, FnOk P w K mg base CX0 k f fd ps sp ∧ PySem.W.keepIn K (.ref f) = true ∧ Binds K fd ps []
section
variable {X : Cx} {k : Nat} {x : Str} {p pos : Pos} {e : Expr} {es : List Expr} {t : TA} {tf : TE}
def tCallV (P : Program) (w : World) (K : PySem.W.Frag) (mg : Str → Option Value) (base : Heap) (k : Nat) (tf : TE) (t : TA) : TE := fun σ H Q => tf σ H fun v H1 => ∃ f ps sp, v = .ref f ∧ CalF P w K mg base k f ps sp ∧ t σ H1 fun vs H2 => sp vs H2 Q E0
def rSumL : List V → Hp → VK → Prop := fun xs H Q => ∃ (l : Addr) (ns : List Int), xs = [.ref l] ∧ H l = some (.lst (ns.map V.int)) ∧ Q (.int ns.sum) H
theorem call_sumL (hc : X.calm = true) : CallR X (.builtin "sum") rSumL := by
  intro pins s σ H xs us Q I rs h
  obtain ⟨l, ns, rfl, hH, q⟩ := h
  obtain ⟨u, rfl, ru⟩ := vals1 rs
  cases (show u = Value.ref l from ru)
  obtain ⟨z, its, n, r, hl, e⟩ := I.lstM hH
  have hI := intsAre_of r
  obtain ⟨xs, hxs⟩ := hI.allInts.items
  have hnum : (numsOf its.toArray.toList) = ns := hI.numsOf
  refine sum_intListG (xs := xs) (I.ok.hd hc) (by rw [← hxs]; exact ⟨_, e, rfl, n, rfl⟩) fun h' tk t' hk => ?_
  have hs : preSum (numAt xs) xs.size = ns.sum := by
    rw [preSum_eq, List.take_of_length_le (by simp)]
    rw [← nums_intItems, ← hxs, hnum]
  rw [hs]
  exact ⟨.int ns.sum, H, I.kept (t' := tk) hk, ⟨_, rfl⟩, q⟩
end
end L2


namespace L2
open PySem PySem.Spec PyProof.Rows
abbrev lc2 (elt tg iter : Expr) (ifs : List Expr) (tg2 iter2 : Expr) (ifs2 : List Expr) (scope : Scope) (pos : Pos) : Expr := .ListComp elt [⟨tg, iter, ifs, 0⟩, ⟨tg2, iter2, ifs2, 0⟩] scope pos
section
variable {prog : Program} {w : World} {A : Around} {R : Result → Shared → Prop} {s : Shared} {elt tg iter tg2 iter2 : Expr} {ifs ifs2 : List Expr} {scope : Scope} {pos : Pos} {it acc : Value} {env : Env}
end
end L2


namespace L2
open PySem PySem.Spec PyProof.Rows
def InW (J : It) (H1 : Hp) (g : TG) (tt : TT) (te : TE) (acc : Addr) (σ : St) (Kt : Hp → Prop) : Prop :=
  ∃ V : Nat → Nat → Hp → Prop, (∃ m, V 0 m H1) ∧ ∀ i m H, V i m H →
    (J.stop i H ∧ Kt H) ∨ (J.go i H ∧ ∀ x H', J.yld i H x H' → g x σ H' fun σ2 H2 => Wk σ σ2 ∧ tt σ2 H2 fun b H3 =>
      if b = true then te σ2 H3 fun v H4 => ∃ ys, H4 acc = some (.lst ys) ∧ ys.length < sizeLine ∧ ∃ m', m' < m ∧ V (i + 1) m' (upd H4 acc (.lst (ys ++ [v])))
      else ∃ m', m' < m ∧ V (i + 1) m' H3)
def LcW2 (J : It) (H1 : Hp) (g : TG) (tt : TT) (wi2 : TI) (g2 : TG) (tt2 : TT) (te : TE) (n : Nat) (ix : List Nat) (σ : St) (Q : VK) : Prop := ∀ acc, H1 acc = none →
  ∃ W : Nat → Nat → Hp → Prop, (∃ m, W 0 m (upd H1 acc (.lst []))) ∧ ∀ i m H, W i m H →
    (J.stop i H ∧ Q (.ref acc) H) ∨ (J.go i H ∧ ∀ x H', J.yld i H x H' → g x (compSt n ix σ) H' fun σ2 H2 => Wk (compSt n ix σ) σ2 ∧ tt σ2 H2 fun b H3 =>
      if b = true then wi2 σ2 H3 fun J2 H4 => InW J2 H4 g2 tt2 te acc σ2 fun H5 => ∃ m', m' < m ∧ W (i + 1) m' H5
      else ∃ m', m' < m ∧ W (i + 1) m' H3)
def tLc2 (wi : TI) (g : TG) (tt : TT) (wi2 : TI) (g2 : TG) (tt2 : TT) (te : TE) (n : Nat) (ix : List Nat) : TE := fun σ H Q => wi σ H fun J H1 => LcW2 J H1 g tt wi2 g2 tt2 te n ix σ Q
section
variable {X : Cx} {elt tg iter tg2 iter2 : Expr} {ifs ifs2 : List Expr} {scope : Scope} {pos : Pos} {wi wi2 : TI} {g g2 : TG} {tt tt2 : TT} {te : TE} {N' : List Str} {n : Nat} {ix : List Nat}
end
end L2


namespace L2
open PySem PySem.Spec PyProof.Rows
def Itel (K : PySem.W.Frag) (a : Addr) : It :=
  ⟨fun i H => ∃ xs x, SqL K H a xs ∧ xs[i]? = some x, fun i H v H' => ∃ t x, H t = none ∧ v = .ref t ∧ H' = upd H t (.tup [.int i, x]) ∧ ∀ xs, SqL K H a xs → xs[i]? = some x, fun i H => ∃ xs, SqL K H a xs ∧ xs.length = i⟩
theorem turn_enumL {P : Program} {w : World} {K : PySem.W.Frag} {els : List Expr} {kx} {tp : Pos} (a e it : Addr) (hne : e ≠ it) : Turn P w K (.Tuple els kx tp) (Itel K a) [e, it] e (fun i h => (∃ old, IsEnum h e it i old) ∧ h.IsListIter it a i) where
  mem := by simp
  obj := fun i h st b hb => by
    obtain ⟨⟨old, he⟩, o, ho, hc, hd⟩ := st
    rcases List.mem_cons.mp hb with rfl | hb
    · exact ⟨_, he, fun v z => by cases z⟩
    · rw [List.mem_singleton.mp hb]
      exact ⟨o, ho, fun v z => by rw [hd] at z; cases z⟩
  keep := fun i h h' st k => by
    obtain ⟨⟨old, he⟩, o, ho, r⟩ := st
    exact ⟨⟨old, k e (by simp) _ he⟩, o, k it (by simp) _ ho, r⟩
  item := by
    intro X hP hw hK hc i pins s σ H E I hf st hg
    subst hP hw hK
    obtain ⟨xs, x, hq, hx⟩ := hg
    obtain ⟨its, rv, p, hz⟩ := I.list hq
    obtain ⟨u, hu, ru⟩ := rv.get hx
    obtain ⟨⟨old, he⟩, hi⟩ := st
    obtain ⟨o, ho, hcl, hd⟩ := id hi
    have hT : s.heap.IsList a its.toArray := p.isList
    have hai : a ≠ it := fun z => by
      obtain ⟨o', e1, e2, _⟩ := p.isList
      rw [z, ho] at e1; cases e1; rw [hcl] at e2; injection e2 with z2; revert z2; decide
    have hae : e ≠ a := fun z => by
      obtain ⟨o', e1, e2, _⟩ := p.isList
      rw [← z, he] at e1; cases e1; injection e2 with z2; revert z2; decide
    have hlt : i < its.toArray.size := by
      have := (List.getElem?_eq_some_iff.mp hu).1
      simpa using this
    have hh : X.A.in1.handled = none := I.ok.hd hc
    refine wpAny_pyNext_enum_itemD (Draws.list hh it a hai its.toArray) he ⟨hi, hT⟩ hlt hne (by simp [hne, hae]) fun x' h1 tk hP1 ho1 hs1 hT1 hz1 hk1 => ?_
    have ex : x' = u := by
      have q : its[i]? = some x' := by simpa using hP1
      rw [hu] at q; exact (Option.some.inj q).symm
    subst ex
    refine ⟨_, rfl, wpAny_letOwnedTupleGo_enum ho1 fun h2 he2 hs2 => ?_⟩
    have hne0 : s.heap.objs.size ≠ e := Nat.ne_of_gt (Heap.lt_size he)
    have keep : ∀ b o, b ∉ [e, it] → s.heap.get? b = some o → h2.get? b = some o := fun b o hb e0 => (hs2.2 b fun z => hb (by simp [z])).trans (hk1 b o (fun z => hb (by simp [z])) (fun z => hb (by simp [z])) e0)
    refine ⟨.ref s.heap.objs.size, _, I.turnedT (h' := h2) (t' := tk + 1) (xs := [.int i, x]) hf keep (.cons ⟨tk, rfl⟩ (.cons ru .nil)) ⟨_, (hs2.2 _ hne0).trans hT1, rfl, ⟨_, rfl⟩, rfl, rfl⟩ (by show 2 ≤ sizeLine; decide), rfl, ⟨_, x, I.hok.fresh (Nat.le_refl _), rfl, rfl, fun ys hy => by rw [I.list_inj hy hq]; exact hx⟩, ⟨⟨_, by simpa using he2⟩, ?_⟩, fun b hb => ?_⟩
    · obtain ⟨⟨o1, e1, r1⟩, _⟩ := hs1
      exact ⟨o1, (hs2.2 it (Ne.symm hne)).trans e1, r1⟩
    · rcases List.mem_cons.mp hb with rfl | hb'
      · rw [upd_ne (Nat.ne_of_lt (Heap.lt_size he))]; exact (hf _ hb).1
      · have e9 := List.mem_singleton.mp hb'
        subst e9
        rw [upd_ne (Nat.ne_of_lt (Heap.lt_size ho))]; exact (hf _ hb).1
  done := by
    intro X hP hw hK hc i pins s σ H E I hf st hg
    subst hP hw hK
    obtain ⟨xs, hq, hx⟩ := hg
    obtain ⟨its, rv, p, hz⟩ := I.list hq
    obtain ⟨⟨old, he⟩, hi⟩ := st
    obtain ⟨o, ho, hcl, hd⟩ := id hi
    have hT : s.heap.IsList a its.toArray := p.isList
    have hai : a ≠ it := fun z => by
      obtain ⟨o', e1, e2, _⟩ := p.isList
      rw [z, ho] at e1; cases e1; rw [hcl] at e2; injection e2 with z2; revert z2; decide
    have hh : X.A.in1.handled = none := I.ok.hd hc
    have hl : its.toArray.size = i := by rw [List.size_toArray, ← rv.length, hx]
    refine wpAny_pyNext_enum_endD (Draws.list hh it a hai its.toArray) he (by rw [hl]; exact ⟨hi, hT⟩) fun h1 hk => ⟨rfl, ?_⟩
    exact I.turnedN (t' := s.toks) hf fun b o hb e0 => hk b o (fun z => hb (by simp [z])) e0
  self := fun _ _ _ _ _ st h => by
    obtain ⟨⟨old, he⟩, _⟩ := st
    exact wpAny_pyIter_enum he h
section
variable {X : Cx}
def iEnumL (K : PySem.W.Frag) (ta : TA) : TI := fun σ H R => ta σ H fun vs H1 => ∃ a, vs = [.ref a] ∧ (∃ xs, SqL K H1 a xs) ∧ R (Itel K a) H1
theorem pi_enumL {els : List Expr} {kx} {tp : Pos} {l : Expr} {ta : TA} {p pos : Pos} (hg : Gl X "enumerate") (hm : X.mg "enumerate" = none) (ha : PA X [l] ta) (hs : starEach [l] X.env = [(false, eval l X.env)] := by rfl) :
    PI X (.Tuple els kx tp) (.Call (.Name "enumerate" p) [l] [] pos) (iEnumL X.K ta) := by
  intro pins s σ H R I h
  refine Call_ (ld_blt I hg hm boot_enumerate (PyProof.Rows.callWith_type1 (thn (ha pos pins s σ H _ I h) fun us s1 ⟨vs, H1, I1, r1, q1⟩ => ?_) hs rfl))
  obtain ⟨a, rfl, ⟨xs, hq⟩, q⟩ := q1
  obtain ⟨u, rfl, ru⟩ := vals1 r1
  cases (show u = Value.ref a from ru)
  obtain ⟨its, rv, p', hz⟩ := I1.list hq
  refine call_enumerate_list p'.isList fun h' he hi hsz hk => wpAny_pyIter_enum he ?_
  have I2 : Inv X pins σ H1 { s1 with heap := h' } := I1.kept (t' := s1.toks) hk
  refine ⟨s1.heap.objs.size + 1, [s1.heap.objs.size + 1, s1.heap.objs.size], _, _, H1, rfl, I2, turn_enumL a _ _ (Nat.ne_of_gt (Nat.lt_succ_self _)), ⟨⟨_, he⟩, hi⟩, fun b hb => ?_, q⟩
  rcases List.mem_cons.mp hb with rfl | hb
  · exact I1.fpOk (Nat.le_succ _) (I1.hok.fresh (Nat.le_succ _))
  · rw [List.mem_singleton.mp hb]
    exact I1.fpOk (Nat.le_refl _) (I1.hok.fresh (Nat.le_refl _))
end
end L2


namespace L2
open PySem PySem.Spec PyProof.Rows
def pairs2 (xs : List V) (ys : V → List V) (p : V → V → Bool) : List (V × V) := xs.flatMap fun x => ((ys x).filter (p x)).map fun y => (x, y)
end L2


namespace L2
open PySem PySem.Spec PyProof.Rows
section
variable {X : Cx}
def rSlA : V → Option Int → Option Int → Hp → VK → Prop := fun x lo hi H Q => ∃ a xs, x = .ref a ∧ H a = some (.tup xs) ∧ ∀ p H', Same H H' → H' p = some (.tup (cutV xs lo hi)) → Q (.ref p) H'
end
theorem for_enumL {K : PySem.W.Frag} {a : Addr} {xs : List V} {g : TG} {tb : TS} {D : Ends} {σ : L2.St} {H : Hp} (Pv : Nat → L2.St → Hp → Prop) (h0 : Pv 0 σ H) (hl : ∀ i σ H, i ≤ xs.length → Pv i σ H → SqL K H a xs)
    (hs : ∀ i x t σ H, xs[i]? = some x → Pv i σ H → H t = none → g (.ref t) σ (upd H t (.tup [.int i, x])) fun σ2 H2 => tb { D with nx := Pv (i + 1), ct := Pv (i + 1), bk := D.nx } σ2 H2) (hd : ∀ σ H, Pv xs.length σ H → D.nx σ H) :
    ∃ W : Nat → Nat → L2.St → Hp → Prop, (∃ m, W 0 m σ H) ∧ ∀ i m σ H, W i m σ H →
      ((Itel K a).stop i H ∧ D.nx σ H) ∨ ((Itel K a).go i H ∧ ∃ N : L2.St → Hp → Prop, (∀ σ' H', N σ' H' → ∃ m', m' < m ∧ W (i + 1) m' σ' H') ∧ ∀ x H', (Itel K a).yld i H x H' → g x σ H' fun σ2 H2 => tb { D with nx := N, ct := N, bk := D.nx } σ2 H2) := by
  refine ⟨fun i m σ H => m = xs.length - i ∧ i ≤ xs.length ∧ Pv i σ H, ⟨xs.length, by simp, Nat.zero_le _, h0⟩, ?_⟩
  rintro i m σ H ⟨rfl, hi, p⟩
  have q := hl i σ H hi p
  by_cases hlt : i < xs.length
  · refine .inr ⟨⟨xs, xs[i], q, by simp [hlt]⟩, Pv (i + 1), fun σ' H' p' => ⟨xs.length - (i + 1), by omega, rfl, hlt, p'⟩, fun x H' y => ?_⟩
    obtain ⟨t, x', ht, rfl, rfl, y⟩ := y
    exact hs i x' t σ _ (y xs q) p ht
  · have e : i = xs.length := by omega
    subst e
    exact .inl ⟨⟨xs, q, rfl⟩, hd σ H p⟩
section
variable {X : Cx} {elt tg iter tg2 iter2 : Expr} {ifs ifs2 : List Expr} {scope : Scope} {pos : Pos} {wi wi2 : TI} {g g2 : TG} {tt tt2 : TT} {te : TE} {N' : List Str} {n : Nat} {ix : List Nat}
end
end L2


namespace L2
open PySem PySem.Spec PyProof.Rows
def freeO (m : Nat) (b : List Int) : List Int := (num0 m).filter fun x => decide (x ∉ b)
def stepA (m : Nat) (L : List (List Int)) : List (List Int) := L.flatMap fun b => (freeO m b).map fun x => b ++ [x]
def iterA (m : Nat) (L : List (List Int)) : Nat → List (List Int)
  | 0 => L
  | k + 1 => stepA m (iterA m L k)
def allP : Nat → List Int → List (List Int)
  | 0, _ => [[]]
  | n + 1, left => (List.range left.length).flatMap fun k => (allP n (left.take k ++ left.drop (k + 1))).map fun r => left.getD k 0 :: r
theorem free_nodup (m : Nat) (b : List Int) : (freeO m b).Nodup := List.Nodup.sublist List.filter_sublist (num0_nodup' m)
theorem free_snoc (m : Nat) (b : List Int) (x : Int) : freeO m (b ++ [x]) = (freeO m b).filter fun y => decide (y ≠ x) := by
  unfold freeO
  rw [List.filter_filter]
  apply List.filter_congr
  intro y _
  simp [List.mem_append]
  exact Bool.and_comm _ _
theorem filter_ne_mid {A B : List Int} {x : Int} (nd : (A ++ x :: B).Nodup) : (A ++ x :: B).filter (fun y => decide (y ≠ x)) = A ++ B := by
  obtain ⟨n1, n2, n3⟩ := List.nodup_append.mp nd
  have hx1 : ∀ y ∈ A, y ≠ x := fun y hy => n3 y hy x (by simp)
  have hx2 : ∀ y ∈ B, y ≠ x := fun y hy z => (List.nodup_cons.mp n2).1 (z ▸ hy)
  rw [List.filter_append, List.filter_cons]
  simp only [ne_eq, not_true_eq_false, decide_false, Bool.false_eq_true, if_false]
  rw [List.filter_eq_self.mpr fun y hy => by simpa using hx1 y hy, List.filter_eq_self.mpr fun y hy => by simpa using hx2 y hy]
theorem filter_ne_at {L : List Int} (nd : L.Nodup) {k : Nat} (hk : k < L.length) : L.filter (fun y => decide (y ≠ L[k])) = L.take k ++ L.drop (k + 1) := by
  have e : L.take k ++ L[k] :: L.drop (k + 1) = L := by rw [← List.drop_eq_getElem_cons hk, List.take_append_drop]
  have := filter_ne_mid (A := L.take k) (B := L.drop (k + 1)) (x := L[k]) (by rw [e]; exact nd)
  rwa [e] at this
def allA (m : Nat) : List (List Int) := iterA m [[]] m
theorem free_nil (m : Nat) : freeO m [] = num0 m := by
  unfold freeO
  exact List.filter_eq_self.mpr fun y _ => by simp
structure Beg (m k : Nat) (b : List Int) : Prop where
  len : b.length = k
  nd : b.Nodup
  rng : ∀ y ∈ b, 0 ≤ y ∧ y < m
  free : (freeO m b).length + k = m
theorem beg0 (m : Nat) : Beg m 0 [] := ⟨rfl, by simp, by simp, by rw [free_nil, num0_len']; omega⟩
theorem Beg.more {m k : Nat} {b : List Int} (B : Beg m k b) {x : Int} (hx : x ∈ freeO m b) : Beg m (k + 1) (b ++ [x]) := by
  have hx' := List.mem_filter.mp hx
  have hxb : x ∉ b := by simpa using hx'.2
  have hxr := num0_mem hx'.1
  refine ⟨by rw [List.length_append, B.len]; rfl, List.nodup_append.mpr ⟨B.nd, by simp, fun a ha c hc e => ?_⟩, fun y hy => ?_, ?_⟩
  · rw [List.mem_singleton] at hc
    subst hc e
    exact hxb ha
  · rcases List.mem_append.mp hy with hy | hy
    · exact B.rng y hy
    · rw [List.mem_singleton.mp hy]; exact hxr
  · obtain ⟨i, hi⟩ := List.getElem?_of_mem hx
    obtain ⟨hi1, hi2⟩ := List.getElem?_eq_some_iff.mp hi
    have := filter_ne_at (free_nodup m b) hi1
    rw [free_snoc, ← hi2, this, List.length_append, List.length_take, List.length_drop]
    have := B.free
    omega
def facD (m : Nat) : Nat → Nat
  | 0 => 1
  | k + 1 => facD m k * (m - k)
theorem iter_beg (m : Nat) : ∀ k, (∀ b ∈ iterA m [[]] k, Beg m k b) ∧ (iterA m [[]] k).length = facD m k
  | 0 => ⟨fun b hb => by rw [List.mem_singleton.mp hb]; exact beg0 m, rfl⟩
  | k + 1 => by
    obtain ⟨h1, h2⟩ := iter_beg m k
    refine ⟨fun b hb => ?_, ?_⟩
    · obtain ⟨c, hc, hb⟩ := List.mem_flatMap.mp hb
      obtain ⟨x, hx, rfl⟩ := List.mem_map.mp hb
      exact (h1 c hc).more hx
    · show (stepA m (iterA m [[]] k)).length = facD m k * (m - k)
      have key : ∀ L : List (List Int), (∀ b ∈ L, Beg m k b) → (stepA m L).length = L.length * (m - k) := fun L => by
        induction L with
        | nil => intro _; simp [stepA]
        | cons b t ih =>
          intro h
          have hb := (h b (by simp)).free
          have := ih fun c hc => h c (by simp [hc])
          have e : stepA m (b :: t) = ((freeO m b).map fun x => b ++ [x]) ++ stepA m t := by simp [stepA]
          rw [e, List.length_append, List.length_map, this, List.length_cons, Nat.succ_mul]
          omega
      rw [key _ h1, h2]
theorem fac_small : ∀ m < 7, ∀ k < 8, facD m k ≤ 720 := by decide
theorem Beg.ord {m : Nat} {b : List Int} (B : Beg m m b) : Ord m b := by
  refine perm_of_nd B.nd (num0_nodup' m) fun y => ⟨fun hy => mem_num0.mpr (B.rng y hy), fun hy => ?_⟩
  by_cases h : y ∈ b
  · exact h
  · have := len_le (l := y :: b) (L := num0 m) (List.nodup_cons.mpr ⟨h, B.nd⟩) fun z hz => by
      rcases List.mem_cons.mp hz with rfl | hz
      · exact hy
      · exact mem_num0.mpr (B.rng z hz)
    rw [num0_len', List.length_cons, B.len] at this
    omega
end L2


namespace L2
open PySem PySem.Spec PyProof.Rows
theorem inV_ints (n : Int) : ∀ S : List Int, inV (.int n) (S.map V.int) = decide (n ∈ S)
  | [] => by simp [inV]
  | a :: t => by
    have ih := inV_ints n t
    have e : inV (.int n) ((a :: t).map V.int) = ((a == n) || inV (.int n) (t.map V.int)) := rfl
    rw [e, ih]
    by_cases h : a = n
    · subst h
      simp
    · have h' : ¬ n = a := fun z => h z.symm
      rw [beq_eq_false_iff_ne.mpr h, Bool.false_or, decide_eq_decide]
      rw [List.mem_cons]
      exact ⟨.inr, fun z => z.resolve_left h'⟩
theorem flat_ints (S : List Int) : (S.map V.int).all flatV = true := by
  rw [List.all_eq_true]
  intro x hx
  obtain ⟨n, _, rfl⟩ := List.mem_map.mp hx
  rfl
end L2
namespace L2
open PySem PySem.Spec PyProof.Rows
theorem RowsAt.get {H : Hp} : ∀ {zs : List Addr} {rows : List (List Int)}, RowsAt H zs rows → ∀ {i : Nat} {z : Addr}, zs[i]? = some z → ∃ r, rows[i]? = some r ∧ H z = some (.tup (r.map V.int))
  | _, _, .nil, _, _, h => by simp at h
  | _, _, .cons r _, 0, _, h => by simp at h; subst h; exact ⟨_, rfl, r⟩
  | _, _, .cons _ t, i + 1, _, h => RowsAt.get t (i := i) (by simpa using h)
def RFlip (x v : V) (H : Hp) : Prop := ∃ (z z' : Addr) (r : List Int), x = .ref z ∧ H z = some (.tup (r.map V.int)) ∧ v = .ref z' ∧ H z' = some (.tup ((flipO r).map V.int))
end L2


namespace L2
open PySem PySem.Spec PyProof.Rows
section
variable {X : Cx}
def rMaxL : List V → Hp → VK → Prop := fun xs H Q => ∃ (l : Addr) (ns : List Int), xs = [.ref l] ∧ H l = some (.lst (ns.map V.int)) ∧ ns ≠ [] ∧ ∀ M, M ∈ ns → (∀ a ∈ ns, a ≤ M) → Q (.int M) H
def rMaxT : List V → Hp → VK → Prop := fun xs H Q => ∃ (l : Addr) (ns : List Int), xs = [.ref l] ∧ H l = some (.tup (ns.map V.int)) ∧ ns ≠ [] ∧ ∀ M, M ∈ ns → (∀ a ∈ ns, a ≤ M) → Q (.int M) H
end
def enF (p : Nat → V → Bool) (f : Nat → V → V) : Nat → List V → List V
  | _, [] => []
  | i, x :: t => (if p i x then [f i x] else []) ++ enF p f (i + 1) t
end L2


namespace L2
open PySem PySem.Spec PyProof.Rows
def en2 (ys : Nat → V → List V) (p : Nat → V → V → Bool) (c : V) : Nat → List V → List V
  | _, [] => []
  | i, x :: t => ((ys i x).filter (p i x)).map (fun _ => c) ++ en2 ys p c (i + 1) t
end L2


namespace L2
open PySem PySem.Spec PyProof.Rows
def sumR (n : Nat) (g : Nat → Int) : Int := ((List.range n).map g).sum
def staysO (ns : List Int) : Int := sumR ns.length fun k => if atO ns k = k then 1 else 0
def risesO (ns : List Int) : Int := sumR (ns.length - 1) fun k => if atO ns k < atO ns (k + 1 : Nat) then 1 else 0
def highsO (ns : List Int) : Int := sumR ns.length fun k => if (ns.take (k + 1)).all (fun a => decide (a ≤ atO ns k)) then 1 else 0
def crossedO (ns : List Int) : Int := sumR ns.length fun k => (((ns.take k).filter fun a => decide (atO ns k < a)).length : Int)
def patO (L : List Int) (x : Int) : List Int := if L.countP (fun a => decide (a < x)) = L.length then L ++ [x] else L.set (L.countP fun a => decide (a < x)) x
def patsO (ns : List Int) : List Int := ns.foldl patO []
def longestO (ns : List Int) : Int := (patsO ns).length
def qN (q : Nat → Int → Bool) : Nat → V → Bool := fun i v => match v with | .int n => q i n | _ => false
def qZ (q : Int → Int → Bool) : V × V → Bool := fun xy => match xy with | (.int a, .int b) => q a b | _ => false
def qC : Nat → V → V → Bool := fun _ x y => match x, y with | .int a, .int b => decide (a < b) | _, _ => false
structure Heaps (ns : List Int) (L : List Int) (es : List Int) : Prop where
  inc : L.Pairwise (· < ·)
  len : es.length = ns.length
  up : ∀ (j : Nat) a, L[j]? = some a → ∃ k : Nat, ns[k]? = some a ∧ es[k]? = some ((j : Int) + 1)
  dn : ∀ (k : Nat) e, es[k]? = some e → ∃ (j : Nat) (a b : Int), e = (j : Int) + 1 ∧ L[j]? = some a ∧ ns[k]? = some b ∧ a ≤ b
end L2


namespace L2
open PySem PySem.Spec PyProof.Rows
def Cx.compZ (X : Cx) (s₂ : Shared) (H₂ : Hp) (N' : List Str) (scope : Scope) (cl : List (Str × Addr)) (C : Addr) (fp : List Addr) (z : Str) (Z : Addr) : Cx :=
  { X with N := N', s₀ := s₂, H₀ := H₂, env := compEnvC scope ((z, Z) :: cl) C X.env, outer := X.stack, stack := X.stack, ex := fp, fn := fun x => x == z, pn := [], xe := fun _ _ => False }
structure CompScopeZ (X : Cx) (scope : Scope) (N' : List Str) (n : Nat) (ix : List Nat) (z : Str) : Prop where
  kind : scope.kind = .function
  onecell : ∀ y ∈ scope.names, y.2 = .cell → y.1 = z
  nz : ∀ y : Str, (y, NameKind.free) ∈ scope.names → y ≠ z
  cf : ∀ (a : Addr) (cl : List (Str × Addr)), cellsFrom a scope.names cl = (z, a) :: cl
  pc : ∀ h : Heap, pushCells h scope.names = h.push { cls := .type "cell", data := .cell none }
  names : ∀ y ∈ scope.names, y.2 = .local → scope.names.lookup y.1 = some .local
  free : ∀ y ∈ scope.names, y.2 = .free → X.env.scope.names.lookup y.1 = some .cell ∨ X.env.scope.names.lookup y.1 = some .free
  nodup : ∀ y : Str, (y, NameKind.free) ∈ scope.names → scope.names.lookup y = some .local → False
  len : N'.length = n + ix.length
  at_ : ∀ (j i : Nat), ix[j]? = some i → ∃ x, N'[n + j]? = some x ∧ X.N[i]? = some x ∧ (x, NameKind.free) ∈ scope.names
theorem newEnvZ {M : Model} {A : Around} {E : Value → Shared → Prop} {s : Shared} {z : Str} {scope : Scope} {globals : Addr} {cl : List (Str × Addr)} {qual : Str} {env : Env} {Q : Env → Shared → Prop} (hcf : ∀ a, cellsFrom a scope.names cl = (z, a) :: cl)
    (hpc : ∀ h : Heap, pushCells h scope.names = h.push { cls := .type "cell", data := .cell none })
    (hQ : ∀ env' : Env, env' = { scope, locals := s.heap.objs.size, globals, cells := (z, s.heap.objs.size + 1) :: cl, qual, func := none, code := env.code, frame := env.frame, builtins := env.builtins } →
      Q env' { s with heap := (s.heap.push { cls := .type "dict", data := .dict #[] }).push { cls := .type "cell", data := .cell none } }) :
    wpAny M A (newFunctionEnv scope globals cl [] qual none .none (some env)) Q E s := by
  simp only [newFunctionEnv, Option.isSome_some, if_true]
  refine wpAny_bind (wpAny_alloc ?_)
  refine wpAny_bind (wpAny_layCells _ (fun name kind cells => by cases hkc : kind == NameKind.cell <;> simp [hkc]) _ _ _ _ ?_)
  rw [hcf, hpc]
  simp only [List.forIn_nil]
  have hz : (s.heap.push { cls := .type "dict", data := .dict #[] }).objs.size = s.heap.objs.size + 1 := Heap.size_push ..
  refine wpAny_bind (wpAny_pure (wpAny_pure ?_))
  exact hQ _ (by simp only [hz])
section
variable {X : Cx} {pins : List (Addr × Obj)} {σ : St} {H : Hp} {s : Shared}
theorem of_relabelZ {env : Env} {scope : Scope} {x z : Str} (hn : ∀ y ∈ scope.names, y.2 = .cell → y.1 = z) (hxz : x ≠ z) (h : (relabel scope env).names.lookup x = some .cell ∨ (relabel scope env).names.lookup x = some .free) : scope.names.lookup x = some .free := by
  rw [relabel_lookup] at h
  cases e : scope.names.lookup x with
  | none => rw [e] at h; rcases h with h | h <;> cases h
  | some k =>
    rw [e] at h
    have hk : k ≠ .cell := fun q => hxz (hn _ (PySem.mem_of_lookup e) q)
    by_cases hf : k = .free
    · rw [hf]
    · have hb : (k == NameKind.free) = false := by simpa using hf
      have hr : Option.map (fun k => if (k == NameKind.free && env.scope.kind == .function && env.kindOf x == some .cell) = true then NameKind.cell else k) (some k) = some k := by
        show some (ite _ _ _) = _
        rw [if_neg (by rw [hb]; simp)]
      rw [hr] at h
      rcases h with h | h
      · cases h; exact absurd rfl hk
      · exact h

theorem inv_compZ {z : Str} {Z : Addr} {scope : Scope} {N' : List Str} {n : Nat} {ix : List Nat} {cl : List (Str × Addr)} {fp : List Addr} {h₁ : Heap} {acc C : Addr} {na : Nat} {m : Str → Option Value} {tk : Nat}
    (I : Inv X pins σ H s) (S : CompScopeZ X scope N' n ix z) (hcl1 : ∀ x c, cl.lookup x = some c → X.env.cells.lookup x = some c) (hcl2 : ∀ y ∈ scope.names, y.2 = .free → cl.lookup y.1 = X.env.cells.lookup y.1)
    (hf : ∀ b ∈ fp, FpOk X pins H b) (hlt : ∀ b ∈ fp, b < s.heap.objs.size) (ha : s.heap.objs.size ≤ acc) (hC : s.heap.objs.size ≤ C) (hne : C ≠ acc) (hZ : s.heap.objs.size ≤ Z) (hZC : Z ≠ C) (hZa : Z ≠ acc) (hZc : h₁.IsCell Z none)
    (k : ∀ b u, s.heap.get? b = some u → h₁.get? b = some u) (hacc : h₁.get? acc = some { cls := .type "list", data := .seq ([] : List Value).toArray na }) (hns : h₁.Ns C m) :
    Inv (X.compZ s H N' scope cl C fp z Z) [] (compSt n ix σ) (upd H acc (.lst [])) { s with heap := h₁, toks := tk } := by
  have fr : ∀ b : Addr, s.heap.objs.size ≤ b → H b = none := fun b hb => I.hok.fresh hb
  have cellLt : ∀ x c, cl.lookup x = some c → c < s.heap.objs.size := fun x c e => by
    obtain ⟨v, q⟩ := I.cell x c (hcl1 x c e)
    exact q.lt
  have look : ∀ x c, List.lookup x ((z, Z) :: cl) = some c → (x = z ∧ c = Z) ∨ (x ≠ z ∧ cl.lookup x = some c) := fun x c e => by
    rw [List.lookup_cons] at e
    cases hb : x == z with
    | true =>
      rw [hb] at e
      exact .inl ⟨eq_of_beq hb, (Option.some.inj e).symm⟩
    | false =>
      rw [hb] at e
      exact .inr ⟨fun q => by (rw [q, beq_self_eq_true] at hb; cases hb), e⟩
  have look2 : ∀ x, x ≠ z → List.lookup x ((z, Z) :: cl) = cl.lookup x := fun x hx => by
    rw [List.lookup_cons]
    have hb : (x == z) = false := beq_eq_false_iff_ne.mpr hx
    rw [hb]
  have nZ : ∀ x c, cl.lookup x = some c → c ≠ Z := fun x c e q => absurd (cellLt x c e) (by rw [q]; exact Nat.not_lt.mpr hZ)
  refine ⟨⟨I.ok.mod, S.kind, I.ok.glob, I.ok.blt, hC, fun x y c e1 e2 => ?inj, fun x hx => ?has, fun x c e e' => ?cab, I.ok.hd, I.ok.frames, .inl rfl, fun b hb => ⟨Nat.ne_of_lt (Nat.lt_of_lt_of_le (hlt b hb) hC), fun x c e => ?exf⟩,
      I.bs, Nat.le_trans I.ok.bsz I.sz, fun b o e hb => ?noex, fun b hb hs => ?exfs, I.stack, I.stkFree⟩,
    rfl, I.bare, Un.laid k ha (fr acc ha), ⟨m, hns, fun i x v e1 e2 e3 => ?loc⟩, fun x c e => ?cell, ?free, fun x c e => ?freeC, fun p hp => absurd (show p ∈ ([] : List (Addr × Obj)) from hp) (by simp), I.hok.laid k ha ⟨Nat.zero_le _, [], na, .nil, hacc⟩, ?len⟩
  case inj =>
    rcases look x c e1 with ⟨h1, h2⟩ | ⟨h1, h2⟩ <;> rcases look y c e2 with ⟨h3, h4⟩ | ⟨h3, h4⟩
    · rw [h1, h3]
    · exact absurd h2 (nZ y c h4)
    · exact absurd h4 (nZ x c h2)
    · exact I.ok.inj x y c (hcl1 x c h2) (hcl1 y c h4)
  case has =>
    by_cases hxz : x = z
    · exact ⟨Z, by show List.lookup x ((z, Z) :: cl) = _; rw [hxz, List.lookup_cons, beq_self_eq_true]⟩
    · have hx' : scope.names.lookup x = some .free := of_relabelZ (env := X.env) S.onecell hxz hx
      have hm := PySem.mem_of_lookup hx'
      obtain ⟨c, e⟩ := I.ok.has x (S.free _ hm rfl)
      exact ⟨c, by show List.lookup x ((z, Z) :: cl) = _; rw [look2 x hxz]; exact (hcl2 _ hm rfl).trans e⟩
  case cab =>
    rcases look x c e' with ⟨_, h2⟩ | ⟨h1, _⟩
    · rw [h2]; exact hZ
    · exact absurd (eq_of_beq (show (x == z) = true from e)) h1
  case exf =>
    rcases look x c e with ⟨_, h2⟩ | ⟨_, h2⟩
    · rw [h2]; exact Nat.ne_of_gt (Nat.lt_of_lt_of_le (hlt b hb) hZ)
    · exact (hf b hb).2.2.2.2.1 x c (hcl1 x c h2)
  case noex =>
    rcases (hf b hb).2.2.2.1 with z | z
    · exact I.ok.noex b o e z
    · exact absurd (Nat.lt_of_lt_of_le (Heap.lt_size e) (Nat.le_trans I.ok.bsz z)) (Nat.lt_irrefl _)
  case exfs =>
    rcases List.mem_cons.mp (I.stkSub b hs) with z | z
    · exact (hf b hb).2.1 z
    · exact (hf b hb).2.2.1 z
  case loc =>
    have hi : n ≤ i := by
      by_cases hi : n ≤ i
      · exact hi
      · unfold compSt at e2
        rw [List.getElem?_append_left (by simp; omega), List.getElem?_replicate] at e2
        split at e2 <;> cases e2
    obtain ⟨j, rfl⟩ : ∃ j, i = n + j := ⟨i - n, by omega⟩
    unfold compSt at e2
    rw [List.getElem?_append_right (by simp), List.length_replicate, Nat.add_sub_cancel_left, List.getElem?_map] at e2
    cases ej : ix[j]? with
    | none => rw [ej] at e2; cases e2
    | some q =>
      rw [ej] at e2
      have e2' : σ.getD q none = some v := Option.some.inj e2
      have e2'' : σ[q]? = some (some v) := by
        rw [List.getD_eq_getElem?_getD] at e2'
        cases eq : σ[q]? with
        | none => rw [eq] at e2'; cases e2'
        | some z => rw [eq] at e2'; exact congrArg some e2'
      obtain ⟨y, h1, h2, h3⟩ := S.at_ j q ej
      have ey : y = x := Option.some.inj (h1.symm.trans e1)
      subst ey
      have hk := S.free _ h3 rfl
      obtain ⟨mX, _, hl⟩ := I.loc
      obtain ⟨u, r, l⟩ := hl q y v h2 e2'' (.inr hk)
      refine ⟨u, r, .inr ?_⟩
      have hkc : X.env.kindOf y = some .cell ∨ X.env.kindOf y = some .free := hk
      have l' : ∃ c, X.env.cells.lookup y = some c ∧ s.heap.IsCell c (some u) := by
        rcases l with ⟨z, _⟩ | ⟨_, c, ec, hc⟩
        · rcases hkc with q | q <;> (rw [q] at z; cases z)
        · exact ⟨c, ec, hc⟩
      obtain ⟨c, ec, o, ho, hd⟩ := l'
      have e3' : Vis (relabel scope X.env) y := e3
      have hyz : y ≠ z := S.nz y h3
      refine ⟨?_, c, by show List.lookup y ((z, Z) :: cl) = _; rw [look2 y hyz]; exact (hcl2 _ h3 rfl).trans ec, o, k _ _ ho, hd⟩
      -- its kind in the block
      have nl : scope.names.lookup y ≠ some .local := fun z => ?_
      · cases el : scope.names.lookup y with
        | none =>
          have : (relabel scope X.env).names.lookup y = none := by rw [relabel_lookup, el]; rfl
          rcases e3' with z | z | z <;> (rw [this] at z; cases z)
        | some kk =>
          have hmem := PySem.mem_of_lookup el
          have ncell : kk ≠ .cell := fun q => hyz (S.onecell _ hmem q)
          have hr : (relabel scope X.env).names.lookup y = some (if (kk == NameKind.free && X.env.scope.kind == .function && X.env.kindOf y == some .cell) = true then .cell else kk) := by rw [relabel_lookup, el]; rfl
          by_cases hkf : kk = .free
          · subst hkf
            exact relabel_free (env := X.env) el
          · have hb : (kk == NameKind.free) = false := by simpa using hkf
            have hr' : (relabel scope X.env).names.lookup y = some kk := by rw [hr, hb]; rfl
            rcases e3' with z | z | z
            · rw [hr'] at z; cases z; exact absurd el nl
            · rw [hr'] at z; cases z; exact absurd rfl ncell
            · rw [hr'] at z; cases z; exact absurd rfl hkf
      · exact S.nodup _ h3 z
  case cell =>
    rcases look x c e with ⟨_, h2⟩ | ⟨_, h2⟩
    · rw [h2]; exact ⟨none, hZc⟩
    · obtain ⟨v, o, ho, hd⟩ := I.cell x c (hcl1 x c h2)
      exact ⟨v, o, k _ _ ho, hd⟩
  case free =>
    show upd H acc (.lst []) C = none
    rw [upd_ne hne]; exact fr C hC
  case freeC =>
    show upd H acc (.lst []) c = none
    rcases look x c e with ⟨_, h2⟩ | ⟨_, h2⟩
    · rw [h2, upd_ne hZa]; exact fr Z hZ
    · have := cellLt x c h2
      rw [upd_ne (Nat.ne_of_lt (Nat.lt_of_lt_of_le this ha))]
      exact I.freeC x c (hcl1 x c h2)
  case len =>
    show (compSt n ix σ).length = N'.length
    unfold compSt
    rw [List.length_append, List.length_replicate, List.length_map, S.len]
end
section
variable {X : Cx} {elt tg iter : Expr} {ifs : List Expr} {scope : Scope} {pos : Pos} {wi : TI} {g : TG} {tt : TT} {te : TE} {N' : List Str} {n : Nat} {ix : List Nat}
theorem lc_coreZ {z : Str} {pins : List (Addr × Obj)} {σ : St} {H2 : Hp} {s2 : Shared} {cl : List (Str × Addr)} {it : Addr} {fp : List Addr} {tn : Nat → Heap → Prop} {J : It} {Q : VK} {R : Value → Addr → Result → Shared → Prop}
    (hc : X.calm = true) (S : CompScopeZ X scope N' n ix z)
    (hY : ∀ s₂ H₂ cl C fp Z, PG (X.compZ s₂ H₂ N' scope cl C fp z Z) tg g ∧ PTs (X.compZ s₂ H₂ N' scope cl C fp z Z) ifs tt ∧ PE (X.compZ s₂ H₂ N' scope cl C fp z Z) elt te)
    (I2 : Inv X pins σ H2 s2) (hcl1 : ∀ x c, cl.lookup x = some c → X.env.cells.lookup x = some c) (hcl2 : ∀ y ∈ scope.names, y.2 = .free → cl.lookup y.1 = X.env.cells.lookup y.1)
    (T : Turn X.prog X.w X.K tg J fp it tn) (st2 : tn 0 s2.heap) (f2 : ∀ b ∈ fp, FpOk X pins H2 b)
    (hW : LcW J H2 g tt te n ix σ Q)
    (hR : ∀ acc C s' H' m, s'.heap.Ns C m → Inv X pins σ H' s' → H' C = none → C ≠ X.env.locals → (C ∈ X.ex ∨ X.s₀.heap.objs.size ≤ C) → (∀ x c, X.env.cells.lookup x = some c → c ≠ C) → (∀ p ∈ X.pn ++ pins, p.1 ≠ C) → C ∉ X.fs → Q (.ref acc) H' → R (.ref acc) C (.ok .next) s') :
    wpAny (model X.prog X.w) X.A (newList []) (fun acc s₃ => wpAny (model X.prog X.w) X.A (newFunctionEnv scope X.env.globals cl [] X.env.qual none .none (some X.env)) (fun cenv s₄ =>
      codeAny (model X.prog X.w) X.A (.compStart (.ListComp elt [⟨tg, iter, ifs, 0⟩] scope pos) 0 (.ref it) acc { cenv with scope := relabel scope X.env }) (R acc cenv.locals) s₄) X.xe s₃) X.xe s2 := by
  refine wpAny_newObj_type (newEnvZ (z := z) (fun a => S.cf a cl) S.pc fun env' he' => ?_)
  subst he'
  dsimp only
  generalize hH2 : s2.heap.push { cls := .type "list", dict := none, data := .seq ([] : List Value).toArray } = G
  have hC : G.objs.size = s2.heap.objs.size + 1 := by rw [← hH2, Heap.size_push]
  generalize hh1 : (G.push { cls := .type "dict", data := .dict #[] }).push { cls := .type "cell", data := .cell none } = h₁
  have hkp : ∀ b o, G.get? b = some o → h₁.get? b = some o := fun b o e => hh1 ▸ Heap.get?_push_of_some _ (Heap.get?_push_of_some _ e)
  have hns₁ : h₁.Ns G.objs.size fun _ => none := hh1 ▸ (Heap.Ns.new G (.type "dict")).keeps fun b o e => Heap.get?_push_of_some _ e
  have hZc : h₁.IsCell (G.objs.size + 1) none := by
    rw [← hh1]
    refine ⟨{ cls := .type "cell", data := .cell none }, ?_, rfl⟩
    have := Heap.get?_push_size (G.push { cls := .type "dict", data := .dict #[] }) (o := { cls := .type "cell", data := .cell none }) rfl
    rwa [Heap.size_push] at this
  have hlt : ∀ b ∈ fp, b < s2.heap.objs.size := fun b hb => by
    obtain ⟨o, e, _⟩ := T.obj _ _ st2 b hb
    exact Heap.lt_size e
  have old : ∀ b o, s2.heap.get? b = some o → h₁.get? b = some o := fun b o e => hkp b o (hH2 ▸ Heap.get?_push_of_some _ e)
  have hacc : h₁.get? s2.heap.objs.size = some { cls := .type "list", dict := none, data := .seq ([] : List Value).toArray } := hkp _ _ (hH2 ▸ Heap.get?_push_size _ rfl)
  obtain ⟨W, ⟨m0, w0⟩, turn⟩ := hW s2.heap.objs.size (I2.hok.fresh (Nat.le_refl _))
  obtain ⟨hYg, hYt, hYe⟩ := hY s2 H2 cl G.objs.size fp (G.objs.size + 1)
  have fpY : ∀ {H' : Hp}, (∀ b ∈ fp, H' b = none) → ∀ b ∈ fp, FpOk (X.compZ s2 H2 N' scope cl G.objs.size fp z (G.objs.size + 1)) [] H' b := fun {H'} hn b hb => by
    obtain ⟨_, q1, q2, q3, q4, q5⟩ := f2 b hb
    refine ⟨hn b hb, ?_, fun z => ?_, .inl hb, fun x c e => ?_, fun p hp => absurd (show p ∈ ([] : List (Addr × Obj)) from hp) (by simp)⟩
    · show b ≠ G.objs.size
      rw [hC]
      exact Nat.ne_of_lt (Nat.lt_succ_of_lt (hlt b hb))
    · rcases List.mem_cons.mp (I2.stkSub b z) with y | y
      · exact q1 y
      · exact q2 y
    · have e' : List.lookup x ((z, G.objs.size + 1) :: cl) = some c := e
      rw [List.lookup_cons] at e'
      cases hb' : x == z with
      | true =>
        rw [hb'] at e'
        have e2 : G.objs.size + 1 = c := Option.some.inj e'
        rw [← e2, hC]
        have := hlt b hb
        exact Nat.ne_of_gt (Nat.lt_of_lt_of_le this (Nat.le_trans (Nat.le_succ _) (Nat.le_succ _)))
      | false =>
        rw [hb'] at e'
        exact q4 x c (hcl1 x c e')
  have loop : ∀ s₃ : Shared, s₃ = { s2 with heap := h₁ } →
      codeAny (model X.prog X.w) X.A (.compLoop (.ListComp elt [⟨tg, iter, ifs, 0⟩] scope pos) 0 (.ref it) (.ref s2.heap.objs.size) (compEnvC scope ((z, G.objs.size + 1) :: cl) G.objs.size X.env)) (R (.ref s2.heap.objs.size) G.objs.size) s₃ := by
    rintro s₃ rfl
    have I4 := inv_compZ (Z := G.objs.size + 1) (tk := s2.toks) I2 S hcl1 hcl2 f2 hlt (Nat.le_refl _) (by rw [hC]; exact Nat.le_succ _) (by rw [hC]; exact Nat.ne_of_gt (Nat.lt_succ_self _)) (by rw [hC]; exact Nat.le_trans (Nat.le_succ _) (Nat.le_succ _)) (Nat.ne_of_gt (Nat.lt_succ_self _)) (by rw [hC]; exact Nat.ne_of_gt (Nat.lt_succ_of_lt (Nat.lt_succ_self _))) hZc old hacc hns₁
    refine compLoop_gen (fun n' s' => ∃ i H', Inv (X.compZ s2 H2 N' scope cl G.objs.size fp z (G.objs.size + 1)) [] (compSt n ix σ) H' s' ∧ tn i s'.heap ∧ (∀ b ∈ fp, H' b = none) ∧ W i n' H') ?_ m0
      ⟨0, _, I4, T.keep _ _ _ st2 fun b hb o e => old b o e, fun b hb => ?_, w0⟩
    · rintro n' s3 ⟨i, H3, I3, st3, fr3, w3⟩
      rcases turn i n' H3 w3 with ⟨stop, q⟩ | ⟨go, step⟩
      · refine thn (T.done (X.compZ s2 H2 N' scope cl G.objs.size fp z (G.objs.size + 1)) rfl rfl rfl hc i [] s3 _ H3 _ I3 (fpY fr3) st3 stop) fun r s4 ⟨hr, I5⟩ => ?_
        subst hr
        obtain ⟨mC, hnC, _⟩ := I5.loc
        have IX : Inv X pins σ H3 s4 := I2.call' I5.os I5.base I5.hok I5.bare fun b hb => by
          obtain ⟨_, q1, q2, q3, q4, q5⟩ := f2 b hb
          exact ⟨q3, q1, q4, q5⟩
        refine hR _ _ s4 H3 mC hnC IX I5.free ?_ (.inr ?_) (fun x c e z => ?_) (fun p hp z => ?_) (I2.nofs (by rw [hC]; exact Nat.le_succ _)) q
        · rw [hC]
          exact Nat.ne_of_gt (Nat.lt_succ_of_lt I2.lt)
        · rw [hC]
          exact Nat.le_succ_of_le I2.sz
        · obtain ⟨v, q⟩ := I2.cell x c e
          rw [hC] at z
          exact absurd z (Nat.ne_of_lt (Nat.lt_succ_of_lt q.lt))
        · rw [hC] at z
          exact absurd z (Nat.ne_of_lt (Nat.lt_succ_of_lt (Heap.lt_size (I2.pin p hp).1)))
      · refine thn (T.item (X.compZ s2 H2 N' scope cl G.objs.size fp z (G.objs.size + 1)) rfl rfl rfl hc i [] s3 _ H3 _ I3 (fpY fr3) st3 go) fun r s4 ⟨u, hr, h4⟩ => ?_
        subst hr
        refine thn h4 fun _ s5 ⟨x, H5, I5, r5, y5, st5, fr5⟩ => ?_
        have I5' := I5.pinned (fpY fr5) (T.obj _ _ st5)
        refine thn (hYg _ s5 _ H5 x u _ I5' r5 (step x H5 y5)) fun _ s6 ⟨σ6, H6, I6, wk, q6⟩ => ?_
        have back : ∀ {H' : Hp} {s' : Shared}, Inv (X.compZ s2 H2 N' scope cl G.objs.size fp z (G.objs.size + 1)) ([] ++ pinsAt fp s5.heap) σ6 H' s' →
            Inv (X.compZ s2 H2 N' scope cl G.objs.size fp z (G.objs.size + 1)) [] (compSt n ix σ) H' s' ∧ tn (i + 1) s'.heap ∧ ∀ b ∈ fp, H' b = none := fun {H' s'} I7 => by
          refine ⟨I7.unpinned.weak wk.1 wk.2, T.keep _ _ _ st5 fun b hb o e => (I7.pin (b, o) (List.mem_append_right _ (List.mem_append_right _ (mem_pinsAt hb e)))).1, fun b hb => ?_⟩
          obtain ⟨o, e, d⟩ := T.obj _ _ st5 b hb
          exact (I7.pin (b, o) (List.mem_append_right _ (List.mem_append_right _ (mem_pinsAt hb e)))).2.1
        refine thn (hYt _ s6 σ6 H6 _ I6 q6) fun ok s7 ⟨H7, I7, q7⟩ => ?_
        cases ok with
        | false =>
          rw [if_neg Bool.false_ne_true] at q7 ⊢
          obtain ⟨m', hm, w7⟩ := q7
          obtain ⟨b1, b2, b3⟩ := back I7
          exact ⟨m', hm, i + 1, H7, b1, b2, b3, w7⟩
        | true =>
          rw [if_pos rfl] at q7 ⊢
          refine thn (hYe _ s7 σ6 H7 _ I7 q7) fun xv s8 ⟨v8, H8, I8, r8, ys, ha, hz, m', hm, w8⟩ => ?_
          refine thn (mt_append _ s8 σ6 H8 (.ref s2.heap.objs.size) [v8] (.ref s2.heap.objs.size) [xv] (fun _ H' => H' = upd H8 s2.heap.objs.size (.lst (ys ++ [v8]))) I8 rfl (.cons r8 .nil) ⟨_, ys, v8, rfl, rfl, ha, hz, rfl⟩) fun _ s9 ⟨_, H9, I9, _, e9⟩ => ?_
          subst e9
          obtain ⟨b1, b2, b3⟩ := back I9
          exact ⟨m', hm, i + 1, _, b1, b2, b3, w8⟩
    · rw [upd_ne (Nat.ne_of_lt (hlt b hb))]
      exact (f2 b hb).1
  exact codeAny_compStart_list (loop _ rfl) (T.self _ 0 _ _ _ (T.keep _ _ _ st2 fun b hb o e => old b o e) (loop _ rfl))

end
end L2


namespace L2
open PySem PySem.Spec PyProof.Rows
mutual
inductive IsK (K : PySem.W.Frag) (H : Hp) : V → PyData → Prop
  | non : IsK K H .non .none
  | bl (b : Bool) : IsK K H (.bl b) (.bool b)
  | int (i : Int) : IsK K H (.int i) (.int i)
  | str (x : Str) : IsK K H (.str x) (.str x)
  | tup {a : Addr} {vs : List V} {ds : List PyData} : SqT K H a vs → IsAllK K H vs ds → IsK K H (.ref a) (.tuple ds)
  | lst {a : Addr} {vs : List V} {ds : List PyData} : H a = some (.lst vs) → IsAllK K H vs ds → IsK K H (.ref a) (.list ds)
inductive IsAllK (K : PySem.W.Frag) (H : Hp) : List V → List PyData → Prop
  | nil : IsAllK K H [] []
  | cons {v : V} {vs : List V} {d : PyData} {ds : List PyData} : IsK K H v d → IsAllK K H vs ds → IsAllK K H (v :: vs) (d :: ds)
end

section
variable {X : Cx} {pins : List (Addr × Obj)} {σ : St} {H : Hp} {s : Shared}

def rEqK (K : PySem.W.Frag) : R2 := fun x y H Q => ∃ d e, IsK K H x d ∧ IsK K H y e ∧ SeqAt.shaped d = true ∧ SeqAt.shaped e = true ∧ Q (.bl (PyData.eqv d e)) H
def rNeK (K : PySem.W.Frag) : R2 := fun x y H Q => ∃ d e, IsK K H x d ∧ IsK K H y e ∧ SeqAt.shaped d = true ∧ SeqAt.shaped e = true ∧ Q (.bl (!PyData.eqv d e)) H
end


def rIsiA (K : PySem.W.Frag) : List V → Hp → VK → Prop := fun xs H Q => ∃ x T t b, xs = [x, .ty T] ∧ (TyOf K H x t ∨ ∃ a ys, x = .ref a ∧ SqT K H a ys ∧ t = .type "tuple") ∧ PySem.W.kitOne K t (.type T) = some b ∧ Q (.bl b) H
abbrev RowsK (K : PySem.W.Frag) (H : Hp) (zs : List Addr) (rows : List (List Int)) : Prop := Paired (fun (z : Addr) (r : List Int) => SqT K H z (r.map V.int)) zs rows
def AlikeK (K : PySem.W.Frag) (H : Hp) : Nat → V → V → Prop
  | 0, x, y => ∃ a : Int, x = .int a ∧ y = .int a
  | n + 1, x, y => (∃ a : Int, x = .int a ∧ y = .int a) ∨ ∃ a b xs ys, x = .ref a ∧ y = .ref b ∧ SqT K H a xs ∧ SqT K H b ys ∧ xs.length ≤ 1000 ∧ Paired (AlikeK K H n) xs ys
def spSameK (K : PySem.W.Frag) (n : Nat) : Sp := fun vs H Q _ => ∃ x y, vs = [x, y] ∧ AlikeK K H n x y ∧ ∀ H', Same H H' → Q (.bl true) H'
end L2


namespace L2
open PySem PySem.Spec PyProof.Rows
def Pot (H : Hp) (p q : Addr) : Prop := ∃ (ns : List Int) (seed turn : Int), H p = some (.lst [.ref q, .int seed, .int turn]) ∧ H q = some (.lst (ns.map V.int)) ∧ (∀ n ∈ ns, 0 ≤ n) ∧ ns.length ≤ 63
def spPot (K : PySem.W.Frag) : Sp := fun vs H Q _ => ∃ (a : Addr) (ns : List Int), vs = [.ref a] ∧ SqL K H a (ns.map V.int) ∧ ns.length ≤ 63 ∧ ∀ p q H', Same H H' → Pot H' p q → H p = none → H q = none → Q (.ref p) H'
def spTake : Sp := fun vs H Q _ => ∃ (p q : Addr) (m : Int), vs = [.ref p, .int m] ∧ 0 < m ∧ m < 1073741824 ∧ Pot H p q ∧ ∀ d H', 0 ≤ d → d < m → Pot H' p q → Keep p q H H' → Q (.int d) H'
theorem op_mulW {X : Cx} : OpR X (binaryOp .Mult) (rI (fun i j => IntMulOk i j) fun i j => .int (i * j)) := opI fun _ _ _ _ _ _ _ hc q => mul_int q hc
end L2
namespace L2
open PySem PySem.Spec PyProof.Rows
def atZ (ns : List Int) (k : Int) : Int := if k < 0 then 0 else ns.getD k.toNat 0
def spNumAt (K : PySem.W.Frag) : Sp := fun vs H Q _ => ∃ (a : Addr) (ns : List Int) (k : Int), vs = [.ref a, .int k] ∧ SqT K H a (ns.map V.int) ∧ Q (.int (atZ ns k)) H
end L2
namespace L2
open PySem PySem.Spec PyProof.Rows
def roundsRow (m : Nat) (ns : List Int) : List Int := (num0 (m + 1)).map fun k => atZ ns (k - 1) + ((m : Int) - 1) * atZ ns k
def staysRow (m : Nat) (ns : List Int) : List Int := (num0 (m + 1)).map fun k => atZ ns (k - 1) + ((m : Int) - 1 - k) * atZ ns k + (k + 1) * atZ ns (k + 1)
def risesRow (m : Nat) (ns : List Int) : List Int := (num0 m).map fun k => (k + 1) * atZ ns k + ((m : Int) - k) * atZ ns (k - 1)
def spRow (K : PySem.W.Frag) (B : Nat) (g : Nat → List Int → List Int) : Sp := fun vs H Q _ => ∃ (m : Nat) (a : Addr) (ns : List Int), vs = [.int m, .ref a] ∧ 1 ≤ m ∧ m ≤ B ∧ SqT K H a (ns.map V.int) ∧ ns.length ≤ 1000 ∧ ∀ p H', Same H H' → H' p = some (.tup ((g m ns).map V.int)) → Q (.ref p) H'
end L2
namespace L2
open PySem PySem.Spec PyProof.Rows
section
variable {X : Cx}
def rSlK (K : PySem.W.Frag) : V → Option Int → Option Int → Hp → VK → Prop := fun x lo hi H Q => ∃ a xs, x = .ref a ∧ SqT K H a xs ∧ ∀ p H', Same H H' → SqT K H' p (cutV xs lo hi) → Q (.ref p) H'
def rSumT (K : PySem.W.Frag) : List V → Hp → VK → Prop := fun xs H Q => ∃ (l : Addr) (ns : List Int), xs = [.ref l] ∧ SqT K H l (ns.map V.int) ∧ Q (.int ns.sum) H
end
def win (ns : List Int) (lo : Int) (n : Nat) : Int := ((List.range n).map fun (i : Nat) => atZ ns (lo + (i : Int))).sum
end L2
namespace L2
open PySem PySem.Spec PyProof.Rows
def crossedRow (m : Nat) (ns : List Int) : List Int := (num0 (m * (m - 1) / 2 + 1)).map fun k => win ns (k - (m : Int) + 1) m
end L2
namespace L2
open PySem PySem.Spec PyProof.Rows
def kinds5 : List Str := ["rounds", "stays", "rises", "highs", "crossed"]
def rowOf (kind : Str) (m : Nat) (ns : List Int) : List Int :=
  if kind = "crossed" then crossedRow m ns else if kind = "rises" then risesRow m ns else if kind = "stays" then staysRow m ns else roundsRow m ns
def bOf (kind : Str) : Nat := if kind = "crossed" then 24 else 60
def spNext (K : PySem.W.Frag) : Sp := fun vs H Q _ => ∃ (kind : Str) (m : Nat) (a : Addr) (ns : List Int), vs = [.str kind, .int m, .ref a] ∧ kind ∈ kinds5 ∧ 1 ≤ m ∧ m ≤ bOf kind ∧ SqT K H a (ns.map V.int) ∧ ns.length ≤ 1000 ∧ ∀ p H', Same H H' → H' p = some (.tup ((rowOf kind m ns).map V.int)) → Q (.ref p) H'
def rowZ (kind : Str) : Nat → List Int
  | 0 => [1]
  | n + 1 => rowOf kind (n + 1) (rowZ kind n)
def rowsZ (kind : Str) (n : Nat) : List (List Int) := (List.range (n + 1)).map (rowZ kind)
def spSteps (K : PySem.W.Frag) : Sp := fun vs H Q _ => ∃ (kind : Str) (m : Nat), vs = [.str kind, .int m] ∧ kind ∈ kinds5 ∧ m ≤ bOf kind ∧ ∀ p zs H', Same H H' → H' p = some (.tup (zs.map V.ref)) → RowsK K H' zs (rowsZ kind m) → Q (.ref p) H'
def spTold (K : PySem.W.Frag) : Sp := fun vs H Q _ => ∃ (kind : Str) (m : Nat), vs = [.str kind, .int m] ∧ kind ∈ kinds5 ∧ m ≤ bOf kind ∧ ∀ p H', Same H H' → SqT K H' p ((rowZ kind m).map V.int) → Q (.ref p) H'
end L2
namespace L2
end L2
namespace L2
open PySem PySem.Spec PyProof.Rows
def wideZ (n : Nat) (ns : List Int) : List Int := List.replicate (n + 1) 0 ++ ns ++ List.replicate (n * (n + 1) + 2) 0
end L2
namespace L2
open PySem PySem.Spec PyProof.Rows
end L2
namespace L2
open PySem PySem.Spec PyProof.Rows
end L2


namespace L2
open PySem PySem.Spec PyProof.Rows
structure TopX (mg : Str → Option Value) : Prop where
  n_str : mg "str" = none
  n_repr : mg "repr" = none
  n_divmod : mg "divmod" = none
structure TopXK (K : PySem.W.Frag) : Prop where
  k_str : PySem.W.nsIn K mainGlobals "str" = some none
  k_repr : PySem.W.nsIn K mainGlobals "repr" = some none
  k_divmod : PySem.W.nsIn K mainGlobals "divmod" = some none
def Pot2 (H : Hp) (p : Addr) : Prop := ∃ own mixed : Int, H p = some (.lst [.int own, .int mixed]) ∧ 0 ≤ own ∧ 0 ≤ mixed ∧ mixed < 18446744073709551557
def spPot2 (K : PySem.W.Frag) : Sp := fun vs H Q _ => ∃ (a : Addr) (ns : List Int) (k : Int), vs = [.ref a, .int k] ∧ SqL K H a (ns.map V.int) ∧ 0 ≤ k ∧ k ≤ 1000 ∧ ∀ p H', Same H H' → Pot2 H' p → H p = none → Q (.ref p) H'
def spNext2 : Sp := fun vs H Q _ => ∃ (p : Addr) (m : Int), vs = [.ref p, .int m] ∧ 0 < m ∧ m < 1073741824 ∧ Pot2 H p ∧ ∀ d H', 0 ≤ d → d < m → Pot2 H' p → Keep p p H H' → Q (.int d) H'
def spOf2 : Sp := fun vs H Q _ => ∃ (p l : Addr) (xs : List V), vs = [.ref p, .ref l] ∧ H l = some (.lst xs) ∧ l ≠ p ∧ 0 < xs.length ∧ xs.length ≤ 1000 ∧ Pot2 H p ∧ ∀ x ∈ xs, ∀ H', Pot2 H' p → Keep p p H H' → Q x H'
def spNumber2 : Sp := fun vs H Q _ => ∃ (p l : Addr) (ns : List Int), vs = [.ref p, .ref l] ∧ H l = some (.lst (ns.map V.int)) ∧ l ≠ p ∧ 0 < ns.length ∧ ns.length ≤ 1000 ∧ (∀ n ∈ ns, n < 1073741824) ∧ Pot2 H p ∧ ∀ n ∈ ns, ∀ d H', (0 < n → 0 ≤ d ∧ d < n) → (¬ 0 < n → d = -n) → Pot2 H' p → Keep p p H H' → Q (.int d) H'
end L2
namespace L2
open PySem PySem.Spec PyProof.Rows
def AlikeW (H : Hp) : Nat → V → V → Prop
  | 0, x, y => ∃ a : Int, x = .int a ∧ y = .int a
  | n + 1, x, y => (∃ a : Int, x = .int a ∧ y = .int a) ∨ ∃ a b xs ys, x = .ref a ∧ y = .ref b ∧ H a = some (.tup xs) ∧ H b = some (.tup ys) ∧ xs.length < sizeLine ∧ Paired (AlikeW H n) xs ys
def spSameW (n : Nat) : Sp := fun vs H Q _ => ∃ x y, vs = [x, y] ∧ AlikeW H n x y ∧ ∀ H', Same H H' → Q (.bl true) H'
theorem lc_growF {J : It} {Ok : Hp → Prop} {xs : List V} {tt : TT} {te : TE} {ix : List Nat} {σ : L2.St} {H1 : Hp} {Q : VK} (Y : Yields J Ok xs) (small : xs.length < sizeLine) (p : V → Bool) (R : V → V → Hp → Prop) (hR : ∀ x v H H', SameT H H' → R x v H → R x v H') (hok : ∀ H, Same H1 H → Ok H)
    (ht : ∀ x ∈ xs, ∀ H, Same H1 H → ∀ Q' : Bool → Hp → Prop, Q' (p x) H → tt (some x :: ix.map fun i => σ.getD i none) H Q')
    (he : ∀ x ∈ xs, p x = true → ∀ H, Same H1 H → ∀ Q' : VK, (∀ v H', Same H H' → R x v H' → Q' v H') → te (some x :: ix.map fun i => σ.getD i none) H Q')
    (fin : ∀ acc ys H', H1 acc = none → Same H1 H' → H' acc = some (.lst ys) → Paired (fun x v => R x v H') (xs.filter p) ys → Q (.ref acc) H') :
    LcW J H1 (gName 0) tt te 1 ix σ Q := by
  intro acc ha
  refine ⟨fun i m H => m = xs.length - i ∧ i ≤ xs.length ∧ Same H1 H ∧ ∃ ys, H acc = some (.lst ys) ∧ Paired (fun x v => R x v H) ((xs.take i).filter p) ys, ⟨xs.length, by simp, Nat.zero_le _, same_upd ha, [], upd_same, .nil⟩, ?_⟩
  rintro i m H ⟨rfl, hi, sm, ys, hacc, pr⟩
  have o := hok _ sm
  have hlen : ys.length ≤ i := by
    rw [← Paired.length pr]
    exact Nat.le_trans (List.length_filter_le _ _) (by rw [List.length_take]; omega)
  by_cases hlt : i < xs.length
  · refine .inr ⟨Y.go i _ o hlt, fun x H' y => ?_⟩
    obtain ⟨rfl, hx⟩ := Y.yld i _ x H' o hlt y
    have hmem : x ∈ xs := List.mem_of_getElem? hx
    have htk : xs.take (i + 1) = xs.take i ++ [x] := by
      rw [List.take_succ, hx]; rfl
    refine ⟨⟨rfl, fun j v e => ?_⟩, ?_⟩
    · cases j with
      | zero => cases e
      | succ j => exact e
    · refine ht x hmem _ sm _ ?_
      cases hp : p x with
      | false =>
        rw [if_neg Bool.false_ne_true]
        refine ⟨xs.length - (i + 1), by omega, rfl, hlt, sm, ys, hacc, ?_⟩
        rw [htk, List.filter_append]
        simpa [hp] using pr
      | true =>
        rw [if_pos rfl]
        refine he x hmem hp _ sm _ fun v H4 s4 r4 => ?_
        have h4 : H4 acc = some (.lst ys) := s4 _ _ hacc
        refine ⟨ys, h4, by omega, xs.length - (i + 1), by omega, rfl, hlt, same_updR (sm.trans s4) ha, ys ++ [v], upd_same, ?_⟩
        have st : SameT H4 (upd H4 acc (.lst (ys ++ [v]))) := sameT_lst h4
        rw [htk, List.filter_append, show [x].filter p = [x] by simp [hp]]
        exact Paired.snoc (Paired.mapP pr fun x' v' r' => hR _ _ _ _ (s4.t.trans st) r') (hR _ _ _ _ st r4)
  · have e : i = xs.length := by omega
    subst e
    refine .inl ⟨Y.stop _ o, ?_⟩
    rw [List.take_length] at pr
    exact fin acc ys H ha sm hacc pr
end L2
namespace L2
open PySem PySem.Spec PyProof.Rows
def numF (lo : Int) (n : Nat) : List Int := (List.range n).map fun (i : Nat) => lo + (i : Int)
def prsAt (m : Nat) (k : Int) : List (Int × Int) := (numF (k + 1) ((m : Int) - (k + 1)).toNat).map fun j => (k, j)
def prsZ (m i : Nat) : List (Int × Int) := (num0 i).flatMap (prsAt m)
def rowP (kj : Int × Int) : List Int := [kj.1, kj.2]
def onesZ (n : Nat) : List (List Int) := (num0 n).map fun k => [k]
def partsZ (kind : Str) (m : Nat) : List (List Int) := if kind = "crossed" then (prsZ m m).map rowP else if kind = "rises" then onesZ (m - 1) else onesZ m
def RTab (g : Int → List Int) (x v : V) (H : Hp) : Prop := ∃ (k : Int) (z : Addr), x = .int k ∧ v = .ref z ∧ H z = some (.tup ((g k).map V.int))
theorem tab_rows {H : Hp} {g : Int → List Int} : ∀ {ks : List Int} {vs : List V}, Paired (fun x v => RTab g x v H) (ks.map V.int) vs → ∃ zs : List Addr, vs = zs.map V.ref ∧ RowsAt H zs (ks.map g)
  | [], _, .nil => ⟨[], rfl, .nil⟩
  | k :: ks, _, .cons p t => by
    obtain ⟨k', z, e1, rfl, h⟩ := p
    cases e1
    obtain ⟨zs, rfl, R⟩ := tab_rows t
    exact ⟨z :: zs, rfl, .cons h R⟩
def RPrs (xy : V × V) (v : V) (H : Hp) : Prop := ∃ (k j : Int) (z : Addr), xy = (.int k, .int j) ∧ v = .ref z ∧ H z = some (.tup [.int k, .int j])
def ysP (m : Nat) : V → List V := fun x => match x with | .int k => rangeV (k + 1) ((m : Int) - (k + 1)).toNat | _ => []
def spParts : Sp := fun vs H Q _ => ∃ (kind : Str) (m : Nat), vs = [.str kind, .int m] ∧ kind ∈ kinds5 ∧ m ≤ 60 ∧ ∀ p zs H', Same H H' → H' p = some (.tup (zs.map V.ref)) → RowsAt H' zs (partsZ kind m) → Q (.ref p) H'
def spPart (rows : Nat → List (List Int)) : Sp := fun vs H Q _ => ∃ (m : Nat), vs = [.int m] ∧ m ≤ 60 ∧ ∀ p zs H', Same H H' → H' p = some (.tup (zs.map V.ref)) → RowsAt H' zs (rows m) → Q (.ref p) H'
def spLawParts : Sp := fun vs H Q _ => ∃ (kind : Str) (m : Nat), vs = [.str kind, .int m] ∧ kind ∈ kinds5 ∧ m ≤ 60 ∧ ∀ p zs H', Same H H' → H' p = some (.lst (zs.map V.ref)) → RowsAt H' zs (partsZ kind m) → Q (.ref p) H'
end L2
namespace L2
open PySem PySem.Spec PyProof.Rows
theorem Paired.append {α β : Type} {F : α → β → Prop} : ∀ {l1 l2 : List α} {v1 v2 : List β}, Paired F l1 v1 → Paired F l2 v2 → Paired F (l1 ++ l2) (v1 ++ v2)
  | _, _, _, _, .nil, h => h
  | _, _, _, _, .cons r t, h => .cons r (Paired.append t h)
end L2


namespace L2
open PySem PySem.Spec PyProof.Rows
def Shows (d : PyData) : Prop := d.showable = true ∧ d.depth ≤ 60 ∧ d.shown.length ≤ sizeLine
def rReprK (K : PySem.W.Frag) : List V → Hp → VK → Prop := fun xs H Q => ∃ x d, xs = [x] ∧ IsK K H x d ∧ Shows d ∧ Q (.str d.shown) H
def Shw (n : Int) : Prop := n.natAbs.log2 < 1920
end L2
namespace L2
open PySem PySem.Spec PyProof.Rows
theorem op_fdivW {X : Cx} : OpR X (binaryOp .FloorDiv) (rI (fun _ j => 0 < j ∧ j < 10000000000000000000000000000000000000000) fun i j => .int (i / j)) := opI fun i j _ _ _ _ _ hc q => by
  have e : i / j = i.fdiv j := (Int.fdiv_eq_ediv_of_nonneg _ (Int.le_of_lt hc.1)).symm
  rw [e] at q
  refine floordiv_int (by omega) q (.inl (PyProof.noPylong_of_log2 ?_))
  have h0 : j.natAbs ≠ 0 := by omega
  rw [Nat.log2_lt h0]
  have h3 : (2 : Nat) ^ 133 ≤ 2 ^ 9000 := Nat.pow_le_pow_right (by decide) (by decide)
  refine Nat.lt_of_lt_of_le ?_ h3
  have h1 := hc.2
  have e2 : (2 : Nat) ^ 133 = 10889035741470030830827987437816582766592 := by decide
  omega
def Pot3 (H : Hp) (p : Addr) (n : Nat) : Prop := ∃ own seed turn : Int, H p = some (.lst [.int own, .int seed, .int turn]) ∧ 0 ≤ own ∧ 0 ≤ seed ∧ seed < 2305843009222000000 ∧ 0 ≤ turn ∧ turn ≤ n
theorem Pot3.same {p : Addr} {n : Nat} {H H' : Hp} (h : Pot3 H p n) (s : Same H H') : Pot3 H' p n := by
  obtain ⟨o, m, t, h1, h2⟩ := h
  exact ⟨o, m, t, s _ _ h1, h2⟩
theorem Pot3.more {p : Addr} {n m : Nat} {H : Hp} (h : Pot3 H p n) (l : n ≤ m) : Pot3 H p m := by
  obtain ⟨o, s, t, h1, h2, h3, h4, h5, h6⟩ := h
  exact ⟨o, s, t, h1, h2, h3, h4, h5, by omega⟩
theorem Pot3.keepT {p : Addr} {n : Nat} {H H' : Hp} (h : Pot3 H p n) (k : Keep p p H H') {a : Addr} {xs : List V} (ha : H a = some (.tup xs)) : H' a = some (.tup xs) := by
  obtain ⟨o, m, t, h1, h2⟩ := h
  have : a ≠ p := ne_of ha h1 (by intro z; cases z)
  exact k a _ ha this this
theorem Pot3.ne_new {p l : Addr} {n : Nat} {H : Hp} (h : Pot3 H p n) (hl : H l = none) : l ≠ p := by
  obtain ⟨o, m, t, h1, h2⟩ := h
  intro e
  rw [e, h1] at hl
  cases hl
def spBegin (K : PySem.W.Frag) : Sp := fun vs H Q _ => ∃ (a : Addr) (ns : List Int) (k : Int), vs = [.ref a, .int k] ∧ SqL K H a (ns.map V.int) ∧ 0 ≤ k ∧ k ≤ 1000 ∧ ∀ p H', Same H H' → Pot3 H' p 0 → H p = none → Q (.ref p) H'
def spDraw : Sp := fun vs H Q _ => ∃ (p : Addr) (m : Int) (n : Nat), vs = [.ref p, .int m] ∧ 0 < m ∧ m < 10000000000000000000000000000000000000000 ∧ Pot3 H p n ∧ n < 1000000 ∧ ∀ d H', 0 ≤ d → d < m → Pot3 H' p (n + 1) → Keep p p H H' → Q (.int d) H'
end L2


namespace L2
open PySem PySem.Spec PyProof.Rows
def dieF (S : Int) : List Int → Int → Int → Nat → Option (Int × Nat)
  | [], v, w, t => if w < S then none else some (v, t)
  | c :: cs, v, w, t => if w < S then (if S ≤ 2 * v + c then dieF S cs (2 * v + c - S) (2 * w - S) (t + 1) else dieF S cs (2 * v + c) (2 * w) (t + 1)) else some (v, t)
def dieR (S : Int) (cs : List Int) : Option (Int × Nat) := dieF S cs 0 1 0
def IsDie (H : Hp) (x : V) : Option (Int × Nat) → Prop
  | none => x = .non
  | some (v, t) => ∃ z, x = .ref z ∧ H z = some (.tup ([v, (t : Int)].map V.int))
def dataDie : Option (Int × Nat) → PyData
  | none => .none
  | some (v, t) => .tuple ([v, (t : Int)].map PyData.int)
def Coins (cs : List Int) : Prop := (∀ c ∈ cs, c = 0 ∨ c = 1) ∧ cs.length ≤ 700
def spDie : Sp := fun vs H Q _ => ∃ (S : Int) (a : Addr) (cs : List Int), vs = [.int S, .ref a] ∧ 1 ≤ S ∧ H a = some (.tup (cs.map V.int)) ∧ Coins cs ∧ ∀ x H', Same H H' → IsDie H' x (dieR S cs) → Q x H'
def spSides : Sp := fun vs H Q _ => ∃ (p : Addr) (n : Nat), vs = [.ref p] ∧ Pot3 H p n ∧ n < 900000 ∧ ∀ S H', 1 ≤ S → S ≤ 1000000000000000000000000000000 → Pot3 H' p (n + 8) → Keep p p H H' → Q (.int S) H'
def spCoins : Sp := fun vs H Q _ => ∃ (p : Addr) (n : Nat) (top : Int), vs = [.ref p, .int top] ∧ 0 ≤ top ∧ top ≤ 600 ∧ Pot3 H p n ∧ n < 900000 ∧ ∀ (z : Addr) (cs : List Int) (H' : Hp), H' z = some (.tup (cs.map V.int)) → (∀ c ∈ cs, c = 0 ∨ c = 1) → cs.length ≤ 600 → Pot3 H' p (n + 2000) → Keep p p H H' → Q (.ref z) H'
end L2
namespace L2
open PySem PySem.Spec PyProof.Rows
theorem take_min {α : Type} (l : List α) (k : Nat) : l.take (min k l.length) = l.take k := by
  by_cases h : k ≤ l.length
  · rw [Nat.min_eq_left h]
  · rw [Nat.min_eq_right (by omega), List.take_length, List.take_of_length_le (by omega)]
theorem cutV_takeI (ns : List Int) (k : Nat) : cutV (ns.map V.int) none (some (k : Int)) = (ns.take k).map V.int := by
  unfold cutV
  rw [HT.sIx_none, HT.sIx_nat, List.drop_zero, Nat.sub_zero, take_min, List.map_take]
end L2


namespace L2
open PySem PySem.Spec PyProof.Rows
def waysZ (S : Int) (m : Nat) : List Int := [2 ^ m / S, 2 ^ m % S]
def spWays : Sp := fun vs H Q _ => ∃ (S : Int) (m : Nat), vs = [.int S, .int m] ∧ 1 ≤ S ∧ S < 10000000000000000000000000000000000000000 ∧ m ≤ 1000 ∧ ∀ z H', Same H H' → H' z = some (.tup ((waysZ S m).map V.int)) → Q (.ref z) H'
def bitsZ (m : Nat) (n : Int) : List Int := (num0 m).map fun p => Builtin.bitAnd (n / 2 ^ p.toNat) 1
def atD (S : Int) : Option (Int × Nat) → Int
  | none => S
  | some (v, _) => v
def goneZ (S : Int) (m : Nat) : Nat → List Int
  | 0 => List.replicate (S.toNat + 1) 0
  | i + 1 => (goneZ S m i).set (atD S (dieR S (bitsZ m i))).toNat ((goneZ S m i).getD (atD S (dieR S (bitsZ m i))).toNat 0 + 1)
def spGone : Sp := fun vs H Q _ => ∃ (S : Int) (m : Nat), vs = [.int S, .int m] ∧ 1 ≤ S ∧ S ≤ 100 ∧ m ≤ 10 ∧ ∀ z H', Same H H' → H' z = some (.lst ((goneZ S m (2 ^ m)).map V.int)) → Q (.ref z) H'
end L2


namespace L2
open PySem PySem.Spec PyProof.Rows
def Itd (hi : Int) (n : Nat) : It := ⟨fun i _ => i < n, fun i H x H' => H' = H ∧ x = .int (hi - i), fun i _ => n ≤ i⟩
section
variable {X : Cx} {tg : Expr}
def iRngD (ta : TA) : TI := fun σ H R => ta σ H fun vs H1 => ∃ i j : Int, vs = [.int i, .int j, .int (-1)] ∧ (-(2 ^ 62) ≤ i ∧ i < 2 ^ 62 ∧ -(2 ^ 62) ≤ j ∧ j < 2 ^ 62) ∧ R (Itd i (i - j).toNat) H1
end
section
variable {X : Cx}
def rLIndex : V → List V → Hp → VK → Prop := fun x vs H Q => ∃ (a : Addr) (ns : List Int) (n : Int), x = .ref a ∧ vs = [.int n] ∧ H a = some (.lst (ns.map V.int)) ∧ n ∈ ns ∧ ns.length ≤ 100000 ∧ Q (.int (ns.idxOf n)) H
end
end L2


namespace L2
open PySem PySem.Spec PyProof.Rows
def exO (l : List Int) (i j : Nat) : List Int := (l.set i (l.getD j 0)).set j (l.getD i 0)
def Thr (ts : List Int) : Prop := ∀ k, k < ts.length → 0 ≤ ts.getD k 0 ∧ ts.getD k 0 ≤ k
def swZ (n : Nat) (ts : List Int) : Nat → List Int
  | 0 => num0 n
  | i + 1 => exO (swZ n ts i) i (ts.getD i 0).toNat
def swappedZ (ts : List Int) : List Int := swZ ts.length ts ts.length
def dnL (o : List Int) : Nat → List Int
  | 0 => o
  | j + 1 => exO (dnL o j) (o.length - 1 - j) ((dnL o j).idxOf ((o.length - 1 - j : Nat) : Int))
def swapsZ (o : List Int) : List Int := (List.range o.length).map fun k => (((dnL o (o.length - 1 - k)).idxOf (k : Int) : Nat) : Int)
end L2


namespace L2
open PySem PySem.Spec PyProof.Rows
def spSize3 : Sp := fun vs H Q _ => ∃ (p : Addr) (n : Nat) (top : Int), vs = [.ref p, .int top] ∧ 9 ≤ top ∧ top ≤ 600 ∧ Pot3 H p n ∧ n < 950000 ∧ ∀ d H', 0 ≤ d → d ≤ top → Pot3 H' p (n + 2) → Keep p p H H' → Q (.int d) H'
def spThrows : Sp := fun vs H Q _ => ∃ (p : Addr) (n : Nat) (top : Int), vs = [.ref p, .int top] ∧ 9 ≤ top ∧ top ≤ 100 ∧ Pot3 H p n ∧ n < 900000 ∧ ∀ (z : Addr) (ts : List Int) (H' : Hp), H' z = some (.tup (ts.map V.int)) → Thr ts → ts.length ≤ top.toNat → Pot3 H' p (n + 1000) → Keep p p H H' → Q (.ref z) H'
def spOrd3 : Sp := fun vs H Q _ => ∃ (p : Addr) (n : Nat) (top : Int), vs = [.ref p, .int top] ∧ 9 ≤ top ∧ top ≤ 100 ∧ Pot3 H p n ∧ n < 900000 ∧ ∀ (z : Addr) (os : List Int) (m : Nat) (H' : Hp), H' z = some (.tup (os.map V.int)) → Ord m os → m ≤ top.toNat → Pot3 H' p (n + 1000) → Keep p p H H' → Q (.ref z) H'
def spTr (g : List Int → List Int) : Sp := fun vs H Q _ => ∃ (a : Addr) (ts : List Int), vs = [.ref a] ∧ H a = some (.tup (ts.map V.int)) ∧ Thr ts ∧ ts.length ≤ 100 ∧ ∀ z H', Same H H' → H' z = some (.tup ((g ts).map V.int)) → Q (.ref z) H'
def spOr (g : List Int → List Int) : Sp := fun vs H Q _ => ∃ (a : Addr) (os : List Int) (m : Nat), vs = [.ref a] ∧ H a = some (.tup (os.map V.int)) ∧ Ord m os ∧ m ≤ 100 ∧ ∀ z H', Same H H' → H' z = some (.tup ((g os).map V.int)) → Q (.ref z) H'
def spFits : Sp := fun vs H Q _ => ∃ (a : Addr) (ts : List Int), vs = [.ref a] ∧ H a = some (.tup (ts.map V.int)) ∧ Thr ts ∧ ∀ H', Same H H' → Q (.bl true) H'
theorem ints_get {ns : List Int} {i : Nat} {x : V} (h : (ns.map V.int)[i]? = some x) : i < ns.length ∧ x = .int (ns.getD i 0) := by
  rw [List.getElem?_map] at h
  cases e : ns[i]? with
  | none => rw [e] at h; cases h
  | some n =>
    rw [e] at h
    refine ⟨(List.getElem?_eq_some_iff.mp e).1, ?_⟩
    rw [List.getD_eq_getElem?_getD, e]
    exact (Option.some.inj h).symm
end L2
namespace L2
open PySem PySem.Spec PyProof.Rows
end L2


namespace PyProof.Rows
open PySem PySem.Spec
section
variable {prog : Program} {w : World} {A : Around} {E : Value → Shared → Prop} {s : Shared}
end
end PyProof.Rows
namespace L2
open PySem PySem.Spec PyProof.Rows
def rSortedT (K : PySem.W.Frag) : List V → Hp → VK → Prop := fun xs H Q => ∃ (l : Addr) (ns : List Int), xs = [.ref l] ∧ SqT K H l (ns.map V.int) ∧ ns.length < 64 ∧
  ∀ p (ns' : List Int), ns'.Perm ns → ns'.Pairwise (· ≤ ·) → H p = none → Q (.ref p) (upd H p (.lst (ns'.map V.int)))
end L2


namespace L2
open PySem PySem.Spec PyProof.Rows
def leftZ (n : Nat) (ts : List Int) : Nat → List Int
  | 0 => num0 n
  | j + 1 => (leftZ n ts j).eraseIdx ((n - 1 - j : Nat) - ts.getD (n - 1 - j) 0).toNat
def popZ (n : Nat) (ts : List Int) (p : Nat) : Int := (leftZ n ts (n - 1 - p)).getD ((p : Int) - ts.getD p 0).toNat 0
def ordZ (ts : List Int) : List Int := (List.range ts.length).map (popZ ts.length ts)
def cntZ (o : List Int) : List Int := (List.range o.length).map fun p => (((o.take p).countP fun y => decide (o.getD p 0 < y) : Nat) : Int)
end L2


namespace L2
open PySem PySem.Spec PyProof.Rows
def zscopeB (sc : Scope) (N : List Str) (scope : Scope) (N' : List Str) (n : Nat) (ix : List Nat) (z : Str) : Bool :=
  scope.kind == .function && scope.names.all (fun y => y.2 != .cell || y.1 == z) && scope.names.all (fun y => y.2 != .free || y.1 != z) && scope.names.all (fun y => y.2 != .local || scope.names.lookup y.1 == some .local) &&
  scope.names.all (fun y => y.2 != .free || (sc.names.lookup y.1 == some .cell || sc.names.lookup y.1 == some .free)) && scope.names.all (fun y => y.2 != .free || scope.names.lookup y.1 != some .local) &&
  N'.length == n + ix.length && (List.range ix.length).all fun j => match ix[j]?, N'[n + j]? with
    | some i, some x => N[i]? == some x && scope.names.contains (x, .free)
    | _, _ => false
theorem CompScopeZ.of {X : Cx} {sc : Scope} {N : List Str} {scope : Scope} {N' : List Str} {n : Nat} {ix : List Nat} {z : Str} (h : zscopeB sc N scope N' n ix z = true) (hs : X.env.scope = sc) (hN : X.N = N) (hcf : ∀ (a : Addr) (cl : List (Str × Addr)), cellsFrom a scope.names cl = (z, a) :: cl)
    (hpc : ∀ h : Heap, pushCells h scope.names = h.push { cls := .type "cell", data := .cell none }) : CompScopeZ X scope N' n ix z := by
  unfold zscopeB at h
  simp only [Bool.and_eq_true, List.all_eq_true] at h
  obtain ⟨⟨⟨⟨⟨⟨⟨h1, h2⟩, h2'⟩, h3⟩, h4⟩, h5⟩, h6⟩, h7⟩ := h
  subst hs hN
  refine ⟨eq_of_beq h1, fun y hy hc => ?_, fun y hy => ?_, hcf, hpc, fun y hy hl => ?_, fun y hy hf => ?_, fun y hy hl => ?_, eq_of_beq h6, fun j i e => ?_⟩
  · have := h2 y hy
    rw [hc] at this
    simpa using this
  · have := h2' _ hy
    simpa using this
  · have := h3 y hy
    rw [hl] at this
    simpa using this
  · have := h4 y hy
    rw [hf] at this
    simpa using this
  · have := h5 _ hy
    rw [hl] at this
    simp at this
  · have hj : j < ix.length := (List.getElem?_eq_some_iff.mp e).1
    have := h7 j (List.mem_range.mpr hj)
    rw [e] at this
    cases hx : N'[n + j]? with
    | none => rw [hx] at this; simp at this
    | some x =>
      rw [hx] at this
      simp only [Bool.and_eq_true] at this
      exact ⟨x, rfl, eq_of_beq this.1, by simpa using this.2⟩
end L2


namespace L2
open PySem PySem.Spec PyProof.Rows
def rBitLen : V → List V → Hp → VK → Prop := fun x vs H Q => ∃ i, x = .int i ∧ vs = [] ∧ Q (.int (Builtin.Int.intBits i)) H
def ctZ (cs : List Int) : Nat → Option (List Int × Nat)
  | 0 => some ([], 0)
  | k + 1 => match ctZ cs k with
    | none => none
    | some (l, t) => match dieR ((k : Int) + 1) (cs.drop t) with
      | none => none
      | some (v, u) => some (l ++ [v], t + u)
def figZ (b : Nat) (n : Int) : List Int := (List.range b).map fun i => Builtin.bitAnd (n / 2 ^ (b - 1 - i)) 1
def figK (k : Nat) (n : Int) : List Int := figZ (Builtin.Int.intBits (k : Int)) n
def coinsZ (ts : List Int) : Nat → List Int
  | 0 => []
  | i + 1 => coinsZ ts i ++ figK i (ts.getD i 0)
end L2
namespace L2
open PySem PySem.Spec PyProof.Rows
def IsCt (H : Hp) (x : V) : Option (List Int × Nat) → Prop
  | none => x = .non
  | some (l, t) => ∃ z y, x = .ref z ∧ H z = some (.tup [.ref y, .int t]) ∧ H y = some (.tup (l.map V.int))
def dataCt : Option (List Int × Nat) → PyData
  | none => .none
  | some (l, t) => .tuple [.tuple (l.map PyData.int), .int t]
def spCt : Sp := fun vs H Q _ => ∃ (m : Nat) (a : Addr) (cs : List Int), vs = [.int m, .ref a] ∧ m ≤ 100 ∧ H a = some (.tup (cs.map V.int)) ∧ Coins cs ∧ ∀ x H', Same H H' → IsCt H' x (ctZ cs m) → Q x H'
def spOne : Sp := fun vs H Q _ => ∃ (S : Int) (a : Addr) (cs : List Int) (f : Nat), vs = [.int S, .ref a, .int f] ∧ 1 ≤ S ∧ H a = some (.tup (cs.map V.int)) ∧ Coins cs ∧ f ≤ cs.length ∧ ∀ x H', Same H H' → IsDie H' x (dieF S (cs.drop f) 0 1 f) → Q x H'
def spFig : Sp := fun vs H Q _ => ∃ (n : Int) (b : Nat), vs = [.int n, .int b] ∧ 0 ≤ n ∧ b ≤ 500 ∧ ∀ p H', Same H H' → H' p = some (.lst ((figZ b n).map V.int)) → H p = none → Q (.ref p) H'
end L2


namespace L2
open PySem PySem.Spec PyProof.Rows
section
variable {X : Cx}
def rMinT : List V → Hp → VK → Prop := fun xs H Q => ∃ (l : Addr) (ns : List Int), xs = [.ref l] ∧ H l = some (.tup (ns.map V.int)) ∧ ns ≠ [] ∧ ∀ M, M ∈ ns → (∀ a ∈ ns, M ≤ a) → Q (.int M) H
end
def markZ (os : List Int) (p : Nat) : Int :=
  if (os.take p).all (fun a => decide (a < os.getD p 0)) then 3 else if (os.take p).all (fun a => decide (os.getD p 0 < a)) then 0 else if os.getD (p - 1) 0 < os.getD p 0 then 2 else 1
def marksZ (os : List Int) : List Int := (numF 1 (os.length - 1)).map fun k => markZ os k.toNat
theorem numF_succ (lo : Int) (n : Nat) : numF lo (n + 1) = numF lo n ++ [lo + (n : Int)] := by
  unfold numF
  rw [List.range_succ, List.map_append]
  rfl
theorem mark_hi {os : List Int} {p : Nat} {M : Int} (hm : M ∈ os.take p) (ha : ∀ a ∈ os.take p, a ≤ M) : (os.take p).all (fun a => decide (a < os.getD p 0)) = decide (M < os.getD p 0) := by
  rw [Bool.eq_iff_iff, List.all_eq_true, decide_eq_true_eq]
  refine ⟨fun h => of_decide_eq_true (h M hm), fun h a hb => decide_eq_true ?_⟩
  have := ha a hb
  omega
theorem mark_lo {os : List Int} {p : Nat} {M : Int} (hm : M ∈ os.take p) (ha : ∀ a ∈ os.take p, M ≤ a) : (os.take p).all (fun a => decide (os.getD p 0 < a)) = decide (os.getD p 0 < M) := by
  rw [Bool.eq_iff_iff, List.all_eq_true, decide_eq_true_eq]
  refine ⟨fun h => of_decide_eq_true (h M hm), fun h a hb => decide_eq_true ?_⟩
  have := ha a hb
  omega
theorem take_pos {os : List Int} {p : Nat} (h0 : 1 ≤ p) (h1 : p < os.length) : os.getD (p - 1) 0 ∈ os.take p := by
  rw [List.getD_eq_getElem?_getD, List.getElem?_eq_getElem (by omega)]
  refine List.mem_iff_getElem.mpr ⟨p - 1, by rw [List.length_take]; omega, ?_⟩
  rw [List.getElem_take]
  rfl
def spMark : Sp := fun vs H Q _ => ∃ (a : Addr) (os : List Int) (p : Int), vs = [.ref a, .int p] ∧ H a = some (.tup (os.map V.int)) ∧ 1 ≤ p ∧ p < os.length ∧ ∀ H', Same H H' → Q (.int (markZ os p.toNat)) H'
def spUrn (K : PySem.W.Frag) : Sp := fun vs H Q _ => ∃ (a : Addr) (ns : List Int), vs = [.ref a] ∧ SqL K H a (ns.map V.int) ∧ ∀ p H', Same H H' → Pot3 H' p 0 → H p = none → Q (.ref p) H'
def spOrdU : Sp := fun vs H Q _ => ∃ (p : Addr) (n m : Nat), vs = [.ref p, .int m] ∧ m ≤ 100 ∧ Pot3 H p n ∧ n < 900000 ∧ ∀ (z : Addr) (os : List Int) (H' : Hp), H' z = some (.tup (os.map V.int)) → Ord m os → Pot3 H' p (n + 200) → Keep p p H H' → Q (.ref z) H'
theorem far_mul (i : Nat) (hi : i ≤ 63) : IntMulOk (((10 : Int) ^ (60 : Int).toNat) ^ i) ((10 : Int) ^ (60 : Int).toNat) := by
  have h10 : Builtin.Int.intBits (10 : Int) ≤ 4 := intBits_le_iff.mpr (by decide)
  have h1 : Builtin.Int.intBits ((10 : Int) ^ (60 : Int).toNat) ≤ 241 := intBits_pow_le h10 60
  have h2 : Builtin.Int.intBits (((10 : Int) ^ (60 : Int).toNat) ^ i) ≤ 241 * i + 1 := intBits_pow_le h1 i
  exact IntMulOk.of_le h2 h1 (by omega)
theorem far_mul2 (x : Int) (i : Nat) (hi : i ≤ 63) : IntMulOk (x % (10 : Int) ^ (60 : Int).toNat) (((10 : Int) ^ (60 : Int).toNat) ^ i) := by
  have h10 : Builtin.Int.intBits (10 : Int) ≤ 4 := intBits_le_iff.mpr (by decide)
  have h1 : Builtin.Int.intBits ((10 : Int) ^ (60 : Int).toNat) ≤ 241 := intBits_pow_le h10 60
  have h2 : Builtin.Int.intBits (((10 : Int) ^ (60 : Int).toNat) ^ i) ≤ 241 * i + 1 := intBits_pow_le h1 i
  have h3 : Builtin.Int.intBits (x % (10 : Int) ^ (60 : Int).toNat) ≤ 241 := by
    have hp : (0 : Int) < (10 : Int) ^ (60 : Int).toNat := by decide
    have a0 := Int.emod_nonneg x (Int.ne_of_gt hp)
    have a1 := Int.emod_lt_of_pos x hp
    have b := intBits_le_iff.mp h1
    refine intBits_le_iff.mpr ?_
    generalize x % (10 : Int) ^ (60 : Int).toNat = y at *
    generalize (10 : Int) ^ (60 : Int).toNat = F at *
    omega
  exact IntMulOk.of_le h3 h2 (by omega)
end L2


namespace L2
open PySem PySem.Spec PyProof.Rows
section
variable {X : Cx} {elt tg iter : Expr} {ifs : List Expr} {scope : Scope} {pos : Pos} {wi : TI} {g : TG} {tt : TT} {te : TE} {N' : List Str} {n : Nat} {ix : List Nat}
theorem ps_lcsetZ {x z : Str} {i : Nat} {pos' spos : Pos} (hsw : swapsWith (.ListComp elt [⟨tg, iter, ifs, 0⟩] scope pos) (some (.Name x pos')) spos.line X.env = pure true) (hN : X.N.Nodup) (hi' : X.N[i]? = some x) (hx : X.env.scope.names.lookup x = some .local)
    (hc : X.calm = true) (S : CompScopeZ X scope N' n ix z) (hi : PI X tg iter wi)
    (hY : ∀ s₂ H₂ cl C fp Z, PG (X.compZ s₂ H₂ N' scope cl C fp z Z) tg g ∧ PTs (X.compZ s₂ H₂ N' scope cl C fp z Z) ifs tt ∧ PE (X.compZ s₂ H₂ N' scope cl C fp z Z) elt te)
    (hs : ∀ x, foldedSetIterable iter X.env x = pure x := by intro _; rfl) : PS X (.Assign [.Name x pos'] (.ListComp elt [⟨tg, iter, ifs, 0⟩] scope pos) spos) (tAsg (tLc wi g tt te n ix) (gName i)) := by
  intro pins s σ H D I h
  obtain ⟨cl, hcl, hcl1, hcl2⟩ := closure_ok (env := X.env) (scope := scope) fun y hy hf => I.ok.has _ (S.free y hy hf)
  rw [exec_Assign_Name_used _ _ _ _ hsw]
  refine wpAny_bind (wpAny_standAt (wpAny_bind ?_))
  show wpAny _ _ (do let _ ← comprehension (.ListComp elt [⟨tg, iter, ifs, 0⟩] scope pos) scope X.env _ (newList []) false (eval iter X.env) (some (assign (.Name x pos') X.env))) _ _ s
  refine wpAny_bind (thn (wpAny_comprehension_free (use := some (assign (.Name x pos') X.env)) (Q := fun _ s' => SP X pins D .next s') rfl hs hcl S.kind S.names (thn (hi pins s σ H _ I h) fun v s1 h1 => thn h1 fun itv s2 h2 => ?_)) fun _ s' hq => wpAny_pure (wpAny_pure hq))
  obtain ⟨it, fp, tn, J, H2, rfl, I2, T, st2, f2, hW⟩ := h2
  refine lc_coreZ (Q := fun x H1 => gName i x σ H1 D.nx) (R := fun acc C => compPost (model X.prog X.w) X.A X.xe (some (assign (.Name x pos') X.env)) (fun _ s' => SP X pins D .next s') acc C) hc S hY I2 hcl1 hcl2 T st2 f2 hW ?_
  intro acc C s' H' m hn IX hf hL h1 h2 h3 h4 q
  show wpAny _ _ (assign (.Name x pos') X.env (.ref acc)) _ _ _
  obtain ⟨oC, esC, epC, hoC, hdC, rC⟩ := id hn
  have IP : Inv X (pins ++ [(C, oC)]) σ H' s' := IX.pins_of fun p hp => by
    rcases List.mem_append.mp hp with z | z
    · exact IX.pin p (List.mem_append_right _ z)
    · have e : p = (C, oC) := by simpa using z
      subst e
      exact ⟨hoC, hf, hL, h4, fun v z => by rw [hdC] at z; cases z⟩
  refine thn (pg_name hN hi' (.inl hx) (.inr hx) _ s' σ H' (.ref acc) (.ref acc) D.nx IP rfl q) fun _ s'' ⟨σ', H'', I'', q''⟩ => ?_
  obtain ⟨e1, e2, _⟩ := I''.pin (C, oC) (List.mem_append_right _ (List.mem_append_right _ (by simp)))
  refine ⟨m, ⟨oC, esC, epC, e1, hdC, rC⟩, fun h' sb => ⟨σ', H'', ?_, q''⟩⟩
  exact I''.unpinned.turned (t' := s''.toks) (fun b o hb e => sb.extBut b o hb e) e2 hL h1 h2 h3
end
theorem Pot3.upd {H : Hp} {p a : Addr} {n : Nat} {o : HO} (h : Pot3 H p n) (e : a ≠ p) : Pot3 (upd H a o) p n := by
  obtain ⟨u, s, t, h1, h2⟩ := h
  exact ⟨u, s, t, by rw [upd_ne (Ne.symm e)]; exact h1, h2⟩
theorem Keep.upd {p q a : Addr} {H H' : Hp} {o : HO} (k : Keep p q H H') (e : H a = none) : Keep p q H (upd H' a o) := fun b o' h h1 h2 => by
  have : b ≠ a := fun z => by rw [z, e] at h; cases h
  rw [upd_ne this]
  exact k b o' h h1 h2
theorem lc_potI {J : It} {Ok : Hp → Prop} {xs : List V} {tt : TT} {te : TE} {ix : List Nat} {σ : L2.St} {H1 : Hp} {Q : VK} (Y : Yields J Ok xs) (small : xs.length < sizeLine) {p : Addr} {c k : Nat} (hp : Pot3 H1 p c) (full : Bool) (D : Int → Prop) (hok : ∀ H, Keep p p H1 H → Ok H)
    (he : ∀ i x H, xs[i]? = some x → Keep p p H1 H → Pot3 H p (c + k * i) → ∀ (QF : Hp → Prop) (QT : VK), (full = false → ∀ H', Keep p p H H' → Pot3 H' p (c + k * (i + 1)) → QF H') → (∀ (d : Int) H', Keep p p H H' → Pot3 H' p (c + k * (i + 1)) → D d → QT (.int d) H') →
      tt (some x :: ix.map fun i => σ.getD i none) H fun b H3 => if b = true then te (some x :: ix.map fun i => σ.getD i none) H3 QT else QF H3)
    (fin : ∀ acc (ds : List Int) H', H1 acc = none → acc ≠ p → Keep p p H1 H' → Pot3 H' p (c + k * xs.length) → H' acc = some (.lst (ds.map V.int)) → ds.length ≤ xs.length → (full = true → ds.length = xs.length) → (∀ d ∈ ds, D d) → Q (.ref acc) H') :
    LcW J H1 (gName 0) tt te 1 ix σ Q := by
  intro acc ha
  have hap := hp.ne_new ha
  refine ⟨fun i m H => m = xs.length - i ∧ i ≤ xs.length ∧ Keep p p H1 H ∧ Pot3 H p (c + k * i) ∧ ∃ ds : List Int, H acc = some (.lst (ds.map V.int)) ∧ ds.length ≤ i ∧ (full = true → ds.length = i) ∧ ∀ d ∈ ds, D d, ⟨xs.length, by simp, Nat.zero_le _, (same_upd ha).keep, hp.same (same_upd ha), [], upd_same, Nat.le_refl _, fun _ => rfl, fun _ h => by cases h⟩, ?_⟩
  rintro i m H ⟨rfl, hi, kp, hpot, ds, hacc, hl, hf, hD⟩
  have o := hok _ kp
  by_cases hlt : i < xs.length
  · refine .inr ⟨Y.go i _ o hlt, fun x H' y => ?_⟩
    obtain ⟨rfl, hx⟩ := Y.yld i _ x H' o hlt y
    refine ⟨⟨rfl, fun j v e => ?_⟩, ?_⟩
    · cases j with
      | zero => cases e
      | succ j => exact e
    · refine he i x H' hx kp hpot (fun H3 => ∃ m', m' < xs.length - i ∧ _) (fun v H4 => ∃ ys, H4 acc = some (.lst ys) ∧ ys.length < sizeLine ∧ ∃ m', m' < xs.length - i ∧ _) (fun hF H3 k3 p3 => ?_) (fun d H4 k4 p4 hd => ?_)
      · exact ⟨xs.length - (i + 1), by omega, rfl, hlt, kp.trans k3, p3, ds, k3 _ _ hacc hap hap, by omega, (fun z => by rw [hF] at z; cases z), hD⟩
      · have h4 := k4 _ _ hacc hap hap
        refine ⟨_, h4, by rw [mapI_len]; omega, xs.length - (i + 1), by omega, rfl, hlt, (kp.trans k4).upd ha, p4.upd hap, ds ++ [d], by rw [upd_same, List.map_append]; rfl, by simp; omega, (fun z => by have := hf z; simp; omega), fun d' hd' => ?_⟩
        rcases List.mem_append.mp hd' with h | h
        · exact hD d' h
        · rw [List.mem_singleton.mp h]; exact hd
  · have e : i = xs.length := by omega
    subst e
    exact .inl ⟨Y.stop _ o, fin acc ds H ha hap kp hpot hacc hl hf hD⟩
theorem paired_keep {α β : Type} {F G : α → β → Prop} : ∀ {l₁ : List α} {l₂ : List β}, Paired F l₁ l₂ → (∀ a b, a ∈ l₁ → F a b → G a b) → Paired G l₁ l₂
  | _, _, .nil, _ => .nil
  | _, _, .cons p q, h => .cons (h _ _ (List.mem_cons_self) p) (paired_keep q fun a b m f => h a b (List.mem_cons_of_mem _ m) f)
def LRows (H : Hp) (zs : List Addr) (rows : List (List Int)) : Prop := Paired (fun z r => H z = some (.lst (r.map V.int))) zs rows
theorem lc_potR {J : It} {Ok : Hp → Prop} {xs : List V} {te : TE} {ix : List Nat} {σ : L2.St} {H1 : Hp} {Q : VK} (Y : Yields J Ok xs) (small : xs.length < sizeLine) {p : Addr} {c k : Nat} (hp : Pot3 H1 p c) (D : List Int → Prop) (hok : ∀ H, Keep p p H1 H → Ok H)
    (he : ∀ i x H, xs[i]? = some x → Keep p p H1 H → Pot3 H p (c + k * i) → ∀ (QT : VK), (∀ (a : Addr) (r : List Int) H', H a = none → H' a = some (.lst (r.map V.int)) → Keep p p H H' → Pot3 H' p (c + k * (i + 1)) → D r → QT (.ref a) H') → te (some x :: ix.map fun i => σ.getD i none) H QT)
    (fin : ∀ acc (zs : List Addr) (rows : List (List Int)) H', H1 acc = none → acc ≠ p → Keep p p H1 H' → Pot3 H' p (c + k * xs.length) → H' acc = some (.lst (zs.map V.ref)) → LRows H' zs rows → (∀ z ∈ zs, z ≠ p) → rows.length = xs.length → (∀ r ∈ rows, D r) → Q (.ref acc) H') :
    LcW J H1 (gName 0) tNoTest te 1 ix σ Q := by
  intro acc ha
  have hap := hp.ne_new ha
  refine ⟨fun i m H => m = xs.length - i ∧ i ≤ xs.length ∧ Keep p p H1 H ∧ Pot3 H p (c + k * i) ∧ ∃ (zs : List Addr) (rows : List (List Int)), H acc = some (.lst (zs.map V.ref)) ∧ LRows H zs rows ∧ (∀ z ∈ zs, z ≠ p ∧ z ≠ acc) ∧ rows.length = i ∧ ∀ d ∈ rows, D d, ⟨xs.length, by simp, Nat.zero_le _, (same_upd ha).keep, hp.same (same_upd ha), [], [], upd_same, .nil, fun _ h => (by cases h), rfl, fun _ h => by cases h⟩, ?_⟩
  rintro i m H ⟨rfl, hi, kp, hpot, zs, rows, hacc, hr, hz, hl, hD⟩
  have o := hok _ kp
  have hzl := Paired.length hr
  by_cases hlt : i < xs.length
  · refine .inr ⟨Y.go i _ o hlt, fun x H' y => ?_⟩
    obtain ⟨rfl, hx⟩ := Y.yld i _ x H' o hlt y
    refine ⟨⟨rfl, fun j v e => ?_⟩, ?_⟩
    · cases j with
      | zero => cases e
      | succ j => exact e
    · unfold tNoTest
      dsimp only
      rw [if_pos rfl]
      refine he i x H' hx kp hpot _ (fun a r H4 a0 a4 k4 p4 hd => ?_)
      have h4 := k4 _ _ hacc hap hap
      have haa : a ≠ acc := fun e => by rw [e, hacc] at a0; cases a0
      have hap' : a ≠ p := hpot.ne_new a0
      refine ⟨_, h4, by rw [List.length_map]; omega, xs.length - (i + 1), by omega, rfl, hlt, (kp.trans k4).upd ha, p4.upd hap, zs ++ [a], rows ++ [r], by rw [upd_same, List.map_append]; rfl, ?_, fun z h => ?_, by simp; omega, fun d' hd' => ?_⟩
      · refine Paired.snoc (paired_keep hr fun z r' hzm h => ?_) ?_
        · obtain ⟨q1, q2⟩ := hz z hzm
          rw [upd_ne q2]
          exact k4 _ _ h q1 q1
        · rw [upd_ne haa]; exact a4
      · rcases List.mem_append.mp h with h | h
        · exact hz z h
        · rw [List.mem_singleton.mp h]; exact ⟨hap', haa⟩
      · rcases List.mem_append.mp hd' with h | h
        · exact hD d' h
        · rw [List.mem_singleton.mp h]; exact hd
  · have e : i = xs.length := by omega
    subst e
    exact .inl ⟨Y.stop _ o, fin acc zs rows H ha hap kp hpot hacc hr (fun z h => (hz z h).1) hl hD⟩
def IsMach (H : Hp) (z : Addr) (N : Nat) (rows : List (List Int)) (ends : List Int) : Prop := ∃ (R E : Addr) (zs : List Addr), H z = some (.tup [.ref R, .ref E]) ∧ H R = some (.tup (zs.map V.ref)) ∧ RowsAt H zs rows ∧ H E = some (.tup (ends.map V.int)) ∧ rows.length = N ∧ 0 < N ∧ ∀ r ∈ rows, r.length = 4 ∧ ∀ d ∈ r, 0 ≤ d ∧ d < N
theorem IsMach.sameT {H H' : Hp} {z : Addr} {N : Nat} {rows : List (List Int)} {ends : List Int} (h : IsMach H z N rows ends) (s : SameT H H') : IsMach H' z N rows ends := by
  obtain ⟨R, E, zs, h1, h2, h3, h4, h5⟩ := h
  exact ⟨R, E, zs, s _ _ h1, s _ _ h2, h3.sameT s, s _ _ h4, h5⟩
def goZ (rows : List (List Int)) (ms : List Int) : Int := ms.foldl (fun s m => (rows.getD s.toNat []).getD m.toNat 0) 0
theorem goZ_step {rows : List (List Int)} {ms : List Int} {i : Nat} {d : Int} (h : ms[i]? = some d) : goZ rows (ms.take (i + 1)) = (rows.getD (goZ rows (ms.take i)).toNat []).getD d.toNat 0 := by
  unfold goZ
  rw [List.take_succ, h, List.foldl_append]
  rfl
def Mrk (ms : List Int) : Prop := ∀ m ∈ ms, 0 ≤ m ∧ m < 4
theorem goZ_rng {rows : List (List Int)} {N : Nat} (hl : rows.length = N) (hN : 0 < N) (hr : ∀ r ∈ rows, r.length = 4 ∧ ∀ d ∈ r, 0 ≤ d ∧ d < (N : Int)) {ms : List Int} (hm : Mrk ms) : ∀ i, i ≤ ms.length → 0 ≤ goZ rows (ms.take i) ∧ goZ rows (ms.take i) < N
  | 0, _ => by rw [List.take_zero]; exact ⟨Int.le_refl 0, by show (0 : Int) < N; omega⟩
  | i + 1, hi => by
    obtain ⟨a, b⟩ := goZ_rng hl hN hr hm i (by omega)
    have hg : ms[i]? = some ms[i] := List.getElem?_eq_getElem (by omega)
    rw [goZ_step hg]
    have hs : (goZ rows (ms.take i)).toNat < rows.length := by omega
    have e1 : rows.getD (goZ rows (ms.take i)).toNat [] = rows[(goZ rows (ms.take i)).toNat] := by
      rw [List.getD_eq_getElem?_getD, List.getElem?_eq_getElem hs]; rfl
    have q := hr _ (List.getElem_mem hs)
    have md := hm _ (List.getElem_mem (show i < ms.length by omega))
    rw [e1]
    generalize rows[(goZ rows (ms.take i)).toNat] = r at q
    have ht : (ms[i]).toNat < r.length := by omega
    have e2 : r.getD (ms[i]).toNat 0 = r[(ms[i]).toNat] := by
      rw [List.getD_eq_getElem?_getD, List.getElem?_eq_getElem ht]; rfl
    rw [e2]
    exact q.2 _ (List.getElem_mem ht)
theorem mk_marks (os : List Int) : Mrk (marksZ os) := by
  intro m hm
  unfold marksZ at hm
  obtain ⟨k, _, rfl⟩ := List.mem_map.mp hm
  show 0 ≤ markZ os k.toNat ∧ markZ os k.toNat < 4
  unfold markZ
  split
  · decide
  · split
    · decide
    · split <;> decide
def metB (rows : List (List Int)) (ends os : List Int) : Bool := inV (.int (goZ rows (marksZ os))) (ends.map V.int)
def spGoes : Sp := fun vs H Q _ => ∃ (z a : Addr) (N : Nat) (rows : List (List Int)) (ends ms : List Int), vs = [.ref z, .ref a] ∧ IsMach H z N rows ends ∧ H a = some (.tup (ms.map V.int)) ∧ Mrk ms ∧ ∀ H', Same H H' → Q (.int (goZ rows ms)) H'
def spStA : Sp := fun vs H Q _ => ∃ (z a : Addr) (N : Nat) (rows : List (List Int)) (ends os : List Int) (m : Nat), vs = [.ref z, .ref a] ∧ IsMach H z N rows ends ∧ H a = some (.tup (os.map V.int)) ∧ Ord m os ∧ m ≤ 100 ∧ ∀ H', Same H H' → Q (.int (goZ rows (marksZ os))) H'
def spMet : Sp := fun vs H Q _ => ∃ (z a : Addr) (N : Nat) (rows : List (List Int)) (ends os : List Int) (m : Nat), vs = [.ref z, .ref a] ∧ IsMach H z N rows ends ∧ H a = some (.tup (os.map V.int)) ∧ Ord m os ∧ m ≤ 100 ∧ ∀ H', Same H H' → Q (.bl (metB rows ends os)) H'
def spMach : Sp := fun vs H Q _ => ∃ (p : Addr) (n : Nat) (most : Int), vs = [.ref p, .int most] ∧ 0 < most ∧ most ≤ 40 ∧ Pot3 H p n ∧ n < 900000 ∧ ∀ (z : Addr) (N : Nat) (rows : List (List Int)) (ends : List Int) (H' : Hp), IsMach H' z N rows ends → Pot3 H' p (n + 1000) → Keep p p H H' → Q (.ref z) H'
theorem Pot3.sameT {p : Addr} {n : Nat} {H H' : Hp} (h : Pot3 H p n) (k : Keep p p H H') : SameT H H' := fun _ _ ha => h.keepT k ha
end L2


namespace K50
open PySem PySem.Spec PyProof.Rows L2
def top (i : Nat) : Stmt := PySem.Challenge.pw_shuffletold_k50_counts_of_orders_met.main.body.getD i (.Pass ⟨0, 0, 0, 0⟩)
end K50


namespace K50
open PySem PySem.Spec PyProof.Rows L2
abbrev s__law_urn : Stmt := top 6
abbrev s__law_take : Stmt := top 7
section
variable {P : Program} {w : World} {K : PySem.W.Frag} {mg : Str → Option Value} {base : Heap}
theorem sc__law_urn : FnScope ["_law_script", "_law_digits", "_law_weight", "_law_mixed", "_law_k", "_law_cell"] ["_law_script"] (defScope s__law_urn) := ⟨rfl, rfl, rfl, by decide +kernel, rfl, by decide +kernel, by decide +kernel⟩
set_option maxHeartbeats 8000000 in
theorem ok__law_urn {f : Addr} {fd : FuncData} (F : Fun K "_law_urn" "_law_urn" s__law_urn f fd) (T : Top mg) : FnOk P w K mg base CX0 1 f fd ["_law_script"] (spUrn K) := by
  refine F.ok sc__law_urn (fun vs H Q E h => ?_) (fun cdv A outer s H vs Q E hr h => ?_)
  · obtain ⟨a, ns, rfl, _⟩ := h
    rfl
  · obtain ⟨a, ns, rfl, hS, k⟩ := h
    refine ⟨_, (pss_cons (ps_asg (pe_tup (pa_cons pe_int (pa_cons pe_int (pa_cons pe_int pa_nil)))) (pg_tup rfl (pgs_cons (pg_name (i := 1) sc__law_urn.nd rfl (Or.inl rfl) (Or.inl rfl)) (pgs_cons (pg_name (i := 2) sc__law_urn.nd rfl (Or.inl rfl) (Or.inl rfl)) (pgs_cons (pg_name (i := 3) sc__law_urn.nd rfl (Or.inl rfl) (Or.inl rfl)) pgs_nil)))))
      (pss_cons (ps_for PassesOwn.never rfl (pi_enumL rfl T.n_enumerate (pa_cons (pe_slice sl_list (pv 0) po_none (po_some pe_int)) pa_nil)) (pg_pair (i := 4) (j := 5) rfl sc__law_urn.nd rfl rfl (Or.inl rfl) (Or.inl rfl) (Or.inl rfl) (Or.inl rfl))
        (pss_cons (ps_set (i := 3) sc__law_urn.nd rfl (Or.inl rfl) (pe_op op_mod (pe_op op_pow (pe_op op_add (pe_op op_add (pe_op op_add (pe_op op_mul (pv 3) pe_int) (pe_op op_mod (pv 5) pe_int)) (pe_op op_mul pe_int (pv 4))) pe_int) pe_int) pe_int))
        (pss_one (ps_if (pt_cmpR op_ge (pe_callB call_abs (by rfl) T.n_abs boot_abs (pa_cons (pv 5) pa_nil)) (pe_op op_pow pe_int pe_int) (nomark _))
          (pss_cons (ps_set (i := 1) sc__law_urn.nd rfl (Or.inl rfl) (pe_op op_add (pv 1) (pe_op op_mulW (pe_op op_mod (pe_callB call_abs (by rfl) T.n_abs boot_abs (pa_cons (pv 5) pa_nil)) (pe_op op_pow pe_int pe_int)) (pv 2))))
          (pss_one (ps_set (i := 2) sc__law_urn.nd rfl (Or.inl rfl) (pe_op op_mulW (pv 2) (pe_op op_pow pe_int pe_int)))))
          pss_nil))))
      (pss_one (ps_ret (pe_lst (pa_cons (pv 1) (pa_cons (pv 3) (pa_cons pe_int pa_nil)))))))), ?_⟩
    refine ⟨by show 3 ≤ sizeLine; decide, fun t0 ht0 => ⟨t0, _, rfl, SqT.of upd_same, rfl, _, _, rfl, _, _, rfl, _, _, rfl, rfl, ?_⟩⟩
    have s0 := same_upd (o := .tup [.int 0, .int 1, .int 5]) ht0
    refine ⟨_, rfl, 63, rfl, a, _, rfl, s0.seq hS, fun l hl => ⟨l, rfl, ⟨_, SqL.of upd_same⟩, ?_⟩⟩
    have s1 := same_upd (o := .lst (cutV (ns.map V.int) none (some 63))) hl
    have ecut : cutV (ns.map V.int) none (some 63) = (ns.take 63).map V.int := cutV_takeI ns 63
    have Ft : (0 : Int) < (10 : Int) ^ (60 : Int).toNat := by decide
    refine for_enumL (K := K) (xs := (ns.take 63).map V.int) (fun i σ G => ∃ (dg mx : Int) (j : Nat) (c4 c5 : Option V), σ = [some (.ref a), some (.int dg), some (.int (((10 : Int) ^ (60 : Int).toNat) ^ j)), some (.int mx), c4, c5] ∧ Same H G ∧ G l = some (.lst ((ns.take 63).map V.int)) ∧ 0 ≤ dg ∧ 0 ≤ mx ∧ mx < 2305843009213693951 ∧ j ≤ i) ?_ ?_ ?_ ?_
    · exact ⟨0, 5, 0, none, none, by rw [Int.pow_zero]; rfl, s0.trans s1, by rw [upd_same, ecut], by decide, by decide, by decide, Nat.le_refl _⟩
    · rintro i σ G _ ⟨dg, mx, j, c4, c5, rfl, _, hG, _⟩
      exact SqL.of hG
    · rintro i x t σ G hx ⟨dg, mx, j, c4, c5, rfl, sm, hG, d0, m0, m1, hj⟩ ht'
      obtain ⟨hi, rfl⟩ := ints_get hx
      have hi63 : i < 63 := by rw [List.length_take] at hi; omega
      generalize (ns.take 63).getD i 0 = c
      have st := same_upd (o := .tup [.int (i : Int), .int c]) ht'
      have r0 := Int.emod_nonneg c (by decide : (2305843009213693951 : Int) ≠ 0)
      have r1 := Int.emod_lt_of_pos c (by decide : (0 : Int) < 2305843009213693951)
      refine ⟨t, _, rfl, SqT.of upd_same, rfl, _, _, rfl, _, _, rfl, rfl, ?_⟩
      refine ⟨_, rfl, _, _, rfl, rfl, .inr ⟨by decide, by decide⟩, _, rfl, _, _, rfl, rfl, (by show (0 : Int) < 2305843009213693951; decide), _, _, rfl, rfl, _, rfl, _, _, rfl, rfl, .inl ⟨by decide, by decide⟩, _, _, rfl, rfl, _, _, rfl, rfl, _, _, rfl, rfl, ⟨by decide, by decide, ?_⟩, _, _, rfl, rfl, (by show (0 : Int) < 2305843009213693951; decide), ?_⟩
      · generalize c % 2305843009213693951 = r at *
        omega
      have q0 := Int.emod_nonneg ((mx * 3 + c % 2305843009213693951 + 97 * (i : Int) + 1) ^ (3 : Int).toNat) (by decide : (2305843009213693951 : Int) ≠ 0)
      have q1 := Int.emod_lt_of_pos ((mx * 3 + c % 2305843009213693951 + 97 * (i : Int) + 1) ^ (3 : Int).toNat) (by decide : (0 : Int) < 2305843009213693951)
      refine ⟨_, rfl, c, rfl, _, _, rfl, rfl, ⟨by decide, by decide, by decide⟩, _, _, rfl, rfl, _, rfl, ?_⟩
      refine ite2 (fun _ => ?_) (fun _ => ?_)
      · refine ⟨_, rfl, _, rfl, c, rfl, _, _, rfl, rfl, ⟨by decide, by decide, by decide⟩, _, _, rfl, rfl, Ft, _, rfl, _, _, rfl, rfl, far_mul2 _ j (by omega), _, _, rfl, rfl, ?_⟩
        refine ⟨_, rfl, _, _, rfl, rfl, ⟨by decide, by decide, by decide⟩, _, _, rfl, rfl, far_mul j (by omega), ?_⟩
        refine ⟨dg + (if c < 0 then -c else c) % (10 : Int) ^ (60 : Int).toNat * ((10 : Int) ^ (60 : Int).toNat) ^ j, _, j + 1, some (.int (i : Int)), some (.int c), ?_, sm.trans st, st _ _ hG, ?_, q0, q1, by omega⟩
        · rw [Int.pow_succ]
          rfl
        · exact Int.add_nonneg d0 (Int.mul_nonneg (Int.emod_nonneg _ (Int.ne_of_gt Ft)) (Int.le_of_lt (Int.pow_pos Ft)))
      · exact ⟨_, _, j, _, _, rfl, sm.trans st, st _ _ hG, d0, q0, q1, by omega⟩
    · rintro σ G ⟨dg, mx, j, c4, c5, rfl, sm, hG, d0, m0, m1, hj⟩
      refine ⟨_, rfl, _, rfl, by show 3 ≤ sizeLine; decide, fun p hp => ?_⟩
      exact k p _ (sm.trans (same_upd hp)) ⟨_, _, _, upd_same, d0, m0, by omega, Int.le_refl _, Int.le_refl _⟩ (sm.free hp)
theorem sc__law_take : FnScope ["_law_urn_here", "_law_many", "_law_digit"] ["_law_urn_here", "_law_many"] (defScope s__law_take) := ⟨rfl, rfl, rfl, by decide +kernel, rfl, by decide +kernel, by decide +kernel⟩
set_option maxHeartbeats 8000000 in
theorem ok__law_take {f : Addr} {fd : FuncData} (F : Fun K "_law_take" "_law_take" s__law_take f fd) : FnOk P w K mg base CX0 1 f fd ["_law_urn_here", "_law_many"] spDraw := by
  refine F.ok sc__law_take (fun vs H Q E h => ?_) (fun cdv A outer s H vs Q E hr h => ?_)
  · obtain ⟨p, m, n, rfl, _⟩ := h
    rfl
  · obtain ⟨p, m, n, rfl, hm0, hm1, ⟨own, seed, turn, hp, o0, s0, s1, t0, t1⟩, hn, k⟩ := h
    refine ⟨_, (pss_cons (ps_if (pt_cmpR op_gt (pe_ix ix_list (pv 0) pe_int (fun _ _ => rfl)) pe_int (nomark _))
        (pss_cons (ps_set (i := 2) sc__law_take.nd rfl (Or.inl rfl) (pe_op op_mod (pe_ix ix_list (pv 0) pe_int (fun _ _ => rfl)) (pv 1)))
        (pss_cons (ps_asg (pe_op op_fdivW (pe_ix ix_list (pv 0) pe_int (fun _ _ => rfl)) (pv 1)) (pg_sub (pv 0) pe_int set_list))
        (pss_one (ps_ret (pv 2)))))
        pss_nil)
      (pss_cons (ps_asg (pe_op op_add (pe_ix ix_list (pv 0) pe_int (fun _ _ => rfl)) pe_int) (pg_sub (pv 0) pe_int set_list))
      (pss_cons (ps_asg (pe_op op_mod (pe_op op_pow (pe_op op_add (pe_ix ix_list (pv 0) pe_int (fun _ _ => rfl)) (pe_op op_mul pe_int (pe_ix ix_list (pv 0) pe_int (fun _ _ => rfl)))) pe_int) pe_int) (pg_sub (pv 0) pe_int set_list))
      (pss_one (ps_ret (pe_op op_mod (pe_op op_fdiv (pe_ix ix_list (pv 0) pe_int (fun _ _ => rfl)) pe_int) (pv 1))))))), ?_⟩
    refine ⟨_, rfl, p, _, 0, _, rfl, rfl, SqL.of hp, atI_nat (j := 0) rfl, _, _, rfl, rfl, _, rfl, ?_⟩
    refine ite2 (fun _ => ?_) (fun _ => ?_)
    · refine ⟨_, rfl, p, _, 0, _, rfl, rfl, SqL.of hp, atI_nat (j := 0) rfl, _, rfl, _, _, rfl, rfl, hm0, ?_⟩
      refine ⟨_, rfl, p, _, 0, _, rfl, rfl, SqL.of hp, atI_nat (j := 0) rfl, _, rfl, _, _, rfl, rfl, ⟨hm0, hm1⟩, _, rfl, p, _, 0, 0, rfl, rfl, hp, rfl, ?_⟩
      refine ⟨_, rfl, ?_⟩
      refine k _ _ (Int.emod_nonneg _ (by omega)) (Int.emod_lt_of_pos _ hm0) ⟨_, _, _, upd_same, Int.ediv_nonneg o0 (by omega), s0, s1, t0, by omega⟩ fun b o hb h1 _ => ?_
      rw [upd_ne h1]
      exact hb
    · refine ⟨_, rfl, p, _, 2, _, rfl, rfl, SqL.of hp, atI_nat (j := 2) rfl, _, _, rfl, rfl, _, rfl, p, _, 2, 2, rfl, rfl, hp, rfl, ?_⟩
      have hp2 : (upd H p (.lst ([V.int own, V.int seed, V.int turn].set 2 (V.int (turn + 1))))) p = some (.lst [V.int own, V.int seed, V.int (turn + 1)]) := by rw [upd_same]; rfl
      refine ⟨_, rfl, p, _, 1, _, rfl, rfl, SqL.of hp2, atI_nat (j := 1) rfl, _, rfl, p, _, 2, _, rfl, rfl, SqL.of hp2, atI_nat (j := 2) rfl, _, _, rfl, rfl, .inl ⟨by decide, by decide⟩, _, _, rfl, rfl, _, _, rfl, rfl, ⟨by decide, by decide, by omega⟩, _, _, rfl, rfl, (by show (0 : Int) < 2305843009213693951; decide), _, rfl, p, _, 1, 1, rfl, rfl, hp2, rfl, ?_⟩
      have q0 := Int.emod_nonneg ((seed + 982451653 * (turn + 1)) ^ (3 : Int).toNat) (by decide : (2305843009213693951 : Int) ≠ 0)
      have q1 := Int.emod_lt_of_pos ((seed + 982451653 * (turn + 1)) ^ (3 : Int).toNat) (by decide : (0 : Int) < 2305843009213693951)
      refine ⟨_, rfl, p, _, 1, _, rfl, rfl, SqL.of upd_same, atI_nat (j := 1) rfl, _, _, rfl, rfl, ⟨by decide, by decide⟩, _, rfl, _, _, rfl, rfl, hm0, ?_⟩
      refine k _ _ (Int.emod_nonneg _ (by omega)) (Int.emod_lt_of_pos _ hm0) ⟨_, _, _, upd_same, o0, q0, by omega, by omega, by omega⟩ fun b o hb h1 _ => ?_
      rw [upd_ne h1, upd_ne h1]
      exact hb
end
end K50


namespace L2
open PySem PySem.Spec PyProof.Rows
def tPar3 (i j l : Nat) (ta : TA) : TS := fun D σ H => ta σ H fun vs H1 => ∃ v w u, vs = [v, w, u] ∧ D.nx (((σ.set i (some v)).set j (some w)).set l (some u)) H1
theorem ps_par3 {X : Cx} {pos : Pos} {i j l : Nat} {x y z : Str} {a b c : Expr} {ta : TA} {px py pz pt : Pos} {kt k2 pt2} (hc : X.calm = true) (hN : X.N.Nodup) (hi : X.N[i]? = some x) (hj : X.N[j]? = some y) (hl : X.N[l]? = some z) (hij : i ≠ j) (hil : i ≠ l) (hjl : j ≠ l)
    (hx : X.env.scope.names.lookup x = some .local) (hy : X.env.scope.names.lookup y = some .local) (hz : X.env.scope.names.lookup z = some .local) (ha : PA X [a, b, c] ta)
    (hw : swappedStores [.Tuple [.Name x px, .Name y py, .Name z pz] kt pt] (.Tuple [a, b, c] k2 pt2) X.env = pure (some [x, y, z]))
    (hs : swapsWithSole [.Tuple [.Name x px, .Name y py, .Name z pz] kt pt] (.Tuple [a, b, c] k2 pt2) pos.line X.env = pure false := by rfl) :
    PS X (.Assign [.Tuple [.Name x px, .Name y py, .Name z pz] kt pt] (.Tuple [a, b, c] k2 pt2) pos) (tPar3 i j l ta) := by
  intro pins s σ H D I h
  rw [exec_Assign_arm]
  refine wpAny_bind (wpAny_standAt ?_)
  rw [hs]
  refine wpAny_bind (wpAny_pure ?_)
  rw [if_neg (by decide)]
  refine wpAny_bind (Tuple_ (thn (ha _ pins s σ H _ I h) fun us s1 ⟨vs, H1, I1, r1, q1⟩ => ?_))
  obtain ⟨v, w, u, e1, q1⟩ := q1
  subst e1
  obtain ⟨u1, u2, u3, rfl, rv, rw', ru⟩ : ∃ u1 u2 u3, us = [u1, u2, u3] ∧ RelV v u1 ∧ RelV w u2 ∧ RelV u u3 := by
    cases r1 with
    | cons p q =>
      cases q with
      | cons p' q' =>
        cases q' with
        | cons p'' q'' =>
          cases q''
          exact ⟨_, _, _, rfl, p, p', p''⟩
  refine wpAny_newObj_type ?_ (by show 3 ≤ sizeLine; decide)
  have I2 : Inv X pins σ H1 { s1 with heap := s1.heap.push { cls := .type "tuple", data := .seq [u1, u2, u3].toArray } } := I1.kept (t' := s1.toks) fun b o e => Heap.get?_push_of_some _ e
  rw [hw]
  refine wpAny_bind (wpAny_pure ?_)
  show wpAny (model X.prog X.w) X.A (do rule "assign.swapped-stores"; let items ← unpackItems (.ref s1.heap.objs.size) 3 none; assignInOrder [fun v => bindName X.env z v, fun v => bindName X.env y v, fun v => bindName X.env x v] items.reverse; pure Flow.next) _ _ _
  refine wpAny_bind (wpAny_rule (wpAny_bind (unpackItems_tuple (items := #[u1, u2, u3]) (I.ok.hd hc) (IsTup.new s1.heap _) fun h' hx' => ?_)))
  have I3 := I2.kept (h' := h') (t' := s1.toks) fun b o e => hx' b o (Nat.ne_of_lt (Heap.lt_size e)) e
  show wpAny _ _ (assignInOrder [fun v => bindName X.env z v, fun v => bindName X.env y v, fun v => bindName X.env x v] [u3, u2, u1] >>= fun _ => pure Flow.next) _ _ _
  refine wpAny_bind (assignInOrder_cons (wpAny_bindName (store_ok I3 hN hl (.inl hz) ru (fun s2 I4 => ?_) (.inr hz))))
  refine assignInOrder_cons (wpAny_bindName (store_ok I4 hN hj (.inl hy) rw' (fun s3 I5 => ?_) (.inr hy)))
  refine assignInOrder_cons (wpAny_bindName (store_ok I5 hN hi (.inl hx) rv (fun s4 I6 => assignInOrder_nil (wpAny_pure ?_)) (.inr hx)))
  rw [List.set_comm _ _ (Ne.symm hij), List.set_comm _ _ (Ne.symm hil), List.set_comm _ _ (Ne.symm hjl)] at I6
  exact ⟨_, H1, I6, q1⟩
end L2
namespace K50
open PySem PySem.Spec PyProof.Rows L2
abbrev s__law_marks : Stmt := top 8
section
variable {P : Program} {w : World} {K : PySem.W.Frag} {mg : Str → Option Value} {base : Heap}
theorem sc__law_marks : FnScope ["_law_order", "_law_found", "_law_low", "_law_last", "_law_high", "_law_place", "_law_number"] ["_law_order"] (defScope s__law_marks) := ⟨rfl, rfl, rfl, by decide +kernel, rfl, by decide +kernel, by decide +kernel⟩
set_option maxHeartbeats 16000000 in
theorem ok__law_marks {f : Addr} {fd : FuncData} (F : Fun K "_law_marks" "_law_marks" s__law_marks f fd) (T : Top mg) : FnOk P w K mg base CX0 1 f fd ["_law_order"] (spOr marksZ) := by
  refine F.ok sc__law_marks (fun vs H Q E h => ?_) (fun cdv A outer s H vs Q E hr h => ?_)
  · obtain ⟨a, os, m, rfl, _⟩ := h
    rfl
  · obtain ⟨a, os, m, rfl, ha, ho, hm, k⟩ := h
    have ln := ho.len
    refine ⟨_, (pss_cons (ps_set (i := 1) sc__law_marks.nd rfl (Or.inl rfl) (pe_lst pa_nil))
      (pss_cons (ps_asg (pe_tup (pa_cons pe_int (pa_cons pe_int (pa_cons pe_int pa_nil)))) (pg_tup rfl (pgs_cons (pg_name (i := 2) sc__law_marks.nd rfl (Or.inl rfl) (Or.inl rfl)) (pgs_cons (pg_name (i := 3) sc__law_marks.nd rfl (Or.inl rfl) (Or.inl rfl)) (pgs_cons (pg_name (i := 4) sc__law_marks.nd rfl (Or.inl rfl) (Or.inl rfl)) pgs_nil)))))
      (pss_cons (ps_for PassesOwn.never rfl (pi_enumT rfl T.n_enumerate (pa_cons (pv 0) pa_nil)) (pg_pair (i := 5) (j := 6) rfl sc__law_marks.nd rfl rfl (Or.inl rfl) (Or.inl rfl) (Or.inl rfl) (Or.inl rfl))
        (pss_cons (ps_if (pt_cmpR op_eq (pv 5) pe_int (nomark _))
          (pss_one (ps_par (i := 2) (j := 4) rfl sc__law_marks.nd rfl rfl (by decide) rfl rfl (pa_cons (pv 6) (pa_cons (pv 6) pa_nil)) rfl))
          (pss_one (ps_if (pt_cmpR op_gt (pv 6) (pv 4) (nomark _))
            (pss_one (ps_expr (pe_bm PySem.F.plainAttrs_list PySem.F.slot_list_append PySem.F.type_list_append mt_append (pv 1) (pa_cons pe_int pa_nil))))
            (pss_one (ps_if (pt_cmpR op_gt (pv 6) (pv 3) (nomark _))
              (pss_one (ps_expr (pe_bm PySem.F.plainAttrs_list PySem.F.slot_list_append PySem.F.type_list_append mt_append (pv 1) (pa_cons pe_int pa_nil))))
              (pss_one (ps_if (pt_cmpR op_lt (pv 6) (pv 2) (nomark _))
                (pss_one (ps_expr (pe_bm PySem.F.plainAttrs_list PySem.F.slot_list_append PySem.F.type_list_append mt_append (pv 1) (pa_cons pe_int pa_nil))))
                (pss_one (ps_expr (pe_bm PySem.F.plainAttrs_list PySem.F.slot_list_append PySem.F.type_list_append mt_append (pv 1) (pa_cons pe_int pa_nil)))))))))))
        (pss_one (ps_par3 (i := 2) (j := 3) (l := 4) rfl sc__law_marks.nd rfl rfl rfl (by decide) (by decide) (by decide) rfl rfl rfl (pa_cons (pe_callB (call_min2 rfl) (by rfl) T.n_min boot_min (pa_cons (pv 2) (pa_cons (pv 6) pa_nil))) (pa_cons (pv 6) (pa_cons (pe_callB (call_max2 rfl) (by rfl) T.n_max boot_max (pa_cons (pv 4) (pa_cons (pv 6) pa_nil))) pa_nil))) rfl))))
      (pss_one (ps_ret (pe_callTy call_tuple_of (by rfl) T.n_tuple boot_tuple (pa_cons (pv 1) pa_nil))))))), ?_⟩
    refine ⟨Nat.zero_le _, fun L hL => ?_⟩
    have s0 := same_upd (o := .lst []) hL
    refine ⟨by show 3 ≤ sizeLine; decide, fun t0 ht0 => ⟨t0, _, rfl, SqT.of upd_same, rfl, _, _, rfl, _, _, rfl, _, _, rfl, rfl, ?_⟩⟩
    have s1 := same_upd (o := .tup [.int 0, .int 0, .int 0]) ht0
    refine ⟨_, rfl, a, rfl, ⟨_, SqT.of (s1 _ _ (s0 _ _ ha))⟩, ?_⟩
    refine for_enum (K := K) (xs := os.map V.int) (fun i σ G => ∃ (lo la hi : Int) (c5 c6 : Option V), σ = [some (.ref a), some (.ref L), some (.int lo), some (.int la), some (.int hi), c5, c6] ∧ Same H G ∧ G L = some (.lst (((numF 1 (i - 1)).map fun k => markZ os k.toNat).map V.int)) ∧ (1 ≤ i → lo ∈ os.take i ∧ (∀ b ∈ os.take i, lo ≤ b) ∧ hi ∈ os.take i ∧ (∀ b ∈ os.take i, b ≤ hi) ∧ la = os.getD (i - 1) 0)) ?_ ?_ ?_ ?_
    · exact ⟨0, 0, 0, none, none, rfl, s0.trans s1, s1 _ _ upd_same, fun z => absurd z (by omega)⟩
    · rintro i σ G _ ⟨lo, la, hi, c5, c6, rfl, sm, _⟩
      exact SqT.of (sm _ _ ha)
    · rintro i x t σ G hx ⟨lo, la, hi, c5, c6, rfl, sm, hG, hinv⟩ ht'
      obtain ⟨hil, rfl⟩ := ints_get hx
      have st := same_upd (o := .tup [.int (i : Int), .int (os.getD i 0)]) ht'
      have hG1 := st _ _ hG
      have htk : os.take (i + 1) = os.take i ++ [os.getD i 0] := by
        rw [List.take_succ, List.getElem?_eq_getElem hil, List.getD_eq_getElem?_getD, List.getElem?_eq_getElem hil]
        rfl
      -- the three, behind
      have three : ∀ (lo hi la : Int) (G2 : Hp) (D : Ends), (i = 0 → lo = os.getD i 0 ∧ hi = os.getD i 0) → (1 ≤ i → lo ∈ os.take i ∧ (∀ b ∈ os.take i, lo ≤ b) ∧ hi ∈ os.take i ∧ (∀ b ∈ os.take i, b ≤ hi)) →
          (∀ (lo2 hi2 : Int), (lo2 ∈ os.take (i + 1) ∧ (∀ b ∈ os.take (i + 1), lo2 ≤ b) ∧ hi2 ∈ os.take (i + 1) ∧ (∀ b ∈ os.take (i + 1), b ≤ hi2)) → D.nx [some (.ref a), some (.ref L), some (.int lo2), some (.int (os.getD i 0)), some (.int hi2), some (.int (i : Int)), some (.int (os.getD i 0))] G2) →
          (tPar3 2 3 4 (tCons (tCB (fun xs H Q => ∃ i j, xs = [.int i, .int j] ∧ Q (.int (if j < i then j else i)) H) (tCons (tVar 2) (tCons (tVar 6) tNil))) (tCons (tVar 6) (tCons (tCB (fun xs H Q => ∃ i j, xs = [.int i, .int j] ∧ Q (.int (if j > i then j else i)) H) (tCons (tVar 4) (tCons (tVar 6) tNil))) tNil)))) D [some (.ref a), some (.ref L), some (.int lo), some (.int la), some (.int hi), some (.int (i : Int)), some (.int (os.getD i 0))] G2 := by
        intro lo hi la G2 D h0 h1 kk
        refine ⟨_, rfl, _, rfl, _, _, rfl, _, rfl, _, rfl, _, rfl, _, _, rfl, _, _, _, rfl, ?_⟩
        refine kk _ _ ?_
        rw [htk]
        by_cases hi0 : i = 0
        · obtain ⟨rfl, rfl⟩ := h0 hi0
          subst hi0
          simp
        · obtain ⟨q1, q2, q3, q4⟩ := h1 (by omega)
          refine ⟨?_, fun b hb => ?_, ?_, fun b hb => ?_⟩
          · split
            · exact List.mem_append_right _ (List.mem_singleton_self _)
            · exact List.mem_append_left _ q1
          · rcases List.mem_append.mp hb with hb | hb
            · have := q2 b hb; split <;> omega
            · rw [List.mem_singleton.mp hb]; split <;> omega
          · split
            · exact List.mem_append_right _ (List.mem_singleton_self _)
            · exact List.mem_append_left _ q3
          · rcases List.mem_append.mp hb with hb | hb
            · have := q4 b hb; split <;> omega
            · rw [List.mem_singleton.mp hb]; split <;> omega
      refine ⟨t, _, rfl, SqT.of upd_same, rfl, _, _, rfl, _, _, rfl, rfl, ?_⟩
      refine ⟨_, rfl, rfl, _, rfl, ?_⟩
      by_cases hi0 : i = 0
      · rw [decide_eq_true (by rw [hi0]; rfl)]
        refine iteT ⟨_, rfl, _, rfl, _, _, rfl, ?_⟩
        refine three _ _ _ _ _ (fun _ => ⟨rfl, rfl⟩) (fun z => absurd z (by omega)) fun lo2 hi2 h2 => ?_
        refine ⟨lo2, _, hi2, _, _, rfl, sm.trans st, ?_, fun _ => ⟨h2.1, h2.2.1, h2.2.2.1, h2.2.2.2, rfl⟩⟩
        have := hG1
        rw [hi0] at this ⊢
        exact this
      · rw [decide_eq_false (fun e => by have := V.int.inj e; omega)]
        refine iteF ?_
        obtain ⟨q1, q2, q3, q4, q5⟩ := hinv (by omega)
        have e3 := mark_hi q3 q4
        have e0 := mark_lo q1 q2
        have hlast : la ∈ os.take i := by rw [q5]; exact take_pos (by omega) hil
        have hlo := q2 la hlast
        have app : ∀ v : Int, markZ os i = v → ∀ D : Ends, (∀ G2, Same H G2 → G2 L = some (.lst (((numF 1 (i + 1 - 1)).map fun k => markZ os k.toNat).map V.int)) → D.nx [some (.ref a), some (.ref L), some (.int lo), some (.int la), some (.int hi), some (.int (i : Int)), some (.int (os.getD i 0))] G2) →
            (tDrop (tBM K "list" rAppend (tVar 1) (tCons (tC (.int v)) tNil))) D [some (.ref a), some (.ref L), some (.int lo), some (.int la), some (.int hi), some (.int (i : Int)), some (.int (os.getD i 0))] (upd G t (.tup [.int (i : Int), .int (os.getD i 0)])) := by
          intro v hv D kk
          refine ⟨_, rfl, .inl ⟨rfl, _, SqL.of hG1⟩, L, _, _, rfl, rfl, hG1, small1 (by rw [mapI_len, List.length_map]; unfold numF; simp; omega), ?_⟩
          refine kk _ (same_updR (sm.trans st) hL) ?_
          rw [upd_same, show i + 1 - 1 = (i - 1) + 1 by omega, numF_succ, List.map_append, List.map_append]
          show some (HO.lst (_ ++ [V.int v])) = some (HO.lst (_ ++ [V.int (markZ os (1 + ((i - 1 : Nat) : Int)).toNat)]))
          rw [show (1 + ((i - 1 : Nat) : Int)).toNat = i by omega, hv]
        have nxt : ∀ (G2 : Hp) (D : Ends), Same H G2 → G2 L = some (.lst (((numF 1 (i + 1 - 1)).map fun k => markZ os k.toNat).map V.int)) → (∀ σ G3, (∃ (lo la hi : Int) (c5 c6 : Option V), σ = [some (.ref a), some (.ref L), some (.int lo), some (.int la), some (.int hi), c5, c6] ∧ Same H G3 ∧ G3 L = some (.lst (((numF 1 (i + 1 - 1)).map fun k => markZ os k.toNat).map V.int)) ∧ (1 ≤ i + 1 → lo ∈ os.take (i + 1) ∧ (∀ b ∈ os.take (i + 1), lo ≤ b) ∧ hi ∈ os.take (i + 1) ∧ (∀ b ∈ os.take (i + 1), b ≤ hi) ∧ la = os.getD (i + 1 - 1) 0)) → D.nx σ G3) →
            (tPar3 2 3 4 (tCons (tCB (fun xs H Q => ∃ i j, xs = [.int i, .int j] ∧ Q (.int (if j < i then j else i)) H) (tCons (tVar 2) (tCons (tVar 6) tNil))) (tCons (tVar 6) (tCons (tCB (fun xs H Q => ∃ i j, xs = [.int i, .int j] ∧ Q (.int (if j > i then j else i)) H) (tCons (tVar 4) (tCons (tVar 6) tNil))) tNil)))) D [some (.ref a), some (.ref L), some (.int lo), some (.int la), some (.int hi), some (.int (i : Int)), some (.int (os.getD i 0))] G2 := by
          intro G2 D hs2 hL2 kk
          refine three lo hi la G2 D (fun z => absurd z hi0) (fun _ => ⟨q1, q2, q3, q4⟩) fun lo2 hi2 h2 => ?_
          exact kk _ _ ⟨lo2, _, hi2, _, _, rfl, hs2, hL2, fun _ => ⟨h2.1, h2.2.1, h2.2.2.1, h2.2.2.2, rfl⟩⟩
        refine ⟨_, rfl, _, rfl, _, _, rfl, rfl, _, rfl, ?_⟩
        refine ite2 (fun h => ?_) (fun h => ?_)
        · refine app 3 (by unfold markZ; rw [e3, if_pos h]) _ fun G2 hs2 hL2 => nxt G2 _ hs2 hL2 fun σ G3 hh => hh
        · refine ⟨_, rfl, _, rfl, _, _, rfl, rfl, _, rfl, ?_⟩
          refine ite2 (fun h2 => ?_) (fun h2 => ?_)
          · have h2' : la < os.getD i 0 := of_decide_eq_true h2
            refine app 2 (by unfold markZ; rw [e3, if_neg h, e0, if_neg (fun z => by have := of_decide_eq_true z; omega), ← q5, if_pos h2']) _ fun G2 hs2 hL2 => nxt G2 _ hs2 hL2 fun σ G3 hh => hh
          · have h2' : ¬ la < os.getD i 0 := fun z => h2 (decide_eq_true z)
            refine ⟨_, rfl, _, rfl, _, _, rfl, rfl, _, rfl, ?_⟩
            refine ite2 (fun h3 => ?_) (fun h3 => ?_)
            · refine app 0 (by unfold markZ; rw [e3, if_neg h, e0, if_pos h3]) _ fun G2 hs2 hL2 => nxt G2 _ hs2 hL2 fun σ G3 hh => hh
            · refine app 1 (by unfold markZ; rw [e3, if_neg h, e0, if_neg h3, ← q5, if_neg h2']) _ fun G2 hs2 hL2 => nxt G2 _ hs2 hL2 fun σ G3 hh => hh
    · rintro σ G ⟨lo, la, hi, c5, c6, rfl, sm, hG, _⟩
      rw [mapI_len] at hG
      refine ⟨_, rfl, L, _, rfl, .inl ⟨SqL.of hG, fun z hz => ?_⟩⟩
      exact k z _ (sm.trans (same_upd hz)) upd_same
end
end K50


namespace K50
open PySem PySem.Spec PyProof.Rows L2
abbrev s__law_goes : Stmt := top 9
abbrev s__law_met : Stmt := top 10
theorem ix_row {rows : List (List Int)} {zs : List Addr} {H : Hp} {N : Nat} (hr : RowsAt H zs rows) (hl : rows.length = N) {d : Int} (h0 : 0 ≤ d) (h1 : d < N) : ∃ z, atI (zs.map V.ref) d = some (.ref z) ∧ H z = some (.tup ((rows.getD d.toNat []).map V.int)) ∧ rows.getD d.toNat [] ∈ rows := by
  have hzl := Paired.length hr
  have hz : d.toNat < zs.length := by omega
  have hd : d.toNat < rows.length := by omega
  obtain ⟨r, e, hh⟩ := RowsAt.get hr (i := d.toNat) (z := zs[d.toNat]) (List.getElem?_eq_getElem hz)
  refine ⟨zs[d.toNat], ?_, ?_, ?_⟩
  · have := atI_nat (xs := zs.map V.ref) (j := d.toNat) (v := .ref zs[d.toNat]) (by rw [List.getElem?_map, List.getElem?_eq_getElem hz]; rfl)
    rwa [show ((d.toNat : Nat) : Int) = d by omega] at this
  · rw [List.getD_eq_getElem?_getD, e]; exact hh
  · rw [List.getD_eq_getElem?_getD, List.getElem?_eq_getElem hd]
    exact List.getElem_mem hd
section
variable {P : Program} {w : World} {K : PySem.W.Frag} {mg : Str → Option Value} {base : Heap}
theorem sc__law_goes : FnScope ["_law_machine_here", "_law_seen", "_law_state", "_law_mark"] ["_law_machine_here", "_law_seen"] (defScope s__law_goes) := ⟨rfl, rfl, rfl, by decide +kernel, rfl, by decide +kernel, by decide +kernel⟩
theorem ok__law_goes {f : Addr} {fd : FuncData} (F : Fun K "_law_goes" "_law_goes" s__law_goes f fd) : FnOk P w K mg base CX0 1 f fd ["_law_machine_here", "_law_seen"] spGoes := by
  refine F.ok sc__law_goes (fun vs H Q E h => ?_) (fun cdv A outer s H vs Q E hr h => ?_)
  · obtain ⟨z, a, N, rows, ends, ms, rfl, _⟩ := h
    rfl
  · obtain ⟨z, a, N, rows, ends, ms, rfl, hM, ha, hmk, k⟩ := h
    refine ⟨_, (pss_cons (ps_set (i := 2) sc__law_goes.nd rfl (Or.inl rfl) pe_int)
      (pss_cons (ps_for PassesOwn.never rfl (pi_tup (pv 1)) (pg_name (i := 3) sc__law_goes.nd rfl (Or.inl rfl))
        (pss_one (ps_set (i := 2) sc__law_goes.nd rfl (Or.inl rfl) (pe_ix ix_tup (pe_ix ix_tup (pe_ix ix_tup (pv 0) pe_int (fun _ _ => rfl)) (pv 2) (fun _ _ => rfl)) (pv 3) (fun _ _ => rfl)))))
      (pss_one (ps_ret (pv 2))))), ?_⟩
    obtain ⟨R, E', zs, hz, hR, hrw, hE, hN, hN0, hv⟩ := hM
    refine ⟨_, rfl, a, rfl, ⟨_, SqT.of ha⟩, ?_⟩
    refine for_tup (K := K) (xs := ms.map V.int) (fun i σ G => ∃ c3, σ = [some (.ref z), some (.ref a), some (.int (goZ rows (ms.take i))), c3] ∧ Same H G) ?_ ?_ ?_ ?_
    · exact ⟨none, rfl, Same.refl H⟩
    · rintro i σ G _ ⟨c4, rfl, sm⟩
      exact SqT.of (sm _ _ ha)
    · rintro i x σ G hx ⟨c4, rfl, sm⟩
      have hx' := hx
      rw [List.getElem?_map] at hx'
      obtain ⟨d, hd, rfl⟩ := Option.map_eq_some_iff.mp hx'
      have hil : i < ms.length := (List.getElem?_eq_some_iff.mp hd).1
      obtain ⟨r0, r1⟩ := goZ_rng hN hN0 hv hmk i (by omega)
      obtain ⟨zr, e1, h1, hmem⟩ := ix_row (hrw.same sm) hN r0 r1
      obtain ⟨d0, d1⟩ := hmk d (List.mem_of_getElem? hd)
      have q4 := (hv _ hmem).1
      refine ⟨_, rfl, z, _, 0, _, rfl, rfl, SqT.of (sm _ _ hz), atI_nat (j := 0) rfl, _, rfl, R, _, _, _, rfl, rfl, SqT.of (sm _ _ hR), e1, _, rfl, zr, _, _, _, rfl, rfl, SqT.of h1, at_getD d0 (by omega), ?_⟩
      refine ⟨some (.int d), ?_, sm⟩
      rw [goZ_step hd]
      rfl
    · rintro σ G ⟨c4, rfl, sm⟩
      rw [mapI_len, List.take_length]
      exact ⟨_, rfl, k G sm⟩
theorem sc__law_met : FnScope ["_law_machine_here", "_law_order"] ["_law_machine_here", "_law_order"] (defScope s__law_met) := ⟨rfl, rfl, rfl, by decide +kernel, rfl, by decide +kernel, by decide +kernel⟩
theorem ok__law_met {f : Addr} {fd : FuncData} (F : Fun K "_law_met" "_law_met" s__law_met f fd) (C_law_goes : Cal P w K mg base 1 "_law_goes" ["_law_machine_here", "_law_seen"] spGoes) (C_law_marks : Cal P w K mg base 1 "_law_marks" ["_law_order"] (spOr marksZ)) : FnOk P w K mg base CX0 2 f fd ["_law_machine_here", "_law_order"] spMet := by
  refine F.ok sc__law_met (fun vs H Q E h => ?_) (fun cdv A outer s H vs Q E hr h => ?_)
  · obtain ⟨z, a, N, rows, ends, os, m, rfl, _⟩ := h
    rfl
  · obtain ⟨z, a, N, rows, ends, os, m, rfl, hM, ha, ho, hm, k⟩ := h
    refine ⟨_, (pss_one (ps_ret (pe_cmpR op_in_seq (pe_cal C_law_goes (hr.mono (by decide)) rfl (pa_cons (pv 0) (pa_cons (pe_cal C_law_marks (hr.mono (by decide)) rfl (pa_cons (pv 1) pa_nil)) pa_nil))) (pe_ix ix_tup (pv 0) pe_int (fun _ _ => rfl)) (by rfl)))), ?_⟩
    refine ⟨_, rfl, _, rfl, a, os, m, rfl, ha, ho, hm, fun q G1 s1 hq => ?_⟩
    refine ⟨z, q, N, rows, ends, _, rfl, hM.sameT s1.t, hq, mk_marks os, fun G2 s2 => ?_⟩
    obtain ⟨R, E', zs, hz, hR, hrw, hE, hN, hN0, hv⟩ := hM
    have s12 := s1.trans s2
    refine ⟨_, rfl, z, _, 1, _, rfl, rfl, SqT.of (s12 _ _ hz), atI_nat (j := 1) rfl, ?_⟩
    exact ⟨E', _, rfl, .inr (SqT.of (s12 _ _ hE)), rfl, flat_ints _, k G2 s12⟩
end
end K50


namespace L2
open PySem PySem.Spec PyProof.Rows
theorem op_inK {X : Cx} (K : PySem.W.Frag) (hK : X.K = K) : OpR X (compareOp .In) (rIn K false) := hK ▸ op_in_seq
theorem call_tupK {X : Cx} (K : PySem.W.Frag) (hK : X.K = K) : CallR X (.type "tuple") (fun xs H Q => ∃ p ys, xs = [.ref p] ∧ ((SqL K H p ys ∧ ∀ l, H l = none → Q (.ref l) (upd H l (.tup ys))) ∨ (SqT K H p ys ∧ Q (.ref p) H))) := hK ▸ call_tuple_of
theorem range_at {n i : Nat} {x : V} (h : (rangeV 0 n)[i]? = some x) : x = .int (i : Int) ∧ i < n := by
  have hi := (List.getElem?_eq_some_iff.mp h).1
  rw [rangeV_len] at hi
  unfold rangeV at h
  rw [List.getElem?_map, List.getElem?_range hi] at h
  cases h
  exact ⟨by show V.int (0 + (i : Int)) = _; rw [Int.zero_add], hi⟩
theorem paired_mem {α β : Type} {F : α → β → Prop} : ∀ {l₁ : List α} {l₂ : List β}, Paired F l₁ l₂ → ∀ {a : α}, a ∈ l₁ → ∃ b, F a b
  | _, _, .nil, _, h => by cases h
  | _, _, .cons p q, a, h => by
    rcases List.mem_cons.mp h with rfl | h
    · exact ⟨_, p⟩
    · exact paired_mem q h
def RTup (H0 : Hp) (x v : V) (H : Hp) : Prop := ∀ z (r : List Int), x = .ref z → H0 z = some (.lst (r.map V.int)) → ∃ b, v = .ref b ∧ H b = some (.tup (r.map V.int))
theorem rows_tup {H0 H : Hp} : ∀ {zs : List Addr} {rows : List (List Int)} {ys : List V}, LRows H0 zs rows → Paired (fun x v => RTup H0 x v H) (zs.map V.ref) ys → ∃ zs', ys = zs'.map V.ref ∧ RowsAt H zs' rows
  | [], [], [], _, _ => ⟨[], rfl, .nil⟩
  | z :: zs, r :: rows, v :: ys, .cons p q, .cons p' q' => by
    obtain ⟨b, rfl, hb⟩ := p' z r rfl p
    obtain ⟨zs', rfl, h'⟩ := rows_tup q q'
    exact ⟨b :: zs', rfl, .cons hb h'⟩
def spMachE : Sp := fun vs H Q _ => ∃ (p : Addr) (n : Nat) (most : Int), vs = [.ref p, .int most] ∧ 0 < most ∧ most ≤ 40 ∧ Pot3 H p n ∧ n < 900000 ∧ ∀ (z : Addr) (N : Nat) (rows : List (List Int)) (ends : List Int) (H' : Hp), IsMach H' z N rows ends → (N : Int) ≤ most → ends.Sublist (num0 N) → Pot3 H' p (n + 1000) → Keep p p H H' → Q (.ref z) H'
theorem lc_potS {J : It} {Ok : Hp → Prop} {ns : List Int} {tt : TT} {te : TE} {ix : List Nat} {σ : L2.St} {H1 : Hp} {Q : VK} (Y : Yields J Ok (ns.map V.int)) (small : ns.length < sizeLine) {p : Addr} {c k : Nat} (hp : Pot3 H1 p c) (hok : ∀ H, Keep p p H1 H → Ok H)
    (he : ∀ i n H, ns[i]? = some n → Keep p p H1 H → Pot3 H p (c + k * i) → ∀ (QF : Hp → Prop) (QT : VK), (∀ H', Keep p p H H' → Pot3 H' p (c + k * (i + 1)) → QF H') → (∀ H', Keep p p H H' → Pot3 H' p (c + k * (i + 1)) → QT (.int n) H') →
      tt (some (.int n) :: ix.map fun i => σ.getD i none) H fun b H3 => if b = true then te (some (.int n) :: ix.map fun i => σ.getD i none) H3 QT else QF H3)
    (fin : ∀ acc (ds : List Int) H', H1 acc = none → acc ≠ p → Keep p p H1 H' → Pot3 H' p (c + k * ns.length) → H' acc = some (.lst (ds.map V.int)) → ds.Sublist ns → Q (.ref acc) H') :
    LcW J H1 (gName 0) tt te 1 ix σ Q := by
  intro acc ha
  have hap := hp.ne_new ha
  have el : (ns.map V.int).length = ns.length := mapI_len ns
  refine ⟨fun i m H => m = ns.length - i ∧ i ≤ ns.length ∧ Keep p p H1 H ∧ Pot3 H p (c + k * i) ∧ ∃ ds : List Int, H acc = some (.lst (ds.map V.int)) ∧ ds.Sublist (ns.take i), ⟨ns.length, by simp, Nat.zero_le _, (same_upd ha).keep, hp.same (same_upd ha), [], upd_same, List.nil_sublist _⟩, ?_⟩
  rintro i m H ⟨rfl, hi, kp, hpot, ds, hacc, hs⟩
  have o := hok _ kp
  by_cases hlt : i < ns.length
  · refine .inr ⟨Y.go i _ o (by rw [el]; exact hlt), fun x H' y => ?_⟩
    obtain ⟨rfl, hx⟩ := Y.yld i _ x H' o (by rw [el]; exact hlt) y
    have hn : ns[i]? = some ns[i] := List.getElem?_eq_getElem hlt
    rw [List.getElem?_map, hn] at hx
    cases hx
    have htk : ns.take (i + 1) = ns.take i ++ [ns[i]] := by rw [List.take_succ, hn]; rfl
    have hdl : ds.length ≤ i := by
      have := hs.length_le
      rw [List.length_take] at this
      omega
    refine ⟨⟨rfl, fun j v e => ?_⟩, ?_⟩
    · cases j with
      | zero => cases e
      | succ j => exact e
    · refine he i ns[i] H' hn kp hpot (fun H3 => ∃ m', m' < ns.length - i ∧ _) (fun v H4 => ∃ ys, H4 acc = some (.lst ys) ∧ ys.length < sizeLine ∧ ∃ m', m' < ns.length - i ∧ _) (fun H3 k3 p3 => ?_) (fun H4 k4 p4 => ?_)
      · exact ⟨ns.length - (i + 1), by omega, rfl, hlt, kp.trans k3, p3, ds, k3 _ _ hacc hap hap, htk ▸ hs.trans (List.sublist_append_left _ _)⟩
      · have h4 := k4 _ _ hacc hap hap
        refine ⟨_, h4, by rw [mapI_len]; omega, ns.length - (i + 1), by omega, rfl, hlt, (kp.trans k4).upd ha, p4.upd hap, ds ++ [ns[i]], by rw [upd_same, List.map_append]; rfl, htk ▸ List.Sublist.append hs (List.Sublist.refl _)⟩
  · have e : i = ns.length := by omega
    subst e
    rw [List.take_length] at hs
    exact .inl ⟨el ▸ Y.stop _ o, fin acc ds H ha hap kp hpot hacc hs⟩
end L2
namespace K50
open PySem PySem.Spec PyProof.Rows L2
abbrev s__law_machine : Stmt := top 11
section
variable {P : Program} {w : World} {K : PySem.W.Frag} {mg : Str → Option Value} {base : Heap}
theorem sc__law_machine : FnScope ["_law_urn_here", "_law_most", "_law_way", "_law_many", "_law_rows", "_law_kept", "_law_ends"] ["_law_urn_here", "_law_most"] (defScope s__law_machine) := ⟨rfl, rfl, rfl, by decide +kernel, rfl, by decide +kernel, by decide +kernel⟩
set_option maxHeartbeats 16000000 in
theorem ok__law_machine {f : Addr} {fd : FuncData} (F : Fun K "_law_machine" "_law_machine" s__law_machine f fd) (T : Top mg) (C_law_take : Cal P w K mg base 1 "_law_take" ["_law_urn_here", "_law_many"] spDraw) : FnOk P w K mg base CX0 2 f fd ["_law_urn_here", "_law_most"] spMachE := by
  refine F.ok sc__law_machine (fun vs H Q E h => ?_) (fun cdv A outer s H vs Q E hr h => ?_)
  · obtain ⟨p, n, most, rfl, _⟩ := h
    rfl
  · obtain ⟨p, n, most, rfl, m0, m1, hp, hn, k⟩ := h
    refine ⟨_, (pss_cons (ps_set (i := 2) sc__law_machine.nd rfl (Or.inl rfl) (pe_cal C_law_take (hr.mono (by decide)) rfl (pa_cons (pv 0) (pa_cons pe_int pa_nil))))
      (pss_cons (ps_set (i := 3) sc__law_machine.nd rfl (Or.inr rfl) (pe_op op_add pe_int (pe_cal C_law_take (hr.mono (by decide)) rfl (pa_cons (pv 0) (pa_cons (pv 1) pa_nil)))))
      (pss_cons (ps_set (i := 4) sc__law_machine.nd rfl (Or.inl rfl) (pe_ifExp (pt_cmpR op_gt (pv 2) pe_int (nomark _)) (pe_lc (N' := ["_law_state", "_law_urn_here", "_law_many"]) (n := 1) (ix := [0, 3]) rfl (CompScope.of (sc := defScope s__law_machine) (N := ["_law_urn_here", "_law_most", "_law_way", "_law_many", "_law_rows", "_law_kept", "_law_ends"]) (by decide +kernel) rfl rfl) (pi_range1 rfl T.n_range (pa_cons (pv 3) pa_nil)) (fun _ _ _ _ _ => ⟨(pg_name (i := 0) (show (["_law_state", "_law_urn_here", "_law_many"] : List Str).Nodup by decide +kernel) rfl (Or.inl rfl)), pts_nil, (pe_lc (N' := ["_law_mark", "_law_urn_here", "_law_many"]) (n := 1) (ix := [1, 2]) rfl (CompScope.of (N := ["_law_state", "_law_urn_here", "_law_many"]) rfl rfl rfl) (pi_range1 rfl T.n_range (pa_cons pe_int pa_nil)) (fun _ _ _ _ _ => ⟨(pg_name (i := 0) (show (["_law_mark", "_law_urn_here", "_law_many"] : List Str).Nodup by decide +kernel) rfl (Or.inl rfl)), pts_nil, (pe_cal C_law_take (hr.mono (by decide)) rfl (pa_cons (pv 1) (pa_cons (pv 2) pa_nil)))⟩))⟩)) (pe_lst pa_nil)))
      (pss_cons (ps_set (i := 5) sc__law_machine.nd rfl (Or.inr rfl) (pe_ifExp (pt_cmpR op_eq (pv 2) pe_int (nomark _)) (pe_lc (N' := ["_law_mark", "_law_urn_here"]) (n := 1) (ix := [0]) rfl (CompScope.of (sc := defScope s__law_machine) (N := ["_law_urn_here", "_law_most", "_law_way", "_law_many", "_law_rows", "_law_kept", "_law_ends"]) (by decide +kernel) rfl rfl) (pi_range1 rfl T.n_range (pa_cons pe_int pa_nil)) (fun _ _ _ _ _ => ⟨(pg_name (i := 0) (show (["_law_mark", "_law_urn_here"] : List Str).Nodup by decide +kernel) rfl (Or.inl rfl)), (pts_one (pt_cmpR op_eq (pe_cal C_law_take (hr.mono (by decide)) rfl (pa_cons (pv 1) (pa_cons pe_int pa_nil))) pe_int (nomark _))), (pv 0)⟩)) (pe_lst pa_nil)))
      (pss_cons (ps_if (pt_cmpR op_eq (pv 2) pe_int (nomark _))
        (pss_one (ps_lcsetZ (i := 4) (z := "_law_state") rfl sc__law_machine.nd rfl rfl (N' := ["_law_state", "_law_kept", "_law_many"]) (n := 1) (ix := [5, 3]) rfl (CompScopeZ.of (sc := defScope s__law_machine) (N := ["_law_urn_here", "_law_most", "_law_way", "_law_many", "_law_rows", "_law_kept", "_law_ends"]) (by decide +kernel) rfl rfl (fun _ _ => rfl) (fun _ => rfl)) (pi_range1 rfl T.n_range (pa_cons (pv 3) pa_nil)) (fun _ _ _ _ _ _ => ⟨(pg_name (i := 0) (show (["_law_state", "_law_kept", "_law_many"] : List Str).Nodup by decide +kernel) rfl (Or.inr rfl) (Or.inl rfl)), pts_nil, (pe_lc (N' := ["_law_mark", "_law_state", "_law_kept", "_law_many"]) (n := 1) (ix := [0, 1, 2]) rfl (CompScope.of (N := ["_law_state", "_law_kept", "_law_many"]) rfl rfl rfl) (pi_range1 rfl T.n_range (pa_cons pe_int pa_nil)) (fun _ _ _ _ _ => ⟨(pg_name (i := 0) (show (["_law_mark", "_law_state", "_law_kept", "_law_many"] : List Str).Nodup by decide +kernel) rfl (Or.inl rfl)), pts_nil, (pe_ifExp (pt_cmpR (op_inK K rfl) (pv 0) (pv 2) (by rfl)) (pe_callB (call_min2 rfl) (by rfl) T.n_min boot_min (pa_cons (pe_op op_sub (pv 3) pe_int) (pa_cons (pe_op op_add (pv 1) pe_int) pa_nil))) (pv 1))⟩))⟩)))
        pss_nil)
      (pss_cons (ps_if (pt_cmpR op_eq (pv 2) pe_int (nomark _))
        (pss_one (ps_lcset (i := 4) rfl sc__law_machine.nd rfl rfl (N' := ["_law_state", "_law_many"]) (n := 1) (ix := [3]) rfl (CompScope.of (sc := defScope s__law_machine) (N := ["_law_urn_here", "_law_most", "_law_way", "_law_many", "_law_rows", "_law_kept", "_law_ends"]) (by decide +kernel) rfl rfl) (pi_range1 rfl T.n_range (pa_cons (pv 3) pa_nil)) (fun _ _ _ _ _ => ⟨(pg_name (i := 0) (show (["_law_state", "_law_many"] : List Str).Nodup by decide +kernel) rfl (Or.inl rfl)), pts_nil, (pe_op op_rep (pe_lst (pa_cons (pe_op op_mod (pe_op op_add (pv 0) pe_int) (pv 1)) pa_nil)) pe_int)⟩)))
        pss_nil)
      (pss_cons (ps_lcset (i := 6) rfl sc__law_machine.nd rfl rfl (N' := ["_law_state", "_law_urn_here"]) (n := 1) (ix := [0]) rfl (CompScope.of (sc := defScope s__law_machine) (N := ["_law_urn_here", "_law_most", "_law_way", "_law_many", "_law_rows", "_law_kept", "_law_ends"]) (by decide +kernel) rfl rfl) (pi_range1 rfl T.n_range (pa_cons (pv 3) pa_nil)) (fun _ _ _ _ _ => ⟨(pg_name (i := 0) (show (["_law_state", "_law_urn_here"] : List Str).Nodup by decide +kernel) rfl (Or.inl rfl)), (pts_one (pt_cmpR op_eq (pe_cal C_law_take (hr.mono (by decide)) rfl (pa_cons (pv 1) (pa_cons pe_int pa_nil))) pe_int (nomark _))), (pv 0)⟩))
      (pss_one (ps_ret (pe_tup (pa_cons (pe_callTy call_tuple_of (by rfl) T.n_tuple boot_tuple (pa_cons (pe_lc (N' := ["_law_row"]) (n := 1) (ix := []) rfl (CompScope.of (sc := defScope s__law_machine) (N := ["_law_urn_here", "_law_most", "_law_way", "_law_many", "_law_rows", "_law_kept", "_law_ends"]) (by decide +kernel) rfl rfl) (pi_list (pv 4)) (fun _ _ _ _ _ => ⟨(pg_name (i := 0) (show (["_law_row"] : List Str).Nodup by decide +kernel) rfl (Or.inl rfl)), pts_nil, (pe_callTy (call_tupK K rfl) (by rfl) T.n_tuple boot_tuple (pa_cons (pv 0) pa_nil))⟩)) pa_nil)) (pa_cons (pe_callTy call_tuple_of (by rfl) T.n_tuple boot_tuple (pa_cons (pv 6) pa_nil)) pa_nil)))))))))))), ?fin⟩
    case fin =>
      refine ⟨_, rfl, p, 5, n, rfl, by decide, by decide, hp, by omega, fun way H1 a1 b1 hp1 kp1 => ?_⟩
      refine ⟨_, rfl, _, rfl, p, most, n + 1, rfl, m0, by omega, hp1, by omega, fun d2 H2 a2 b2 hp2 kp2 => ?_⟩
      refine ⟨1, d2, rfl, rfl, ?_⟩
      show gName 3 (V.int (1 + d2)) _ _ _
      obtain ⟨N, hN⟩ : ∃ N : Nat, 1 + d2 = (N : Int) := ⟨(1 + d2).toNat, by omega⟩
      rw [hN]
      have N0 : 0 < N := by omega
      have N40 : N ≤ 40 := by omega
      have K2 := kp1.trans kp2
      refine ⟨_, rfl, _, _, rfl, rfl, _, rfl, ?_⟩
      have hway : 1 < way ∨ way = 0 ∨ way = 1 := by omega
      rcases hway with hw | rfl | rfl
      case' inl =>
        rw [decide_eq_true hw]
        refine iteT ⟨_, rfl, _, rfl, by omega, by omega, ?_⟩
        rw [Int.toNat_natCast]
        refine lc_potR (yields_range (lo := 0) (n := N)) (small1 (by rw [rangeV_len]; omega)) (c := n + 2) (k := 4) hp2 (fun r => r.length = 4 ∧ ∀ d ∈ r, 0 ≤ d ∧ d < (N : Int)) (fun _ _ => trivial) (fun i x G hx kG pG QT q => ?_) fun L zs rows G L0 Lp kG pG hL hR hzp hl hD => ?_
        · have hi := (range_at hx).2
          refine ⟨_, rfl, by decide, by decide, ?_⟩
          refine lc_potI (yields_range (lo := 0) (n := 4)) (small1 (by decide)) (k := 1) pG true (fun d => 0 ≤ d ∧ d < (N : Int)) (fun _ _ => trivial) (fun j y G2 hy kG2 pG2 QF QT2 _ q2 => ?_) fun acc ds G2 acc0 _ kG2 pG2 hG2 _ hfull hD => ?_
          · unfold tNoTest
            dsimp only
            rw [if_pos rfl]
            have hj := (range_at hy).2
            refine ⟨_, rfl, _, rfl, p, N, _, rfl, by omega, by omega, pG2, by omega, fun d G3 d0 d1 hp3 kp3 => ?_⟩
            exact q2 d G3 kp3 (hp3.more (by omega)) ⟨d0, d1⟩
          · refine q acc ds G2 acc0 hG2 kG2 (pG2.more (by rw [rangeV_len]; omega)) ⟨?_, hD⟩
            rw [hfull rfl, rangeV_len]
        rw [rangeV_len] at pG hl
        refine ⟨_, rfl, rfl, _, rfl, ?_⟩
        rw [decide_eq_false (fun e => by have := V.int.inj e; omega)]
        refine iteF ⟨Nat.zero_le _, fun kk hkk => ?_⟩
        refine ⟨_, rfl, rfl, _, rfl, ?_⟩
        rw [decide_eq_false (fun e => by have := V.int.inj e; omega)]
        refine iteF ?_
        refine ⟨_, rfl, rfl, _, rfl, ?_⟩
        rw [decide_eq_false (fun e => by have := V.int.inj e; omega)]
        refine iteF ?_
        have hL' := same_upd (o := .lst []) hkk _ _ hL
        have hR' : LRows (upd G kk (.lst [])) zs rows := Paired.mapP hR fun _ _ h => same_upd hkk _ _ h
        have pG' : Pot3 (upd G kk (.lst [])) p (n + 200) := (pG.same (same_upd hkk)).more (by omega)
        have kG' : Keep p p H (upd G kk (.lst [])) := (K2.trans kG).trans (same_upd hkk).keep
        generalize upd G kk (.lst []) = G' at hL' hR' pG' kG' ⊢
      case' inr.inl =>
        rw [decide_eq_false (by decide)]
        refine iteF ⟨Nat.zero_le _, fun l0 hl0 => ?_⟩
        refine ⟨_, rfl, rfl, _, rfl, ?_⟩
        rw [decide_eq_true rfl]
        refine iteT ⟨_, rfl, by decide, by decide, ?_⟩
        refine lc_potI (yields_range (lo := 0) (n := 4)) (small1 (by decide)) (c := n + 2) (k := 1) (hp2.same (same_upd hl0)) false (fun _ => True) (fun _ _ => trivial) (fun j y G2 hy kG2 pG2 QF QT2 q1 q2 => ?_) fun kk ks G2 acc0 hkp kG2 pG2 hG2 hkl _ _ => ?_
        · obtain ⟨rfl, hj⟩ := range_at hy
          refine ⟨_, rfl, p, 2, _, rfl, by decide, by decide, pG2, by omega, fun d G3 d0 d1 hp3 kp3 => ⟨rfl, _, rfl, ?_⟩⟩
          refine ite2 (fun _ => ⟨_, rfl, ?_⟩) (fun _ => ?_)
          · exact q2 _ G3 kp3 (hp3.more (by omega)) trivial
          · exact q1 rfl G3 kp3 (hp3.more (by omega))
        rw [rangeV_len] at pG2 hkl
        refine ⟨_, rfl, rfl, _, rfl, ?_⟩
        rw [decide_eq_true rfl]
        refine iteT ⟨_, rfl, _, rfl, by omega, by omega, ?_⟩
        rw [Int.toNat_natCast]
        refine lc_potR (yields_range (lo := 0) (n := N)) (small1 (by rw [rangeV_len]; omega)) (k := 0) pG2 (fun r => r.length = 4 ∧ ∀ d ∈ r, 0 ≤ d ∧ d < (N : Int)) (fun _ _ => trivial) (fun i x G hx kG pG QT q => ?_) fun L zs rows G L0 Lp kG pG hL hR hzp hl hD => ?_
        · obtain ⟨rfl, hi⟩ := range_at hx
          have hkk := kG _ _ hG2 hkp hkp
          refine ⟨_, rfl, by decide, by decide, ?_⟩
          refine lc_potI (yields_range (lo := 0) (n := 4)) (small1 (by decide)) (k := 0) pG true (fun d => 0 ≤ d ∧ d < (N : Int)) (fun _ _ => trivial) (fun j y G3 hy kG3 pG3 QF QT2 _ q2 => ?_) fun acc ds G3 acc0' _ kG3 pG3 hG3 _ hfull hD => ?_
          · unfold tNoTest
            dsimp only
            rw [if_pos rfl]
            obtain ⟨rfl, hj⟩ := range_at hy
            refine ⟨_, rfl, _, rfl, kk, _, rfl, .inl (SqL.of (kG3 _ _ hkk hkp hkp)), rfl, flat_ints _, _, rfl, ?_⟩
            refine ite2 (fun _ => ?_) (fun _ => ?_)
            · refine ⟨_, rfl, _, _, rfl, rfl, _, rfl, _, _, rfl, rfl, _, _, rfl, ?_⟩
              refine q2 _ G3 (Keep.refl _ _ _) (pG3.more (by omega)) ?_
              constructor <;> split <;> omega
            · exact ⟨_, rfl, q2 _ G3 (Keep.refl _ _ _) (pG3.more (by omega)) ⟨by omega, by omega⟩⟩
          · refine q acc ds G3 acc0' hG3 kG3 (pG3.more (by omega)) ⟨?_, hD⟩
            rw [hfull rfl, rangeV_len]
        rw [rangeV_len] at pG hl
        refine ⟨_, rfl, rfl, _, rfl, ?_⟩
        rw [decide_eq_false (by decide)]
        refine iteF ?_
        have hL' := hL
        have hR' := hR
        have pG' : Pot3 G p (n + 200) := pG.more (by omega)
        have kG' : Keep p p H G := ((K2.trans (same_upd hl0).keep).trans kG2).trans kG
        generalize G = G' at hL' hR' pG' kG' ⊢
      case' inr.inr =>
        rw [decide_eq_false (by decide)]
        refine iteF ⟨Nat.zero_le _, fun l0 hl0 => ?_⟩
        refine ⟨_, rfl, rfl, _, rfl, ?_⟩
        rw [decide_eq_false (by decide)]
        refine iteF ⟨Nat.zero_le _, fun kk hkk => ?_⟩
        refine ⟨_, rfl, rfl, _, rfl, ?_⟩
        rw [decide_eq_false (by decide)]
        refine iteF ?_
        refine ⟨_, rfl, rfl, _, rfl, ?_⟩
        rw [decide_eq_true rfl]
        refine iteT ⟨_, rfl, _, rfl, by omega, by omega, ?_⟩
        rw [Int.toNat_natCast]
        refine lc_potR (yields_range (lo := 0) (n := N)) (small1 (by rw [rangeV_len]; omega)) (c := n + 2) (k := 0) ((hp2.same (same_upd hl0)).same (same_upd hkk)) (fun r => r.length = 4 ∧ ∀ d ∈ r, 0 ≤ d ∧ d < (N : Int)) (fun _ _ => trivial) (fun i x G hx kG pG QT q => ?_) fun L zs rows G L0 Lp kG pG hL hR hzp hl hD => ?_
        · obtain ⟨rfl, hi⟩ := range_at hx
          have e0 := Int.emod_nonneg ((i : Int) + 1) (show (N : Int) ≠ 0 by omega)
          have e1 := Int.emod_lt_of_pos ((i : Int) + 1) (show (0 : Int) < N by omega)
          refine ⟨_, rfl, _, _, rfl, rfl, _, rfl, _, _, rfl, rfl, by show (0 : Int) < N; omega, by show 1 ≤ sizeLine; decide, fun t ht => ?_⟩
          refine ⟨t, 4, _, rfl, rfl, upd_same, by decide, by decide, by show 1 * 4 ≤ sizeLine; decide, fun a ha => ?_⟩
          refine q a [((i : Int) + 1) % N, ((i : Int) + 1) % N, ((i : Int) + 1) % N, ((i : Int) + 1) % N] _ ((same_upd ht).free ha) upd_same ((same_upd ht).trans (same_upd ha)).keep (((pG.same (same_upd ht)).same (same_upd ha)).more (by omega)) ⟨rfl, fun d hd => ?_⟩
          have : d = ((i : Int) + 1) % N := by simpa using hd
          rw [this]
          exact ⟨e0, e1⟩
        rw [rangeV_len] at pG hl
        have hL' := hL
        have hR' := hR
        have pG' : Pot3 G p (n + 200) := pG.more (by omega)
        have kG' : Keep p p H G := ((K2.trans (same_upd hl0).keep).trans (same_upd hkk).keep).trans kG
        generalize G = G' at hL' hR' pG' kG' ⊢
      all_goals
        refine ⟨_, rfl, _, rfl, by omega, by omega, ?_⟩
        rw [Int.toNat_natCast]
        refine lc_potS (ns := num0 N) (rangeV_num0 N ▸ yields_range (lo := 0) (n := N)) (small1 (by rw [num0_len']; omega)) (k := 1) pG' (fun _ _ => trivial) (fun j y G2 hy kG2 pG2 QF QT2 q1 q2 => ?_) fun ea es G2 ea0 eap kG2 pG2 hes hsub => ?_
        · have hj : j < N := by
            have := (List.getElem?_eq_some_iff.mp hy).1
            rwa [num0_len'] at this
          refine ⟨_, rfl, p, 2, _, rfl, by decide, by decide, pG2, by omega, fun d G3 d0 d1 hp3 kp3 => ⟨rfl, _, rfl, ?_⟩⟩
          refine ite2 (fun _ => ⟨_, rfl, ?_⟩) (fun _ => ?_)
          · exact q2 G3 kp3 (hp3.more (by omega))
          · exact q1 G3 kp3 (hp3.more (by omega))
        rw [num0_len'] at pG2
        have hL2 := kG2 _ _ hL' Lp Lp
        have hR2 : LRows G2 zs rows := paired_keep hR' fun z r hz h => kG2 _ _ h (hzp z hz) (hzp z hz)
        refine ⟨_, rfl, L, rfl, ⟨_, SqL.of hL2⟩, ?_⟩
        have hzl := Paired.length hR2
        refine lc_grow (yields_list (xs := zs.map V.ref)) (small1 (by rw [List.length_map]; omega)) (RTup G2) (fun x v Ha Hb s h z r e e' => ?_) (fun Ga sa => SqL.of (sa _ _ hL2)) (fun x hx Ga sa Q' q => ?_) fun acc ys G3 acc0 s3 hacc pr => ?_
        · obtain ⟨b, q1, q2⟩ := h z r e e'
          exact ⟨b, q1, s _ _ q2⟩
        · obtain ⟨z, hz, rfl⟩ := List.mem_map.mp hx
          obtain ⟨r, hr'⟩ := paired_mem hR2 hz
          refine ⟨_, rfl, z, _, rfl, .inl ⟨SqL.of (sa _ _ hr'), fun b hb => ?_⟩⟩
          refine q _ _ (same_upd hb) fun z' r' e e' => ?_
          cases e
          have e2 : r.map V.int = r'.map V.int := by
            have e3 := hr'.symm.trans e'
            injection e3 with e3
            injection e3
          exact ⟨b, rfl, by rw [← e2]; exact upd_same⟩
        · obtain ⟨zs', rfl, hrows⟩ := rows_tup hR2 pr
          refine ⟨acc, _, rfl, .inl ⟨SqL.of hacc, fun R hR0 => ?_⟩⟩
          refine ⟨_, rfl, ea, _, rfl, .inl ⟨SqL.of (same_upd hR0 _ _ (s3 _ _ hes)), fun E' hE0 => ?_⟩⟩
          refine ⟨by show 2 ≤ sizeLine; decide, fun z hz => ?_⟩
          have t1 := same_upd (o := .tup (zs'.map V.ref)) hR0
          have t2 := same_upd (o := .tup (es.map V.int)) hE0
          have t3 := same_upd (o := .tup [.ref R, .ref E']) hz
          refine k z N rows es _ ⟨R, E', zs', upd_same, (t2.trans t3) _ _ upd_same, hrows.same (t1.trans (t2.trans t3)), t3 _ _ upd_same, hl, N0, hD⟩ (by omega) hsub ((pG2.same (s3.trans (t1.trans (t2.trans t3)))).more (by omega)) ((kG'.trans kG2).trans (s3.trans (t1.trans (t2.trans t3))).keep)
end
end K50


namespace L2
open PySem PySem.Spec PyProof.Rows
def prZ (n1 n2 : Nat) : List (Int × Int) := (num0 n1).flatMap fun a => (num0 n2).map fun b => (a, b)
def joinR (r1 r2 : List Int) (n2 : Nat) : List Int := ([0, 1, 2, 3] : List Int).map fun m => r1.getD m.toNat 0 * n2 + r2.getD m.toNat 0
def bothR (rows1 rows2 : List (List Int)) : List (List Int) := (prZ rows1.length rows2.length).map fun ab => joinR (rows1.getD ab.1.toNat []) (rows2.getD ab.2.toNat []) rows2.length
def oppE (N : Nat) (ends : List Int) : List Int := (num0 N).filter fun s => !decide (s ∈ ends)
def bothE (n1 n2 : Nat) (e1 e2 : List Int) : List Int := (num0 (n1 * n2)).filter fun s => decide (s / n2 ∈ e1) && decide (s % n2 ∈ e2)
def Rws (N : Nat) (rows : List (List Int)) : Prop := rows.length = N ∧ 0 < N ∧ ∀ r ∈ rows, r.length = 4 ∧ ∀ d ∈ r, 0 ≤ d ∧ d < (N : Int)
end L2


namespace L2
open PySem PySem.Spec PyProof.Rows
theorem op_notIn_seqK {X : Cx} (K : PySem.W.Frag) (hK : X.K = K) : OpR X (compareOp .NotIn) (rIn K true) := hK ▸ op_notIn_seq
def spOpp : Sp := fun vs H Q _ => ∃ (z : Addr) (N : Nat) (rows : List (List Int)) (ends : List Int), vs = [.ref z] ∧ IsMach H z N rows ends ∧ N ≤ 900 ∧ ∀ z' H', Same H H' → IsMach H' z' N rows (oppE N ends) → Q (.ref z') H'
theorem opp_list (N : Nat) (ends : List Int) : (((num0 N).map V.int).filter fun v => match v with | .int k => !inV (.int k) (ends.map V.int) | _ => false) = (oppE N ends).map V.int := by
  unfold oppE
  rw [List.filter_map]
  congr 1
  refine List.filter_congr fun k _ => ?_
  show (!inV (.int k) (ends.map V.int)) = _
  rw [inV_ints]
end L2
namespace K50
open PySem PySem.Spec PyProof.Rows L2
abbrev s_opposite : Stmt := top 1
section
variable {P : Program} {w : World} {K : PySem.W.Frag} {mg : Str → Option Value} {base : Heap}
theorem sc_opposite : FnScope ["machine", "rows", "ends"] ["machine"] (defScope s_opposite) := ⟨rfl, rfl, rfl, by decide +kernel, rfl, by decide +kernel, by decide +kernel⟩
set_option maxHeartbeats 8000000 in
theorem ok_opposite {f : Addr} {fd : FuncData} (F : Fun K "opposite" "opposite" s_opposite f fd) (T : Top mg) : FnOk P w K mg base CX0 1 f fd ["machine"] spOpp := by
  refine F.ok sc_opposite (fun vs H Q E h => ?_) (fun cdv A outer s H vs Q E hr h => ?_)
  · obtain ⟨z, N, rows, ends, rfl, _⟩ := h
    rfl
  · obtain ⟨z, N, rows, ends, rfl, hM, hN, k⟩ := h
    refine ⟨_, (pss_cons (ps_asg (pv 0) (pg_pair (i := 1) (j := 2) rfl sc_opposite.nd rfl rfl (Or.inl rfl) (Or.inr rfl) (Or.inl rfl) (Or.inl rfl)))
      (pss_one (ps_ret (pe_tup (pa_cons (pv 1) (pa_cons (pe_callTy call_tuple_of (by rfl) T.n_tuple boot_tuple (pa_cons (pe_lc (N' := ["state", "ends"]) (n := 1) (ix := [2]) rfl (CompScope.of (sc := defScope s_opposite) (N := ["machine", "rows", "ends"]) (by decide +kernel) rfl rfl) (pi_range1 rfl T.n_range (pa_cons (pe_callB call_len_seq (by rfl) T.n_len PySem.boot_len (pa_cons (pv 1) pa_nil)) pa_nil)) (fun _ _ _ _ _ => ⟨(pg_name (i := 0) (show (["state", "ends"] : List Str).Nodup by decide +kernel) rfl (Or.inl rfl)), (pts_one (pt_cmpR (op_notIn_seqK K rfl) (pv 0) (pv 1) (by rfl))), (pv 0)⟩)) pa_nil)) pa_nil)))))), ?_⟩
    obtain ⟨R, E, zs, hz, hR, hrows, hE, hl, h0, hr4⟩ := id hM
    have lR : ((zs.map V.ref).length : Int) = N := by rw [mapR_len, Paired.length hrows, hl]
    refine ⟨_, rfl, z, _, rfl, SqT.of hz, rfl, _, _, rfl, _, _, rfl, rfl, ?_⟩
    refine ⟨_, rfl, _, rfl, R, _, rfl, .inr (SqT.of hR), _, rfl, ?_⟩
    rw [lR]
    refine ⟨by omega, by omega, ?_⟩
    rw [Int.toNat_natCast]
    refine lc_pure (yields_range (lo := 0) (n := N)) (small1 (by rw [rangeV_len]; omega)) (fun v => match v with | .int k => !inV (.int k) (ends.map V.int) | _ => false) (fun v => v) (fun _ _ => trivial) (fun x hx H' s' Q' q => ?_) (fun x hx _ H' s' Q' q => ?_) fun acc hacc => ?_
    · obtain ⟨n, rfl, n0, n1⟩ := mem_rangeV hx
      exact ⟨_, rfl, _, rfl, E, _, rfl, .inr (SqT.of (s' _ _ hE)), rfl, by rw [List.all_map]; simp [flatV], _, rfl, q⟩
    · exact ⟨_, rfl, q⟩
    rw [List.map_id'' (fun _ => rfl), rangeV_num0, opp_list]
    refine ⟨acc, _, rfl, .inl ⟨SqL.of upd_same, fun E' hE' => ⟨by show 2 ≤ sizeLine; decide, fun z' hz' => ?_⟩⟩⟩
    have sA := same_upd (o := .lst ((oppE N ends).map V.int)) hacc
    have sB := same_upd (o := .tup ((oppE N ends).map V.int)) hE'
    have sC := same_upd (o := .tup [.ref R, .ref E']) hz'
    refine k z' _ ((sA.trans sB).trans sC) ⟨R, E', zs, upd_same, ((sA.trans sB).trans sC) _ _ hR, hrows.same ((sA.trans sB).trans sC), sC _ _ upd_same, hl, h0, hr4⟩
end
end K50


namespace L2
open PySem PySem.Spec PyProof.Rows
end L2


namespace L2
open PySem PySem.Spec PyProof.Rows
def sT (f : Nat → Int) : Nat → Int
  | 0 => 0
  | n + 1 => sT f n + f n
theorem sT_congr {f g : Nat → Int} : ∀ {n : Nat}, (∀ k, k < n → f k = g k) → sT f n = sT g n
  | 0, _ => rfl
  | n + 1, h => by
    show sT f n + f n = sT g n + g n
    rw [sT_congr fun k hk => h k (by omega), h n (by omega)]
theorem sT_add (f g : Nat → Int) : ∀ n, sT (fun k => f k + g k) n = sT f n + sT g n
  | 0 => rfl
  | n + 1 => by
    show sT (fun k => f k + g k) n + (f n + g n) = sT f n + f n + (sT g n + g n)
    rw [sT_add f g n]; omega
theorem sT_zero : ∀ n, sT (fun _ => 0) n = 0
  | 0 => rfl
  | n + 1 => by
    show sT (fun _ => 0) n + 0 = 0
    rw [sT_zero n]; rfl
theorem sT_const (c : Int) : ∀ n : Nat, sT (fun _ => c) n = (n : Int) * c
  | 0 => by show (0 : Int) = (0 : Nat) * c; simp
  | n + 1 => by
    show sT (fun _ => c) n + c = _
    rw [sT_const c n, show ((n + 1 : Nat) : Int) = (n : Int) + 1 from rfl, Int.add_mul, Int.one_mul]
def sL {α : Type} (F : α → Int) : List α → Int
  | [] => 0
  | a :: t => F a + sL F t
theorem sL_app {α : Type} (F : α → Int) : ∀ l m : List α, sL F (l ++ m) = sL F l + sL F m
  | [], m => by show sL F m = 0 + sL F m; omega
  | a :: t, m => by
    show F a + sL F (t ++ m) = F a + sL F t + sL F m
    rw [sL_app F t m]; omega
theorem sL_map {α β : Type} (F : β → Int) (g : α → β) : ∀ l : List α, sL F (l.map g) = sL (fun a => F (g a)) l
  | [] => rfl
  | a :: t => by
    show F (g a) + sL F (t.map g) = _
    rw [sL_map F g t]; rfl
theorem sL_flat {α β : Type} (F : β → Int) (g : α → List β) : ∀ l : List α, sL F (l.flatMap g) = sL (fun a => sL F (g a)) l
  | [] => rfl
  | a :: t => by
    rw [List.flatMap_cons, sL_app, sL_flat F g t]; rfl
theorem sL_congr {α : Type} {F G : α → Int} : ∀ {l : List α}, (∀ a ∈ l, F a = G a) → sL F l = sL G l
  | [], _ => rfl
  | a :: t, h => by
    show F a + sL F t = G a + sL G t
    rw [h a (by simp), sL_congr fun x hx => h x (by simp [hx])]
theorem sL_add {α : Type} (F G : α → Int) : ∀ l : List α, sL (fun a => F a + G a) l = sL F l + sL G l
  | [] => rfl
  | a :: t => by
    show F a + G a + sL (fun a => F a + G a) t = F a + sL F t + (G a + sL G t)
    rw [sL_add F G t]; omega
theorem sL_zero {α : Type} : ∀ l : List α, sL (fun _ => 0) l = 0
  | [] => rfl
  | a :: t => by show 0 + sL (fun _ => 0) t = 0; rw [sL_zero t]; rfl
theorem sT_sL {α : Type} (F : Nat → α → Int) (l : List α) : ∀ n, sT (fun i => sL (F i) l) n = sL (fun a => sT (fun i => F i a) n) l
  | 0 => (sL_zero l).symm
  | n + 1 => by
    show sT (fun i => sL (F i) l) n + sL (F n) l = _
    rw [sT_sL F l n, ← sL_add]; rfl
theorem sL_sT {α : Type} (F : α → Nat → Int) (l : List α) (n : Nat) : sL (fun a => sT (F a) n) l = sT (fun i => sL (fun a => F a i) l) n := (sT_sL (fun i a => F a i) l n).symm
theorem sL_sL {α β : Type} (F : α → β → Int) (m : List β) : ∀ l : List α, sL (fun a => sL (F a) m) l = sL (fun b => sL (fun a => F a b) l) m
  | [] => (sL_zero m).symm
  | a :: t => by
    show sL (F a) m + sL (fun a => sL (F a) m) t = _
    rw [sL_sL F m t, ← sL_add]; rfl
theorem sT_pick (x : Int) (F : Nat → Int) : ∀ {n : Nat}, 0 ≤ x → x < n → sT (fun i => if x = (i : Int) then F i else 0) n = F x.toNat
  | 0, h0, h1 => by omega
  | n + 1, h0, h1 => by
    show sT (fun i => if x = (i : Int) then F i else 0) n + (if x = (n : Int) then F n else 0) = _
    by_cases e : x = (n : Int)
    · rw [if_pos e, sT_congr (g := fun _ => 0) (fun k hk => if_neg (by omega)), sT_zero, show x.toNat = n by omega]; omega
    · rw [if_neg e, sT_pick x F h0 (by omega)]; omega
def stp (m : Int) (n : Nat) (f : Nat → Int) (r : Nat) : Int :=
  if m = 0 then (if r = 0 then sT f n else 0) else if m = 3 then (if r = n then sT f n else 0) else if m = 2 then (if 1 ≤ r ∧ r < n then sT f r else 0) else (if 1 ≤ r ∧ r < n then sT f n - sT f r else 0)
theorem stp_add (m : Int) (n : Nat) (f g : Nat → Int) (r : Nat) : stp m n (fun k => f k + g k) r = stp m n f r + stp m n g r := by
  unfold stp
  simp only [sT_add]
  (repeat' split) <;> omega
theorem stp_zero (m : Int) (n r : Nat) : stp m n (fun _ => 0) r = 0 := by
  unfold stp
  simp only [sT_zero]
  (repeat' split) <;> omega
theorem stp_sL {α : Type} (m : Int) (n : Nat) (F : α → Nat → Int) (r : Nat) : ∀ l : List α, stp m n (fun k => sL (fun a => F a k) l) r = sL (fun a => stp m n (F a) r) l
  | [] => stp_zero m n r
  | a :: t => by
    show stp m n (fun k => F a k + sL (fun a => F a k) t) r = _
    rw [stp_add, stp_sL m n F r t]; rfl
theorem stp_if (m : Int) (n : Nat) (c : Prop) [Decidable c] (f : Nat → Int) (r : Nat) : stp m n (fun k => if c then f k else 0) r = if c then stp m n f r else 0 := by
  by_cases h : c
  · simp only [if_pos h]
  · simp only [if_neg h]; exact stp_zero m n r
theorem stp_far {m : Int} {n : Nat} {f : Nat → Int} {r : Nat} (h : n < r) : stp m n f r = 0 := by
  unfold stp
  rw [if_neg (show ¬ r = 0 by omega), if_neg (show ¬ r = n by omega), if_neg (show ¬(1 ≤ r ∧ r < n) by omega), if_neg (show ¬(1 ≤ r ∧ r < n) by omega)]
  simp
def mk4 : List Int := [0, 1, 2, 3]
theorem stp_all {n : Nat} (hn : 1 ≤ n) (f : Nat → Int) (r : Nat) (hr : r < n + 1) : sL (fun m => stp m n f r) mk4 = sT f n := by
  show stp 0 n f r + (stp 1 n f r + (stp 2 n f r + (stp 3 n f r + 0))) = _
  unfold stp
  by_cases h0 : r = 0
  · subst h0
    simp
    omega
  · by_cases h1 : r = n
    · subst h1
      simp [h0]
    · simp [h0, h1, show 1 ≤ r by omega, show r < n by omega]
def atZr (rows : List (List Int)) (i : Nat) (m : Int) : Int := (rows.getD i []).getD m.toNat 0
def cF (rows : List (List Int)) (n : Nat) (g : Nat → Nat → Int) (i s r : Nat) : Int := sL (fun m => if atZr rows i m = (s : Int) then stp m n (g i) r else 0) mk4
def dpZ (rows : List (List Int)) (N : Nat) : Nat → Nat → Nat → Int
  | 0, s, r => if s = 0 ∧ r = 0 then 1 else 0
  | n + 1, s, r => sT (fun i => cF rows (n + 1) (dpZ rows N n) i s r) N
def stpL (m : Int) (n : Nat) (w : List Int) : List Int := (List.range (n + 1)).map fun r => stp m n (fun k => w.getD k 0) r
theorem stpL_at (m : Int) (n : Nat) (w : List Int) (r : Nat) : (stpL m n w).getD r 0 = stp m n (fun k => w.getD k 0) r := by
  unfold stpL
  by_cases h : r < n + 1
  · rw [List.getD_eq_getElem?_getD, List.getElem?_map, List.getElem?_range h]; rfl
  · rw [List.getD_eq_getElem?_getD, List.getElem?_eq_none (by simp; omega), stp_far (by omega)]; rfl
def mks : Nat → List (List Int × List Int)
  | 0 => [([], [1])]
  | n + 1 => (mks n).flatMap fun p => mk4.map fun m => (p.1 ++ [m], stpL m (n + 1) p.2)
theorem goZ_snoc (rows : List (List Int)) (ms : List Int) (m : Int) : goZ rows (ms ++ [m]) = atZr rows (goZ rows ms).toNat m := by
  unfold goZ atZr
  rw [List.foldl_append]
  rfl
theorem mk4_mrk : ∀ m ∈ mk4, 0 ≤ m ∧ m < 4 := by decide
theorem mks_mrk : ∀ (n : Nat) (p : List Int × List Int), p ∈ mks n → Mrk p.1 ∧ p.1.length = n
  | 0, p, h => by
    rw [List.mem_singleton.mp h]
    exact ⟨fun _ h => (by cases h), rfl⟩
  | n + 1, p, h => by
    obtain ⟨q, hq, h⟩ := List.mem_flatMap.mp h
    obtain ⟨m, hm, rfl⟩ := List.mem_map.mp h
    obtain ⟨a, b⟩ := mks_mrk n q hq
    refine ⟨fun x hx => ?_, by simp [b]⟩
    rcases List.mem_append.mp hx with hx | hx
    · exact a x hx
    · rw [List.mem_singleton.mp hx]; exact mk4_mrk m hm
theorem goZ_in {rows : List (List Int)} {N : Nat} (hl : rows.length = N) (hN : 0 < N) (hr : ∀ r ∈ rows, r.length = 4 ∧ ∀ d ∈ r, 0 ≤ d ∧ d < (N : Int)) {ms : List Int} (hm : Mrk ms) : 0 ≤ goZ rows ms ∧ goZ rows ms < N := by
  have := goZ_rng hl hN hr hm ms.length (Nat.le_refl _)
  rwa [List.take_length] at this
theorem dp_eq {rows : List (List Int)} {N : Nat} (hl : rows.length = N) (hN : 0 < N) (hr : ∀ r ∈ rows, r.length = 4 ∧ ∀ d ∈ r, 0 ≤ d ∧ d < (N : Int)) : ∀ (n s r : Nat), dpZ rows N n s r = sL (fun p => if goZ rows p.1 = (s : Int) then p.2.getD r 0 else 0) (mks n)
  | 0, s, r => by
    show (if s = 0 ∧ r = 0 then (1 : Int) else 0) = (if (0 : Int) = (s : Int) then ([1] : List Int).getD r 0 else 0) + 0
    by_cases hs : s = 0
    · subst hs
      by_cases h : r = 0
      · subst h; rfl
      · obtain ⟨k, rfl⟩ : ∃ k, r = k + 1 := ⟨r - 1, by omega⟩
        simp
    · rw [if_neg (by omega), if_neg (by omega)]; rfl
  | n + 1, s, r => by
    show sT (fun i => cF rows (n + 1) (dpZ rows N n) i s r) N = _
    have e1 : ∀ i, cF rows (n + 1) (dpZ rows N n) i s r = sL (fun p => sL (fun m => if goZ rows p.1 = (i : Int) then (if atZr rows i m = (s : Int) then stp m (n + 1) (fun k => p.2.getD k 0) r else 0) else 0) mk4) (mks n) := fun i => by
      unfold cF
      rw [sL_sL]
      refine sL_congr fun m _ => ?_
      rw [show dpZ rows N n i = fun k => sL (fun p => if goZ rows p.1 = (i : Int) then p.2.getD k 0 else 0) (mks n) from funext fun k => dp_eq hl hN hr n i k, stp_sL]
      by_cases c : atZr rows i m = (s : Int)
      · simp only [if_pos c]
        refine sL_congr fun p _ => ?_
        exact stp_if m (n + 1) _ _ r
      · simp only [if_neg c]
        rw [sL_congr (G := fun _ => 0) (fun p _ => by split <;> rfl), sL_zero]
    rw [sT_congr fun i _ => e1 i, sT_sL]
    show _ = sL _ ((mks n).flatMap fun p => mk4.map fun m => (p.1 ++ [m], stpL m (n + 1) p.2))
    rw [sL_flat]
    refine sL_congr fun p hp => ?_
    obtain ⟨g0, g1⟩ := goZ_in hl hN hr (mks_mrk n p hp).1
    rw [sT_sL, sL_map]
    refine sL_congr fun m _ => ?_
    rw [sT_pick (goZ rows p.1) (fun i => if atZr rows i m = (s : Int) then stp m (n + 1) (fun k => p.2.getD k 0) r else 0) g0 g1]
    dsimp only
    rw [goZ_snoc, stpL_at]
def wZ (n : Nat) (w : List Int) : Int := sT (fun k => w.getD k 0) n
def fM : Nat → Int
  | 0 => 1
  | n + 1 => fM n * ((n : Int) + 1)
theorem mks_all : ∀ n : Nat, sL (fun p => wZ (n + 1) p.2) (mks n) = fM (n + 1)
  | 0 => rfl
  | n + 1 => by
    show sL _ ((mks n).flatMap fun p => mk4.map fun m => (p.1 ++ [m], stpL m (n + 1) p.2)) = fM (n + 1) * (((n + 1 : Nat) : Int) + 1)
    rw [sL_flat, ← mks_all n]
    have e : ∀ p ∈ mks n, sL (fun q => wZ (n + 1 + 1) q.2) (mk4.map fun m => (p.1 ++ [m], stpL m (n + 1) p.2)) = (((n + 1 : Nat) : Int) + 1) * wZ (n + 1) p.2 := fun p _ => by
      rw [sL_map]
      show sL (fun m => sT (fun k => (stpL m (n + 1) p.2).getD k 0) (n + 1 + 1)) mk4 = _
      rw [sL_sT, sT_congr (g := fun _ => wZ (n + 1) p.2) (fun r hr => ?_), sT_const]
      · rfl
      · rw [sL_congr (fun m _ => stpL_at m (n + 1) p.2 r)]
        exact stp_all (by omega) _ r hr
    rw [sL_congr e]
    generalize ((n + 1 : Nat) : Int) + 1 = c
    generalize mks n = l
    induction l with
    | nil => show (0 : Int) = 0 * c; omega
    | cons a t ih =>
      show c * wZ (n + 1) a.2 + sL _ t = (wZ (n + 1) a.2 + sL _ t) * c
      rw [ih, Int.add_mul, Int.mul_comm c]
def metZ (rows : List (List Int)) (N : Nat) (ends : List Int) (n : Nat) : Int := sL (fun s => sT (dpZ rows N (n - 1) s.toNat) (n - 1 + 1)) ends
theorem met_eq {rows : List (List Int)} {N : Nat} (hl : rows.length = N) (hN : 0 < N) (hr : ∀ r ∈ rows, r.length = 4 ∧ ∀ d ∈ r, 0 ≤ d ∧ d < (N : Int)) {ends : List Int} (he : ∀ s ∈ ends, 0 ≤ s) (hd : ends.Nodup) (n : Nat) :
    metZ rows N ends n = sL (fun p => if goZ rows p.1 ∈ ends then wZ (n - 1 + 1) p.2 else 0) (mks (n - 1)) := by
  unfold metZ
  generalize n - 1 = k
  have e1 : ∀ s ∈ ends, sT (dpZ rows N k s.toNat) (k + 1) = sL (fun p => if goZ rows p.1 = s then wZ (k + 1) p.2 else 0) (mks k) := fun s hs => by
    rw [show dpZ rows N k s.toNat = fun r => sL (fun p => if goZ rows p.1 = ((s.toNat : Nat) : Int) then p.2.getD r 0 else 0) (mks k) from funext fun r => dp_eq hl hN hr k _ r, sT_sL]
    refine sL_congr fun p _ => ?_
    rw [Int.toNat_of_nonneg (he s hs)]
    by_cases c : goZ rows p.1 = s
    · simp only [if_pos c]; rfl
    · simp only [if_neg c]; exact sT_zero _
  rw [sL_congr e1, sL_sL]
  refine sL_congr fun p _ => ?_
  generalize goZ rows p.1 = x
  generalize wZ (k + 1) p.2 = y
  clear e1 he
  induction ends with
  | nil => rfl
  | cons a t ih =>
    obtain ⟨h1, h2⟩ := List.nodup_cons.mp hd
    show (if x = a then y else 0) + sL _ t = _
    rw [ih h2]
    by_cases c : x = a
    · subst c
      rw [if_pos rfl, if_neg h1, if_pos (by simp)]; omega
    · rw [if_neg c]
      by_cases c2 : x ∈ t
      · rw [if_pos c2, if_pos (by simp [c2])]; omega
      · rw [if_neg c2, if_neg (by simp [c, c2])]; rfl
theorem met_both_sum {rows : List (List Int)} {N : Nat} (hl : rows.length = N) (hN : 0 < N) (hr : ∀ r ∈ rows, r.length = 4 ∧ ∀ d ∈ r, 0 ≤ d ∧ d < (N : Int)) {ends : List Int} (he : ∀ s ∈ ends, 0 ≤ s) (hd : ends.Nodup) (n : Nat) :
    metZ rows N (oppE N ends) n = fM (n - 1 + 1) - metZ rows N ends n := by
  have h1 : ∀ s ∈ oppE N ends, 0 ≤ s := fun s hs => (num0_mem (List.mem_filter.mp hs).1).1
  have h2 : (oppE N ends).Nodup := List.Nodup.sublist List.filter_sublist (num0_nodup' N)
  rw [met_eq hl hN hr h1 h2, met_eq hl hN hr he hd, ← mks_all]
  generalize n - 1 = k
  have e : sL (fun p => wZ (k + 1) p.2) (mks k) = sL (fun p => (if goZ rows p.1 ∈ oppE N ends then wZ (k + 1) p.2 else 0) + (if goZ rows p.1 ∈ ends then wZ (k + 1) p.2 else 0)) (mks k) := by
    refine sL_congr fun p hp => ?_
    obtain ⟨g0, g1⟩ := goZ_in hl hN hr (mks_mrk k p hp).1
    have i1 : goZ rows p.1 ∈ oppE N ends ↔ goZ rows p.1 ∉ ends := by
      unfold oppE
      rw [List.mem_filter]
      constructor
      · rintro ⟨_, q⟩; simpa using q
      · intro q; exact ⟨mem_num0.mpr ⟨g0, g1⟩, by simpa using q⟩
    by_cases c : goZ rows p.1 ∈ ends
    · rw [if_pos c, if_neg (fun z => i1.mp z c)]; omega
    · rw [if_neg c, if_pos (i1.mpr c)]; omega
  rw [e, sL_add]
  omega
end L2


namespace L2
open PySem PySem.Spec PyProof.Rows
def hdM (m : Int) : List Int → Option (List Int)
  | [] => none
  | x :: t => if x = m then some t else none
def tlsM (m : Int) (L : List (List Int)) : List (List Int) := L.filterMap (hdM m)
def cntL : Nat → List (List Int) → List (List Int × Int)
  | 0, L => [([], (L.length : Int))]
  | d + 1, L => mk4.flatMap fun m => (cntL d (tlsM m L)).map fun p => (m :: p.1, p.2)
theorem cnt_tls (m : Int) (ms : List Int) : ∀ L : List (List Int), L.count (m :: ms) = (tlsM m L).count ms
  | [] => rfl
  | l :: r => by
    have ih := cnt_tls m ms r
    unfold tlsM at ih ⊢
    rw [List.count_cons, ih, List.filterMap_cons]
    cases l with
    | nil => rfl
    | cons x t =>
      by_cases h : x = m
      · subst h
        rw [show hdM x (x :: t) = some t from if_pos rfl]
        dsimp only
        rw [List.count_cons]
        congr 1
        by_cases e : t = ms
        · subst e; simp
        · simp [e]
      · rw [show hdM m (x :: t) = none from if_neg h, if_neg (by simp [h])]; rfl
theorem tls_len {m : Int} {d : Nat} {L : List (List Int)} (h0 : ∀ l ∈ L, l.length = d + 1) : ∀ l ∈ tlsM m L, l.length = d := by
  intro l h
  obtain ⟨k, hk, e⟩ := List.mem_filterMap.mp h
  have := h0 k hk
  cases k with
  | nil => cases e
  | cons x t =>
    by_cases hx : x = m
    · rw [show hdM m (x :: t) = some t from if_pos hx] at e
      injection e with e
      rw [← e]; simpa using this
    · rw [show hdM m (x :: t) = none from if_neg hx] at e
      cases e
theorem cntL_ok : ∀ (d : Nat) (L : List (List Int)), (∀ l ∈ L, l.length = d) → ∀ p ∈ cntL d L, p.2 = (L.count p.1 : Int)
  | 0, L, h, p, hp => by
    rw [List.mem_singleton.mp hp]
    show (L.length : Int) = _
    rw [List.count_eq_length.mpr fun b hb => (List.eq_nil_of_length_eq_zero (h b hb)).symm]
  | d + 1, L, h, p, hp => by
    obtain ⟨m, hm, hp⟩ := List.mem_flatMap.mp hp
    obtain ⟨q, hq, rfl⟩ := List.mem_map.mp hp
    have := cntL_ok d (tlsM m L) (tls_len h) q hq
    show q.2 = _
    rw [this, cnt_tls]
def mkL (n : Nat) : List (List Int) := (allA (n + 1)).map marksZ
theorem chk6 : ((List.range 6).all fun n => decide (cntL n (mkL n) = (mks n).map fun p => (p.1, wZ (n + 1) p.2))) = true := by decide +kernel
theorem mks_cnt {n : Nat} (h : n < 6) (hl : ∀ l ∈ mkL n, l.length = n) {p : List Int × List Int} (hp : p ∈ mks n) : wZ (n + 1) p.2 = ((mkL n).count p.1 : Int) := by
  have e := of_decide_eq_true (List.all_eq_true.mp chk6 n (List.mem_range.mpr h))
  have := cntL_ok n (mkL n) hl (p.1, wZ (n + 1) p.2) (by rw [e]; exact List.mem_map.mpr ⟨p, hp, rfl⟩)
  exact this
theorem mks_nodup : ∀ n : Nat, ((mks n).map (·.1)).Nodup
  | 0 => by simp [mks]
  | n + 1 => by
    have ih := mks_nodup n
    show (((mks n).flatMap fun p => mk4.map fun m => (p.1 ++ [m], stpL m (n + 1) p.2)).map (·.1)).Nodup
    rw [List.map_flatMap]
    refine List.pairwise_flatMap.mpr ⟨fun p _ => ?_, ?_⟩
    · rw [List.map_map]
      show (mk4.map fun m => p.1 ++ [m]).Nodup
      simp [mk4, List.nodup_cons]
    · have ih' : (mks n).Pairwise fun a b => a.1 ≠ b.1 := List.pairwise_map.mp ih
      refine ih'.imp fun {a b} hab x hx y hy e => ?_
      obtain ⟨x', hx', rfl⟩ := List.mem_map.mp hx
      obtain ⟨y', hy', rfl⟩ := List.mem_map.mp hy
      obtain ⟨m, _, rfl⟩ := List.mem_map.mp hx'
      obtain ⟨m', _, rfl⟩ := List.mem_map.mp hy'
      exact hab (List.append_inj_left' e rfl)
theorem mks_mem : ∀ (n : Nat) (ms : List Int), ms.length = n → Mrk ms → ms ∈ (mks n).map (·.1)
  | 0, ms, h, _ => by
    rw [List.eq_nil_of_length_eq_zero h]
    simp [mks]
  | n + 1, ms, h, hm => by
    have hne : ms ≠ [] := fun e => by rw [e] at h; cases h
    have e := List.dropLast_concat_getLast hne
    have ih := mks_mem n ms.dropLast (by rw [List.length_dropLast]; omega) fun x hx => hm x ((List.dropLast_sublist _).subset hx)
    have hq := hm _ (List.getLast_mem hne)
    obtain ⟨p, hp, e1⟩ := List.mem_map.mp ih
    refine List.mem_map.mpr ⟨(p.1 ++ [ms.getLast hne], stpL (ms.getLast hne) (n + 1) p.2), List.mem_flatMap.mpr ⟨p, hp, List.mem_map.mpr ⟨ms.getLast hne, ?_, rfl⟩⟩, ?_⟩
    · generalize ms.getLast hne = x at hq
      have : x = 0 ∨ x = 1 ∨ x = 2 ∨ x = 3 := by omega
      simpa [mk4] using this
    · show p.1 ++ [ms.getLast hne] = ms
      rw [show p.1 = ms.dropLast from e1, e]
theorem pickS {S : List (List Int)} (x : List Int) (c : Int) (g : List Int → Int) (hg : g x = c) (nd : S.Nodup) (hx : x ∈ S) : sL (fun s => if x = s then g s else 0) S = c := by
  induction S with
  | nil => cases hx
  | cons a t ih =>
    obtain ⟨h1, h2⟩ := List.nodup_cons.mp nd
    show (if x = a then g a else 0) + sL _ t = c
    by_cases e : x = a
    · subst e
      rw [if_pos rfl, hg, sL_congr (G := fun _ => 0) (fun s hs => if_neg fun (z : x = s) => h1 (z ▸ hs)), sL_zero]; omega
    · rcases List.mem_cons.mp hx with h | h
      · exact absurd h e
      · rw [if_neg e, ih h2 h]; omega
theorem countP_by {S : List (List Int)} (f : List Int → Bool) (nd : S.Nodup) : ∀ M : List (List Int), (∀ x ∈ M, x ∈ S) → (M.countP f : Int) = sL (fun s => if f s = true then (M.count s : Int) else 0) S
  | [], _ => by
    rw [sL_congr (G := fun _ => 0) (fun s _ => by simp), sL_zero]; rfl
  | x :: t, h => by
    have ih := countP_by f nd t fun y hy => h y (by simp [hy])
    have hp := pickS x (if f x = true then 1 else 0) (fun s => if f s = true then 1 else 0) rfl nd (h x (by simp))
    rw [List.countP_cons, show (((t.countP f + if f x = true then 1 else 0 : Nat)) : Int) = (t.countP f : Int) + (if f x = true then 1 else 0) by split <;> simp, ih, ← hp, ← sL_add]
    refine sL_congr fun s _ => ?_
    rw [List.count_cons]
    by_cases c : f s = true
    · by_cases e : x = s
      · subst e
        simp [c]
      · simp [c, e]
    · simp [c]
theorem marks_len {n : Nat} {o : List Int} (h : o.length = n + 1) : (marksZ o).length = n := by
  unfold marksZ numF
  rw [List.length_map, List.length_map, List.length_range, h]; omega
theorem met_count {rows : List (List Int)} {N : Nat} (hl : rows.length = N) (hN : 0 < N) (hr : ∀ r ∈ rows, r.length = 4 ∧ ∀ d ∈ r, 0 ≤ d ∧ d < (N : Int)) {ends : List Int} (he : ∀ s ∈ ends, 0 ≤ s) (hd : ends.Nodup) {n : Nat} (hn : n ≤ 6) :
    (((allA n).countP fun o => metB rows ends o : Nat) : Int) = metZ rows N ends n := by
  rw [met_eq hl hN hr he hd]
  have hb : ∀ o, metB rows ends o = decide (goZ rows (marksZ o) ∈ ends) := fun o => inV_ints _ _
  by_cases h0 : n = 0
  · subst h0
    show (([([] : List Int)].countP fun o => metB rows ends o : Nat) : Int) = (if goZ rows [] ∈ ends then (wZ 1 [1]) else 0) + 0
    rw [List.countP_cons, List.countP_nil, hb []]
    by_cases c : goZ rows (marksZ []) ∈ ends
    · have c' : goZ rows [] ∈ ends := c
      rw [if_pos (decide_eq_true c), if_pos c']; rfl
    · have c' : ¬ goZ rows [] ∈ ends := c
      rw [if_neg (by simp [c]), if_neg c']; rfl
  · obtain ⟨k, rfl⟩ : ∃ k, n = k + 1 := ⟨n - 1, by omega⟩
    show _ = sL (fun p => if goZ rows p.1 ∈ ends then wZ (k + 1) p.2 else 0) (mks k)
    have hlen : ∀ l ∈ mkL k, l.length = k := fun l hl' => by
      obtain ⟨o, ho, rfl⟩ := List.mem_map.mp hl'
      exact marks_len ((iter_beg (k + 1) (k + 1)).1 o ho).len
    have h1 := countP_by (S := (mks k).map (·.1)) (fun ms => decide (goZ rows ms ∈ ends)) (mks_nodup k) (mkL k) fun x hx => mks_mem k x (hlen x hx) (by obtain ⟨o, _, rfl⟩ := List.mem_map.mp hx; exact mk_marks o)
    rw [sL_map] at h1
    have h2 : (mkL k).countP (fun ms => decide (goZ rows ms ∈ ends)) = (allA (k + 1)).countP fun o => metB rows ends o := by
      unfold mkL
      rw [List.countP_map]
      refine List.countP_congr fun o _ => ?_
      rw [hb o]; rfl
    rw [← h2, h1]
    refine sL_congr fun p hp => ?_
    rw [← mks_cnt (by omega) hlen hp]
    by_cases c : goZ rows p.1 ∈ ends
    · rw [if_pos (decide_eq_true c), if_pos c]
    · rw [if_neg (by simp [c]), if_neg c]
end L2


namespace L2
open PySem PySem.Spec PyProof.Rows
def spOrdsU : Sp := fun vs H Q _ => ∃ m : Nat, vs = [.int m] ∧ m ≤ 6 ∧ ∀ p zs H', Same H H' → H p = none → H' p = some (.lst (zs.map V.ref)) → RowsAt H' zs (allA m) → Q (.ref p) H'
theorem allA_ordU {m : Nat} {o : List Int} (h : o ∈ allA m) : Ord m o ∧ o.length = m := by
  have := (iter_beg m m).1 o h
  exact ⟨this.ord, this.len⟩
theorem allA_lenU {m : Nat} (h : m ≤ 6) : (allA m).length ≤ 720 := by
  have := (iter_beg m m).2
  unfold allA
  rw [this]
  exact fac_small m (by omega) m (by omega)
end L2
namespace K50
open PySem PySem.Spec PyProof.Rows L2
abbrev s__law_all : Stmt := top 12
section
variable {P : Program} {w : World} {K : PySem.W.Frag} {mg : Str → Option Value} {base : Heap}
theorem sc__law_all : FnScope ["_law_many", "_law_found", "_law_k", "_law_longer", "_law_begun"] ["_law_many"] (defScope s__law_all) := ⟨rfl, rfl, rfl, by decide +kernel, rfl, by decide +kernel, by decide +kernel⟩
set_option maxHeartbeats 8000000 in
theorem ok__law_all {f : Addr} {fd : FuncData} (F : Fun K "_law_all" "_law_all" s__law_all f fd) (T : Top mg) : FnOk P w K mg base CX0 1 f fd ["_law_many"] spOrdsU := by
  refine F.ok sc__law_all (fun vs H Q E h => ?_) (fun cdv A outer s H vs Q E hr h => ?_)
  · obtain ⟨m, rfl, _⟩ := h
    rfl
  · obtain ⟨m, rfl, hm, k⟩ := h
    refine ⟨_, (pss_cons (ps_set (i := 1) sc__law_all.nd rfl (Or.inl rfl) (pe_lst (pa_cons (pe_tup pa_nil) pa_nil)))
      (pss_cons (ps_for PassesOwn.never rfl (pi_range1 rfl T.n_range (pa_cons (pv 0) pa_nil)) (pg_name (i := 2) sc__law_all.nd rfl (Or.inl rfl))
        (pss_cons (ps_set (i := 3) sc__law_all.nd rfl (Or.inl rfl) (pe_lst pa_nil))
        (pss_cons (ps_for PassesOwn.never rfl (pi_list (pv 1)) (pg_name (i := 4) sc__law_all.nd rfl (Or.inr rfl))
          (pss_one (ps_expr (pe_bm PySem.F.plainAttrs_list PySem.F.slot_list_extend PySem.F.type_list_extend mt_extend (pv 3) (pa_cons (pe_lc (N' := ["_law_number", "_law_begun"]) (n := 1) (ix := [4]) rfl (CompScope.of (sc := defScope s__law_all) (N := ["_law_many", "_law_found", "_law_k", "_law_longer", "_law_begun"]) (by decide +kernel) rfl rfl) (pi_range1 rfl T.n_range (pa_cons (pv 0) pa_nil)) (fun _ _ _ _ _ => ⟨(pg_name (i := 0) (show (["_law_number", "_law_begun"] : List Str).Nodup by decide +kernel) rfl (Or.inl rfl)), (pts_one (pt_cmpR (op_notIn_seqK K rfl) (pv 0) (pv 1) (by rfl))), (pe_op op_cat2 (pv 1) (pe_tup (pa_cons (pv 0) pa_nil)))⟩)) pa_nil)))))
        (pss_one (ps_set (i := 1) sc__law_all.nd rfl (Or.inl rfl) (pv 3))))))
      (pss_one (ps_ret (pv 1))))), ?_⟩
    refine ⟨Nat.zero_le _, fun t0 ht0 => ⟨by show 1 ≤ sizeLine; decide, fun p0 hp0 => ?_⟩⟩
    have s0 := (same_upd (o := .tup []) ht0).trans (same_upd (o := .lst [.ref t0]) hp0)
    refine ⟨_, rfl, _, rfl, by omega, by omega, ?_⟩
    rw [Int.toNat_natCast]
    refine for_range (n := m) (fun i σ G => ∃ (p : Addr) (zs : List Addr) (rows : List (List Int)) (c2 c3 c4 : Option V), σ = [some (.int m), some (.ref p), c2, c3, c4] ∧ Same H G ∧ H p = none ∧ G p = some (.lst (zs.map V.ref)) ∧ RowsAt G zs rows ∧ rows = iterA m [[]] i) ?_ ?_ ?_
    · exact ⟨p0, [t0], [[]], none, none, none, rfl, s0, (same_upd ht0).free hp0, upd_same, .cons (same_upd hp0 _ _ upd_same) .nil, rfl⟩
    · rintro i σ G hi ⟨p, zs, rows, c2, c3, c4, rfl, sm, hpn, hp2, R, hrows⟩
      have B : ∀ r ∈ rows, Beg m i r := fun r hr' => (iter_beg m i).1 r (hrows ▸ hr')
      have hlen : rows.length ≤ 720 := by rw [hrows, (iter_beg m i).2]; exact fac_small m (by omega) i (by omega)
      refine ⟨Nat.zero_le _, fun L hL => ?_⟩
      have sL := same_upd (o := .lst []) hL
      have hLp : L ≠ p := fun e => by rw [e, hp2] at hL; cases hL
      have hL0 : H L = none := sm.free hL
      have lz : zs.length = rows.length := Paired.length R
      refine ⟨_, rfl, p, rfl, ⟨_, SqL.of (sL _ _ hp2)⟩, ?_⟩
      refine for_list (K := K) (a := p) (xs := zs.map V.ref) (fun j σ G2 => ∃ (zs2 : List Addr) (rows2 : List (List Int)) (c4 : Option V), σ = [some (.int m), some (.ref p), some (.int (0 + (i : Int))), some (.ref L), c4] ∧ Same G G2 ∧ G2 L = some (.lst (zs2.map V.ref)) ∧ RowsAt G2 zs2 rows2 ∧ rows2 = stepA m (rows.take j) ∧ rows2.length ≤ j * 6) ?_ ?_ ?_ ?_
      · exact ⟨[], [], c4, rfl, sL, upd_same, .nil, rfl, Nat.le_refl _⟩
      · rintro j σ G2 _ ⟨zs2, rows2, c4, rfl, s2, _⟩
        exact SqL.of (s2 _ _ hp2)
      · rintro j x σ G2 hx ⟨zs2, rows2, c4, rfl, s2, hL2, R2, B2, hlen2⟩
        have hj : j < zs.length := by
          have := (List.getElem?_eq_some_iff.mp hx).1
          rwa [List.length_map] at this
        rw [List.getElem?_map] at hx
        obtain ⟨z, hz, rfl⟩ := Option.map_eq_some_iff.mp hx
        obtain ⟨r, hr0, hr2⟩ := R.get hz
        have hr1 := List.mem_of_getElem? hr0
        have htk : rows.take (j + 1) = rows.take j ++ [r] := by rw [List.take_succ, hr0]; rfl
        have hb := B r hr1
        refine ⟨_, rfl, .inl ⟨rfl, _, SqL.of hL2⟩, ?_⟩
        refine ⟨_, rfl, _, rfl, by omega, by omega, ?_⟩
        rw [Int.toNat_natCast]
        refine lc_growF (yields_range (lo := 0) (n := m)) (small1 (by rw [rangeV_len]; omega)) (fun v => match v with | .int k => !inV (.int k) (r.map V.int) | _ => false) (RTab fun k => r ++ [k]) (fun x v G G' st ⟨k, z, e1, e2, e3⟩ => ⟨k, z, e1, e2, st _ _ e3⟩) (fun _ _ => trivial) (fun x hx G s' Q' q' => ?_) (fun x hx _ G s' Q' q' => ?_) fun acc ys G3 hacc s' hys pr => ?_
        · obtain ⟨n, rfl, n0, n1⟩ := mem_rangeV hx
          exact ⟨_, rfl, _, rfl, z, _, rfl, .inr (SqT.of (s' _ _ (s2 _ _ hr2))), rfl, by rw [List.all_map]; simp [flatV], _, rfl, q'⟩
        · obtain ⟨n, rfl, n0, n1⟩ := mem_rangeV hx
          refine ⟨_, rfl, _, rfl, by show 1 ≤ sizeLine; decide, fun t ht => ⟨z, t, _, _, rfl, rfl, same_upd ht _ _ (s' _ _ (s2 _ _ hr2)), upd_same, ?_, fun z' G' s'' hz' => ?_⟩⟩
          · rw [mapI_len, hb.len]
            exact Nat.le_trans (by show i + 1 ≤ 1000; omega) (by decide)
          · refine q' _ _ ((same_upd ht).trans s'') ⟨n, z', rfl, rfl, ?_⟩
            rw [hz', List.map_append]
            rfl
        · have ef : ((rangeV 0 m).filter fun v => match v with | .int k => !inV (.int k) (r.map V.int) | _ => false) = (freeO m r).map V.int := by
            rw [rangeV_num0, List.filter_map]
            unfold freeO
            congr 1
            refine List.filter_congr fun k _ => ?_
            show (!inV (.int k) (r.map V.int)) = _
            rw [inV_ints]
            by_cases c : k ∈ r
            · rw [decide_eq_true c, decide_eq_false (fun z => z c)]; rfl
            · rw [decide_eq_false c, decide_eq_true c]; rfl
          rw [ef] at pr
          obtain ⟨zs3, rfl, R3⟩ := tab_rows pr
          have hf := hb.free
          have l3 : zs3.length = (freeO m r).length := by rw [Paired.length R3, List.length_map]
          have l2 : zs2.length = rows2.length := Paired.length R2
          have hL3 := s' _ _ hL2
          refine ⟨L, acc, _, _, rfl, rfl, hL3, hys, ?_, ?_⟩
          · rw [mapR_len, mapR_len]
            refine Nat.le_trans (by omega : zs2.length + zs3.length ≤ 10000) (by decide)
          · have stp : SameT G3 (upd G3 L (.lst (zs2.map V.ref ++ zs3.map V.ref))) := sameT_lst hL3
            refine ⟨zs2 ++ zs3, rows2 ++ (freeO m r).map (fun k => r ++ [k]), _, rfl, same_updR (s2.trans s') hL, by rw [upd_same, List.map_append], Paired.append ((R2.same s').sameT stp) (R3.sameT stp), ?_, ?_⟩
            · rw [htk, B2]
              unfold stepA
              rw [List.flatMap_append]
              simp
            · rw [List.length_append, List.length_map]
              omega
      · rintro σ G2 ⟨zs2, rows2, c4, rfl, s2, hL2, R2, B2, hlen2⟩
        refine ⟨_, rfl, ?_⟩
        refine ⟨L, zs2, rows2, _, _, _, rfl, sm.trans s2, hL0, hL2, R2, ?_⟩
        rw [B2, List.length_map, lz, List.take_length, hrows]
        rfl
    · rintro σ G ⟨p, zs, rows, c2, c3, c4, rfl, sm, hpn, hp2, R, hrows⟩
      subst hrows
      exact ⟨_, rfl, k p zs G sm hpn hp2 R⟩
end
end K50


namespace L2
open PySem PySem.Spec PyProof.Rows
section
variable {X : Cx}
def gIxU : V → V → Hp → VK → Prop := fun o i H Q => ∃ (l : Addr) (xs : List V) (k : Nat) (x : V), o = .ref l ∧ i = .int k ∧ H l = some (.lst xs) ∧ xs[k]? = some x ∧ Q x H
theorem get_listU : PGet X gIxU := by
  intro pins s σ H o i ov iv Q I ro ri h
  obtain ⟨l, xs, k, x, rfl, rfl, hl, hx, q⟩ := h
  cases ro
  obtain ⟨t, rfl⟩ := ri
  obtain ⟨z, its, n, r, hlen, e⟩ := I.lstM hl
  obtain ⟨w, ew, rw'⟩ := r.get hx
  have hk := (List.getElem?_eq_some_iff.mp ew).1
  have hn := line63
  have hL : s.heap.IsList l its.toArray := ⟨_, e, rfl, _, rfl⟩
  exact wpAny_getItem_list hL (by omega) (by omega) (by simpa using ew) ⟨x, H, I, rw', q⟩
end
def rwL (m : Nat) (f : Nat → Int) : List Int := (List.range m).map f
theorem rwL_len (m : Nat) (f : Nat → Int) : (rwL m f).length = m := by unfold rwL; rw [List.length_map, List.length_range]
theorem rwL_at {m : Nat} {f : Nat → Int} {r : Nat} (h : r < m) : (rwL m f)[r]? = some (f r) := by
  unfold rwL
  rw [List.getElem?_map, List.getElem?_range h]; rfl
theorem rwL_set {m : Nat} {f : Nat → Int} {r : Nat} (x : Int) (h : r < m) : (rwL m f).set r x = rwL m fun k => if k = r then x else f k := by
  apply List.ext_getElem?
  intro i
  rw [List.getElem?_set]
  by_cases hi : i < m
  · rw [rwL_at hi, rwL_at (f := fun k => if k = r then x else f k) hi]
    by_cases e : r = i
    · subst e
      rw [if_pos rfl, if_pos (by rw [rwL_len]; exact h), if_pos rfl]
    · rw [if_neg e, if_neg (Ne.symm e)]
  · rw [List.getElem?_eq_none (by rw [rwL_len]; omega), if_neg (by omega), List.getElem?_eq_none (by rw [rwL_len]; omega)]
theorem rwL_sum (f : Nat → Int) : ∀ m, (rwL m f).sum = sT f m
  | 0 => rfl
  | m + 1 => by
    unfold rwL
    rw [List.range_succ, List.map_append, List.sum_append]
    have := rwL_sum f m
    unfold rwL at this
    rw [this]
    show sT f m + (f m + 0) = sT f m + f m
    omega
theorem rwL_congr {m : Nat} {f g : Nat → Int} (h : ∀ k, k < m → f k = g k) : rwL m f = rwL m g := List.map_congr_left fun k hk => h k (List.mem_range.mp hk)
def addF (g : Nat → Nat → Int) (s r : Nat) (x : Int) : Nat → Nat → Int := fun s' r' => if s' = s ∧ r' = r then g s' r' + x else g s' r'
structure TabAt (H : Hp) (L : Addr) (zs : List Addr) (N m : Nat) (g : Nat → Nat → Int) : Prop where
  top : H L = some (.lst (zs.map V.ref))
  len : zs.length = N
  nd : zs.Nodup
  out : L ∉ zs
  at_ : ∀ (s : Nat) (z : Addr), zs[s]? = some z → H z = some (.lst ((rwL m (g s)).map V.int))
theorem TabAt.same {H H' : Hp} {L : Addr} {zs : List Addr} {N m : Nat} {g : Nat → Nat → Int} (h : TabAt H L zs N m g) (s : Same H H') : TabAt H' L zs N m g := ⟨s _ _ h.top, h.len, h.nd, h.out, fun i z e => s _ _ (h.at_ i z e)⟩
theorem TabAt.congr {H : Hp} {L : Addr} {zs : List Addr} {N m : Nat} {g g' : Nat → Nat → Int} (h : TabAt H L zs N m g) (e : ∀ s r, s < N → r < m → g s r = g' s r) : TabAt H L zs N m g' := ⟨h.top, h.len, h.nd, h.out, fun i z q => by
  have hi := (List.getElem?_eq_some_iff.mp q).1
  rw [← rwL_congr fun k hk => e i k (by rw [← h.len]; exact hi) hk]
  exact h.at_ i z q⟩
theorem TabAt.addr {H : Hp} {L : Addr} {zs : List Addr} {N m : Nat} {g : Nat → Nat → Int} (h : TabAt H L zs N m g) {s : Nat} (hs : s < N) : ∃ z, zs[s]? = some z ∧ H z = some (.lst ((rwL m (g s)).map V.int)) := ⟨zs[s]'(by rw [h.len]; exact hs), List.getElem?_eq_getElem _, h.at_ s _ (List.getElem?_eq_getElem _)⟩
theorem TabAt.put {H : Hp} {L : Addr} {zs : List Addr} {N m : Nat} {g : Nat → Nat → Int} (h : TabAt H L zs N m g) {s r : Nat} {z : Addr} (hz : zs[s]? = some z) (hr : r < m) (x : Int) : TabAt (upd H z (.lst (((rwL m (g s)).map V.int).set r (.int (g s r + x))))) L zs N m (addF g s r x) := by
  have hzL : z ≠ L := fun e => h.out (e ▸ List.mem_of_getElem? hz)
  refine ⟨by rw [upd_ne (Ne.symm hzL)]; exact h.top, h.len, h.nd, h.out, fun i y hy => ?_⟩
  by_cases e : i = s
  · subst e
    rw [hz] at hy
    cases hy
    rw [upd_same, show (V.int (g i r + x)) = V.int (g i r + x) from rfl, ← List.map_set, rwL_set _ hr]
    congr 2
    refine congrArg (List.map V.int) (rwL_congr fun k _ => ?_)
    unfold addF
    by_cases c : k = r
    · subst c
      rw [if_pos rfl, if_pos ⟨rfl, rfl⟩]
    · rw [if_neg c, if_neg (fun q => c q.2)]
  · have hyz : y ≠ z := fun q => by
      obtain ⟨h1, e1⟩ := List.getElem?_eq_some_iff.mp hz
      obtain ⟨h2, e2⟩ := List.getElem?_eq_some_iff.mp hy
      exact e ((List.getElem_inj h.nd).mp (e2.trans (q.trans e1.symm)))
    rw [upd_ne hyz, h.at_ i y hy]
    congr 2
    refine congrArg (List.map V.int) (rwL_congr fun k _ => ?_)
    unfold addF
    rw [if_neg (fun q => e q.1)]
structure RwsAt (H : Hp) (R : Addr) (rs : List Addr) (N : Nat) (rows : List (List Int)) : Prop where
  top : H R = some (.tup (rs.map V.ref))
  at_ : RowsAt H rs rows
  len : rows.length = N
  pos : 0 < N
  rng : ∀ r ∈ rows, r.length = 4 ∧ ∀ d ∈ r, 0 ≤ d ∧ d < (N : Int)
theorem RwsAt.same {H H' : Hp} {R : Addr} {rs : List Addr} {N : Nat} {rows : List (List Int)} (h : RwsAt H R rs N rows) (s : Same H H') : RwsAt H' R rs N rows := ⟨s _ _ h.top, h.at_.same s, h.len, h.pos, h.rng⟩
theorem RwsAt.row {H : Hp} {R : Addr} {rs : List Addr} {N : Nat} {rows : List (List Int)} (h : RwsAt H R rs N rows) {i : Nat} (hi : i < N) : ∃ z, rs[i]? = some z ∧ H z = some (.tup ((rows.getD i []).map V.int)) ∧ ∀ m : Int, 0 ≤ m → m < 4 → (rows.getD i [])[m.toNat]? = some (atZr rows i m) ∧ 0 ≤ atZr rows i m ∧ atZr rows i m < N := by
  have hl : rs.length = N := by rw [Paired.length h.at_, h.len]
  have e : rows.getD i [] = rows[i]'(by rw [h.len]; exact hi) := by rw [List.getD_eq_getElem?_getD, List.getElem?_eq_getElem (by rw [h.len]; exact hi)]; rfl
  have hz : rs[i]? = some (rs[i]'(by omega)) := List.getElem?_eq_getElem _
  obtain ⟨r, hr0, hr2⟩ := h.at_.get hz
  rw [List.getElem?_eq_getElem (by rw [h.len]; exact hi)] at hr0
  cases hr0
  obtain ⟨q1, q2⟩ := h.rng _ (List.getElem_mem (l := rows) (n := i) (by rw [h.len]; exact hi))
  refine ⟨_, hz, by rw [e]; exact hr2, fun m m0 m4 => ?_⟩
  unfold atZr
  rw [e]
  have hm : m.toNat < (rows[i]'(by rw [h.len]; exact hi)).length := by omega
  rw [List.getD_eq_getElem?_getD, List.getElem?_eq_getElem hm]
  exact ⟨rfl, q2 _ (List.getElem_mem hm)⟩
def spOneB : Sp := fun vs H Q _ => ∃ (R L : Addr) (rs zs : List Addr) (N m : Nat) (rows : List (List Int)) (g : Nat → Nat → Int), vs = [.ref R, .ref L, .int m] ∧ RwsAt H R rs N rows ∧ TabAt H L zs N m g ∧ 1 ≤ m ∧ m ≤ 100 ∧ N ≤ 100 ∧
  ∀ L' zs' H', Same H H' → TabAt H' L' zs' N (m + 1) (fun s r => sT (fun i => cF rows m g i s r) N) → Q (.ref L') H'
def spMetC : Sp := fun vs H Q _ => ∃ (z : Addr) (N n : Nat) (rows : List (List Int)) (ends : List Int), vs = [.ref z, .int n] ∧ IsMach H z N rows ends ∧ N ≤ 100 ∧ n ≤ 100 ∧ (∀ s ∈ ends, 0 ≤ s ∧ s < (N : Int)) ∧ ends.length ≤ 100 ∧ ∀ H', Same H H' → Q (.int (metZ rows N ends n)) H'
theorem IsMach.rwsAt {H : Hp} {z : Addr} {N : Nat} {rows : List (List Int)} {ends : List Int} (h : IsMach H z N rows ends) : ∃ R E rs, H z = some (.tup [.ref R, .ref E]) ∧ H E = some (.tup (ends.map V.int)) ∧ RwsAt H R rs N rows := by
  obtain ⟨R, E, rs, h1, h2, h3, h4, h5, h6, h7⟩ := h
  exact ⟨R, E, rs, h1, h4, ⟨h2, h3, h5, h6, h7⟩⟩
theorem cF_open (rows : List (List Int)) (m : Nat) (g : Nat → Nat → Int) (i s r : Nat) : cF rows m g i s r = (if atZr rows i 0 = (s : Int) then (if r = 0 then sT (g i) m else 0) else 0) + (if atZr rows i 1 = (s : Int) then (if 1 ≤ r ∧ r < m then sT (g i) m - sT (g i) r else 0) else 0) + (if atZr rows i 2 = (s : Int) then (if 1 ≤ r ∧ r < m then sT (g i) r else 0) else 0) + (if atZr rows i 3 = (s : Int) then (if r = m then sT (g i) m else 0) else 0) := by
  show (if atZr rows i 0 = (s : Int) then stp 0 m (g i) r else 0) + ((if atZr rows i 1 = (s : Int) then stp 1 m (g i) r else 0) + ((if atZr rows i 2 = (s : Int) then stp 2 m (g i) r else 0) + ((if atZr rows i 3 = (s : Int) then stp 3 m (g i) r else 0) + 0))) = _
  unfold stp
  simp only [reduceIte, show ¬(1 : Int) = 0 by decide, show ¬(1 : Int) = 3 by decide, show ¬(1 : Int) = 2 by decide, show ¬(2 : Int) = 0 by decide, show ¬(2 : Int) = 3 by decide, show ¬(3 : Int) = 0 by decide]
  omega
end L2


namespace L2
open PySem PySem.Spec PyProof.Rows
theorem lc_listsU {J : It} {Ok : Hp → Prop} {xs : List V} {te : TE} {ix : List Nat} {σ : L2.St} {H1 : Hp} {Q : VK} (Y : Yields J Ok xs) (small : xs.length < sizeLine) (f : Nat → List V) (hok : ∀ H, Same H1 H → Ok H)
    (he : ∀ (i : Nat) (x : V) (H : Hp), xs[i]? = some x → Same H1 H → ∀ (QT : VK), (∀ (a : Addr) (H' : Hp), H a = none → H' a = some (.lst (f i)) → Same H H' → QT (.ref a) H') → te (some x :: ix.map fun i => σ.getD i none) H QT)
    (fin : ∀ acc (zs : List Addr) H', H1 acc = none → Same H1 H' → H' acc = some (.lst (zs.map V.ref)) → zs.length = xs.length → zs.Nodup → (∀ (i : Nat) (z : Addr), zs[i]? = some z → H' z = some (.lst (f i)) ∧ H1 z = none ∧ z ≠ acc) → Q (.ref acc) H') :
    LcW J H1 (gName 0) tNoTest te 1 ix σ Q := by
  intro acc ha
  refine ⟨fun i m H => m = xs.length - i ∧ i ≤ xs.length ∧ Same H1 H ∧ ∃ (zs : List Addr), H acc = some (.lst (zs.map V.ref)) ∧ zs.length = i ∧ zs.Nodup ∧ ∀ (j : Nat) (z : Addr), zs[j]? = some z → H z = some (.lst (f j)) ∧ H1 z = none ∧ z ≠ acc, ⟨xs.length, by simp, Nat.zero_le _, same_upd ha, [], upd_same, rfl, List.nodup_nil, fun _ _ h => by cases h⟩, ?_⟩
  rintro i m H ⟨rfl, hi, kp, zs, hacc, hl, hnd, hD⟩
  have o := hok _ kp
  by_cases hlt : i < xs.length
  · refine .inr ⟨Y.go i _ o hlt, fun x H' y => ?_⟩
    obtain ⟨rfl, hx⟩ := Y.yld i _ x H' o hlt y
    refine ⟨⟨rfl, fun j v e => ?_⟩, ?_⟩
    · cases j with
      | zero => cases e
      | succ j => exact e
    · unfold tNoTest
      dsimp only
      rw [if_pos rfl]
      refine he i x H' hx kp _ (fun a H4 a0 a4 k4 => ?_)
      have h4 := k4 _ _ hacc
      have haa : a ≠ acc := fun e => by rw [e, hacc] at a0; cases a0
      have hnot : a ∉ zs := fun hm => by
        obtain ⟨j, hj⟩ := List.getElem?_of_mem hm
        rw [(hD j a hj).1] at a0
        cases a0
      refine ⟨_, h4, by rw [List.length_map]; omega, xs.length - (i + 1), by omega, rfl, hlt, same_updR (kp.trans k4) ha, zs ++ [a], by rw [upd_same, List.map_append]; rfl, by simp; omega, List.nodup_append.mpr ⟨hnd, by simp, fun u hu c hc e => ?_⟩, fun j z hj => ?_⟩
      · rw [List.mem_singleton] at hc
        subst hc e
        exact hnot hu
      by_cases c : j < zs.length
      · rw [List.getElem?_append_left c] at hj
        obtain ⟨q1, q2, q3⟩ := hD j z hj
        exact ⟨by rw [upd_ne q3]; exact k4 _ _ q1, q2, q3⟩
      · rw [List.getElem?_append_right (by omega)] at hj
        have hj0 : j - zs.length = 0 := by
          have := (List.getElem?_eq_some_iff.mp hj).1
          simp at this
          omega
        rw [hj0] at hj
        simp at hj
        subst hj
        have : j = i := by omega
        subst this
        exact ⟨by rw [upd_ne haa]; exact a4, kp.free a0, haa⟩
  · have e : i = xs.length := by omega
    subst e
    exact .inl ⟨Y.stop _ o, fin acc zs H ha kp hacc hl hnd hD⟩
end L2


namespace L2
open PySem PySem.Spec PyProof.Rows
structure ZipM (h : Heap) (z TI TO i1 i2 a b : Addr) (i : Nat) : Prop where
  z : IsZip h z TI TO .none
  ti : IsPair h TI (.ref i1) (.ref i2)
  to : ∃ x y, IsPair h TO x y
  one : h.IsTupleIter i1 a i
  two : h.IsListIter i2 b i
theorem lstNe {h : Heap} {t j : Addr} {k : Nat} {its : Array Value} {u : Addr} (ht : h.IsList t its) (hj : h.IsTupleIter j u k) : t ≠ j := fun e => by
  obtain ⟨o, e1, e2, _⟩ := ht
  obtain ⟨o', f1, f2, _⟩ := hj
  rw [e, f1] at e1; cases e1; rw [f2] at e2; injection e2 with z2; revert z2; decide
section
variable {prog : Program} {w : World} {A : Around} {E : Value → Shared → Prop} {s : Shared} {z TI TO i1 i2 a b : Addr} {i : Nat} {xs ys : Array Value}
theorem zipM_item {x y : Value} {Q : Option Value → Shared → Prop} (D : ZipNe z TI TO i1 i2) (S : ZipM s.heap z TI TO i1 i2 a b i) (ha : s.heap.IsTuple a xs) (hb : s.heap.IsList b ys) (haz : a ≠ z ∧ a ≠ TO) (hbz : b ≠ z ∧ b ≠ TO) (hx : xs[i]? = some x) (hy : ys[i]? = some y)
    (q : ∀ h', IsZip h' z TI TO (rawInt s.heap.objs.size) → IsPair h' TI (.ref i1) (.ref i2) → IsPair h' TO x y → h'.IsTupleIter i1 a (i + 1) → h'.IsListIter i2 b (i + 1) → IsPair h' s.heap.objs.size x y →
      (∀ c o, c ≠ z → c ≠ TO → c ≠ i1 → c ≠ i2 → s.heap.get? c = some o → h'.get? c = some o) → Q (some (.ref s.heap.objs.size)) { s with heap := h' }) :
    wpAny (model prog w) A (pyNext (.ref z)) Q E s := by
  obtain ⟨hz, hti, ⟨p0, p1, hto⟩, h1, h2⟩ := S
  have bi1 := lstNe hb h1
  have hT : s.TypeIs (.ref z) "zip" := ⟨_, hz, rfl⟩
  unfold pyNext
  refine wpAny_bind (wpAny_attempt (wpAny_callSpecial?_slot (name := Str.ofString "__next__") hT F.slot_zip_next (wpAny_call_entry F.slot_zip_next hT F.entry_zip_next ?_ (F.args_zip_next_1 _))))
  show wpAny _ _ (field (.ref z) 2 >>= _) _ _ _
  refine wpAny_bind (wpAny_field hz rfl (x := .bool false) rfl ?_); show wpAny _ _ (field (.ref z) 3 >>= _) _ _ _
  refine wpAny_bind (wpAny_field hz rfl (x := .ref TI) rfl (wpAny_bind (wpAny_seqItems hti rfl ?_)))
  show wpAny _ _ (Builtin.SmallTypes.ownedTupleIsFree (.ref z) >>= _) _ _ _
  refine wpAny_bind ?_
  unfold Builtin.SmallTypes.ownedTupleIsFree
  refine wpAny_bind (wpAny_field hz rfl (x := .none) rfl (wpAny_pure ?_)); simp only [if_true]
  refine wpAny_bind (wpAny_rule (wpAny_bind (wpAny_field hz rfl (x := .ref TO) rfl (wpAny_bind (wpAny_setField_rec hz (by simp) fun g1 k1 s1 => ?_)))))
  replace k1 : IsZip g1 z TI TO .ellipsis := k1
  refine wpAny_bind ?_
  simp only [List.zipIdx_cons, List.zipIdx_nil, List.forIn_cons, List.forIn_nil]
  -- the first
  refine wpAny_bind (wpAny_bind (wpAny_onRaise ?_)); show wpAny _ _ (Builtin.SmallTypes.nextOf (.ref i1) >>= _) _ _ _
  refine wpAny_bind (nextT_item (h1.extBut s1.extBut D.cz) (ha.extBut s1.extBut haz.1) hx fun g2 j2 s2 => wpAny_pure ?_)
  have t2 : IsPair g2 TO p0 p1 := s2.extBut _ _ D.bc (s1.extBut _ _ D.bz hto)
  refine wpAny_bind (wpAny_seqItems t2 rfl (wpAny_bind (pairSet t2 fun g3 t3 s3 => ?_)))
  replace t3 : IsPair g3 TO x p1 := t3
  refine wpAny_bind (wpAny_letGo (wpAny_pure ?_))
  -- the second
  refine wpAny_bind (wpAny_bind (wpAny_onRaise ?_)); show wpAny _ _ (Builtin.SmallTypes.nextOf (.ref i2) >>= _) _ _ _
  have e3 : ∀ c o, c ≠ z → c ≠ i1 → c ≠ TO → s.heap.get? c = some o → g3.get? c = some o := fun c o c1 c2 c3 e => s3.extBut _ _ c3 (s2.extBut _ _ c2 (s1.extBut _ _ c1 e))
  have h23 : g3.IsListIter i2 b i := let ⟨o, ho, r⟩ := h2; ⟨o, e3 _ _ D.dz D.cd.symm D.bd.symm ho, r⟩
  have hb3 : g3.IsList b ys := let ⟨o, ho, r⟩ := hb; ⟨o, e3 _ _ hbz.1 bi1 hbz.2 ho, r⟩
  refine wpAny_bind (wpAny_nextOf_list_item h23 hb3 hy fun g4 j4 s4 => wpAny_pure ?_)
  have t4 : IsPair g4 TO x p1 := s4.extBut _ _ D.bd t3
  refine wpAny_bind (wpAny_seqItems t4 rfl (wpAny_bind (pairSet t4 fun g5 t5 s5 => ?_)))
  replace t5 : IsPair g5 TO x y := t5
  refine wpAny_bind (wpAny_letGo (wpAny_pure (wpAny_pure ?_)))
  -- the tuple that is handed out
  refine wpAny_bind (wpAny_seqItems t5 rfl (wpAny_bind (wpAny_newTuple ?_)))
  have z5 : g5.objs.size = s.heap.objs.size := by rw [s5.1, s4.1, s3.1, s2.1, s1.1]
  have e5 : ∀ c o, c ≠ z → c ≠ TO → c ≠ i1 → c ≠ i2 → s.heap.get? c = some o → g5.get? c = some o := fun c o c1 c2 c3 c4 e => s5.extBut _ _ c2 (s4.extBut _ _ c4 (e3 c o c1 c3 c2 e))
  have k5 : IsZip g5 z TI TO .ellipsis := s5.extBut _ _ D.bz.symm (s4.extBut _ _ D.dz.symm (s3.extBut _ _ D.bz.symm (s2.extBut _ _ D.cz.symm k1)))
  have m1 : g5.IsTupleIter i1 a (i + 1) := ((j2.extBut s3.extBut D.bc.symm).extBut s4.extBut D.cd).extBut s5.extBut D.bc.symm
  have m2 : g5.IsListIter i2 b (i + 1) := j4.extBut s5.extBut D.bd.symm
  have zlt : z < g5.objs.size := Heap.lt_size k5
  show wpAny _ _ (Builtin.SmallTypes.ownedTupleHandOut (.ref z) (.ref g5.objs.size) >>= _) _ _ _
  refine wpAny_bind ?_
  unfold Builtin.SmallTypes.ownedTupleHandOut
  have k6 : IsZip (g5.push { cls := .type "tuple", data := .seq #[x, y] }) z TI TO .ellipsis := Heap.get?_push_of_some _ k5
  refine wpAny_bind (wpAny_setField_rec k6 (by simp) fun g7 k7 s7 => ?_)
  replace k7 : IsZip g7 z TI TO (rawInt g5.objs.size) := k7
  refine wpAny_setField_rec k7 (by simp) fun g8 k8 s8 => ?_
  replace k8 : IsZip g8 z TI TO (rawInt g5.objs.size) := k8
  have up : ∀ c o, c ≠ z → g5.get? c = some o → g8.get? c = some o := fun c o c1 e => s8.extBut _ _ c1 (s7.extBut _ _ c1 (Heap.get?_push_of_some _ e))
  have t8 : IsPair g8 g5.objs.size x y := s8.extBut _ _ (Nat.ne_of_gt zlt) (s7.extBut _ _ (Nat.ne_of_gt zlt) (Heap.get?_push_size _ rfl))
  rw [z5] at k8 t8
  refine wpAny_pure ⟨_, rfl, wpAny_pure ?_⟩
  show Q (some (.ref g5.objs.size)) _
  rw [z5]
  exact q g8 k8 (up _ _ D.az (e5 _ _ D.az D.ab D.ac D.ad hti)) (up _ _ D.bz t5) (let ⟨o, ho, r⟩ := m1; ⟨o, up _ _ D.cz ho, r⟩) (let ⟨o, ho, r⟩ := m2; ⟨o, up _ _ D.dz ho, r⟩) t8 fun c o c1 c2 c3 c4 e => up c o c1 (e5 c o c1 c2 c3 c4 e)
theorem zipM_end {Q : Option Value → Shared → Prop} (hh : A.in1.handled = none) (D : ZipNe z TI TO i1 i2) (S : ZipM s.heap z TI TO i1 i2 a b i) (ha : s.heap.IsTuple a xs) (hb : s.heap.IsList b ys) (haz : a ≠ z ∧ a ≠ TO) (hbz : b ≠ z ∧ b ≠ TO) (hend : xs[i]? = none ∨ ys[i]? = none)
    (q : ∀ h', (∀ c o, c ≠ z → c ≠ TO → c ≠ i1 → c ≠ i2 → s.heap.get? c = some o → h'.get? c = some o) → Q none { s with heap := h' }) :
    wpAny (model prog w) A (pyNext (.ref z)) Q E s := by
  obtain ⟨hz, hti, ⟨p0, p1, hto⟩, h1, h2⟩ := S
  have bi1 := lstNe hb h1
  have hT : s.TypeIs (.ref z) "zip" := ⟨_, hz, rfl⟩
  unfold pyNext
  refine wpAny_bind (wpAny_attempt (wpAny_callSpecial?_slot (name := Str.ofString "__next__") hT F.slot_zip_next (wpAny_call_entry F.slot_zip_next hT F.entry_zip_next ?_ (F.args_zip_next_1 _))))
  show wpAny _ _ (field (.ref z) 2 >>= _) _ _ _
  refine wpAny_bind (wpAny_field hz rfl (x := .bool false) rfl ?_); show wpAny _ _ (field (.ref z) 3 >>= _) _ _ _
  refine wpAny_bind (wpAny_field hz rfl (x := .ref TI) rfl (wpAny_bind (wpAny_seqItems hti rfl ?_)))
  show wpAny _ _ (Builtin.SmallTypes.ownedTupleIsFree (.ref z) >>= _) _ _ _
  refine wpAny_bind ?_
  unfold Builtin.SmallTypes.ownedTupleIsFree
  refine wpAny_bind (wpAny_field hz rfl (x := .none) rfl (wpAny_pure ?_)); simp only [if_true]
  refine wpAny_bind (wpAny_rule (wpAny_bind (wpAny_field hz rfl (x := .ref TO) rfl (wpAny_bind (wpAny_setField_rec hz (by simp) fun g1 k1 s1 => ?_)))))
  replace k1 : IsZip g1 z TI TO .ellipsis := k1
  refine wpAny_bind ?_
  simp only [List.zipIdx_cons, List.zipIdx_nil, List.forIn_cons, List.forIn_nil]
  -- what an exception of an iterator's end comes to
  have fin : ∀ (g : Heap) (e : Addr), IsZip g z TI TO .ellipsis → (∀ c o, c ≠ z → c ≠ TO → c ≠ i1 → c ≠ i2 → s.heap.get? c = some o → g.get? c = some o) → (∃ o, g.get? e = some o ∧ o.cls = .type "StopIteration") →
      wpAny (model prog w) A.in1 (setField (.ref z) 0 .none) (fun _ s' => wpAny (model prog w) A (do if ← isInstance (.ref e) (.type "StopIteration") then pure none else throw (Value.ref e)) Q E s') (fun e' s' => wpAny (model prog w) A (do if ← isInstance e' (.type "StopIteration") then pure none else throw e') Q E s') { s with heap := g } := by
    rintro g e kz kk ⟨oe, f1, f2⟩
    have ez : e ≠ z := fun y => by subst y; rw [kz] at f1; cases f1; injection f2 with z2; revert z2; decide
    refine wpAny_setField_rec kz (by simp) fun g' _ s' => ?_
    refine wpAny_bind (wpAny_isInstance (T := "StopIteration") (b := true) ⟨oe, s'.extBut _ _ ez f1, f2⟩ isSubtype_stop ?_)
    exact wpAny_pure (q g' fun c o c1 c2 c3 c4 y => s'.extBut _ _ c1 (kk c o c1 c2 c3 c4 y))
  refine wpAny_bind (wpAny_bind (wpAny_onRaise ?_)); show wpAny _ _ (Builtin.SmallTypes.nextOf (.ref i1) >>= _) _ _ _
  cases hx : xs[i]? with
  | none =>
    refine wpAny_bind (nextT_end hh (h1.extBut s1.extBut D.cz) (ha.extBut s1.extBut haz.1) hx fun g2 e s2 he => ?_)
    exact fin g2 e (s2 _ _ D.cz.symm k1) (fun c o c1 _ c3 _ y => s2 _ _ c3 (s1.extBut _ _ c1 y)) he
  | some x =>
    have hy : ys[i]? = none := by rcases hend with h | h; rw [hx] at h; cases h; exact h
    refine wpAny_bind (nextT_item (h1.extBut s1.extBut D.cz) (ha.extBut s1.extBut haz.1) hx fun g2 j2 s2 => wpAny_pure ?_)
    have t2 : IsPair g2 TO p0 p1 := s2.extBut _ _ D.bc (s1.extBut _ _ D.bz hto)
    refine wpAny_bind (wpAny_seqItems t2 rfl (wpAny_bind (pairSet t2 fun g3 t3 s3 => ?_)))
    refine wpAny_bind (wpAny_letGo (wpAny_pure ?_))
    refine wpAny_bind (wpAny_bind (wpAny_onRaise ?_)); show wpAny _ _ (Builtin.SmallTypes.nextOf (.ref i2) >>= _) _ _ _
    have e3 : ∀ c o, c ≠ z → c ≠ i1 → c ≠ TO → s.heap.get? c = some o → g3.get? c = some o := fun c o c1 c2 c3 e => s3.extBut _ _ c3 (s2.extBut _ _ c2 (s1.extBut _ _ c1 e))
    have h23 : g3.IsListIter i2 b i := let ⟨o, ho, r⟩ := h2; ⟨o, e3 _ _ D.dz D.cd.symm D.bd.symm ho, r⟩
    have hb3 : g3.IsList b ys := let ⟨o, ho, r⟩ := hb; ⟨o, e3 _ _ hbz.1 bi1 hbz.2 ho, r⟩
    refine wpAny_bind (wpAny_nextOf_list_end hh h23 hb3 hy fun g4 e s4 he => ?_)
    exact fin g4 e (s4 _ _ D.dz.symm (s3.extBut _ _ D.bz.symm (s2.extBut _ _ D.cz.symm k1))) (fun c o c1 c2 c3 c4 y => s4 _ _ c4 (e3 c o c1 c3 c2 y)) he

abbrev zM1 (h : Heap) (l1 : Addr) : Heap := h.push { cls := .type "tuple_iterator", data := .fields #[.ref l1, .int 0 0] }
abbrev zM2 (h : Heap) (l1 l2 : Addr) : Heap := (zM1 h l1).push { cls := .type "list_iterator", data := .fields #[.ref l2, .int 0 0] }
abbrev zM3 (h : Heap) (l1 l2 : Addr) : Heap := (zM2 h l1 l2).push { cls := .type "tuple", data := .seq #[.ref h.objs.size, .ref (zM1 h l1).objs.size] }
abbrev zM4 (h : Heap) (l1 l2 : Addr) : Heap := (zM3 h l1 l2).push { cls := .type "tuple", data := .seq #[.none, .none] }
abbrev zM5 (h : Heap) (l1 l2 : Addr) : Heap := (zM4 h l1 l2).push { cls := .type "zip", data := .fields #[.none, .bool false, .bool false, .ref (zM2 h l1 l2).objs.size, .ref (zM3 h l1 l2).objs.size] }
theorem zip_newM (l1 l2 : Addr) (xs ys : Array Value) :
    Meets (Builtin.«zip.__new__» ⟨[.type "zip", .ref l1, .ref l2], []⟩) (fun _ R s => s.heap.IsTuple l1 xs ∧ s.heap.IsList l2 ys ∧ R (.ok (.ret (.ref (zM4 s.heap l1 l2).objs.size))) { s with heap := zM5 s.heap l1 l2 }) :=
  .of_wp fun prog w A R s h => by
    obtain ⟨hp, g, d, tk, os⟩ := s; obtain ⟨hl1, hl2, h⟩ := h
    have hsub := sub_zip
    have hL1 : Heap.IsTuple (Shared.heap ⟨hp, g, d, tk, os⟩) l1 xs := hl1
    have hL2 : Heap.IsList (Shared.heap ⟨hp.push { cls := .type "tuple_iterator", data := .fields #[.ref l1, .int 0 0] }, g, d, tk, os⟩) l2 ys := Heap.IsList.push hl2 _
    wp_walk using wpAny_pyIter_tuple hL1, wpAny_pyIter_list hL2
    exact ⟨_, rfl, h⟩
theorem call_zipM {l1 l2 : Addr} {Q : Value → Shared → Prop} (hl1 : s.heap.IsTuple l1 xs) (hl2 : s.heap.IsList l2 ys)
    (h : ∀ h', ZipM h' (s.heap.objs.size + 4) (s.heap.objs.size + 2) (s.heap.objs.size + 3) s.heap.objs.size (s.heap.objs.size + 1) l1 l2 0 → (∀ c o, s.heap.get? c = some o → h'.get? c = some o) → Q (.ref (s.heap.objs.size + 4)) { s with heap := h' }) :
    wpAny (model prog w) A (call (.type "zip") [.ref l1, .ref l2]) Q E s := by
  refine callType_new F.called_zip (by decide) (F.typeCall_zip_2 _ _) (F.newCall_zip_2 _ _) (fun obj => F.args_object_init_3 obj _ _) F.entry_zip_new (zip_newM l1 l2 xs ys) ⟨hl1, hl2, ?_⟩
  have z1 : (zM1 s.heap l1).objs.size = s.heap.objs.size + 1 := Heap.size_push ..
  have z2 : (zM2 s.heap l1 l2).objs.size = s.heap.objs.size + 2 := by rw [Heap.size_push, z1]
  have z3 : (zM3 s.heap l1 l2).objs.size = s.heap.objs.size + 3 := by rw [Heap.size_push, z2]
  have z4 : (zM4 s.heap l1 l2).objs.size = s.heap.objs.size + 4 := by rw [Heap.size_push, z3]
  have p1 : ∀ {g : Heap} {c o u}, g.get? c = some o → (g.push u).get? c = some o := fun e => Heap.get?_push_of_some _ e
  have g5 : (zM5 s.heap l1 l2).get? (zM4 s.heap l1 l2).objs.size = some _ := Heap.get?_push_size _ rfl
  have g4 : (zM5 s.heap l1 l2).get? (zM3 s.heap l1 l2).objs.size = some _ := p1 (Heap.get?_push_size _ rfl)
  have g3 : (zM5 s.heap l1 l2).get? (zM2 s.heap l1 l2).objs.size = some _ := p1 (p1 (Heap.get?_push_size _ rfl))
  have g2 : (zM5 s.heap l1 l2).get? (zM1 s.heap l1).objs.size = some _ := p1 (p1 (p1 (Heap.get?_push_size _ rfl)))
  have g1 : (zM5 s.heap l1 l2).get? s.heap.objs.size = some _ := p1 (p1 (p1 (p1 (Heap.get?_push_size _ rfl))))
  show _ ∧ _
  rw [z2, z3, z4] at g5
  rw [z1, z2] at g3
  rw [z3] at g4
  rw [z1] at g2
  rw [z4]
  exact ⟨⟨_, g5, rfl⟩, h _ ⟨g5, g3, ⟨_, _, g4⟩, ⟨_, g1, rfl, rfl⟩, ⟨_, g2, rfl, rfl⟩⟩ fun c o x => p1 (p1 (p1 (p1 (p1 x))))⟩
end

def Itm (K : PySem.W.Frag) (a b : Addr) : It :=
  ⟨fun i H => ∃ xs ys x y, SqT K H a xs ∧ SqL K H b ys ∧ xs[i]? = some x ∧ ys[i]? = some y, fun i H v H' => ∃ t x y, H t = none ∧ v = .ref t ∧ H' = upd H t (.tup [x, y]) ∧ ∀ xs ys, SqT K H a xs → SqL K H b ys → xs[i]? = some x ∧ ys[i]? = some y,
    fun i H => ∃ xs ys, SqT K H a xs ∧ SqL K H b ys ∧ (xs[i]? = none ∨ ys[i]? = none)⟩
theorem zipMNe_of {z TI TO i1 i2 : Addr} {h : Heap} {a b : Addr} {i : Nat} (S : ZipM h z TI TO i1 i2 a b i) (h1 : TI ≠ TO) (h2 : i1 ≠ i2) : ZipNe z TI TO i1 i2 := by
  obtain ⟨hz, hti, ⟨p0, p1, hto⟩, ⟨o1, e1, c1, d1⟩, ⟨o2, e2, c2, d2⟩⟩ := S
  refine ⟨fun e => ?_, fun e => ?_, fun e => ?_, fun e => ?_, h1, fun e => ?_, fun e => ?_, fun e => ?_, fun e => ?_, h2⟩
  · have q := (show h.get? TI = _ from hti); rw [e, show h.get? z = _ from hz] at q; injection q with q; injection q with q1; injection q1 with q2; revert q2; decide
  · have q := (show h.get? TO = _ from hto); rw [e, show h.get? z = _ from hz] at q; injection q with q; injection q with q1; injection q1 with q2; revert q2; decide
  · rw [e, hz] at e1; cases e1; injection c1 with q2; revert q2; decide
  · rw [e, hz] at e2; cases e2; injection c2 with q2; revert q2; decide
  · rw [← e, hti] at e1; cases e1; injection c1 with q2; revert q2; decide
  · rw [← e, hti] at e2; cases e2; injection c2 with q2; revert q2; decide
  · rw [← e, hto] at e1; cases e1; injection c1 with q2; revert q2; decide
  · rw [← e, hto] at e2; cases e2; injection c2 with q2; revert q2; decide
theorem SqL.fpNe {X : Cx} {pins : List (Addr × Obj)} {σ : St} {H : Hp} {s : Shared} {t c : Addr} {zs : List V} (I : Inv X pins σ H s) (hq : SqL X.K H t zs) (f : FpOk X pins H c) : t ≠ c := by
  rintro rfl
  rcases hq with (h | ⟨o, h⟩) | h
  · rw [f.1] at h; cases h
  · rw [f.1] at h; cases h
  · obtain ⟨o, _, _, hl, _⟩ := h
    have e := I.ok.mod.kin _ _ hl
    rcases f.2.2.2.1 with z | z
    · exact I.ok.noex _ _ e z
    · exact absurd (Nat.lt_of_lt_of_le (Heap.lt_size e) (Nat.le_trans I.ok.bsz z)) (Nat.lt_irrefl _)
theorem turn_zipM {P : Program} {w : World} {K : PySem.W.Frag} {els : List Expr} {kx} {tp : Pos} (a b z TI TO i1 i2 : Addr) (h1 : TI ≠ TO) (h2 : i1 ≠ i2) : Turn P w K (.Tuple els kx tp) (Itm K a b) [z, TI, TO, i1, i2] z (fun i h => ZipM h z TI TO i1 i2 a b i) where
  mem := by simp
  obj := fun i h st c hc => by
    obtain ⟨hz, hti, ⟨p0, p1, hto⟩, ⟨o1, e1, c1, d1⟩, ⟨o2, e2, c2, d2⟩⟩ := st
    simp only [List.mem_cons, List.not_mem_nil, or_false] at hc
    rcases hc with rfl | rfl | rfl | rfl | rfl
    · exact ⟨_, hz, fun v q => by cases q⟩
    · exact ⟨_, hti, fun v q => by cases q⟩
    · exact ⟨_, hto, fun v q => by cases q⟩
    · exact ⟨_, e1, fun v q => by rw [d1] at q; cases q⟩
    · exact ⟨_, e2, fun v q => by rw [d2] at q; cases q⟩
  keep := fun i h h' st k => by
    obtain ⟨hz, hti, ⟨p0, p1, hto⟩, ⟨o1, e1, r1⟩, ⟨o2, e2, r2⟩⟩ := st
    exact ⟨k _ (by simp) _ hz, k _ (by simp) _ hti, ⟨p0, p1, k _ (by simp) _ hto⟩, ⟨o1, k _ (by simp) _ e1, r1⟩, ⟨o2, k _ (by simp) _ e2, r2⟩⟩
  item := by
    intro X hP hw hK hc i pins s σ H E I hf st hg
    subst hP hw hK
    obtain ⟨xs, ys, x, y, hqa, hqb, hx, hy⟩ := hg
    obtain ⟨its, rv, p, _⟩ := I.tuple hqa
    obtain ⟨jts, rw', p', _⟩ := I.list hqb
    obtain ⟨u, hu, ru⟩ := rv.get hx
    obtain ⟨v, hv, rvv⟩ := rw'.get hy
    have D := zipMNe_of st h1 h2
    obtain ⟨hz, hti, ⟨p0, p1, hto⟩, hi1, hi2⟩ := id st
    have apart : ∀ {t : Addr} {zs : List V}, SqT X.K H t zs → t ≠ z ∧ t ≠ TO := fun hq => ⟨SqT.fpNe I hq (hf z (by simp)), SqT.fpNe I hq (hf TO (by simp))⟩
    have apart' : ∀ {t : Addr} {zs : List V}, SqL X.K H t zs → t ≠ z ∧ t ≠ TO := fun hq => ⟨SqL.fpNe I hq (hf z (by simp)), SqL.fpNe I hq (hf TO (by simp))⟩
    refine zipM_item D st p p'.isList (apart hqa) (apart' hqb) (by simpa using hu) (by simpa using hv) fun g k1 k2 k3 k4 k5 k6 k7 => ?_
    refine ⟨_, rfl, wpAny_letOwnedTupleGo_zip k1 fun g2 l1 s2 => ?_⟩
    have hne0 : s.heap.objs.size ≠ z := Nat.ne_of_gt (Heap.lt_size hz)
    have keep : ∀ c o, c ∉ [z, TI, TO, i1, i2] → s.heap.get? c = some o → g2.get? c = some o := fun c o hc e => s2.extBut _ _ (fun q => hc (by simp [q])) (k7 c o (fun q => hc (by simp [q])) (fun q => hc (by simp [q])) (fun q => hc (by simp [q])) (fun q => hc (by simp [q])) e)
    refine ⟨.ref s.heap.objs.size, _, I.turnedT (h' := g2) (t' := s.toks) (xs := [x, y]) hf keep (.cons ru (.cons rvv .nil)) ⟨_, s2.extBut _ _ hne0 k6, rfl, ⟨_, rfl⟩, rfl, rfl⟩ (by show 2 ≤ sizeLine; decide), rfl,
      ⟨_, x, y, I.hok.fresh (Nat.le_refl _), rfl, rfl, fun as bs ha hb => ⟨by rw [I.tuple_inj ha hqa]; exact hx, by rw [I.list_inj hb hqb]; exact hy⟩⟩, ⟨l1, s2.extBut _ _ D.az k2, ⟨_, _, s2.extBut _ _ D.bz k3⟩, k4.extBut s2.extBut D.cz, k5.extBut s2.extBut D.dz⟩, fun c hc => ?_⟩
    have : c < s.heap.objs.size := by
      obtain ⟨o1, e1, _⟩ := hi1
      obtain ⟨o2, e2, _⟩ := hi2
      simp only [List.mem_cons, List.not_mem_nil, or_false] at hc
      rcases hc with rfl | rfl | rfl | rfl | rfl
      · exact Heap.lt_size hz
      · exact Heap.lt_size hti
      · exact Heap.lt_size hto
      · exact Heap.lt_size e1
      · exact Heap.lt_size e2
    rw [upd_ne (Nat.ne_of_lt this)]
    exact (hf c hc).1
  done := by
    intro X hP hw hK hc i pins s σ H E I hf st hg
    subst hP hw hK
    obtain ⟨xs, ys, hqa, hqb, hx⟩ := hg
    obtain ⟨its, rv, p, _⟩ := I.tuple hqa
    obtain ⟨jts, rw', p', _⟩ := I.list hqb
    have D := zipMNe_of st h1 h2
    have apart : ∀ {t : Addr} {zs : List V}, SqT X.K H t zs → t ≠ z ∧ t ≠ TO := fun hq => ⟨SqT.fpNe I hq (hf z (by simp)), SqT.fpNe I hq (hf TO (by simp))⟩
    have apart' : ∀ {t : Addr} {zs : List V}, SqL X.K H t zs → t ≠ z ∧ t ≠ TO := fun hq => ⟨SqL.fpNe I hq (hf z (by simp)), SqL.fpNe I hq (hf TO (by simp))⟩
    refine zipM_end (I.ok.hd hc) D st p p'.isList (apart hqa) (apart' hqb) (hx.elim (fun q => .inl (by simpa using rv.none_of q)) fun q => .inr (by simpa using rw'.none_of q)) fun g k => ⟨rfl, ?_⟩
    exact I.turnedN (t' := s.toks) hf fun c o hc e => k c o (fun q => hc (by simp [q])) (fun q => hc (by simp [q])) (fun q => hc (by simp [q])) (fun q => hc (by simp [q])) e
  self := fun _ _ _ _ _ st h => wpAny_pyIter_zip st.z h
section
variable {X : Cx}
def iZipM (K : PySem.W.Frag) (ta : TA) : TI := fun σ H R => ta σ H fun vs H1 => ∃ a b, vs = [.ref a, .ref b] ∧ (∃ xs, SqT K H1 a xs) ∧ (∃ ys, SqL K H1 b ys) ∧ R (Itm K a b) H1
theorem pi_zipM {els : List Expr} {kx} {tp : Pos} {l l' : Expr} {ta : TA} {p pos : Pos} (hg : Gl X "zip") (hm : X.mg "zip" = none) (ha : PA X [l, l'] ta) (hs : starEach [l, l'] X.env = [(false, eval l X.env), (false, eval l' X.env)] := by rfl) (hs2 : starEach [l'] X.env = [(false, eval l' X.env)] := by rfl) :
    PI X (.Tuple els kx tp) (.Call (.Name "zip" p) [l, l'] [] pos) (iZipM X.K ta) := by
  intro pins s σ H R I h
  refine Call_ (ld_blt I hg hm boot_zip (PyProof.Rows.callWith_type1 (thn (ha pos pins s σ H _ I h) fun us s1 ⟨vs, H1, I1, r1, q1⟩ => ?_) (by rw [hs, hs2]) (by rw [hs2]; rfl)))
  obtain ⟨a, b, rfl, ⟨xs, hqa⟩, ⟨ys, hqb⟩, q⟩ := q1
  obtain ⟨u, v, rfl, ru, rv⟩ := vals2 r1
  cases (show u = Value.ref a from ru)
  cases (show v = Value.ref b from rv)
  obtain ⟨its, _, p1, _⟩ := I1.tuple hqa
  obtain ⟨jts, _, p2, _⟩ := I1.list hqb
  refine call_zipM (show s1.heap.IsTuple a its.toArray from p1) (show s1.heap.IsList b jts.toArray from p2.isList) fun h' S hk => wpAny_pyIter_zip S.z ?_
  have I2 : Inv X pins σ H1 { s1 with heap := h' } := I1.kept (t' := s1.toks) hk
  refine ⟨_, _, _, _, H1, rfl, I2, turn_zipM a b _ _ _ _ _ (Nat.ne_of_lt (Nat.lt_succ_self _)) (Nat.ne_of_lt (Nat.lt_succ_self _)), S, fun c hc => ?_, q⟩
  have : s1.heap.objs.size ≤ c := by
    simp only [List.mem_cons, List.not_mem_nil, or_false] at hc
    rcases hc with rfl | rfl | rfl | rfl | rfl <;> first | exact Nat.le_refl _ | exact Nat.le_add_right _ _ | exact Nat.le_succ _ | exact Nat.le_succ_of_le (Nat.le_add_right _ _)
  exact I1.fpOk this (I1.hok.fresh this)
end
end L2


namespace L2
open PySem PySem.Spec PyProof.Rows
theorem for_zipM {K : PySem.W.Frag} {a b : Addr} {xs ys : List V} {g : TG} {tb : TS} {D : Ends} {σ : L2.St} {H : Hp} (Pv : Nat → L2.St → Hp → Prop) (h0 : Pv 0 σ H) (he : xs.length = ys.length) (hl : ∀ i σ H, i ≤ xs.length → Pv i σ H → SqT K H a xs ∧ SqL K H b ys)
    (hs : ∀ i x y t σ H, xs[i]? = some x → ys[i]? = some y → Pv i σ H → H t = none → g (.ref t) σ (upd H t (.tup [x, y])) fun σ2 H2 => tb { D with nx := Pv (i + 1), ct := Pv (i + 1), bk := D.nx } σ2 H2) (hd : ∀ σ H, Pv xs.length σ H → D.nx σ H) :
    ∃ W : Nat → Nat → L2.St → Hp → Prop, (∃ m, W 0 m σ H) ∧ ∀ i m σ H, W i m σ H →
      ((Itm K a b).stop i H ∧ D.nx σ H) ∨ ((Itm K a b).go i H ∧ ∃ N : L2.St → Hp → Prop, (∀ σ' H', N σ' H' → ∃ m', m' < m ∧ W (i + 1) m' σ' H') ∧ ∀ x H', (Itm K a b).yld i H x H' → g x σ H' fun σ2 H2 => tb { D with nx := N, ct := N, bk := D.nx } σ2 H2) := by
  refine ⟨fun i m σ H => m = xs.length - i ∧ i ≤ xs.length ∧ Pv i σ H, ⟨xs.length, by simp, Nat.zero_le _, h0⟩, ?_⟩
  rintro i m σ H ⟨rfl, hi, p⟩
  obtain ⟨q1, q2⟩ := hl i σ H hi p
  by_cases hlt : i < xs.length
  · refine .inr ⟨⟨xs, ys, xs[i], ys[i], q1, q2, by simp [hlt], by simp [← he, hlt]⟩, Pv (i + 1), fun σ' H' p' => ⟨xs.length - (i + 1), by omega, rfl, hlt, p'⟩, fun x H' y => ?_⟩
    obtain ⟨t, x', y', ht, rfl, rfl, y⟩ := y
    obtain ⟨e1, e2⟩ := y xs ys q1 q2
    exact hs i x' y' t σ _ e1 e2 p ht
  · have e : i = xs.length := by omega
    subst e
    exact .inl ⟨⟨xs, ys, q1, q2, .inl (by simp)⟩, hd σ H p⟩
end L2


namespace L2
open PySem PySem.Spec PyProof.Rows
theorem repl0 (m : Nat) : (List.replicate ((m : Int) + 1).toNat [V.int 0]).flatten = (rwL (m + 1) fun _ => 0).map V.int := by
  rw [show ((m : Int) + 1).toNat = m + 1 by omega]
  unfold rwL
  rw [List.map_map]
  generalize m + 1 = k
  induction k with
  | zero => rfl
  | succ k ih => rw [List.replicate_succ', List.flatten_append, ih, List.range_succ, List.map_append]; rfl
theorem ixN_nat {n r : Nat} (h : r < n) : ixN n (r : Int) = some r := by
  unfold ixN
  rw [if_pos (by omega), if_pos (by omega)]
  simp
theorem rwV_at {m : Nat} {f : Nat → Int} {r : Nat} (h : r < m) : ((rwL m f).map V.int)[r]? = some (.int (f r)) := by
  rw [List.getElem?_map, rwL_at h]; rfl
def pF (rows : List (List Int)) (m : Nat) (g : Nat → Nat → Int) (i k s r : Nat) : Int := (if atZr rows i 0 = (s : Int) then (if r = 0 then sT (g i) m else 0) else 0) + (if atZr rows i 1 = (s : Int) then (if 1 ≤ r ∧ r < k then sT (g i) m - sT (g i) r else 0) else 0) + (if atZr rows i 2 = (s : Int) then (if 1 ≤ r ∧ r < k then sT (g i) r else 0) else 0) + (if atZr rows i 3 = (s : Int) then (if r = m then sT (g i) m else 0) else 0)
end L2
namespace K50
open PySem PySem.Spec PyProof.Rows L2
abbrev s_one_behind : Stmt := top 4
section
variable {P : Program} {w : World} {K : PySem.W.Frag} {mg : Str → Option Value} {base : Heap}
theorem sc_one_behind : FnScope ["rows", "ranks", "size", "longer", "row", "ways", "lowest", "fallen", "risen", "highest", "orders", "lesser", "rank"] ["rows", "ranks", "size"] (defScope s_one_behind) := ⟨rfl, rfl, rfl, by decide +kernel, rfl, by decide +kernel, by decide +kernel⟩
set_option maxHeartbeats 8000000 in
theorem ok_one_behind {f : Addr} {fd : FuncData} (F : Fun K "one_behind" "one_behind" s_one_behind f fd) (T : Top mg) : FnOk P w K mg base CX0 1 f fd ["rows", "ranks", "size"] spOneB := by
  refine F.ok sc_one_behind (fun vs H Q E h => ?_) (fun cdv A outer s H vs Q E hr h => ?_)
  · obtain ⟨R, L, rs, zs, N, m, rows, g, rfl, _⟩ := h
    rfl
  · obtain ⟨R, L, rs, zs, N, m, rows, g, rfl, hR, hT, m1, m2, hN, k⟩ := h
    refine ⟨_, (pss_cons (ps_set (i := 3) sc_one_behind.nd rfl (Or.inr rfl) (pe_lc (N' := ["row", "size"]) (n := 1) (ix := [2]) rfl (CompScope.of (sc := defScope s_one_behind) (N := ["rows", "ranks", "size", "longer", "row", "ways", "lowest", "fallen", "risen", "highest", "orders", "lesser", "rank"]) (by decide +kernel) rfl rfl) (pi_tup (pv 0)) (fun _ _ _ _ _ => ⟨(pg_name (i := 0) (show (["row", "size"] : List Str).Nodup by decide +kernel) rfl (Or.inl rfl)), pts_nil, (pe_op op_rep (pe_lst (pa_cons pe_int pa_nil)) (pe_op op_add (pv 1) pe_int))⟩)))
      (pss_cons (ps_for PassesOwn.never rfl (pi_zipM rfl T.n_zip (pa_cons (pv 0) (pa_cons (pv 1) pa_nil))) (pg_pair (i := 4) (j := 5) rfl sc_one_behind.nd rfl rfl (Or.inl rfl) (Or.inl rfl) (Or.inl rfl) (Or.inl rfl))
        (pss_cons (ps_asg (pe_lc (N' := ["state", "longer"]) (n := 1) (ix := [3]) rfl (CompScope.of (sc := defScope s_one_behind) (N := ["rows", "ranks", "size", "longer", "row", "ways", "lowest", "fallen", "risen", "highest", "orders", "lesser", "rank"]) (by decide +kernel) rfl rfl) (pi_tup (pv 4)) (fun _ _ _ _ _ => ⟨(pg_name (i := 0) (show (["state", "longer"] : List Str).Nodup by decide +kernel) rfl (Or.inl rfl)), pts_nil, (pe_ix (ix_listK K rfl) (pv 1) (pv 0) (fun _ _ => rfl))⟩)) (pg_lst rfl (pgs_cons (pg_name (i := 6) sc_one_behind.nd rfl (Or.inl rfl) (Or.inl rfl)) (pgs_cons (pg_name (i := 7) sc_one_behind.nd rfl (Or.inl rfl) (Or.inl rfl)) (pgs_cons (pg_name (i := 8) sc_one_behind.nd rfl (Or.inl rfl) (Or.inl rfl)) (pgs_cons (pg_name (i := 9) sc_one_behind.nd rfl (Or.inl rfl) (Or.inl rfl)) pgs_nil))))))
        (pss_cons (ps_set (i := 10) sc_one_behind.nd rfl (Or.inl rfl) (pe_callB (call_sumL rfl) (by rfl) T.n_sum boot_sum (pa_cons (pv 5) pa_nil)))
        (pss_cons (ps_augS (pv 6) pe_int get_listU (pv 10) ip_add set_list)
        (pss_cons (ps_augS (pv 9) (pv 2) get_listU (pv 10) ip_add set_list)
        (pss_cons (ps_set (i := 11) sc_one_behind.nd rfl (Or.inl rfl) pe_int)
        (pss_one (ps_for PassesOwn.never rfl (pi_range2 rfl T.n_range (pa_cons pe_int (pa_cons (pv 2) pa_nil))) (pg_name (i := 12) sc_one_behind.nd rfl (Or.inl rfl))
          (pss_cons (ps_aug (i := 11) sc_one_behind.nd rfl (Or.inl rfl) (pe_ix ix_list (pv 5) (pe_op op_sub (pv 12) pe_int) (fun _ _ => rfl)) ip_add)
          (pss_cons (ps_augS (pv 8) (pv 12) get_listU (pv 11) ip_add set_list)
          (pss_one (ps_augS (pv 7) (pv 12) get_listU (pe_op op_sub (pv 10) (pv 11)) ip_add set_list))))))))))))
      (pss_one (ps_ret (pv 3))))), ?_⟩
    have hrl : rs.length = N := by rw [Paired.length hR.at_, hR.len]
    refine ⟨_, rfl, R, rfl, ⟨_, SqT.of hR.top⟩, ?_⟩
    refine lc_listsU (yields_tup (xs := rs.map V.ref)) (small1 (by rw [List.length_map]; omega)) (fun _ => (rwL (m + 1) fun _ => 0).map V.int) (fun G s' => SqT.of (s' _ _ hR.top)) (fun i x G hx s' QT q => ?_) fun Lg zg G0 hLg sG hLG hzl hznd hzat => ?_
    · refine ⟨by show 1 ≤ sizeLine; decide, fun l0 hl0 => ⟨_, rfl, _, _, rfl, rfl, ?_⟩⟩
      refine ⟨l0, _, _, rfl, rfl, upd_same, by omega, by omega, ?_, fun z hz => ?_⟩
      · rw [show ((m : Int) + 1).toNat = m + 1 by omega]
        exact Nat.le_trans (by show 1 * (m + 1) ≤ 200; omega) (by decide)
      · refine q z _ ((same_upd hl0).free hz) ?_ ((same_upd hl0).trans (same_upd hz))
        rw [upd_same]
        exact congrArg (fun x => some (HO.lst x)) (repl0 m)
    rw [List.length_map, hrl] at hzl
    have hzH : ∀ (i : Nat) (z : Addr), zg[i]? = some z → H z = none := fun i z hz => (hzat i z hz).2.1
    have T0 : TabAt G0 Lg zg N (m + 1) fun _ _ => 0 := ⟨hLG, hzl, hznd, fun hm => by
      obtain ⟨j, hj⟩ := List.getElem?_of_mem hm
      exact (hzat j Lg hj).2.2 rfl, fun i z hz => (hzat i z hz).1⟩
    refine ⟨_, rfl, _, rfl, R, L, rfl, ⟨_, SqT.of (sG _ _ hR.top)⟩, ⟨_, SqL.of (sG _ _ hT.top)⟩, ?_⟩
    refine for_zipM (K := K) (xs := rs.map V.ref) (ys := zs.map V.ref) (fun i σ G => ∃ c4 c5 c6 c7 c8 c9 c10 c11 c12 : Option V, σ = [some (.ref R), some (.ref L), some (.int m), some (.ref Lg), c4, c5, c6, c7, c8, c9, c10, c11, c12] ∧ Same H G ∧ TabAt G Lg zg N (m + 1) fun s r => sT (fun i => cF rows m g i s r) i) ?_ (by rw [List.length_map, List.length_map, hrl, hT.len]) ?_ ?_ ?_
    · exact ⟨none, none, none, none, none, none, none, none, none, rfl, sG, T0⟩
    · rintro i σ G hi ⟨c4, c5, c6, c7, c8, c9, c10, c11, c12, rfl, sm, tb⟩
      exact ⟨SqT.of (sm _ _ hR.top), SqL.of (sm _ _ hT.top)⟩
    · rintro i x y t σ G hx hy ⟨c4, c5, c6, c7, c8, c9, c10, c11, c12, rfl, sm, tb⟩ ht
      have hi : i < N := by
        have := (List.getElem?_eq_some_iff.mp hx).1
        rw [List.length_map] at this
        omega
      have S1 := sm.trans (same_upd (o := .tup [x, y]) ht)
      have tb1 := tb.same (same_upd (o := .tup [x, y]) ht)
      have ht1 := @upd_same G t (.tup [x, y])
      generalize upd G t (.tup [x, y]) = G1 at S1 tb1 ht1 ⊢
      obtain ⟨rz, hrz, hrow, hat⟩ := hR.row hi
      obtain ⟨wz, hwz, hway⟩ := hT.addr hi
      rw [List.getElem?_map, hrz] at hx
      rw [List.getElem?_map, hwz] at hy
      cases hx
      cases hy
      refine ⟨t, _, rfl, SqT.of ht1, rfl, _, _, rfl, _, _, rfl, rfl, ?_⟩
      -- the four lists
      obtain ⟨a0, b0, d0⟩ := hat 0 (by decide) (by decide)
      obtain ⟨a1, b1, d1⟩ := hat 1 (by decide) (by decide)
      obtain ⟨a2, b2, d2⟩ := hat 2 (by decide) (by decide)
      obtain ⟨a3, b3, d3⟩ := hat 3 (by decide) (by decide)
      have e4 : rows.getD i [] = [atZr rows i 0, atZr rows i 1, atZr rows i 2, atZr rows i 3] := by
        have hl4 : (rows.getD i []).length = 4 := by
          have e : rows.getD i [] = rows[i]'(by rw [hR.len]; exact hi) := by rw [List.getD_eq_getElem?_getD, List.getElem?_eq_getElem (by rw [hR.len]; exact hi)]; rfl
          rw [e]
          exact (hR.rng _ (List.getElem_mem _)).1
        generalize rows.getD i [] = l at hl4 a0 a1 a2 a3
        match l, hl4 with
        | [p, q, u, v], _ =>
          have f0 : p = atZr rows i 0 := by simpa using a0
          have f1 : q = atZr rows i 1 := by simpa using a1
          have f2 : u = atZr rows i 2 := by simpa using a2
          have f3 : v = atZr rows i 3 := by simpa using a3
          rw [f0, f1, f2, f3]
      rw [e4] at hrow
      obtain ⟨n0, h0⟩ : ∃ n : Nat, atZr rows i 0 = (n : Int) := ⟨_, (Int.toNat_of_nonneg b0).symm⟩
      obtain ⟨n1, h1⟩ : ∃ n : Nat, atZr rows i 1 = (n : Int) := ⟨_, (Int.toNat_of_nonneg b1).symm⟩
      obtain ⟨n2, h2⟩ : ∃ n : Nat, atZr rows i 2 = (n : Int) := ⟨_, (Int.toNat_of_nonneg b2).symm⟩
      obtain ⟨n3, h3⟩ : ∃ n : Nat, atZr rows i 3 = (n : Int) := ⟨_, (Int.toNat_of_nonneg b3).symm⟩
      rw [h0, h1, h2, h3] at hrow
      have q0 : n0 < N := by omega
      have q1 : n1 < N := by omega
      have q2 : n2 < N := by omega
      have q3 : n3 < N := by omega
      obtain ⟨z0, hz0, -⟩ := tb1.addr q0
      obtain ⟨z1, hz1, -⟩ := tb1.addr q1
      obtain ⟨z2, hz2, -⟩ := tb1.addr q2
      obtain ⟨z3, hz3, -⟩ := tb1.addr q3
      refine ⟨_, rfl, rz, rfl, ⟨_, SqT.of (S1 _ _ hrow)⟩, ?_⟩
      refine lc_pure (yields_tup (xs := ([(n0 : Int), n1, n2, n3]).map V.int)) (small1 (by show 4 ≤ 1000; decide)) (fun _ => true) (fun v => match v with | .int k => .ref (zg.getD k.toNat 0) | _ => .non) (fun G' s' => SqT.of (s' _ _ (S1 _ _ hrow))) (fun x hx G' s' Q' q => q) (fun x hx _ G' s' Q' q => ?_) fun acc hacc => ?_
      · have hx' : x = .int n0 ∨ x = .int n1 ∨ x = .int n2 ∨ x = .int n3 := by simpa using hx
        have hget : ∀ n : Nat, n < N → (zg.map V.ref)[n]? = some (.ref (zg.getD n 0)) := fun n hn => by
          rw [List.getElem?_map, List.getD_eq_getElem?_getD, List.getElem?_eq_getElem (by omega)]; rfl
        rcases hx' with rfl | rfl | rfl | rfl
        · exact ⟨_, rfl, _, rfl, Lg, _, _, _, rfl, rfl, SqL.of (s' _ _ tb1.top), atI_nat (hget n0 q0), q⟩
        · exact ⟨_, rfl, _, rfl, Lg, _, _, _, rfl, rfl, SqL.of (s' _ _ tb1.top), atI_nat (hget n1 q1), q⟩
        · exact ⟨_, rfl, _, rfl, Lg, _, _, _, rfl, rfl, SqL.of (s' _ _ tb1.top), atI_nat (hget n2 q2), q⟩
        · exact ⟨_, rfl, _, rfl, Lg, _, _, _, rfl, rfl, SqL.of (s' _ _ tb1.top), atI_nat (hget n3 q3), q⟩
      have g4 : ((([(n0 : Int), n1, n2, n3]).map V.int).filter fun _ => true).map (fun v => match v with | .int k => V.ref (zg.getD k.toNat 0) | _ => .non) = [.ref z0, .ref z1, .ref z2, .ref z3] := by
        have gd : ∀ {n : Nat} {z : Addr}, zg[n]? = some z → zg.getD n 0 = z := fun h => by rw [List.getD_eq_getElem?_getD, h]; rfl
        rw [List.filter_eq_self.mpr fun _ _ => rfl]
        show [V.ref (zg.getD (n0 : Int).toNat 0), V.ref (zg.getD (n1 : Int).toNat 0), V.ref (zg.getD (n2 : Int).toNat 0), V.ref (zg.getD (n3 : Int).toNat 0)] = _
        rw [Int.toNat_natCast, Int.toNat_natCast, Int.toNat_natCast, Int.toNat_natCast, gd hz0, gd hz1, gd hz2, gd hz3]
      rw [g4]
      have S2 := S1.trans (same_upd (o := .lst [.ref z0, .ref z1, .ref z2, .ref z3]) hacc)
      have tb2 := tb1.same (same_upd (o := .lst [.ref z0, .ref z1, .ref z2, .ref z3]) hacc)
      have hac := @upd_same G1 acc (.lst [.ref z0, .ref z1, .ref z2, .ref z3])
      generalize upd G1 acc (.lst [.ref z0, .ref z1, .ref z2, .ref z3]) = G2 at S2 tb2 hac ⊢
      clear tb1 S1 hacc ht1 ht tb sm G1 G
      refine ⟨acc, _, rfl, SqL.of hac, rfl, _, _, rfl, _, _, rfl, _, _, rfl, _, _, rfl, rfl, ?_⟩
      -- all of them
      have hway2 := S2 _ _ hway
      refine ⟨_, rfl, wz, _, rfl, hway2, ?_⟩
      rw [rwL_sum]
      -- the lowest
      refine ⟨_, rfl, z0, _, 0, _, rfl, rfl, tb2.at_ _ _ hz0, rwV_at (by omega), _, rfl, _, _, rfl, rfl, z0, _, _, 0, rfl, rfl, tb2.at_ _ _ hz0, ixN_nat (r := 0) (by rw [List.length_map, rwL_len]; omega), ?_⟩
      have tb3 := tb2.put hz0 (r := 0) (by omega) (sT (g i) m)
      have S3 : Same H _ := same_updR S2 (hzH _ _ hz0) (o := .lst (((rwL (m + 1) fun r => sT (fun i => cF rows m g i n0 r) i).map V.int).set 0 (.int (sT (fun i => cF rows m g i n0 0) i + sT (g i) m))))
      generalize upd G2 z0 (.lst (((rwL (m + 1) fun r => sT (fun i => cF rows m g i n0 r) i).map V.int).set 0 (.int (sT (fun i => cF rows m g i n0 0) i + sT (g i) m)))) = G3 at tb3 S3 ⊢
      clear tb2 S2 hway2 hac G2
      -- the highest
      refine ⟨_, rfl, _, rfl, z3, _, m, _, rfl, rfl, tb3.at_ _ _ hz3, rwV_at (by omega), _, rfl, _, _, rfl, rfl, z3, _, _, m, rfl, rfl, tb3.at_ _ _ hz3, ixN_nat (by rw [List.length_map, rwL_len]; omega), ?_⟩
      have tb4 := (tb3.put hz3 (r := m) (by omega) (sT (g i) m)).congr (g' := fun s r => sT (fun i => cF rows m g i s r) i + pF rows m g i 1 s r) fun s r hs hr => by
        unfold addF pF
        rw [h0, h1, h2, h3]
        rw [show (if 1 ≤ r ∧ r < 1 then sT (g i) m - sT (g i) r else 0) = 0 from if_neg (by omega), show (if 1 ≤ r ∧ r < 1 then sT (g i) r else 0) = 0 from if_neg (by omega)]
        simp only [ite_self]
        by_cases c0 : n0 = s
        · subst c0
          by_cases c3 : n3 = n0
          · subst c3
            by_cases r0 : r = 0
            · subst r0
              simp [show ¬(0 = m) by omega]
            · by_cases rm : r = m
              · subst rm
                simp [r0]
              · simp [r0, rm]
          · by_cases r0 : r = 0
            · subst r0
              simp [c3, show ¬((n3 : Int) = n0) by omega, Ne.symm c3, show ¬(0 = m) by omega]
            · simp [r0, c3, show ¬((n3 : Int) = n0) by omega, show ¬(n0 = n3) from fun e => c3 e.symm]
        · by_cases c3 : n3 = s
          · subst c3
            by_cases rm : r = m
            · subst rm
              simp [c0, show ¬((n0 : Int) = n3) by omega, show ¬(n3 = n0) from fun e => c0 e.symm]
            · simp [rm, c0, show ¬((n0 : Int) = n3) by omega, show ¬(n3 = n0) from fun e => c0 e.symm]
          · simp [show ¬((n0 : Int) = s) by omega, show ¬((n3 : Int) = s) by omega, show ¬(s = n0) from fun e => c0 e.symm, show ¬(s = n3) from fun e => c3 e.symm]
      have S4 : Same H _ := same_updR S3 (hzH _ _ hz3) (o := .lst (((rwL (m + 1) (addF (fun s r => sT (fun i => cF rows m g i s r) i) n0 0 (sT (g i) m) n3)).map V.int).set m (.int (addF (fun s r => sT (fun i => cF rows m g i s r) i) n0 0 (sT (g i) m) n3 m + sT (g i) m))))
      generalize upd G3 z3 (.lst (((rwL (m + 1) (addF (fun s r => sT (fun i => cF rows m g i s r) i) n0 0 (sT (g i) m) n3)).map V.int).set m (.int (addF (fun s r => sT (fun i => cF rows m g i s r) i) n0 0 (sT (g i) m) n3 m + sT (g i) m)))) = G4 at tb4 S4 ⊢
      clear tb3 S3 G3
      -- those between
      refine ⟨_, rfl, _, _, rfl, ⟨by decide, by decide, by omega, by omega⟩, ?_⟩
      refine for_range (n := ((m : Int) - 1).toNat) (fun j σ G => ∃ c12 : Option V, σ = [some (.ref R), some (.ref L), some (.int m), some (.ref Lg), some (.ref rz), some (.ref wz), some (.ref z0), some (.ref z1), some (.ref z2), some (.ref z3), some (.int (sT (g i) m)), some (.int (sT (g i) j)), c12] ∧ Same H G ∧ TabAt G Lg zg N (m + 1) fun s r => sT (fun i => cF rows m g i s r) i + pF rows m g i (j + 1) s r) ?_ ?_ ?_
      · exact ⟨c12, rfl, S4, tb4⟩
      · rintro j σ G hj ⟨c12, rfl, sm, tb⟩
        have hjm : j + 1 < m := by omega
        have hway3 := sm _ _ hway
        rw [show (1 : Int) + (j : Int) = ((j + 1 : Nat) : Int) by omega]
        refine ⟨_, rfl, _, rfl, _, rfl, _, _, rfl, rfl, wz, _, ((j : Nat) : Int), _, rfl, (congrArg V.int (show ((j + 1 : Nat) : Int) - 1 = (j : Int) by omega)), SqL.of hway3, atI_nat (rwV_at (by omega)), _, _, rfl, rfl, ?_⟩
        refine ⟨_, rfl, _, rfl, z2, _, j + 1, _, rfl, rfl, tb.at_ _ _ hz2, rwV_at (by omega), _, rfl, _, _, rfl, rfl, z2, _, _, j + 1, rfl, rfl, tb.at_ _ _ hz2, ixN_nat (by rw [List.length_map, rwL_len]; omega), ?_⟩
        have tb5 := tb.put hz2 (r := j + 1) (by omega) (sT (g i) j + g i j)
        have S5 : Same H _ := same_updR sm (hzH _ _ hz2) (o := .lst (((rwL (m + 1) fun r => sT (fun i => cF rows m g i n2 r) i + pF rows m g i (j + 1) n2 r).map V.int).set (j + 1) (.int (sT (fun i => cF rows m g i n2 (j + 1)) i + pF rows m g i (j + 1) n2 (j + 1) + (sT (g i) j + g i j)))))
        generalize upd G z2 (.lst (((rwL (m + 1) fun r => sT (fun i => cF rows m g i n2 r) i + pF rows m g i (j + 1) n2 r).map V.int).set (j + 1) (.int (sT (fun i => cF rows m g i n2 (j + 1)) i + pF rows m g i (j + 1) n2 (j + 1) + (sT (g i) j + g i j))))) = G5 at tb5 S5 ⊢
        refine ⟨_, rfl, _, rfl, z1, _, j + 1, _, rfl, rfl, tb5.at_ _ _ hz1, rwV_at (by omega), _, rfl, _, rfl, _, _, rfl, rfl, _, _, rfl, rfl, z1, _, _, j + 1, rfl, rfl, tb5.at_ _ _ hz1, ixN_nat (by rw [List.length_map, rwL_len]; omega), ?_⟩
        refine ⟨_, rfl, same_updR S5 (hzH _ _ hz1), (tb5.put hz1 (r := j + 1) (by omega) (sT (g i) m - (sT (g i) j + g i j))).congr fun s r hs hr => ?_⟩
        have ej : sT (g i) (j + 1) = sT (g i) j + g i j := rfl
        unfold addF pF
        rw [h1, h2]
        by_cases hrj : r = j + 1
        · subst hrj
          rw [ej]
          simp only [show (1 ≤ j + 1 ∧ j + 1 < j + 1) ↔ False from ⟨fun h => by omega, False.elim⟩, show (1 ≤ j + 1 ∧ j + 1 < j + 1 + 1) ↔ True from ⟨fun _ => trivial, fun _ => by omega⟩, and_true, if_false, if_true, ite_self]
          by_cases c1 : s = n1
          · by_cases c2 : s = n2
            · rw [if_pos c1, if_pos c2, if_pos (by omega : (n1 : Int) = s), if_pos (by omega : (n2 : Int) = s)]; omega
            · rw [if_pos c1, if_neg c2, if_pos (by omega : (n1 : Int) = s), if_neg (by omega : ¬(n2 : Int) = s)]; omega
          · by_cases c2 : s = n2
            · rw [if_neg c1, if_pos c2, if_neg (by omega : ¬(n1 : Int) = s), if_pos (by omega : (n2 : Int) = s)]; omega
            · rw [if_neg c1, if_neg c2, if_neg (by omega : ¬(n1 : Int) = s), if_neg (by omega : ¬(n2 : Int) = s)]
        · have e1 : (1 ≤ r ∧ r < j + 1) ↔ (1 ≤ r ∧ r < j + 1 + 1) := by omega
          simp only [hrj, and_false, if_false, e1]
      · rintro σ G ⟨c12', rfl, sm, tb⟩
        refine ⟨_, _, _, _, _, _, _, _, _, rfl, sm, tb.congr fun s r hs hr => ?_⟩
        rw [show ((m : Int) - 1).toNat + 1 = m by omega]
        show _ = sT (fun i => cF rows m g i s r) i + cF rows m g i s r
        rw [cF_open rows m g i s r]
        rfl
    · rintro σ G ⟨c4, c5, c6, c7, c8, c9, c10, c11, c12, rfl, sm, tb⟩
      rw [List.length_map, hrl] at tb
      exact ⟨_, rfl, k Lg zg G sm tb⟩
end
end K50


namespace L2
open PySem PySem.Spec PyProof.Rows
theorem cutTail_ne {n : Nat} {hi : Option Int} {m : Nat} (h : 0 < n) : ¬(HT.sIx n 0 (some (1 : Int)) = 0 ∧ HT.sIx n n hi = m) := fun z => by
  have := z.1
  rw [show (1 : Int) = ((1 : Nat) : Int) from rfl, HT.sIx_nat] at this
  omega
theorem cutTail (xs : List V) : cutV xs (some (1 : Int)) none = xs.drop 1 := by
  unfold cutV
  rw [show (1 : Int) = ((1 : Nat) : Int) from rfl, HT.sIx_nat, HT.sIx_none]
  by_cases h : 1 ≤ xs.length
  · rw [Nat.min_eq_left h, List.take_of_length_le (by simp)]
  · rw [Nat.min_eq_right (by omega), List.drop_of_length_le (Nat.le_refl _), List.drop_of_length_le (by omega), List.take_nil]
theorem sL_sum {α : Type} (F : α → Int) : ∀ l : List α, (l.map F).sum = sL F l
  | [] => rfl
  | a :: t => by rw [List.map_cons, List.sum_cons, sL_sum F t]; rfl
def tellV (F : Nat → Int) : V → V
  | .int k => .int (F k.toNat)
  | _ => .non
theorem tell_ints (F : Nat → Int) (ends : List Int) : (((ends.map V.int).filter fun _ => true).map (tellV F)) = (ends.map fun s => F s.toNat).map V.int := by
  rw [List.filter_eq_self.mpr fun _ _ => rfl, List.map_map, List.map_map]
  rfl
theorem dp0_row (rows : List (List Int)) (N : Nat) : rwL 1 (dpZ rows N 0 0) = [1] := rfl
theorem dp0_rows (rows : List (List Int)) (N s : Nat) : rwL 1 (dpZ rows N 0 (s + 1)) = [0] := rfl
end L2
namespace K50
open PySem PySem.Spec PyProof.Rows L2
abbrev s_met : Stmt := top 3
section
variable {P : Program} {w : World} {K : PySem.W.Frag} {mg : Str → Option Value} {base : Heap}
theorem sc_met : FnScope ["machine", "many", "rows", "ends", "ranks", "size"] ["machine", "many"] (defScope s_met) := ⟨rfl, rfl, rfl, by decide +kernel, rfl, by decide +kernel, by decide +kernel⟩
set_option maxHeartbeats 8000000 in
theorem ok_met {f : Addr} {fd : FuncData} (F : Fun K "met" "met" s_met f fd) (T : Top mg) (Cone_behind : Cal P w K mg base 1 "one_behind" ["rows", "ranks", "size"] spOneB) : FnOk P w K mg base CX0 2 f fd ["machine", "many"] spMetC := by
  refine F.ok sc_met (fun vs H Q E h => ?_) (fun cdv A outer s H vs Q E hr h => ?_)
  · obtain ⟨z, N, n, rows, ends, rfl, _⟩ := h
    rfl
  · obtain ⟨z, N, n, rows, ends, rfl, hM, hN, hn, hE, hel, k⟩ := h
    refine ⟨_, (pss_cons (ps_asg (pv 0) (pg_pair (i := 2) (j := 3) rfl sc_met.nd rfl rfl (Or.inl rfl) (Or.inl rfl) (Or.inl rfl) (Or.inl rfl)))
      (pss_cons (ps_set (i := 4) sc_met.nd rfl (Or.inr rfl) (pe_op op_cat (pe_lst (pa_cons (pe_lst (pa_cons pe_int pa_nil)) pa_nil)) (pe_lc (N' := ["row"]) (n := 1) (ix := []) rfl (CompScope.of (sc := defScope s_met) (N := ["machine", "many", "rows", "ends", "ranks", "size"]) (by decide +kernel) rfl rfl) (pi_tup (pe_slice sl_tup (pv 2) (po_some pe_int) po_none)) (fun _ _ _ _ _ => ⟨(pg_name (i := 0) (show (["row"] : List Str).Nodup by decide +kernel) rfl (Or.inl rfl)), pts_nil, (pe_lst (pa_cons pe_int pa_nil))⟩))))
      (pss_cons (ps_for PassesOwn.never rfl (pi_range2 rfl T.n_range (pa_cons pe_int (pa_cons (pv 1) pa_nil))) (pg_name (i := 5) sc_met.nd rfl (Or.inl rfl))
        (pss_one (ps_set (i := 4) sc_met.nd rfl (Or.inr rfl) (pe_cal Cone_behind (hr.mono (by decide)) rfl (pa_cons (pv 2) (pa_cons (pv 4) (pa_cons (pv 5) pa_nil)))))))
      (pss_one (ps_ret (pe_callB (call_sumL rfl) (by rfl) T.n_sum boot_sum (pa_cons (pe_lc (N' := ["state", "ranks"]) (n := 1) (ix := [4]) rfl (CompScope.of (sc := defScope s_met) (N := ["machine", "many", "rows", "ends", "ranks", "size"]) (by decide +kernel) rfl rfl) (pi_tup (pv 3)) (fun _ _ _ _ _ => ⟨(pg_name (i := 0) (show (["state", "ranks"] : List Str).Nodup by decide +kernel) rfl (Or.inl rfl)), pts_nil, (pe_callB (call_sumL rfl) (by rfl) T.n_sum boot_sum (pa_cons (pe_ix (ix_listK K rfl) (pv 1) (pv 0) (fun _ _ => rfl)) pa_nil))⟩)) pa_nil))))))), ?_⟩
    obtain ⟨R, Ea, rs, hz, hEa, hR⟩ := hM.rwsAt
    have hrl : rs.length = N := by rw [Paired.length hR.at_, hR.len]
    have hN0 := hR.pos
    refine ⟨_, rfl, z, _, rfl, SqT.of hz, rfl, _, _, rfl, _, _, rfl, rfl, ?_⟩
    refine ⟨by show 1 ≤ sizeLine; decide, fun l1 hl1 => ⟨by show 1 ≤ sizeLine; decide, fun l2 hl2 => ?_⟩⟩
    have s1 := same_upd (o := .lst [.int 1]) hl1
    have s2 := same_upd (o := .lst [.ref l1]) hl2
    refine ⟨_, rfl, _, rfl, R, _, rfl, SqT.of ((s1.trans s2) _ _ hR.top), cutTail_ne (by rw [List.length_map, hrl]; exact hN0), fun c hc => ?_⟩
    rw [cutTail]
    have s3 := same_upd (o := .tup ((rs.map V.ref).drop 1)) hc
    have hl1' : (upd (upd (upd H l1 (.lst [.int 1])) l2 (.lst [.ref l1])) c (.tup ((rs.map V.ref).drop 1))) l1 = some (.lst [.int 1]) := s3 _ _ (s2 _ _ upd_same)
    have hl2' : (upd (upd (upd H l1 (.lst [.int 1])) l2 (.lst [.ref l1])) c (.tup ((rs.map V.ref).drop 1))) l2 = some (.lst [.ref l1]) := s3 _ _ upd_same
    have hc' := @upd_same (upd (upd H l1 (.lst [.int 1])) l2 (.lst [.ref l1])) c (.tup ((rs.map V.ref).drop 1))
    have S3 := (s1.trans s2).trans s3
    generalize (upd (upd (upd H l1 (.lst [.int 1])) l2 (.lst [.ref l1])) c (.tup ((rs.map V.ref).drop 1))) = G at hl1' hl2' hc' S3 ⊢
    refine ⟨c, rfl, ⟨_, SqT.of hc'⟩, ?_⟩
    have hdl : ((rs.map V.ref).drop 1).length = N - 1 := by rw [List.length_drop, List.length_map, hrl]
    refine lc_listsU (yields_tup (xs := (rs.map V.ref).drop 1)) (small1 (by rw [hdl]; omega)) (fun _ => [.int 0]) (fun G' s' => SqT.of (s' _ _ hc')) (fun i x G' hx s' QT q => ?_) fun La za G0 hLa sG hLG hzl hznd hzat => ?_
    · exact ⟨by show 1 ≤ sizeLine; decide, fun l0 hl0 => q l0 _ hl0 upd_same (same_upd hl0)⟩
    rw [hdl] at hzl
    refine ⟨l2, La, _, _, rfl, rfl, sG _ _ hl2', hLG, ?_, fun L hL => ?_⟩
    · rw [List.length_map]
      exact Nat.le_trans (by show 1 + za.length ≤ 200; omega) (by decide)
    have sL' := same_upd (o := .lst ([.ref l1] ++ za.map V.ref)) hL
    have hl1L := (sG.trans sL') _ _ hl1'
    have T0 : TabAt (upd G0 L (.lst ([.ref l1] ++ za.map V.ref))) L (l1 :: za) N 1 (dpZ rows N 0) := by
      have nL : ∀ z ∈ l1 :: za, z ≠ L := fun z hz e => by
        rcases List.mem_cons.mp hz with rfl | hz
        · rw [e] at hl1'
          rw [sG _ _ hl1'] at hL
          cases hL
        · obtain ⟨j, hj⟩ := List.getElem?_of_mem hz
          rw [e] at hj
          rw [(hzat j L hj).1] at hL
          cases hL
      refine ⟨by rw [upd_same]; rfl, by rw [List.length_cons, hzl]; omega, List.nodup_cons.mpr ⟨fun hm => ?_, hznd⟩, fun hm => nL L hm rfl, fun i y hy => ?_⟩
      · obtain ⟨j, hj⟩ := List.getElem?_of_mem hm
        have := (hzat j l1 hj).2.1
        rw [hl1'] at this
        cases this
      · rw [upd_ne (nL y (List.mem_of_getElem? hy))]
        cases i with
        | zero =>
          cases hy
          rw [dp0_row]
          exact sG _ _ hl1'
        | succ i =>
          rw [dp0_rows]
          exact (hzat i y (by simpa using hy)).1
    have SL := (S3.trans sG).trans sL'
    generalize upd G0 L (.lst ([.ref l1] ++ za.map V.ref)) = GL at T0 SL ⊢
    clear hl1L sL' hL hLG hLa hzat sG hl1' hl2' hc' S3 s1 s2 s3
    refine ⟨_, rfl, _, _, rfl, ⟨by decide, by decide, by omega, by omega⟩, ?_⟩
    refine for_range (n := ((n : Int) - 1).toNat) (fun j σ G => ∃ (L : Addr) (zs : List Addr) (c5 : Option V), σ = [some (.ref z), some (.int n), some (.ref R), some (.ref Ea), some (.ref L), c5] ∧ Same H G ∧ TabAt G L zs N (j + 1) (dpZ rows N j)) ⟨L, _, _, rfl, SL, T0⟩ ?_ ?_
    · rintro j σ G' hj ⟨L, zs, c5, rfl, sm, tb⟩
      rw [show (1 : Int) + (j : Int) = ((j + 1 : Nat) : Int) by omega]
      refine ⟨_, rfl, _, rfl, _, rfl, R, L, rs, zs, N, j + 1, rows, _, rfl, hR.same sm, tb, by omega, by omega, hN, fun L' zs' H' s' tb' => ?_⟩
      exact ⟨L', zs', _, rfl, sm.trans s', tb'⟩
    · rintro σ G' ⟨L, zs, c5, rfl, sm, tb⟩
      rw [show ((n : Int) - 1).toNat = n - 1 by omega] at tb
      refine ⟨_, rfl, Ea, rfl, ⟨_, SqT.of (sm _ _ hEa)⟩, ?_⟩
      refine lc_pure (yields_tup (xs := ends.map V.int)) (small1 (by rw [List.length_map]; omega)) (fun _ => true) (tellV fun s => sT (dpZ rows N (n - 1) s) (n - 1 + 1)) (fun G2 s' => SqT.of (s' _ _ (sm _ _ hEa))) (fun x hx G2 s' Q' q => q) (fun x hx _ G2 s' Q' q => ?_) fun acc hacc => ?_
      · obtain ⟨d, hd, rfl⟩ := List.mem_map.mp hx
        obtain ⟨d0, d1⟩ := hE d hd
        obtain ⟨y, hy, hyy⟩ := tb.addr (s := d.toNat) (by omega)
        refine ⟨_, rfl, _, rfl, L, _, d, .ref y, rfl, rfl, SqL.of (s' _ _ tb.top), ?_, y, _, rfl, s' _ _ hyy, ?_⟩
        · have := atI_nat (xs := zs.map V.ref) (j := d.toNat) (v := .ref y) (by rw [List.getElem?_map, hy]; rfl)
          rwa [Int.toNat_of_nonneg d0] at this
        · rw [rwL_sum]
          exact q
      · rw [tell_ints]
        refine ⟨acc, _, rfl, upd_same, ?_⟩
        rw [sL_sum]
        exact k _ (sm.trans (same_upd hacc))
end
end K50


namespace K50
open PySem PySem.Spec PyProof.Rows L2
abbrev s__law_counted : Stmt := top 13
section
variable {P : Program} {w : World} {K : PySem.W.Frag} {mg : Str → Option Value} {base : Heap}
theorem sc__law_counted : FnScope ["_law_machine_here", "_law_many", "_law_rows", "_law_ends", "_law_found", "_law_things", "_law_later", "_law_state", "_law_lots", "_law_ahead", "_law_every", "_law_standing"] ["_law_machine_here", "_law_many"] (defScope s__law_counted) := ⟨rfl, rfl, rfl, by decide +kernel, rfl, by decide +kernel, by decide +kernel⟩
set_option maxHeartbeats 8000000 in
theorem ok__law_counted {f : Addr} {fd : FuncData} (F : Fun K "_law_counted" "_law_counted" s__law_counted f fd) (T : Top mg) : FnOk P w K mg base CX0 1 f fd ["_law_machine_here", "_law_many"] spMetC := by
  refine F.ok sc__law_counted (fun vs H Q E h => ?_) (fun cdv A outer s H vs Q E hr h => ?_)
  · obtain ⟨z, N, n, rows, ends, rfl, _⟩ := h
    rfl
  · obtain ⟨z, N, n, rows, ends, rfl, hM, hN, hn, hE, hel, k⟩ := h
    refine ⟨_, (pss_cons (ps_asg (pv 0) (pg_pair (i := 2) (j := 3) rfl sc__law_counted.nd rfl rfl (Or.inl rfl) (Or.inl rfl) (Or.inl rfl) (Or.inl rfl)))
      (pss_cons (ps_set (i := 4) sc__law_counted.nd rfl (Or.inr rfl) (pe_lc (N' := ["_law_row"]) (n := 1) (ix := []) rfl (CompScope.of (sc := defScope s__law_counted) (N := ["_law_machine_here", "_law_many", "_law_rows", "_law_ends", "_law_found", "_law_things", "_law_later", "_law_state", "_law_lots", "_law_ahead", "_law_every", "_law_standing"]) (by decide +kernel) rfl rfl) (pi_tup (pv 2)) (fun _ _ _ _ _ => ⟨(pg_name (i := 0) (show (["_law_row"] : List Str).Nodup by decide +kernel) rfl (Or.inl rfl)), pts_nil, (pe_lst (pa_cons pe_int pa_nil))⟩)))
      (pss_cons (ps_asg pe_int (pg_sub (pe_ix ix_list (pv 4) pe_int (fun _ _ => rfl)) pe_int set_list))
      (pss_cons (ps_for PassesOwn.never rfl (pi_range2 rfl T.n_range (pa_cons pe_int (pa_cons (pv 1) pa_nil))) (pg_name (i := 5) sc__law_counted.nd rfl (Or.inr rfl))
        (pss_cons (ps_lcset (i := 6) rfl sc__law_counted.nd rfl rfl (N' := ["_law_row", "_law_things"]) (n := 1) (ix := [5]) rfl (CompScope.of (sc := defScope s__law_counted) (N := ["_law_machine_here", "_law_many", "_law_rows", "_law_ends", "_law_found", "_law_things", "_law_later", "_law_state", "_law_lots", "_law_ahead", "_law_every", "_law_standing"]) (by decide +kernel) rfl rfl) (pi_tup (pv 2)) (fun _ _ _ _ _ => ⟨(pg_name (i := 0) (show (["_law_row", "_law_things"] : List Str).Nodup by decide +kernel) rfl (Or.inl rfl)), pts_nil, (pe_op op_rep (pe_lst (pa_cons pe_int pa_nil)) (pe_op op_add (pv 1) pe_int))⟩))
        (pss_cons (ps_for PassesOwn.never rfl (pi_enumL rfl T.n_enumerate (pa_cons (pv 4) pa_nil)) (pg_pair (i := 7) (j := 8) rfl sc__law_counted.nd rfl rfl (Or.inl rfl) (Or.inl rfl) (Or.inl rfl) (Or.inl rfl))
          (pss_cons (ps_par (i := 9) (j := 10) rfl sc__law_counted.nd rfl rfl (by decide) rfl rfl (pa_cons pe_int (pa_cons (pe_callB (call_sumL rfl) (by rfl) T.n_sum boot_sum (pa_cons (pv 8) pa_nil)) pa_nil)) rfl)
          (pss_one (ps_for PassesOwn.never rfl (pi_range1 rfl T.n_range (pa_cons (pe_op op_add (pv 5) pe_int) pa_nil)) (pg_name (i := 11) sc__law_counted.nd rfl (Or.inl rfl))
            (pss_cons (ps_if (pt_cmpR op_eq (pv 11) (pv 5) (nomark _))
              (pss_one (ps_augS (pe_ix ix_list (pv 6) (pe_ix ix_tup (pe_ix ix_tup (pv 2) (pv 7) (fun _ _ => rfl)) pe_int (fun _ _ => rfl)) (fun _ _ => rfl)) (pv 11) get_listU (pv 10) ip_add set_list))
              (pss_one (ps_if (pt_cmpR op_eq (pv 11) pe_int (nomark _))
                (pss_one (ps_augS (pe_ix ix_list (pv 6) (pe_ix ix_tup (pe_ix ix_tup (pv 2) (pv 7) (fun _ _ => rfl)) pe_int (fun _ _ => rfl)) (fun _ _ => rfl)) (pv 11) get_listU (pv 10) ip_add set_list))
                (pss_cons (ps_augS (pe_ix ix_list (pv 6) (pe_ix ix_tup (pe_ix ix_tup (pv 2) (pv 7) (fun _ _ => rfl)) pe_int (fun _ _ => rfl)) (fun _ _ => rfl)) (pv 11) get_listU (pv 9) ip_add set_list)
                (pss_one (ps_augS (pe_ix ix_list (pv 6) (pe_ix ix_tup (pe_ix ix_tup (pv 2) (pv 7) (fun _ _ => rfl)) pe_int (fun _ _ => rfl)) (fun _ _ => rfl)) (pv 11) get_listU (pe_op op_sub (pv 10) (pv 9)) ip_add set_list))))))
            (pss_one (ps_if (pt_cmpR op_lt (pv 11) (pv 5) (nomark _))
              (pss_one (ps_set (i := 9) sc__law_counted.nd rfl (Or.inl rfl) (pe_op op_add (pv 9) (pe_ix ix_list (pv 8) (pv 11) (fun _ _ => rfl)))))
              pss_nil)))))))
        (pss_one (ps_set (i := 4) sc__law_counted.nd rfl (Or.inr rfl) (pv 6))))))
      (pss_one (ps_ret (pe_callB (call_sumL rfl) (by rfl) T.n_sum boot_sum (pa_cons (pe_lc (N' := ["_law_state", "_law_found"]) (n := 1) (ix := [4]) rfl (CompScope.of (sc := defScope s__law_counted) (N := ["_law_machine_here", "_law_many", "_law_rows", "_law_ends", "_law_found", "_law_things", "_law_later", "_law_state", "_law_lots", "_law_ahead", "_law_every", "_law_standing"]) (by decide +kernel) rfl rfl) (pi_tup (pv 3)) (fun _ _ _ _ _ => ⟨(pg_name (i := 0) (show (["_law_state", "_law_found"] : List Str).Nodup by decide +kernel) rfl (Or.inl rfl)), pts_nil, (pe_callB (call_sumL rfl) (by rfl) T.n_sum boot_sum (pa_cons (pe_ix (ix_listK K rfl) (pv 1) (pv 0) (fun _ _ => rfl)) pa_nil))⟩)) pa_nil)))))))), ?_⟩
    obtain ⟨R, Ea, rs, hz, hEa, hR⟩ := hM.rwsAt
    have hrl : rs.length = N := by rw [Paired.length hR.at_, hR.len]
    have hN0 := hR.pos
    refine ⟨_, rfl, z, _, rfl, SqT.of hz, rfl, _, _, rfl, _, _, rfl, rfl, ?_⟩
    refine ⟨_, rfl, R, rfl, ⟨_, SqT.of hR.top⟩, ?_⟩
    refine lc_listsU (yields_tup (xs := rs.map V.ref)) (small1 (by rw [List.length_map]; omega)) (fun _ => (rwL 1 fun _ => 0).map V.int) (fun G' s' => SqT.of (s' _ _ hR.top)) (fun i x G' hx s' QT q => ?_) fun L zs G0 hLa sG hLG hzl hznd hzat => ?_
    · exact ⟨by show 1 ≤ sizeLine; decide, fun l0 hl0 => q l0 _ hl0 upd_same (same_upd hl0)⟩
    rw [List.length_map, hrl] at hzl
    have T0 : TabAt G0 L zs N 1 fun _ _ => 0 := ⟨hLG, hzl, hznd, fun hm => by
      obtain ⟨j, hj⟩ := List.getElem?_of_mem hm
      exact (hzat j L hj).2.2 rfl, fun i z hz => (hzat i z hz).1⟩
    obtain ⟨y0, hy0, hyy⟩ := T0.addr hN0
    refine ⟨_, rfl, L, _, 0, .ref y0, rfl, rfl, SqL.of T0.top, atI_nat (j := 0) (by rw [List.getElem?_map, hy0]; rfl), y0, _, _, 0, rfl, rfl, hyy, ixN_nat (r := 0) (by rw [List.length_map, rwL_len]; decide), ?_⟩
    have T1 : TabAt (upd G0 y0 (.lst (((rwL 1 fun _ => 0).map V.int).set 0 (.int 1)))) L zs N 1 (dpZ rows N 0) := (T0.put hy0 (r := 0) (by decide) 1).congr fun s r _ _ => by
      unfold addF dpZ
      split <;> rfl
    have SL : Same H (upd G0 y0 (.lst (((rwL 1 fun _ => 0).map V.int).set 0 (.int 1)))) := same_updR sG (hzat _ _ hy0).2.1
    generalize upd G0 y0 (.lst (((rwL 1 fun _ => 0).map V.int).set 0 (.int 1))) = GL at T1 SL ⊢
    clear T0 hyy hLG hLa hzat sG
    refine ⟨_, rfl, _, _, rfl, ⟨by decide, by decide, by omega, by omega⟩, ?_⟩
    refine for_range (n := ((n : Int) - 1).toNat) (fun j σ G => ∃ (L : Addr) (zs : List Addr) (c5 c6 c7 c8 c9 c10 c11 : Option V), σ = [some (.ref z), some (.int n), some (.ref R), some (.ref Ea), some (.ref L), c5, c6, c7, c8, c9, c10, c11] ∧ Same H G ∧ TabAt G L zs N (j + 1) (dpZ rows N j)) ⟨L, _, _, _, _, _, _, _, _, rfl, SL, T1⟩ ?_ ?_
    · rintro j σ G hj ⟨L, zs, c5, c6, c7, c8, c9, c10, c11, rfl, sm, tb⟩
      rw [show (1 : Int) + (j : Int) = ((j + 1 : Nat) : Int) by omega]
      obtain ⟨m, hm⟩ : ∃ m : Nat, m = j + 1 := ⟨_, rfl⟩
      rw [← hm] at tb ⊢
      have m1 : 1 ≤ m := by omega
      have m2 : m ≤ 100 := by omega
      have hR1 := hR.same sm
      refine ⟨_, rfl, R, rfl, ⟨_, SqT.of hR1.top⟩, ?_⟩
      refine lc_listsU (yields_tup (xs := rs.map V.ref)) (small1 (by rw [List.length_map]; omega)) (fun _ => (rwL (m + 1) fun _ => 0).map V.int) (fun G s' => SqT.of (s' _ _ hR1.top)) (fun i x G hx s' QT q => ?_) fun Lg zg G0 hLg sG hLG hzl hznd hzat => ?_
      · refine ⟨by show 1 ≤ sizeLine; decide, fun l0 hl0 => ⟨_, rfl, _, _, rfl, rfl, ?_⟩⟩
        refine ⟨l0, _, _, rfl, rfl, upd_same, by omega, by omega, ?_, fun z hz => ?_⟩
        · rw [show ((m : Int) + 1).toNat = m + 1 by omega]
          exact Nat.le_trans (by show 1 * (m + 1) ≤ 200; omega) (by decide)
        · refine q z _ ((same_upd hl0).free hz) ?_ ((same_upd hl0).trans (same_upd hz))
          rw [upd_same]
          exact congrArg (fun x => some (HO.lst x)) (repl0 m)
      rw [List.length_map, hrl] at hzl
      have hzH : ∀ (i : Nat) (z : Addr), zg[i]? = some z → G z = none := fun i z hz => (hzat i z hz).2.1
      have T0 : TabAt G0 Lg zg N (m + 1) fun _ _ => 0 := ⟨hLG, hzl, hznd, fun hm => by
        obtain ⟨j, hj⟩ := List.getElem?_of_mem hm
        exact (hzat j Lg hj).2.2 rfl, fun i z hz => (hzat i z hz).1⟩
      generalize hg : dpZ rows N j = g at tb
      refine ⟨_, rfl, L, rfl, ⟨_, SqL.of (sG _ _ tb.top)⟩, ?_⟩
      refine for_enumL (K := K) (xs := zs.map V.ref) (fun i σ G1 => ∃ c7 c8 c9 c10 c11 : Option V, σ = [some (.ref z), some (.int n), some (.ref R), some (.ref Ea), some (.ref L), some (.int m), some (.ref Lg), c7, c8, c9, c10, c11] ∧ Same G G1 ∧ TabAt G1 Lg zg N (m + 1) fun s r => sT (fun i => cF rows m g i s r) i) ?_ ?_ ?_ ?_
      · exact ⟨_, _, _, _, _, rfl, sG, T0⟩
      · rintro i σ G1 hi ⟨c7, c8, c9, c10, c11, rfl, s1, t1⟩
        exact SqL.of (s1 _ _ tb.top)
      · rintro i x t σ G1 hx ⟨c7, c8, c9, c10, c11, rfl, s1, t1⟩ ht
        have hi : i < N := by
          have := (List.getElem?_eq_some_iff.mp hx).1
          rw [List.length_map, tb.len] at this
          exact this
        have S1 := s1.trans (same_upd (o := .tup [.int i, x]) ht)
        have tb1 := t1.same (same_upd (o := .tup [.int i, x]) ht)
        have ht1 := @upd_same G1 t (.tup [.int i, x])
        generalize upd G1 t (.tup [.int i, x]) = G2 at S1 tb1 ht1 ⊢
        obtain ⟨rz, hrz, hrow, hat⟩ := hR1.row hi
        obtain ⟨wz, hwz, hway⟩ := tb.addr hi
        rw [List.getElem?_map, hwz] at hx
        cases hx
        have hrzV : (rs.map V.ref)[i]? = some (.ref rz) := by rw [List.getElem?_map, hrz]; rfl
        refine ⟨t, _, rfl, SqT.of ht1, rfl, _, _, rfl, _, _, rfl, rfl, ?_⟩
        obtain ⟨a0, b0, d0⟩ := hat 0 (by decide) (by decide)
        obtain ⟨a1, b1, d1⟩ := hat 1 (by decide) (by decide)
        obtain ⟨a2, b2, d2⟩ := hat 2 (by decide) (by decide)
        obtain ⟨a3, b3, d3⟩ := hat 3 (by decide) (by decide)
        obtain ⟨n0, h0⟩ : ∃ n : Nat, atZr rows i 0 = (n : Int) := ⟨_, (Int.toNat_of_nonneg b0).symm⟩
        obtain ⟨n1, h1⟩ : ∃ n : Nat, atZr rows i 1 = (n : Int) := ⟨_, (Int.toNat_of_nonneg b1).symm⟩
        obtain ⟨n2, h2⟩ : ∃ n : Nat, atZr rows i 2 = (n : Int) := ⟨_, (Int.toNat_of_nonneg b2).symm⟩
        obtain ⟨n3, h3⟩ : ∃ n : Nat, atZr rows i 3 = (n : Int) := ⟨_, (Int.toNat_of_nonneg b3).symm⟩
        rw [h0] at a0; rw [h1] at a1; rw [h2] at a2; rw [h3] at a3
        have rowAt : ∀ {u : Nat} {v : Int}, (rows.getD i [])[u]? = some v → ((rows.getD i []).map V.int)[u]? = some (.int v) := fun h => by rw [List.getElem?_map, h]; rfl
        obtain ⟨z0, hz0, -⟩ := tb1.addr (s := n0) (by omega)
        obtain ⟨z1, hz1, -⟩ := tb1.addr (s := n1) (by omega)
        obtain ⟨z2, hz2, -⟩ := tb1.addr (s := n2) (by omega)
        obtain ⟨z3, hz3, -⟩ := tb1.addr (s := n3) (by omega)
        have refAt : ∀ {u : Nat} {y : Addr}, zg[u]? = some y → (zg.map V.ref)[u]? = some (.ref y) := fun h => by rw [List.getElem?_map, h]; rfl
        have hway2 := S1 _ _ hway
        refine ⟨_, rfl, wz, _, rfl, hway2, _, _, rfl, ?_⟩
        rw [rwL_sum]
        refine ⟨_, rfl, _, _, rfl, rfl, _, rfl, by omega, by omega, ?_⟩
        rw [show ((m : Int) + 1).toNat = m + 1 by omega]
        refine for_range (n := m + 1) (fun q σ G3 => ∃ c11 : Option V, σ = [some (.ref z), some (.int n), some (.ref R), some (.ref Ea), some (.ref L), some (.int m), some (.ref Lg), some (.int i), some (.ref wz), some (.int (sT (g i) (min q m))), some (.int (sT (g i) m)), c11] ∧ Same G G3 ∧ TabAt G3 Lg zg N (m + 1) fun s r => sT (fun i => cF rows m g i s r) i + (if r < q then cF rows m g i s r else 0)) ?_ ?_ ?_
        · exact ⟨_, by rw [Nat.zero_min]; rfl, S1, tb1.congr fun s r _ _ => by rw [if_neg (by omega)]; omega⟩
        · rintro q σ G3 hq ⟨c11, rfl, s3, t3⟩
          have R3 := (hR1.same s3).top
          have hrow3 := s3 _ _ hrow
          have hway3 := s3 _ _ hway
          rw [Int.zero_add, Nat.min_eq_left (show q ≤ m by omega)]
          refine ⟨_, rfl, _, rfl, rfl, _, rfl, ?_⟩
          by_cases hqm : q = m
          · subst hqm
            rw [decide_eq_true rfl]
            refine iteT ⟨_, rfl, _, rfl, _, rfl, R, _, i, .ref rz, rfl, rfl, SqT.of R3, atI_nat hrzV, rz, _, 3, .int n3, rfl, rfl, SqT.of hrow3, atI_nat (j := 3) (rowAt a3), Lg, _, n3, .ref z3, rfl, rfl, SqL.of t3.top, atI_nat (refAt hz3), _, rfl, z3, _, q, _, rfl, rfl, t3.at_ _ _ hz3, rwV_at (by omega), _, rfl, _, _, rfl, rfl, z3, _, _, q, rfl, rfl, t3.at_ _ _ hz3, ixN_nat (by rw [List.length_map, rwL_len]; omega), ?_⟩
            refine ⟨_, rfl, _, rfl, _, _, rfl, rfl, _, rfl, ?_⟩
            rw [decide_eq_false (by omega)]
            refine iteF ⟨_, by rw [Nat.min_eq_right (by omega)]; rfl, same_updR s3 (hzH _ _ hz3), (t3.put hz3 (r := q) (by omega) (sT (g i) q)).congr fun s r hs hr => ?_⟩
            unfold addF
            dsimp only
            rw [cF_open, h0, h1, h2, h3]
            by_cases er : r = q
            · subst er
              rw [if_neg (by omega : ¬ r < r), if_pos (by omega : r < r + 1), if_neg (by omega : ¬ r = 0), if_neg (by omega : ¬(1 ≤ r ∧ r < r)), if_neg (by omega : ¬(1 ≤ r ∧ r < r)), if_pos rfl]
              by_cases c3 : s = n3
              · rw [if_pos ⟨c3, rfl⟩, if_pos (by omega : (n3 : Int) = s)]
                simp only [ite_self]; omega
              · rw [if_neg (fun q => c3 q.1), if_neg (by omega : ¬(n3 : Int) = s)]
                simp only [ite_self]; omega
            · rw [if_neg (fun q => er q.2)]
              by_cases lt : r < q
              · rw [if_pos lt, if_pos (by omega : r < q + 1)]
              · rw [if_neg lt, if_neg (by omega : ¬ r < q + 1)]
          · rw [decide_eq_false (fun e => hqm (by have := V.int.inj e; omega))]
            refine iteF ⟨_, rfl, rfl, _, rfl, ?_⟩
            by_cases hq0 : q = 0
            · subst hq0
              rw [decide_eq_true (show V.int ((0 : Nat) : Int) = V.int 0 from rfl)]
              refine iteT ⟨_, rfl, _, rfl, _, rfl, R, _, i, .ref rz, rfl, rfl, SqT.of R3, atI_nat hrzV, rz, _, 0, .int n0, rfl, rfl, SqT.of hrow3, atI_nat (j := 0) (rowAt a0), Lg, _, n0, .ref z0, rfl, rfl, SqL.of t3.top, atI_nat (refAt hz0), _, rfl, z0, _, 0, _, rfl, rfl, t3.at_ _ _ hz0, rwV_at (by omega), _, rfl, _, _, rfl, rfl, z0, _, _, 0, rfl, rfl, t3.at_ _ _ hz0, ixN_nat (r := 0) (by rw [List.length_map, rwL_len]; omega), ?_⟩
              have t4 := (t3.put hz0 (r := 0) (by omega) (sT (g i) m)).congr (g' := fun s r => sT (fun i => cF rows m g i s r) i + (if r < 0 + 1 then cF rows m g i s r else 0)) fun s r hs hr => by
                unfold addF
                dsimp only
                rw [cF_open, h0, h1, h2, h3]
                by_cases er : r = 0
                · subst er
                  rw [if_neg (by omega : ¬ 0 < 0), if_pos (by omega : 0 < 0 + 1), if_pos rfl, if_neg (by omega : ¬(1 ≤ 0 ∧ 0 < m)), if_neg (by omega : ¬(1 ≤ 0 ∧ 0 < m)), if_neg (by omega : ¬ 0 = m)]
                  by_cases c3 : s = n0
                  · rw [if_pos ⟨c3, rfl⟩, if_pos (by omega : (n0 : Int) = s)]
                    simp only [ite_self]; omega
                  · rw [if_neg (fun q => c3 q.1), if_neg (by omega : ¬(n0 : Int) = s)]
                    simp only [ite_self]; omega
                · rw [if_neg (fun q => er q.2), if_neg (by omega : ¬ r < 0), if_neg (by omega : ¬ r < 0 + 1)]
              have S4 : Same G _ := same_updR s3 (hzH _ _ hz0) (o := .lst (((rwL (m + 1) fun r => sT (fun i => cF rows m g i n0 r) i + (if r < 0 then cF rows m g i n0 r else 0)).map V.int).set 0 (.int (sT (fun i => cF rows m g i n0 0) i + (if 0 < 0 then cF rows m g i n0 0 else 0) + sT (g i) m))))
              generalize upd G3 z0 (.lst (((rwL (m + 1) fun r => sT (fun i => cF rows m g i n0 r) i + (if r < 0 then cF rows m g i n0 r else 0)).map V.int).set 0 (.int (sT (fun i => cF rows m g i n0 0) i + (if 0 < 0 then cF rows m g i n0 0 else 0) + sT (g i) m)))) = G4 at t4 S4 ⊢
              refine ⟨_, rfl, _, rfl, _, _, rfl, rfl, _, rfl, ?_⟩
              rw [decide_eq_true (show ((0 : Nat) : Int) < (m : Int) by omega)]
              refine iteT ⟨_, rfl, _, rfl, _, rfl, wz, _, ((0 : Nat) : Int), _, rfl, rfl, SqL.of (S4 _ _ hway), atI_nat (j := 0) (rwV_at (by omega)), _, _, rfl, rfl, ?_⟩
              exact ⟨_, by rw [Nat.min_eq_left (show 0 + 1 ≤ m by omega)]; rfl, S4, t4⟩
            · rw [decide_eq_false (fun e => hq0 (by have := V.int.inj e; omega))]
              refine iteF ⟨_, rfl, _, rfl, _, rfl, R, _, i, .ref rz, rfl, rfl, SqT.of R3, atI_nat hrzV, rz, _, 2, .int n2, rfl, rfl, SqT.of hrow3, atI_nat (j := 2) (rowAt a2), Lg, _, n2, .ref z2, rfl, rfl, SqL.of t3.top, atI_nat (refAt hz2), _, rfl, z2, _, q, _, rfl, rfl, t3.at_ _ _ hz2, rwV_at (by omega), _, rfl, _, _, rfl, rfl, z2, _, _, q, rfl, rfl, t3.at_ _ _ hz2, ixN_nat (by rw [List.length_map, rwL_len]; omega), ?_⟩
              have t4 := t3.put hz2 (r := q) (by omega) (sT (g i) q)
              have S4 : Same G _ := same_updR s3 (hzH _ _ hz2) (o := .lst (((rwL (m + 1) fun r => sT (fun i => cF rows m g i n2 r) i + (if r < q then cF rows m g i n2 r else 0)).map V.int).set q (.int (sT (fun i => cF rows m g i n2 q) i + (if q < q then cF rows m g i n2 q else 0) + sT (g i) q))))
              generalize upd G3 z2 (.lst (((rwL (m + 1) fun r => sT (fun i => cF rows m g i n2 r) i + (if r < q then cF rows m g i n2 r else 0)).map V.int).set q (.int (sT (fun i => cF rows m g i n2 q) i + (if q < q then cF rows m g i n2 q else 0) + sT (g i) q)))) = G4 at t4 S4 ⊢
              have R4 := (hR1.same S4).top
              have hrow4 := S4 _ _ hrow
              refine ⟨_, rfl, _, rfl, _, rfl, R, _, i, .ref rz, rfl, rfl, SqT.of R4, atI_nat hrzV, rz, _, 1, .int n1, rfl, rfl, SqT.of hrow4, atI_nat (j := 1) (rowAt a1), Lg, _, n1, .ref z1, rfl, rfl, SqL.of t4.top, atI_nat (refAt hz1), _, rfl, z1, _, q, _, rfl, rfl, t4.at_ _ _ hz1, rwV_at (by omega), _, rfl, _, rfl, _, _, rfl, rfl, _, _, rfl, rfl, z1, _, _, q, rfl, rfl, t4.at_ _ _ hz1, ixN_nat (by rw [List.length_map, rwL_len]; omega), ?_⟩
              have t5 := (t4.put hz1 (r := q) (by omega) (sT (g i) m - sT (g i) q)).congr (g' := fun s r => sT (fun i => cF rows m g i s r) i + (if r < q + 1 then cF rows m g i s r else 0)) fun s r hs hr => by
                unfold addF
                dsimp only
                rw [cF_open, h0, h1, h2, h3]
                by_cases er : r = q
                · subst er
                  rw [if_neg (by omega : ¬ r < r), if_pos (by omega : r < r + 1), if_neg hq0, if_pos (by omega : (1 ≤ r ∧ r < m)), if_pos (by omega : (1 ≤ r ∧ r < m)), if_neg hqm]
                  simp only [ite_self, and_true]
                  by_cases c1 : s = n1
                  · by_cases c2 : s = n2
                    · rw [if_pos c1, if_pos c2, if_pos (by omega : (n1 : Int) = s), if_pos (by omega : (n2 : Int) = s)]; omega
                    · rw [if_pos c1, if_neg c2, if_pos (by omega : (n1 : Int) = s), if_neg (by omega : ¬(n2 : Int) = s)]; omega
                  · by_cases c2 : s = n2
                    · rw [if_neg c1, if_pos c2, if_neg (by omega : ¬(n1 : Int) = s), if_pos (by omega : (n2 : Int) = s)]; omega
                    · rw [if_neg c1, if_neg c2, if_neg (by omega : ¬(n1 : Int) = s), if_neg (by omega : ¬(n2 : Int) = s)]; omega
                · rw [if_neg (fun q => er q.2), if_neg (fun q => er q.2)]
                  by_cases lt : r < q
                  · rw [if_pos lt, if_pos (by omega : r < q + 1)]
                  · rw [if_neg lt, if_neg (by omega : ¬ r < q + 1)]
              have S5 := same_updR S4 (hzH _ _ hz1) (o := .lst (((rwL (m + 1) (addF (fun s r => sT (fun i => cF rows m g i s r) i + (if r < q then cF rows m g i s r else 0)) n2 q (sT (g i) q) n1)).map V.int).set q (.int (addF (fun s r => sT (fun i => cF rows m g i s r) i + (if r < q then cF rows m g i s r else 0)) n2 q (sT (g i) q) n1 q + (sT (g i) m - sT (g i) q)))))
              generalize upd G4 z1 (.lst (((rwL (m + 1) (addF (fun s r => sT (fun i => cF rows m g i s r) i + (if r < q then cF rows m g i s r else 0)) n2 q (sT (g i) q) n1)).map V.int).set q (.int (addF (fun s r => sT (fun i => cF rows m g i s r) i + (if r < q then cF rows m g i s r else 0)) n2 q (sT (g i) q) n1 q + (sT (g i) m - sT (g i) q))))) = G5 at t5 S5 ⊢
              refine ⟨_, rfl, _, rfl, _, _, rfl, rfl, _, rfl, ?_⟩
              rw [decide_eq_true (show (q : Int) < (m : Int) by omega)]
              refine iteT ⟨_, rfl, _, rfl, _, rfl, wz, _, (q : Int), _, rfl, rfl, SqL.of (S5 _ _ hway), atI_nat (rwV_at (by omega)), _, _, rfl, rfl, ?_⟩
              exact ⟨_, by rw [Nat.min_eq_left (show q + 1 ≤ m by omega)]; rfl, S5, t5⟩
        · rintro σ G3 ⟨c11', rfl, s3, t3⟩
          refine ⟨_, _, _, _, _, rfl, s3, t3.congr fun s r hs hr => ?_⟩
          rw [if_pos hr]
          rfl
      · rintro σ G1 ⟨c7, c8, c9, c10, c11, rfl, s1, t1⟩
        rw [List.length_map, tb.len] at t1
        refine ⟨_, rfl, Lg, zg, _, _, _, _, _, _, _, rfl, sm.trans s1, ?_⟩
        have : dpZ rows N m = fun s r => sT (fun i => cF rows m g i s r) N := by
          rw [hm, ← hg]; rfl
        rw [this]
        exact t1
    · rintro σ G' ⟨L, zs, c5, c6, c7, c8, c9, c10, c11, rfl, sm, tb⟩
      rw [show ((n : Int) - 1).toNat = n - 1 by omega] at tb
      refine ⟨_, rfl, Ea, rfl, ⟨_, SqT.of (sm _ _ hEa)⟩, ?_⟩
      refine lc_pure (yields_tup (xs := ends.map V.int)) (small1 (by rw [List.length_map]; omega)) (fun _ => true) (tellV fun s => sT (dpZ rows N (n - 1) s) (n - 1 + 1)) (fun G2 s' => SqT.of (s' _ _ (sm _ _ hEa))) (fun x hx G2 s' Q' q => q) (fun x hx _ G2 s' Q' q => ?_) fun acc hacc => ?_
      · obtain ⟨d, hd, rfl⟩ := List.mem_map.mp hx
        obtain ⟨d0, d1⟩ := hE d hd
        obtain ⟨y, hy, hyy⟩ := tb.addr (s := d.toNat) (by omega)
        refine ⟨_, rfl, _, rfl, L, _, d, .ref y, rfl, rfl, SqL.of (s' _ _ tb.top), ?_, y, _, rfl, s' _ _ hyy, ?_⟩
        · have := atI_nat (xs := zs.map V.ref) (j := d.toNat) (v := .ref y) (by rw [List.getElem?_map, hy]; rfl)
          rwa [Int.toNat_of_nonneg d0] at this
        · rw [rwL_sum]
          exact q
      · rw [tell_ints]
        refine ⟨acc, _, rfl, upd_same, ?_⟩
        rw [sL_sum]
        exact k _ (sm.trans (same_upd hacc))
end
end K50


namespace L2
open PySem PySem.Spec PyProof.Rows
def spFM : Sp := fun vs H Q _ => ∃ n : Nat, vs = [.int n] ∧ n ≤ 60 ∧ Q (.int (fM (n - 1 + 1))) H
def spIsI : Sp := fun vs H Q _ => ∃ a b : Int, vs = [.int a, .int b] ∧ Q (.bl (decide (a = b))) H
structure Lists7 (H : Hp) (p L : Addr) (ps : List Addr) : Prop where
  top : H L = some (.lst (ps.map V.ref))
  len : ps.length = 7
  ne : L ≠ p
  at_ : ∀ (m : Nat) (a : Addr), ps[m]? = some a → a ≠ p ∧ ∃ zs, H a = some (.lst (zs.map V.ref)) ∧ RowsAt H zs (allA m)
theorem Lists7.same {H H' : Hp} {p L : Addr} {ps : List Addr} (h : Lists7 H p L ps) (s : Same H H') : Lists7 H' p L ps := ⟨s _ _ h.top, h.len, h.ne, fun m a e => by
  obtain ⟨q1, zs, q2, q3⟩ := h.at_ m a e
  exact ⟨q1, zs, s _ _ q2, q3.same s⟩⟩
theorem Lists7.keep {H H' : Hp} {p L : Addr} {ps : List Addr} {n : Nat} (h : Lists7 H p L ps) (hp : Pot3 H p n) (k : Keep p p H H') : Lists7 H' p L ps := ⟨k _ _ h.top h.ne h.ne, h.len, h.ne, fun m a e => by
  obtain ⟨q1, zs, q2, q3⟩ := h.at_ m a e
  exact ⟨q1, zs, k _ _ q2 q1 q1, q3.sameT (hp.sameT k)⟩⟩
end L2
namespace K50
open PySem PySem.Spec PyProof.Rows L2
abbrev s__law_all_many : Stmt := top 14
abbrev s__law_is : Stmt := top 15
section
variable {P : Program} {w : World} {K : PySem.W.Frag} {mg : Str → Option Value} {base : Heap}
theorem sc__law_all_many : FnScope ["_law_many", "_law_found", "_law_k"] ["_law_many"] (defScope s__law_all_many) := ⟨rfl, rfl, rfl, by decide +kernel, rfl, by decide +kernel, by decide +kernel⟩
theorem ok__law_all_many {f : Addr} {fd : FuncData} (F : Fun K "_law_all_many" "_law_all_many" s__law_all_many f fd) (T : Top mg) : FnOk P w K mg base CX0 1 f fd ["_law_many"] spFM := by
  refine F.ok sc__law_all_many (fun vs H Q E h => ?_) (fun cdv A outer s H vs Q E hr h => ?_)
  · obtain ⟨n, rfl, _⟩ := h
    rfl
  · obtain ⟨n, rfl, hn, k⟩ := h
    refine ⟨_, (pss_cons (ps_set (i := 1) sc__law_all_many.nd rfl (Or.inl rfl) pe_int)
      (pss_cons (ps_for PassesOwn.never rfl (pi_range2 rfl T.n_range (pa_cons pe_int (pa_cons (pe_op op_add (pv 0) pe_int) pa_nil))) (pg_name (i := 2) sc__law_all_many.nd rfl (Or.inl rfl))
        (pss_one (ps_set (i := 1) sc__law_all_many.nd rfl (Or.inl rfl) (pe_op op_mul (pv 1) (pv 2)))))
      (pss_one (ps_ret (pv 1))))), ?_⟩
    refine ⟨_, rfl, _, _, rfl, rfl, _, _, rfl, ⟨by decide, by decide, by omega, by omega⟩, ?_⟩
    rw [show ((n : Int) + 1 - 2).toNat = n - 1 by omega]
    refine for_range (fun i σ G => G = H ∧ ∃ c : Option V, σ = [some (.int n), some (.int (fM (i + 1))), c]) ⟨rfl, none, rfl⟩ ?_ ?_
    · rintro i σ G hi ⟨rfl, c, rfl⟩
      refine ⟨_, rfl, _, rfl, _, _, rfl, rfl, .inr ⟨by omega, by omega⟩, rfl, some (.int (2 + (i : Int))), ?_⟩
      rw [show fM (i + 1 + 1) = fM (i + 1) * (2 + (i : Int)) from by
        show fM (i + 1) * (((i + 1 : Nat) : Int) + 1) = _
        congr 1
        omega]
      rfl
    · rintro σ G ⟨rfl, c, rfl⟩
      exact ⟨_, rfl, k⟩
theorem sc__law_is : FnScope ["_law_found", "_law_due"] ["_law_found", "_law_due"] (defScope s__law_is) := ⟨rfl, rfl, rfl, by decide +kernel, rfl, by decide +kernel, by decide +kernel⟩
theorem ok__law_is {f : Addr} {fd : FuncData} (F : Fun K "_law_is" "_law_is" s__law_is f fd) (T : Top mg) : FnOk P w K mg base CX0 1 f fd ["_law_found", "_law_due"] spIsI := by
  refine F.ok sc__law_is (fun vs H Q E h => ?_) (fun cdv A outer s H vs Q E hr h => ?_)
  · obtain ⟨a, b, rfl, _⟩ := h
    rfl
  · obtain ⟨a, b, rfl, k⟩ := h
    refine ⟨_, (pss_one (ps_ret (pe_and (pe_callB call_isi (by rfl) T.n_isinstance boot_isinstance (pa_cons (pv 0) (pa_cons (pe_bltn (v := .ty "int") rfl T.n_int boot_int rfl) pa_nil))) (pe_and (pe_not (pe_callB call_isi (by rfl) T.n_isinstance boot_isinstance (pa_cons (pv 0) (pa_cons (pe_bltn (v := .ty "bool") rfl T.n_bool boot_bool rfl) pa_nil)))) (pe_one (pe_cmpR op_eq (pv 0) (pv 1) (nomark _))))))), ?_⟩
    refine ⟨_, rfl, _, _, _, _, rfl, .int _, kit_int_int, _, rfl, iteT ⟨_, rfl, _, _, _, _, rfl, .int _, kit_int_bool, _, rfl, _, rfl, iteT ⟨_, rfl, _, rfl, rfl, ?_⟩⟩⟩
    have e : decide (V.int a = V.int b) = decide (a = b) := decide_eq_decide.mpr ⟨fun h => V.int.inj h, fun h => congrArg V.int h⟩
    rw [e]
    exact k
end
end K50


namespace L2
open PySem PySem.Spec PyProof.Rows
theorem lc_rowsL {J : It} {Ok : Hp → Prop} {xs : List V} {te : TE} {ix : List Nat} {σ : L2.St} {H1 : Hp} {Q : VK} (Y : Yields J Ok xs) (small : xs.length < sizeLine) (f : Nat → List (List Int)) (hok : ∀ H, Same H1 H → Ok H)
    (he : ∀ (i : Nat) (x : V) (H : Hp), xs[i]? = some x → Same H1 H → ∀ (QT : VK), (∀ (a : Addr) (zs : List Addr) (H' : Hp), H a = none → H' a = some (.lst (zs.map V.ref)) → RowsAt H' zs (f i) → Same H H' → QT (.ref a) H') → te (some x :: ix.map fun i => σ.getD i none) H QT)
    (fin : ∀ acc (ps : List Addr) H', H1 acc = none → Same H1 H' → H' acc = some (.lst (ps.map V.ref)) → ps.length = xs.length → (∀ (i : Nat) (z : Addr), ps[i]? = some z → H1 z = none ∧ ∃ zs, H' z = some (.lst (zs.map V.ref)) ∧ RowsAt H' zs (f i)) → Q (.ref acc) H') :
    LcW J H1 (gName 0) tNoTest te 1 ix σ Q := by
  intro acc ha
  refine ⟨fun i m H => m = xs.length - i ∧ i ≤ xs.length ∧ Same H1 H ∧ ∃ (ps : List Addr), H acc = some (.lst (ps.map V.ref)) ∧ ps.length = i ∧ ∀ (j : Nat) (z : Addr), ps[j]? = some z → H1 z = none ∧ z ≠ acc ∧ ∃ zs, H z = some (.lst (zs.map V.ref)) ∧ RowsAt H zs (f j), ⟨xs.length, by simp, Nat.zero_le _, same_upd ha, [], upd_same, rfl, fun _ _ h => by cases h⟩, ?_⟩
  rintro i m H ⟨rfl, hi, kp, ps, hacc, hl, hD⟩
  have o := hok _ kp
  by_cases hlt : i < xs.length
  · refine .inr ⟨Y.go i _ o hlt, fun x H' y => ?_⟩
    obtain ⟨rfl, hx⟩ := Y.yld i _ x H' o hlt y
    refine ⟨⟨rfl, fun j v e => ?_⟩, ?_⟩
    · cases j with
      | zero => cases e
      | succ j => exact e
    · unfold tNoTest
      dsimp only
      rw [if_pos rfl]
      refine he i x H' hx kp _ (fun a zs H4 a0 a4 r4 k4 => ?_)
      have h4 := k4 _ _ hacc
      have haa : a ≠ acc := fun e => by rw [e, hacc] at a0; cases a0
      have su : SameT H4 (upd H4 acc (.lst (ps.map V.ref ++ [.ref a]))) := fun b ys hb => by
        rw [upd_ne (ne_of hb h4 (by intro z; cases z))]; exact hb
      refine ⟨_, h4, by rw [List.length_map]; omega, xs.length - (i + 1), by omega, rfl, hlt, same_updR (kp.trans k4) ha, ps ++ [a], by rw [upd_same, List.map_append]; rfl, by simp; omega, fun j z hj => ?_⟩
      by_cases c : j < ps.length
      · rw [List.getElem?_append_left c] at hj
        obtain ⟨q1, q2, zs', q3, q4⟩ := hD j z hj
        exact ⟨q1, q2, zs', by rw [upd_ne q2]; exact k4 _ _ q3, (q4.same k4).sameT su⟩
      · rw [List.getElem?_append_right (by omega)] at hj
        have hj0 : j - ps.length = 0 := by
          have := (List.getElem?_eq_some_iff.mp hj).1
          simp at this
          omega
        rw [hj0] at hj
        simp at hj
        subst hj
        have : j = i := by omega
        subst this
        exact ⟨kp.free a0, haa, zs, by rw [upd_ne haa]; exact a4, r4.sameT su⟩
  · have e : i = xs.length := by omega
    subst e
    exact .inl ⟨Y.stop _ o, fin acc ps H ha kp hacc hl fun j z hj => ⟨(hD j z hj).1, (hD j z hj).2.2⟩⟩
theorem lc_testB {J : It} {Ok : Hp → Prop} {xs : List V} {tt : TT} {te : TE} {ix : List Nat} {σ : L2.St} {H1 : Hp} {Q : VK} (Y : Yields J Ok xs) (small : xs.length < sizeLine) (b : Nat → Bool) (hok : ∀ H, Same H1 H → Ok H)
    (ht : ∀ (i : Nat) (x : V) (H : Hp), xs[i]? = some x → Same H1 H → ∀ (QT : Bool → Hp → Prop), (∀ H', Same H H' → QT (b i) H') → tt (some x :: ix.map fun i => σ.getD i none) H QT)
    (he : ∀ (i : Nat) (x : V) (H : Hp), xs[i]? = some x → Same H1 H → ∀ (QT : VK), QT x H → te (some x :: ix.map fun i => σ.getD i none) H QT)
    (fin : ∀ acc (ys : List V) H', H1 acc = none → Same H1 H' → H' acc = some (.lst ys) → ys.length = ((List.range xs.length).filter b).length → Q (.ref acc) H') :
    LcW J H1 (gName 0) tt te 1 ix σ Q := by
  intro acc ha
  refine ⟨fun i m H => m = xs.length - i ∧ i ≤ xs.length ∧ Same H1 H ∧ ∃ ys : List V, H acc = some (.lst ys) ∧ ys.length = ((List.range i).filter b).length, ⟨xs.length, by simp, Nat.zero_le _, same_upd ha, [], upd_same, rfl⟩, ?_⟩
  rintro i m H ⟨rfl, hi, kp, ys, hacc, hl⟩
  have o := hok _ kp
  by_cases hlt : i < xs.length
  · refine .inr ⟨Y.go i _ o hlt, fun x H' y => ?_⟩
    obtain ⟨rfl, hx⟩ := Y.yld i _ x H' o hlt y
    have hyl : ys.length ≤ i := by
      rw [hl]
      exact Nat.le_trans (List.length_filter_le _ _) (by rw [List.length_range]; exact Nat.le_refl _)
    refine ⟨⟨rfl, fun j v e => ?_⟩, ?_⟩
    · cases j with
      | zero => cases e
      | succ j => exact e
    · refine ht i x H' hx kp _ (fun H3 s3 => ?_)
      cases hb : b i with
      | false =>
        rw [if_neg (by decide)]
        exact ⟨xs.length - (i + 1), by omega, rfl, hlt, kp.trans s3, ys, s3 _ _ hacc, by rw [List.range_succ, List.filter_append, List.length_append, List.filter_cons, hb]; simpa using hl⟩
      | true =>
        rw [if_pos rfl]
        refine he i x H3 hx (kp.trans s3) _ ?_
        refine ⟨_, s3 _ _ hacc, by omega, xs.length - (i + 1), by omega, rfl, hlt, same_updR (kp.trans s3) ha, ys ++ [x], by rw [upd_same], by rw [List.range_succ, List.filter_append, List.length_append, List.filter_cons, hb, List.length_append, hl]; rfl⟩
  · have e : i = xs.length := by omega
    subst e
    exact .inl ⟨Y.stop _ o, fin acc ys H ha kp hacc hl⟩
theorem count_range {α : Type} (f : α → Bool) (d : α) (l : List α) : ((List.range l.length).filter fun i => f (l.getD i d)).length = l.countP f := by
  have e : l = (List.range l.length).map fun k => l.getD k d := by
    apply List.ext_getElem?
    intro i
    rw [List.getElem?_map]
    by_cases hi : i < l.length
    · rw [List.getElem?_range hi, List.getElem?_eq_getElem hi]
      simp [hi]
    · rw [List.getElem?_eq_none (by omega), List.getElem?_eq_none (by simpa using hi)]
      rfl
  conv => rhs; rw [e]
  rw [List.countP_map, List.countP_eq_length_filter]
  rfl
theorem sub_ends {N : Nat} {ends : List Int} (h : ends.Sublist (num0 N)) : (∀ s ∈ ends, 0 ≤ s ∧ s < (N : Int)) ∧ ends.Nodup ∧ ends.length ≤ N := by
  refine ⟨fun s hs => num0_mem (h.subset hs), List.Nodup.sublist h (num0_nodup' N), ?_⟩
  have := h.length_le
  rwa [num0_len'] at this
end L2
namespace K50
open PySem PySem.Spec PyProof.Rows L2
abbrev s_law : Stmt := top 16
def spLaw (K : PySem.W.Frag) : Sp := fun vs H Q _ => ∃ (a : Addr) (ns : List Int), vs = [.ref a] ∧ SqL K H a (ns.map V.int) ∧ ns.length ≤ 63 ∧ ∀ H', Q (.bl true) H'
section
variable {P : Program} {w : World} {K : PySem.W.Frag} {mg : Str → Option Value} {base : Heap}
theorem sc_law : FnScope ["_law_script", "_law_urn_here", "_law_lists", "_law_turn", "_law_machine_here", "_law_far", "_law_many", "_law_due"] ["_law_script"] (defScope s_law) := ⟨rfl, rfl, rfl, by decide +kernel, rfl, by decide +kernel, by decide +kernel⟩
set_option maxHeartbeats 16000000 in
theorem ok_law {f : Addr} {fd : FuncData} (F : Fun K "law" "law" s_law f fd) (T : Top mg) (C_law_urn : Cal P w K mg base 1 "_law_urn" ["_law_script"] (spUrn K)) (C_law_take : Cal P w K mg base 1 "_law_take" ["_law_urn_here", "_law_many"] spDraw)
    (C_law_machine : Cal P w K mg base 2 "_law_machine" ["_law_urn_here", "_law_most"] spMachE) (C_law_met : Cal P w K mg base 2 "_law_met" ["_law_machine_here", "_law_order"] spMet) (C_law_all : Cal P w K mg base 1 "_law_all" ["_law_many"] spOrdsU) (C_law_counted : Cal P w K mg base 1 "_law_counted" ["_law_machine_here", "_law_many"] spMetC)
    (C_law_all_many : Cal P w K mg base 1 "_law_all_many" ["_law_many"] spFM) (C_law_is : Cal P w K mg base 1 "_law_is" ["_law_found", "_law_due"] spIsI) (Copposite : Cal P w K mg base 1 "opposite" ["machine"] spOpp) (Cmet : Cal P w K mg base 2 "met" ["machine", "many"] spMetC) :
    FnOk P w K mg base CX0 3 f fd ["_law_script"] (spLaw K) := by
  refine F.ok sc_law (fun vs H Q E h => ?_) (fun cdv A outer s H vs Q E hr h => ?_)
  · obtain ⟨a, ns, rfl, _⟩ := h
    rfl
  · obtain ⟨a, ns, rfl, hS, hl, k⟩ := h
    refine ⟨_, (pss_cons (ps_set (i := 1) sc_law.nd rfl (Or.inl rfl) (pe_cal C_law_urn (hr.mono (by decide)) rfl (pa_cons (pv 0) pa_nil)))
      (pss_cons (ps_lcset (i := 2) rfl sc_law.nd rfl rfl (N' := ["_law_many"]) (n := 1) (ix := []) rfl (CompScope.of (sc := defScope s_law) (N := ["_law_script", "_law_urn_here", "_law_lists", "_law_turn", "_law_machine_here", "_law_far", "_law_many", "_law_due"]) (by decide +kernel) rfl rfl) (pi_range1 rfl T.n_range (pa_cons pe_int pa_nil)) (fun _ _ _ _ _ => ⟨(pg_name (i := 0) (show (["_law_many"] : List Str).Nodup by decide +kernel) rfl (Or.inl rfl)), pts_nil, (pe_cal C_law_all (hr.mono (by decide)) rfl (pa_cons (pv 0) pa_nil))⟩))
      (pss_cons (ps_for PassesOwn.never rfl (pi_range1 rfl T.n_range (pa_cons pe_int pa_nil)) (pg_name (i := 3) sc_law.nd rfl (Or.inl rfl))
        (pss_cons (ps_set (i := 4) sc_law.nd rfl (Or.inr rfl) (pe_cal C_law_machine (hr.mono (by decide)) rfl (pa_cons (pv 1) (pa_cons (pe_ix ix_list (pe_lst (pa_cons pe_int (pa_cons pe_int (pa_cons pe_int (pa_cons pe_int pa_nil))))) (pe_cal C_law_take (hr.mono (by decide)) rfl (pa_cons (pv 1) (pa_cons pe_int pa_nil))) (fun _ _ => rfl)) pa_nil))))
        (pss_cons (ps_set (i := 5) sc_law.nd rfl (Or.inl rfl) (pe_op op_add pe_int (pe_cal C_law_take (hr.mono (by decide)) rfl (pa_cons (pv 1) (pa_cons (pe_ix ix_list (pe_lst (pa_cons pe_int (pa_cons pe_int pa_nil))) (pe_cal C_law_take (hr.mono (by decide)) rfl (pa_cons (pv 1) (pa_cons pe_int pa_nil))) (fun _ _ => rfl)) pa_nil)))))
        (pss_one (ps_for PassesOwn.never rfl (pi_list (pe_lst (pa_cons pe_int (pa_cons pe_int (pa_cons pe_int (pa_cons (pe_op op_add pe_int (pe_cal C_law_take (hr.mono (by decide)) rfl (pa_cons (pv 1) (pa_cons pe_int pa_nil)))) (pa_cons (pv 5) pa_nil))))))) (pg_name (i := 6) sc_law.nd rfl (Or.inl rfl))
          (pss_cons (ps_if (pt_cmpR op_lt (pv 6) pe_int (nomark _))
            (pss_one (ps_set (i := 7) sc_law.nd rfl (Or.inl rfl) (pe_callB call_len_seq (by rfl) T.n_len PySem.boot_len (pa_cons (pe_lc (N' := ["_law_order", "_law_machine_here"]) (n := 1) (ix := [4]) rfl (CompScope.of (sc := defScope s_law) (N := ["_law_script", "_law_urn_here", "_law_lists", "_law_turn", "_law_machine_here", "_law_far", "_law_many", "_law_due"]) (by decide +kernel) rfl rfl) (pi_list (pe_ix ix_list (pv 2) (pv 6) (fun _ _ => rfl))) (fun _ _ _ _ _ => ⟨(pg_name (i := 0) (show (["_law_order", "_law_machine_here"] : List Str).Nodup by decide +kernel) rfl (Or.inl rfl)), (pts_one (pt_val (pe_cal C_law_met (hr.mono (by decide)) rfl (pa_cons (pv 1) (pa_cons (pv 0) pa_nil))))), (pv 0)⟩)) pa_nil))))
            (pss_one (ps_set (i := 7) sc_law.nd rfl (Or.inl rfl) (pe_cal C_law_counted (hr.mono (by decide)) rfl (pa_cons (pv 4) (pa_cons (pv 6) pa_nil))))))
          (pss_cons (ps_if (PW.pt (pw_or (pt_not (pt_val (pe_cal C_law_is (hr.mono (by decide)) rfl (pa_cons (pe_cal Cmet (hr.mono (by decide)) rfl (pa_cons (pv 4) (pa_cons (pv 6) pa_nil))) (pa_cons (pv 7) pa_nil))))) (pw_or1 (PW.pt (pw_and (pt_cmpR op_lt (pv 6) pe_int (nomark _)) (pw_and1 (pt_not (pt_val (pe_cal C_law_is (hr.mono (by decide)) rfl (pa_cons (pe_cal Cmet (hr.mono (by decide)) rfl (pa_cons (pv 4) (pa_cons (pv 6) pa_nil))) (pa_cons (pv 7) pa_nil)))))))))))
            (pss_one (ps_ret pe_bl))
            pss_nil)
          (pss_one (ps_if (pt_not (pt_val (pe_cal C_law_is (hr.mono (by decide)) rfl (pa_cons (pe_cal Cmet (hr.mono (by decide)) rfl (pa_cons (pe_cal Copposite (hr.mono (by decide)) rfl (pa_cons (pv 4) pa_nil)) (pa_cons (pv 6) pa_nil))) (pa_cons (pe_op op_sub (pe_cal C_law_all_many (hr.mono (by decide)) rfl (pa_cons (pv 6) pa_nil)) (pv 7)) pa_nil)))))
            (pss_one (ps_ret pe_bl))
            pss_nil)))))))))
      (pss_one (ps_ret pe_bl))))), ?fin⟩
    case fin =>
      refine ⟨_, rfl, a, ns, rfl, hS, fun p G0 s0 hp hp0 => ?_⟩
      refine ⟨_, rfl, by decide, by decide, ?_⟩
      refine lc_rowsL (yields_range (lo := 0) (n := 7)) (small1 (by decide)) allA (fun _ _ => trivial) (fun i x Ga hx sa QT q => ?_) fun LL ps G1 hLL s1 hG1 hpl hat => ?_
      · obtain ⟨rfl, hi⟩ := range_at hx
        exact ⟨_, rfl, i, rfl, by omega, fun q' zs Gb sb hq0 hq hR => q q' zs Gb hq0 hq hR sb⟩
      have hp1 := hp.same s1
      have hLp : LL ≠ p := hp.ne_new hLL
      rw [rangeV_len] at hpl
      have L7 : Lists7 G1 p LL ps := ⟨hG1, hpl, hLp, fun m a' e => ⟨hp.ne_new (hat m a' e).1, (hat m a' e).2⟩⟩
      clear hat hG1
      refine ⟨_, rfl, by decide, by decide, ?_⟩
      refine for_range (n := 3) (fun i σ G => ∃ (c3 c4 c5 c6 c7 : Option V), σ = [some (.ref a), some (.ref p), some (.ref LL), c3, c4, c5, c6, c7] ∧ Pot3 G p (2000 * i) ∧ Lists7 G p LL ps) ?_ ?_ ?_
      · exact ⟨none, none, none, none, none, rfl, hp1, L7⟩
      · rintro i σ G hi ⟨c3, c4, c5, c6, c7, rfl, hpot, LG⟩
        -- the machine
        refine ⟨_, rfl, by show 4 ≤ sizeLine; decide, fun l hl => ⟨_, rfl, p, 4, 2000 * i, rfl, by decide, by decide, hpot.same (same_upd hl), by omega, fun d G2 d0 d1 hp2 kp2 => ?_⟩⟩
        have hlp := hpot.ne_new hl
        have LG2 := (LG.same (same_upd hl)).keep (hpot.same (same_upd hl)) kp2
        have hl2 := kp2 _ _ (@upd_same G l (.lst [.int 6, .int 6, .int 6, .int 40])) hlp hlp
        obtain ⟨most, hm1, hm2, hm3⟩ : ∃ most : Int, atI [V.int 6, .int 6, .int 6, .int 40] d = some (.int most) ∧ 0 < most ∧ most ≤ 40 := by
          have : d = 0 ∨ d = 1 ∨ d = 2 ∨ d = 3 := by omega
          rcases this with rfl | rfl | rfl | rfl
          · exact ⟨6, atI_nat (j := 0) rfl, by decide, by decide⟩
          · exact ⟨6, atI_nat (j := 1) rfl, by decide, by decide⟩
          · exact ⟨6, atI_nat (j := 2) rfl, by decide, by decide⟩
          · exact ⟨40, atI_nat (j := 3) rfl, by decide, by decide⟩
        refine ⟨l, _, d, _, rfl, rfl, SqL.of hl2, hm1, p, 2000 * i + 1, most, rfl, hm2, hm3, hp2, by omega, fun z N rows ends G3 hM hNm hsub hp3 kp3 => ?_⟩
        have LG3 := LG2.keep hp2 kp3
        clear hl2 LG2 hl
        -- how many
        refine ⟨_, rfl, by show 2 ≤ sizeLine; decide, fun l hl => ⟨_, rfl, p, 2, 2000 * i + 1 + 1000, rfl, by decide, by decide, hp3.same (same_upd hl), by omega, fun d G4 d0 d1 hp4 kp4 => ?_⟩⟩
        have hlp := hp3.ne_new hl
        have LG4 := (LG3.same (same_upd hl)).keep (hp3.same (same_upd hl)) kp4
        have hM4 := (hM.sameT (same_upd (o := .lst [.int 10, .int 34]) hl).t).sameT ((hp3.same (same_upd hl)).sameT kp4)
        have hl4 := kp4 _ _ (@upd_same G3 l (.lst [.int 10, .int 34])) hlp hlp
        obtain ⟨far, hf1, hf2, hf3⟩ : ∃ far : Int, atI [V.int 10, .int 34] d = some (.int far) ∧ 0 < far ∧ far ≤ 34 := by
          have : d = 0 ∨ d = 1 := by omega
          rcases this with rfl | rfl
          · exact ⟨10, atI_nat (j := 0) rfl, by decide, by decide⟩
          · exact ⟨34, atI_nat (j := 1) rfl, by decide, by decide⟩
        refine ⟨l, _, d, _, rfl, rfl, SqL.of hl4, hf1, p, far, 2000 * i + 1 + 1000 + 1, rfl, hf2, by omega, hp4, by omega, fun e G5 e0 e1 hp5 kp5 => ⟨_, _, rfl, rfl, ?_⟩⟩
        have LG5 := LG4.keep hp4 kp5
        have hM5 := hM4.sameT (hp4.sameT kp5)
        clear hl4 LG4 hM4 hM LG3 hl
        refine ⟨_, rfl, p, 4, 2000 * i + 1 + 1000 + 1 + 1, rfl, by decide, by decide, hp5, by omega, fun u G6 u0 u1 hp6 kp6 => ⟨_, _, rfl, rfl, _, rfl, by show 5 ≤ sizeLine; decide, fun l hl => ⟨l, rfl, ⟨_, SqL.of upd_same⟩, ?_⟩⟩⟩
        have LG6 := (LG5.keep hp5 kp6).same (same_upd (o := .lst [.int 0, .int 1, .int 2, .int (3 + u), .int (7 + e)]) hl)
        have hM6 := (hM5.sameT (hp5.sameT kp6)).sameT (same_upd (o := .lst [.int 0, .int 1, .int 2, .int (3 + u), .int (7 + e)]) hl).t
        have hp7 := (hp6.same (same_upd (o := .lst [.int 0, .int 1, .int 2, .int (3 + u), .int (7 + e)]) hl)).more (show _ ≤ 2000 * (i + 1) by omega)
        have hl6 := @upd_same G6 l (.lst [.int 0, .int 1, .int 2, .int (3 + u), .int (7 + e)])
        generalize upd G6 l (.lst [.int 0, .int 1, .int 2, .int (3 + u), .int (7 + e)]) = G7 at LG6 hM6 hp7 hl6 ⊢
        clear LG5 hM5 hl
        obtain ⟨hE, hEn, hEl⟩ := sub_ends hsub
        have hE0 : ∀ s ∈ ends, 0 ≤ s := fun s hs => (hE s hs).1
        have hN40 : N ≤ 40 := by omega
        refine for_list (K := K) (a := l) (xs := [.int 0, .int 1, .int 2, .int (3 + u), .int (7 + e)]) (fun j σ G => ∃ (c6 c7 : Option V), σ = [some (.ref a), some (.ref p), some (.ref LL), some (.int (0 + (i : Int))), some (.ref z), some (.int (7 + e)), c6, c7] ∧ Same G7 G) ⟨_, _, rfl, Same.refl _⟩ (fun j σ G' hj ⟨c6, c7, _, sG⟩ => SqL.of (sG _ _ hl6)) ?_ ?_
        · rintro j x σ G' hx ⟨c6, c7, rfl, sG⟩
          obtain ⟨n, rfl, hn⟩ : ∃ n : Nat, x = .int (n : Int) ∧ n ≤ 40 := by
            have hx := List.mem_of_getElem? hx
            simp only [List.mem_cons, List.not_mem_nil, or_false] at hx
            rcases hx with rfl | rfl | rfl | rfl | rfl
            · exact ⟨0, rfl, by decide⟩
            · exact ⟨1, rfl, by decide⟩
            · exact ⟨2, rfl, by decide⟩
            · exact ⟨(3 + u).toNat, by rw [Int.toNat_of_nonneg (by omega)], by omega⟩
            · exact ⟨(7 + e).toNat, by rw [Int.toNat_of_nonneg (by omega)], by omega⟩
          have hMG := hM6.sameT sG.t
          obtain ⟨R0, E0, rs0, _, _, hRw⟩ := hMG.rwsAt
          have hopp := sub_ends (ends := oppE N ends) (N := N) List.filter_sublist
          refine ⟨_, rfl, _, _, rfl, rfl, _, rfl, ?_⟩
          refine ite2 (fun h => ?a) (fun h => ?b)
          case' a =>
            have h7 : n ≤ 6 := by have := of_decide_eq_true h; omega
            have LGG := LG6.same sG
            have hget : ps[n]? = some (ps[n]'(by rw [LGG.len]; omega)) := List.getElem?_eq_getElem _
            obtain ⟨_, zs, hz1, hz2⟩ := LGG.at_ n _ hget
            generalize ps[n]'(by rw [LGG.len]; omega) = al at hget hz1
            have hzl : zs.length ≤ 720 := by rw [Paired.length hz2]; exact allA_lenU h7
            refine ⟨_, rfl, _, rfl, LL, _, n, .ref al, rfl, rfl, SqL.of LGG.top, atI_nat (by rw [List.getElem?_map, hget]; rfl), al, rfl, ⟨_, SqL.of hz1⟩, ?_⟩
            refine lc_testB (yields_list (xs := zs.map V.ref)) (small1 (by rw [List.length_map]; omega)) (fun i => metB rows ends ((allA n).getD i [])) (fun Ga sa => SqL.of (sa _ _ hz1)) (fun q x Ga hx sa QT qq => ?t) (fun q x Ga hx sa QT qq => ⟨_, rfl, qq⟩) fun acc ys G8 hacc s8 hys hyl => ?_
            case t =>
              rw [List.getElem?_map] at hx
              obtain ⟨b, hb, rfl⟩ := Option.map_eq_some_iff.mp hx
              obtain ⟨r, hr0, hr1⟩ := hz2.get hb
              have er : (allA n).getD q [] = r := by rw [List.getD_eq_getElem?_getD, hr0]; rfl
              refine ⟨_, rfl, _, rfl, z, b, N, rows, ends, r, n, rfl, hMG.sameT sa.t, sa _ _ hr1, (allA_ordU (List.mem_of_getElem? hr0)).1, by omega, fun H' s' => ⟨_, rfl, ?_⟩⟩
              rw [← er]
              exact qq H' s'
            rw [List.length_map, Paired.length hz2, count_range (fun o => metB rows ends o) [] (allA n)] at hyl
            refine ⟨acc, _, rfl, .inl (SqL.of hys), ?_⟩
            rw [hyl, met_count hRw.len hRw.pos hRw.rng hE0 hEn h7]
          case' b =>
            refine ⟨_, rfl, _, rfl, z, N, n, rows, ends, rfl, hMG, by omega, by omega, hE, by omega, fun G8 s8 => ?_⟩
          all_goals
            have hM8 := hMG.sameT s8.t
            refine ⟨_, rfl, _, rfl, z, N, n, rows, ends, rfl, hM8, by omega, by omega, hE, by omega, fun G9 s9 => ⟨_, rfl, _, _, rfl, _, rfl, ?_⟩⟩
            have hM9 := hM8.sameT s9.t
            rw [decide_eq_true rfl]
            refine iteF ⟨_, rfl, _, _, rfl, rfl, _, rfl, ?_⟩
            refine ite2 (fun _ => ?_) (fun _ => ?_)
            · refine ⟨_, rfl, _, rfl, z, N, n, rows, ends, rfl, hM9, by omega, by omega, hE, by omega, fun G10 s10 => ⟨_, rfl, _, _, rfl, _, rfl, ?_⟩⟩
              have hM10 := hM9.sameT s10.t
              rw [decide_eq_true rfl]
              refine iteF ?_
              refine ⟨_, rfl, z, N, rows, ends, rfl, hM10, by omega, fun z' G11 s11 hM11 => ⟨_, rfl, z', N, n, rows, oppE N ends, rfl, hM11, by omega, by omega, hopp.1, by omega, fun G12 s12 => ?_⟩⟩
              refine ⟨_, rfl, n, rfl, by omega, _, rfl, _, _, rfl, rfl, _, _, rfl, _, rfl, ?_⟩
              rw [decide_eq_true (met_both_sum hRw.len hRw.pos hRw.rng hE0 hEn n)]
              refine iteF ⟨_, _, rfl, ?_⟩
              exact sG.trans (s8.trans (s9.trans (s10.trans (s11.trans s12))))
            · refine ⟨_, rfl, z, N, rows, ends, rfl, hM9, by omega, fun z' G11 s11 hM11 => ⟨_, rfl, z', N, n, rows, oppE N ends, rfl, hM11, by omega, by omega, hopp.1, by omega, fun G12 s12 => ?_⟩⟩
              refine ⟨_, rfl, n, rfl, by omega, _, rfl, _, _, rfl, rfl, _, _, rfl, _, rfl, ?_⟩
              rw [decide_eq_true (met_both_sum hRw.len hRw.pos hRw.rng hE0 hEn n)]
              refine iteF ⟨_, _, rfl, ?_⟩
              exact sG.trans (s8.trans (s9.trans (s11.trans s12)))
        · rintro σ G' ⟨c6, c7, rfl, sG⟩
          exact ⟨_, _, _, _, _, rfl, hp7.same sG, LG6.same sG⟩
      · rintro σ G ⟨c3, c4, c5, c6, c7, rfl, _⟩
        exact k G
end
end K50


namespace K50
open PySem PySem.Spec PyProof.Rows L2
set_option maxHeartbeats 8000000 in
theorem all_mk {l : PySem.W.OpenLaw} {w : World} {K : PySem.W.Frag} {h : Heap} {mg : Str → Option Value} {fa : Addr} (X : K.In h) (G : h.Ns mainGlobals mg) (hfa : mg "law" = some (.ref fa)) (TK : TopK K)
    (d_opposite : Def K "opposite" s_opposite) (d_one_behind : Def K "one_behind" s_one_behind) (d_met : Def K "met" s_met) (d__law_urn : Def K "_law_urn" s__law_urn) (d__law_take : Def K "_law_take" s__law_take) (d__law_marks : Def K "_law_marks" s__law_marks) (d__law_goes : Def K "_law_goes" s__law_goes) (d__law_met : Def K "_law_met" s__law_met) (d__law_machine : Def K "_law_machine" s__law_machine) (d__law_all : Def K "_law_all" s__law_all) (d__law_counted : Def K "_law_counted" s__law_counted) (d__law_all_many : Def K "_law_all_many" s__law_all_many) (d__law_is : Def K "_law_is" s__law_is) (d_law : Def K "law" s_law) :
    ∃ fd : FuncData, (∀ (s : Shared) (v : Value), BindsTo s fd ⟨[v], []⟩ [("_law_script", v)]) ∧ ∀ base : Heap, K.In base → base.Ns mainGlobals mg → FnOk l.prog w K mg base CX0 3 fa fd ["_law_script"] (spLaw K) := by
  have T : Top mg := TK.top X G
  obtain ⟨f_opposite, e_opposite, F_opposite, m_opposite⟩ := d_opposite.fn X G
  obtain ⟨f_one_behind, e_one_behind, F_one_behind, m_one_behind⟩ := d_one_behind.fn X G
  obtain ⟨f_met, e_met, F_met, m_met⟩ := d_met.fn X G
  obtain ⟨f__law_urn, e__law_urn, F__law_urn, m__law_urn⟩ := d__law_urn.fn X G
  obtain ⟨f__law_take, e__law_take, F__law_take, m__law_take⟩ := d__law_take.fn X G
  obtain ⟨f__law_marks, e__law_marks, F__law_marks, m__law_marks⟩ := d__law_marks.fn X G
  obtain ⟨f__law_goes, e__law_goes, F__law_goes, m__law_goes⟩ := d__law_goes.fn X G
  obtain ⟨f__law_met, e__law_met, F__law_met, m__law_met⟩ := d__law_met.fn X G
  obtain ⟨f__law_machine, e__law_machine, F__law_machine, m__law_machine⟩ := d__law_machine.fn X G
  obtain ⟨f__law_all, e__law_all, F__law_all, m__law_all⟩ := d__law_all.fn X G
  obtain ⟨f__law_counted, e__law_counted, F__law_counted, m__law_counted⟩ := d__law_counted.fn X G
  obtain ⟨f__law_all_many, e__law_all_many, F__law_all_many, m__law_all_many⟩ := d__law_all_many.fn X G
  obtain ⟨f__law_is, e__law_is, F__law_is, m__law_is⟩ := d__law_is.fn X G
  obtain ⟨f_law, e_law, F_law, m_law⟩ := d_law.fn X G
  have b_opposite := F_opposite.binds (ps := ["machine"]) fun _ _ _ _ _ _ us hl => match us, hl with | [_], _ => rfl
  have b_one_behind := F_one_behind.binds (ps := ["rows", "ranks", "size"]) fun _ _ _ _ _ _ us hl => match us, hl with | [_, _, _], _ => rfl
  have b_met := F_met.binds (ps := ["machine", "many"]) fun _ _ _ _ _ _ us hl => match us, hl with | [_, _], _ => rfl
  have b__law_urn := F__law_urn.binds (ps := ["_law_script"]) fun _ _ _ _ _ _ us hl => match us, hl with | [_], _ => rfl
  have b__law_take := F__law_take.binds (ps := ["_law_urn_here", "_law_many"]) fun _ _ _ _ _ _ us hl => match us, hl with | [_, _], _ => rfl
  have b__law_marks := F__law_marks.binds (ps := ["_law_order"]) fun _ _ _ _ _ _ us hl => match us, hl with | [_], _ => rfl
  have b__law_goes := F__law_goes.binds (ps := ["_law_machine_here", "_law_seen"]) fun _ _ _ _ _ _ us hl => match us, hl with | [_, _], _ => rfl
  have b__law_met := F__law_met.binds (ps := ["_law_machine_here", "_law_order"]) fun _ _ _ _ _ _ us hl => match us, hl with | [_, _], _ => rfl
  have b__law_machine := F__law_machine.binds (ps := ["_law_urn_here", "_law_most"]) fun _ _ _ _ _ _ us hl => match us, hl with | [_, _], _ => rfl
  have b__law_all := F__law_all.binds (ps := ["_law_many"]) fun _ _ _ _ _ _ us hl => match us, hl with | [_], _ => rfl
  have b__law_counted := F__law_counted.binds (ps := ["_law_machine_here", "_law_many"]) fun _ _ _ _ _ _ us hl => match us, hl with | [_, _], _ => rfl
  have b__law_all_many := F__law_all_many.binds (ps := ["_law_many"]) fun _ _ _ _ _ _ us hl => match us, hl with | [_], _ => rfl
  have b__law_is := F__law_is.binds (ps := ["_law_found", "_law_due"]) fun _ _ _ _ _ _ us hl => match us, hl with | [_, _], _ => rfl
  have e : fa = f_law := by
    have q := hfa.symm.trans m_law
    cases q
    rfl
  subst e
  obtain ⟨oc, od, kV, doc, pm, an, cdv, ct, osl, rfl, lk, hcd⟩ := F_law.ex
  refine ⟨PySem.W.fnOf "law" "law" (defArgs s_law) (defBody s_law) (defScope s_law) .none kV doc pm an cdv ct, fun s v => .of_eq rfl, fun base _ _ => ?_⟩
  have Copposite : Cal l.prog w K mg base 1 "opposite" ["machine"] (spOpp) := ⟨f_opposite, e_opposite, ok_opposite F_opposite T, m_opposite, F_opposite.kp, b_opposite⟩
  have Cone_behind : Cal l.prog w K mg base 1 "one_behind" ["rows", "ranks", "size"] (spOneB) := ⟨f_one_behind, e_one_behind, ok_one_behind F_one_behind T, m_one_behind, F_one_behind.kp, b_one_behind⟩
  have Cmet : Cal l.prog w K mg base 2 "met" ["machine", "many"] (spMetC) := ⟨f_met, e_met, ok_met F_met T Cone_behind, m_met, F_met.kp, b_met⟩
  have C_law_urn : Cal l.prog w K mg base 1 "_law_urn" ["_law_script"] (spUrn K) := ⟨f__law_urn, e__law_urn, ok__law_urn F__law_urn T, m__law_urn, F__law_urn.kp, b__law_urn⟩
  have C_law_take : Cal l.prog w K mg base 1 "_law_take" ["_law_urn_here", "_law_many"] (spDraw) := ⟨f__law_take, e__law_take, ok__law_take F__law_take , m__law_take, F__law_take.kp, b__law_take⟩
  have C_law_marks : Cal l.prog w K mg base 1 "_law_marks" ["_law_order"] (spOr marksZ) := ⟨f__law_marks, e__law_marks, ok__law_marks F__law_marks T, m__law_marks, F__law_marks.kp, b__law_marks⟩
  have C_law_goes : Cal l.prog w K mg base 1 "_law_goes" ["_law_machine_here", "_law_seen"] (spGoes) := ⟨f__law_goes, e__law_goes, ok__law_goes F__law_goes , m__law_goes, F__law_goes.kp, b__law_goes⟩
  have C_law_met : Cal l.prog w K mg base 2 "_law_met" ["_law_machine_here", "_law_order"] (spMet) := ⟨f__law_met, e__law_met, ok__law_met F__law_met C_law_goes C_law_marks, m__law_met, F__law_met.kp, b__law_met⟩
  have C_law_machine : Cal l.prog w K mg base 2 "_law_machine" ["_law_urn_here", "_law_most"] (spMachE) := ⟨f__law_machine, e__law_machine, ok__law_machine F__law_machine T C_law_take, m__law_machine, F__law_machine.kp, b__law_machine⟩
  have C_law_all : Cal l.prog w K mg base 1 "_law_all" ["_law_many"] (spOrdsU) := ⟨f__law_all, e__law_all, ok__law_all F__law_all T, m__law_all, F__law_all.kp, b__law_all⟩
  have C_law_counted : Cal l.prog w K mg base 1 "_law_counted" ["_law_machine_here", "_law_many"] (spMetC) := ⟨f__law_counted, e__law_counted, ok__law_counted F__law_counted T, m__law_counted, F__law_counted.kp, b__law_counted⟩
  have C_law_all_many : Cal l.prog w K mg base 1 "_law_all_many" ["_law_many"] (spFM) := ⟨f__law_all_many, e__law_all_many, ok__law_all_many F__law_all_many T, m__law_all_many, F__law_all_many.kp, b__law_all_many⟩
  have C_law_is : Cal l.prog w K mg base 1 "_law_is" ["_law_found", "_law_due"] (spIsI) := ⟨f__law_is, e__law_is, ok__law_is F__law_is T, m__law_is, F__law_is.kp, b__law_is⟩
  exact ok_law F_law T C_law_urn C_law_take C_law_machine C_law_met C_law_all C_law_counted C_law_all_many C_law_is Copposite Cmet
theorem walk {l : PySem.W.OpenLaw} {q : Program} {loose : List Str} {XP : (Str → Option Value) → Heap → Prop} {YP : World → Heap → Prop} {d : DefRec} {K : Params → PySem.W.Frag} (hn : l.most = some 63) (hdf : d.params.defaults = [])
    (hY : ∀ (w : World) (h : Heap), YP w h → (K w.params).In h)
    (F : ∀ (w : World) (mg : Str → Option Value) (fa : Addr) (h : Heap), (K w.params).In h → h.Ns mainGlobals mg → mg d.name = some (.ref fa) →
      ∃ fd : FuncData, (∀ (s : Shared) (u : Value), BindsTo s fd ⟨[u], []⟩ [("_law_script", u)]) ∧ ∀ base : Heap, (K w.params).In base → base.Ns mainGlobals mg → FnOk l.prog w (K w.params) mg base CX0 3 fa fd ["_law_script"] (spLaw (K w.params))) :
    PySem.W.WalkO q loose XP YP l.row.toRowW d [] (fun f vs => PySem.call f vs) :=
  L2.walk_of (n := 63) (k := 3) (x := "_law_script") (CX := fun _ => CX0) (sp := fun w => spLaw (K w.params)) hn (by decide) hdf ⟨rfl, by decide, by decide, rfl⟩ hY F (fun _ _ a ns hl _ hS => ⟨a, ns, rfl, hS, hl, fun _ => rfl⟩) fun _ _ _ _ _ z => z
end K50
open PySem PySem.W PyProof.Rows
set_option maxRecDepth 100000 in
set_option maxHeartbeats 0 in
theorem PySem.Challenge.cw_shuffletold_k50_counts_of_orders_met_holds : PySem.Challenge.rw_shuffletold_k50_counts_of_orders_met.Holds := by
  w_on; o_law; k_head; (case hw => w_witness2)
  k_fill
  refine K50.walk (l := PySem.Challenge.rw_shuffletold_k50_counts_of_orders_met) rfl rfl (fun w h Y => PySem.W.kIn_of Y) ?F
  case F =>
    intro w mg fa h KX G hmg
    refine' K50.all_mk KX G hmg ⟨?_, ?_, ?_, ?_, ?_, ?_, ?_, ?_, ?_, ?_, ?_, ?_, ?_, ?_, ?_⟩ (L2.Def.of ?a0 ?l0 ?c0 ?k0) (L2.Def.of ?a1 ?l1 ?c1 ?k1) (L2.Def.of ?a2 ?l2 ?c2 ?k2) (L2.Def.of ?a3 ?l3 ?c3 ?k3) (L2.Def.of ?a4 ?l4 ?c4 ?k4) (L2.Def.of ?a5 ?l5 ?c5 ?k5) (L2.Def.of ?a6 ?l6 ?c6 ?k6) (L2.Def.of ?a7 ?l7 ?c7 ?k7) (L2.Def.of ?a8 ?l8 ?c8 ?k8) (L2.Def.of ?a9 ?l9 ?c9 ?k9) (L2.Def.of ?a10 ?l10 ?c10 ?k10) (L2.Def.of ?a11 ?l11 ?c11 ?k11) (L2.Def.of ?a12 ?l12 ?c12 ?k12) (L2.Def.of ?a13 ?l13 ?c13 ?k13)
    (case a0 => k_is); (case l0 => k_is); (case c0 => k_is); (case k0 => k_is)
    (case a1 => k_is); (case l1 => k_is); (case c1 => k_is); (case k1 => k_is)
    (case a2 => k_is); (case l2 => k_is); (case c2 => k_is); (case k2 => k_is)
    (case a3 => k_is); (case l3 => k_is); (case c3 => k_is); (case k3 => k_is)
    (case a4 => k_is); (case l4 => k_is); (case c4 => k_is); (case k4 => k_is)
    (case a5 => k_is); (case l5 => k_is); (case c5 => k_is); (case k5 => k_is)
    (case a6 => k_is); (case l6 => k_is); (case c6 => k_is); (case k6 => k_is)
    (case a7 => k_is); (case l7 => k_is); (case c7 => k_is); (case k7 => k_is)
    (case a8 => k_is); (case l8 => k_is); (case c8 => k_is); (case k8 => k_is)
    (case a9 => k_is); (case l9 => k_is); (case c9 => k_is); (case k9 => k_is)
    (case a10 => k_is); (case l10 => k_is); (case c10 => k_is); (case k10 => k_is)
    (case a11 => k_is); (case l11 => k_is); (case c11 => k_is); (case k11 => k_is)
    (case a12 => k_is); (case l12 => k_is); (case c12 => k_is); (case k12 => k_is)
    (case a13 => k_is); (case l13 => k_is); (case c13 => k_is); (case k13 => k_is)
    all_goals k_is

