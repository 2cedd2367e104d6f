import PyProof.Rows.All
import Wide.All
import OpenK.AllK
import Wide.FinOn
import Lean
import PyProof.EqAt
import PyProof.EqKinds
import PyProof.TupleCall
import PySem.Challenge.RW_shuffletold_k07_counts_of_what_is_made
set_option Elab.async false
set_option linter.all false
set_option maxRecDepth 100000
namespace L2
open PySem PySem.Spec PyProof.Rows

abbrev Key := Sum Int Str
def keyIs : Key → Value → Bool
  | .inl k, v => Value.isInt k v
  | .inr x, v => Value.isStrOf x v
def keyH (w : World) : Key → Int
  | .inl k => hashInt k
  | .inr x => hashStr w x
theorem keyIs_shape : ∀ {k : Key} {v : Value}, keyIs k v = true → (∃ i t, k = Sum.inl i ∧ v = Value.int i t) ∨ (∃ x t, k = Sum.inr x ∧ v = Value.str x t)
  | .inl i, v, h => by
    obtain ⟨t, e⟩ := Value.isInt_shape (k := i) (v := v) h
    exact .inl ⟨i, t, rfl, e⟩
  | .inr x, v, h => by
    obtain ⟨t, e⟩ := Value.isStrOf_shape (x := x) (v := v) h
    exact .inr ⟨x, t, rfl, e⟩
theorem key_ll (a b : Int) : decide ((Sum.inl a : Key) = Sum.inl b) = (a == b) := by
  by_cases e : a = b
  · subst e; simp
  · have h : ¬ (Sum.inl a : Key) = Sum.inl b := fun q => e (Sum.inl.inj q)
    rw [decide_eq_false h]
    exact (beq_eq_false_iff_ne.mpr e).symm
theorem key_rr (a b : Str) : decide ((Sum.inr a : Key) = Sum.inr b) = decide (a = b) := by
  by_cases e : a = b
  · subst e; simp
  · have h : ¬ (Sum.inr a : Key) = Sum.inr b := fun q => e (Sum.inr.inj q)
    rw [decide_eq_false h, decide_eq_false e]
theorem key_lr (a : Int) (b : Str) : decide ((Sum.inl a : Key) = Sum.inr b) = false := decide_eq_false (fun q => nomatch q)
theorem key_rl (a : Str) (b : Int) : decide ((Sum.inr a : Key) = Sum.inl b) = false := decide_eq_false (fun q => nomatch q)

def mixKind (prog : Program) (w : World) : PySem.KeyKind prog w Key where
  is := keyIs
  hash := keyH w
  inj := fun v a b ha hb => by
    rcases keyIs_shape ha with ⟨i, t, rfl, rfl⟩ | ⟨x, t, rfl, rfl⟩
    · rcases keyIs_shape hb with ⟨j, u, rfl, e⟩ | ⟨y, u, rfl, e⟩
      · injection e with e1 _; rw [e1]
      · exact nomatch e
    · rcases keyIs_shape hb with ⟨j, u, rfl, e⟩ | ⟨y, u, rfl, e⟩
      · exact nomatch e
      · injection e with e1 _; rw [e1]
  byValue := fun k v h => by
    rcases keyIs_shape h with ⟨i, t, rfl, rfl⟩ | ⟨x, t, rfl, rfl⟩ <;> rfl
  pyHash := fun hv h => by
    rcases keyIs_shape hv with ⟨i, t, rfl, rfl⟩ | ⟨x, t, rfl, rfl⟩
    · exact wpAny_pyHash_int h
    · exact wpAny_pyHash_str h
  eqBool := fun hu hv h => by
    rcases keyIs_shape hu with ⟨i, t, rfl, rfl⟩ | ⟨x, t, rfl, rfl⟩
    · rcases keyIs_shape hv with ⟨j, u, rfl, rfl⟩ | ⟨y, u, rfl, rfl⟩
      · rw [key_ll] at h; exact wpAny_eqBool_int h
      · rw [key_lr] at h; exact SeqAt.EqAt.int_str i t y u _ _ _ _ h
    · rcases keyIs_shape hv with ⟨j, u, rfl, rfl⟩ | ⟨y, u, rfl, rfl⟩
      · rw [key_rl] at h; exact SeqAt.EqAt.str_int x t j u _ _ _ _ h
      · rw [key_rr] at h; exact wpAny_eqBool_str h
  «strs» := fun k x t v h => by
    rcases keyIs_shape h with ⟨i, u, rfl, e⟩ | ⟨y, u, rfl, e⟩
    · exact nomatch e
    · injection e with e1 _
      subst e1
      cases v <;> rfl

end L2

namespace L2
open PySem PySem.Spec PyProof.Rows

inductive V where
  | non | bl (b : Bool) | int (i : Int) | str (x : Str) | byt (b : Array UInt8) | flt (b : UInt64) | ref (a : Addr) | ty (n : String)
  deriving DecidableEq

def RelV : V → Value → Prop
  | .non, u => u = Value.none
  | .bl b, u => u = Value.bool b
  | .int i, u => ∃ t, u = Value.int i t
  | .str x, u => ∃ t, u = Value.str x t
  | .byt b, u => ∃ t, u = Value.bytes b t
  | .flt b, u => ∃ t, u = Value.float b t
  | .ref a, u => u = Value.ref a
  | .ty n, u => u = Value.type n

abbrev Vals : List V → List Value → Prop := Paired RelV
theorem Vals.length {xs : List V} {us : List Value} (r : Vals xs us) : xs.length = us.length := Paired.length r
theorem Vals.get : ∀ {xs : List V} {us : List Value} {i : Nat} {x : V}, Vals xs us → xs[i]? = some x → ∃ u, us[i]? = some u ∧ RelV x u
  | _, _, _, _, .nil, e => by simp at e
  | _, _, 0, _, .cons r _, e => by simp at e; subst e; exact ⟨_, rfl, r⟩
  | _, _, i + 1, x, .cons _ t, e => by
    obtain ⟨u, h1, h2⟩ := Vals.get (i := i) (x := x) t (by simpa using e)
    exact ⟨u, by simpa using h1, h2⟩
theorem Vals.set {x : V} {u : Value} (r : RelV x u) : ∀ {xs : List V} {us : List Value} (i : Nat), Vals xs us → Vals (xs.set i x) (us.set i u)
  | _, _, _, .nil => .nil
  | _, _, 0, .cons _ t => .cons r t
  | _, _, i + 1, .cons q t => .cons q (Vals.set r i t)
theorem Vals.append : ∀ {xs ys : List V} {us ws : List Value}, Vals xs us → Vals ys ws → Vals (xs ++ ys) (us ++ ws)
  | _, _, _, _, .nil, s => s
  | _, _, _, _, .cons r t, s => .cons r (Vals.append t s)
theorem Vals.take : ∀ {xs : List V} {us : List Value} (n : Nat), Vals xs us → Vals (xs.take n) (us.take n)
  | _, _, 0, _ => .nil
  | _, _, _ + 1, .nil => .nil
  | _, _, n + 1, .cons r t => .cons r (Vals.take n t)
theorem Vals.drop : ∀ {xs : List V} {us : List Value} (n : Nat), Vals xs us → Vals (xs.drop n) (us.drop n)
  | _, _, 0, r => r
  | _, _, _ + 1, .nil => .nil
  | _, _, n + 1, .cons _ t => Vals.drop n t
theorem Vals.none_of : ∀ {xs : List V} {us : List Value} {i : Nat}, Vals xs us → xs[i]? = none → us[i]? = none := fun {xs us i} r e => by
  have h1 := r.length
  have h2 : xs.length ≤ i := List.getElem?_eq_none_iff.mp e
  exact List.getElem?_eq_none_iff.mpr (by omega)

def RelO : Option V → Option Value → Prop
  | some v, some u => RelV v u
  | none, none => True
  | _, _ => False
def KV {κ : Type} : List (κ × V) → List (κ × Value) → Prop := Paired fun (p : κ × V) (q : κ × Value) => p.1 = q.1 ∧ RelV p.2 q.2

def kV : Key → V
  | .inl i => .int i
  | .inr x => .str x

inductive HO where
  /-- a list -/
  | lst (xs : List V)
  /-- a tuple (never changes) -/
  | tup (xs : List V)
  /-- a dict whose keys are ints and texts; one whose keys are tuples of ints and texts (the empty one is both) -/
  | dK (kvs : List (Key × V)) | dT (kvs : List (List Key × V))
  /-- a set of ints: its members, its size -/
  | set (S : Int → Bool) (n : Nat)
  /-- an instance of the class at C, its dict at dx, its attributes -/
  | ins (C dx : Addr) (fs : List (Str × V))
  /-- the dict of the instance at x -/
  | own (x : Addr)
  /-- the dict of an exception -/
  | xd (fs : List (Str × V))
  /-- a bound method, f of x -/
  | met (f x : Addr)
  /-- a range object lo, lo + 1, .. below hi -/
  | rng (lo hi : Int)
  /-- a thing that is known to the object (the script; a dict while a loop walks it): read, never written while it is so -/
  | frz (o : Obj) (u : HO)
  /-- a code object's table -/
  | tbl (ps : Array Value)
  /-- any other thing, by what is true of its one object (a def of one's own: SetO a S n := HO.ext fun h => ..) -/
  | ext (φ : Heap → Prop)

abbrev Hp := Addr → Option HO
def upd (H : Hp) (a : Addr) (o : HO) : Hp := fun b => if b = a then some o else H b
theorem upd_same {H : Hp} {a : Addr} {o : HO} : upd H a o a = some o := by unfold upd; rw [if_pos rfl]
theorem upd_ne {H : Hp} {a b : Addr} {o : HO} (h : b ≠ a) : upd H a o b = H b := by unfold upd; rw [if_neg h]
theorem upd_upd {H : Hp} {a : Addr} {o u : HO} : upd (upd H a o) a u = upd H a u := by
  funext b; unfold upd; split <;> rfl
theorem ne_of {H : Hp} {a b : Addr} {o u : HO} (h : H a = some o) (h' : H b = some u) (d : o ≠ u) : a ≠ b := by
  intro e; subst e; rw [h] at h'; exact d (Option.some.inj h')
theorem ne_of_none {H : Hp} {a b : Addr} {o : HO} (h : H a = some o) (h' : H b = none) : a ≠ b := by
  intro e; subst e; rw [h] at h'; cases h'

def PTup (h : Heap) (a : Addr) (items : Array Value) : Prop := ∃ o, h.get? a = some o ∧ o.cls = .type "tuple" ∧ (∃ n, o.data = .seq items n) ∧ o.dict = none ∧ o.slots = #[]
theorem PTup.tup {h : Heap} {a : Addr} {items : Array Value} (p : PTup h a items) : IsTup h a items := by
  obtain ⟨o, e, c, d, _⟩ := p
  exact ⟨o, e, c, d⟩
theorem PTup.new {h : Heap} {items : Array Value} {n : Nat} : PTup (h.push { cls := .type "tuple", data := .seq items n }) h.objs.size items := ⟨_, Heap.get?_push_size _ rfl, rfl, ⟨_, rfl⟩, rfl, rfl⟩
section
variable (P : Program) (w : World)
def ObjOk (H : Hp) (h : Heap) (a : Addr) : HO → Prop
  | .lst xs => xs.length ≤ sizeLine ∧ ∃ (its : List Value) (n : Nat), Vals xs its ∧ h.get? a = some { cls := .type "list", data := .seq its.toArray n }
  | .tup xs => xs.length ≤ sizeLine ∧ ∃ its : List Value, Vals xs its ∧ PTup h a its.toArray
  | .dK kvs => kvs.length ≤ sizeLine ∧ (a == sysModules) = false ∧ ∃ vs, KV kvs vs ∧ h.DictOf (mixKind P w) a vs
  | .dT kvs => kvs.length ≤ sizeLine ∧ (a == sysModules) = false ∧ ∃ xs : List (List Key × Addr × Value),
      Paired (fun (p : List Key × V) (q : List Key × Addr × Value) => p.1 = q.1 ∧ H q.2.1 = some (.tup (p.1.map kV)) ∧ RelV p.2 q.2.2) kvs xs ∧
      ∃ o es ep, h.get? a = some o ∧ o.ExactDict ∧ o.data = .dict es ep ∧ es.toList = xs.map (entryOfKey (tupleKind (mixKind P w))) ∧ (xs.map (·.1)).Nodup
  | .set S n => h.SetOf (intKind P w) a S n
  | .ins C dx fs => H dx = some (.own a) ∧ fs.length ≤ 1000 ∧ dx ≠ a ∧ h.get? a = some (PySem.W.instObj C dx) ∧
      ∃ mA, h.Ns1 dx mA ∧ (∀ f, RelO (fs.lookup f) (mA f)) ∧ PySem.Within mA (fs.map (·.1))
  | .own _ => ∃ o, h.get? a = some o
  | .xd fs => ∃ mA, h.Ns1 a mA ∧ ∀ f, RelO (fs.lookup f) (mA f)
  | .rng lo hi => ∃ t u v, h.get? a = some { cls := .type "range", data := .fields #[.int lo t, .int hi u, .int 1 v] }
  | .frz o u => h.get? a = some o ∧ ObjOk H h a u
  | .tbl ps => h.get? a = some { cls := .none, data := .fields ps }
  | .met f x => h.get? a = some (PySem.W.methodObj (.ref f) (.ref x))
  | .ext φ => φ h ∧ (∃ o, h.get? a = some o) ∧ ∀ h1 h2 : Heap, φ h1 → (∀ o, h1.get? a = some o → h2.get? a = some o) → φ h2
def HOk (H : Hp) (h : Heap) : Prop := ∀ a o, H a = some o → ObjOk P w H h a o
end

section
variable {P : Program} {w : World} {H H' : Hp} {h h' : Heap} {a : Addr} {o : HO}
theorem ObjOk.lt (x : ObjOk P w H h a o) : a < h.objs.size := by
  cases o with
  | lst xs => obtain ⟨_, _, _, _, e⟩ := x; exact Heap.lt_size e
  | tup xs => obtain ⟨_, _, _, p⟩ := x; exact p.tup.lt
  | dK kvs => obtain ⟨_, _, _, _, o, _, _, e, _⟩ := x; exact Heap.lt_size e
  | dT kvs => obtain ⟨_, _, _, _, o, _, _, e, _⟩ := x; exact Heap.lt_size e
  | set S n => obtain ⟨o, _, _, _, e, _⟩ := x; exact Heap.lt_size e
  | ins C dx fs => obtain ⟨_, _, _, e, _⟩ := x; exact Heap.lt_size e
  | own y => obtain ⟨_, e⟩ := x; exact Heap.lt_size e
  | xd fs => obtain ⟨_, ⟨_, _, _, e, _⟩, _⟩ := x; exact Heap.lt_size e
  | rng lo hi => obtain ⟨_, _, _, e⟩ := x; exact Heap.lt_size e
  | frz ob u => obtain ⟨e, _⟩ := x; exact Heap.lt_size e
  | tbl ps => exact Heap.lt_size (show h.get? a = some _ from x)
  | met f y => exact Heap.lt_size (show h.get? a = some _ from x)
  | ext φ => obtain ⟨_, ⟨_, e⟩, _⟩ := x; exact Heap.lt_size e
theorem Paired.mapP {α β : Type} {F G : α → β → Prop} : ∀ {l₁ : List α} {l₂ : List β}, Paired F l₁ l₂ → (∀ a b, F a b → G a b) → Paired G l₁ l₂
  | _, _, .nil, _ => .nil
  | _, _, .cons r t, f => .cons (f _ _ r) (Paired.mapP t f)
theorem ObjOk.stay (x : ObjOk P w H h a o) (k : ∀ b u, (b = a ∨ H b = some (.own a)) → h.get? b = some u → h'.get? b = some u)
    (ho : ∀ b, H b = some (.own a) → H' b = some (.own a)) (ht : ∀ b xs, H b = some (.tup xs) → H' b = some (.tup xs)) : ObjOk P w H' h' a o := by
  induction o with
  | lst xs => obtain ⟨z, its, n, r, e⟩ := x; exact ⟨z, its, n, r, k _ _ (.inl rfl) e⟩
  | tup xs => obtain ⟨z, its, r, ob, e, c⟩ := x; exact ⟨z, its, r, ob, k _ _ (.inl rfl) e, c⟩
  | dK kvs => obtain ⟨z, y, vs, r, ob, es, ep, e, c⟩ := x; exact ⟨z, y, vs, r, ob, es, ep, k _ _ (.inl rfl) e, c⟩
  | dT kvs =>
    obtain ⟨z, y, xs, r, ob, es, ep, e, c⟩ := x
    exact ⟨z, y, xs, Paired.mapP r fun p q z => ⟨z.1, ht _ _ z.2.1, z.2.2⟩, ob, es, ep, k _ _ (.inl rfl) e, c⟩
  | set S n => obtain ⟨ob, es, ep, t, e, c⟩ := x; exact ⟨ob, es, ep, t, k _ _ (.inl rfl) e, c⟩
  | ins C dx fs =>
    obtain ⟨d, z, ne, e, mA, ⟨od, es, ep, e2, c⟩, r⟩ := x
    exact ⟨ho _ d, z, ne, k _ _ (.inl rfl) e, mA, ⟨od, es, ep, k _ _ (.inr d) e2, c⟩, r⟩
  | own y => obtain ⟨ob, e⟩ := x; exact ⟨ob, k _ _ (.inl rfl) e⟩
  | xd fs => obtain ⟨mA, ⟨od, es, ep, e, c⟩, r⟩ := x; exact ⟨mA, ⟨od, es, ep, k _ _ (.inl rfl) e, c⟩, r⟩
  | rng lo hi => obtain ⟨t, u, v, e⟩ := x; exact ⟨t, u, v, k _ _ (.inl rfl) e⟩
  | frz ob u ih => obtain ⟨e, q⟩ := x; exact ⟨k _ _ (.inl rfl) e, ih q⟩
  | tbl ps =>
    have e : h.get? a = some { cls := .none, data := .fields ps } := x
    show h'.get? a = some { cls := .none, data := .fields ps }
    exact k a _ (.inl rfl) e
  | met f y =>
    have e : h.get? a = some (PySem.W.methodObj (.ref f) (.ref y)) := x
    show h'.get? a = some (PySem.W.methodObj (.ref f) (.ref y))
    exact k a _ (.inl rfl) e
  | ext φ => obtain ⟨p, ⟨o, e⟩, st⟩ := x; exact ⟨st _ _ p fun o q => k _ _ (.inl rfl) q, ⟨o, k _ _ (.inl rfl) e⟩, st⟩
theorem HOk.lt (x : HOk P w H h) (e : H a = some o) : a < h.objs.size := (x a o e).lt
theorem HOk.fresh (x : HOk P w H h) (e : h.objs.size ≤ a) : H a = none := by
  cases q : H a with
  | none => rfl
  | some u => exact absurd (Nat.lt_of_lt_of_le (x.lt q) e) (Nat.lt_irrefl _)
theorem HOk.kept (x : HOk P w H h) (k : ∀ b u, h.get? b = some u → h'.get? b = some u) : HOk P w H h' := fun a o e =>
  (x a o e).stay (fun b u _ q => k b u q) (fun _ q => q) fun _ _ q => q
theorem HOk.laid (x : HOk P w H h) (k : ∀ b u, h.get? b = some u → h'.get? b = some u) (hp : h.objs.size ≤ a) (new : ObjOk P w (upd H a o) h' a o) : HOk P w (upd H a o) h' := fun b u e => by
  have hn := x.fresh hp
  by_cases hb : b = a
  · subst hb; rw [upd_same] at e; cases e; exact new
  · rw [upd_ne hb] at e
    exact (x b u e).stay (fun c v _ q => k c v q) (fun c q => by rw [upd_ne (ne_of_none q hn)]; exact q) fun c xs q => by rw [upd_ne (ne_of_none q hn)]; exact q
end

def Rd (H : Hp) (a : Addr) (u : HO) : Prop := H a = some u ∨ ∃ o, H a = some (.frz o u)
theorem Rd.ok {P : Program} {w : World} {H : Hp} {h : Heap} {a : Addr} {u : HO} (r : Rd H a u) (x : HOk P w H h) : ObjOk P w H h a u := by
  rcases r with r | ⟨o, r⟩
  · exact x a u r
  · obtain ⟨_, q⟩ := x a _ r
    exact q
def Mut : Option HO → Prop
  | some (.lst _) => True
  | some (.dK _) => True
  | some (.dT _) => True
  | some (.set _ _) => True
  | some (.ins _ _ _) => True
  | some (.ext _) => True
  | _ => False
section
variable {P : Program} {w : World} {H : Hp} {h h' : Heap} {x e : Addr} {o' : HO}
theorem HOk.write (ok : HOk P w H h) (mu : Mut (H x)) (he : e = x ∨ H e = some (.own x)) (k : ∀ b u, b ≠ e → h.get? b = some u → h'.get? b = some u) (heo : ∃ u, h'.get? e = some u)
    (new : ObjOk P w (upd H x o') h' x o') : HOk P w (upd H x o') h' := fun b u q => by
  have nown : ∀ c y, H c = some (.own y) → c ≠ x := fun c y r z => by subst z; rw [r] at mu; exact mu
  have ntup : ∀ c xs, H c = some (.tup xs) → c ≠ x := fun c xs r z => by subst z; rw [r] at mu; exact mu
  by_cases hb : b = x
  · subst hb; rw [upd_same] at q; cases q; exact new
  · rw [upd_ne hb] at q
    by_cases hbe : b = e
    · have q' : H b = some (.own x) := by
        rcases he with z | z
        · exact absurd (hbe.trans z) hb
        · rw [hbe]; exact z
      rw [q] at q'; cases q'
      obtain ⟨v, hv⟩ := heo
      exact ⟨v, by rw [hbe]; exact hv⟩
    · refine (ok b u q).stay (fun c v hc r => k c v ?_ r) (fun c r => by rw [upd_ne (nown c b r)]; exact r) fun c xs r => by rw [upd_ne (ntup c xs r)]; exact r
      rcases hc with rfl | hc
      · exact hbe
      · rintro rfl
        rcases he with z | z
        · exact nown c b hc z
        · rw [hc] at z; cases z; exact hb rfl
end

structure Un (fs ex : List Addr) (H H' : Hp) (h h' : Heap) : Prop where
  keep : ∀ b o, h.get? b = some o → H b = none → b ∉ fs → b ∉ ex → h'.get? b = some o
  slot : ∀ b o, h.get? b = some o → H b = none → b ∈ fs → b ∉ ex → ∃ sl, h'.get? b = some { o with slots := sl }
  free : ∀ b o, h.get? b = some o → H b = none → b ∉ ex → H' b = none
  there : ∀ b o, h.get? b = some o → b ∉ ex → ∃ o', h'.get? b = some o'
  tups : ∀ b xs, H b = some (.tup xs) → H' b = some (.tup xs)
  frzs : ∀ b o u, H b = some (.frz o u) → H' b = some (.frz o u)
  tbls : ∀ b ps, H b = some (.tbl ps) → ∃ more, H' b = some (.tbl (ps ++ more))
section
variable {fs fs' ex ex' : List Addr} {H H1 H2 : Hp} {h h1 h2 h' : Heap} {a x e : Addr} {o : HO}
theorem Un.any (u : Un fs ex H H1 h h1) {b : Addr} {ob : Obj} (q : h.get? b = some ob) (n : H b = none) (hx : b ∉ ex) : ∃ sl, h1.get? b = some { ob with slots := sl } := by
  by_cases hb : b ∈ fs
  · exact u.slot b ob q n hb hx
  · exact ⟨ob.slots, u.keep b ob q n hb hx⟩
theorem Un.kept (k : ∀ b u, h.get? b = some u → h'.get? b = some u) : Un fs ex H H h h' :=
  ⟨fun b ob q _ _ _ => k b ob q, fun b ob q _ _ _ => ⟨ob.slots, k b ob q⟩, fun _ _ _ n _ => n, fun b ob q _ => ⟨ob, k b ob q⟩, fun _ _ q => q, fun _ _ _ q => q, fun _ ps q => ⟨#[], by rw [q]; simp⟩⟩
theorem Un.refl : Un fs ex H H h h := Un.kept fun _ _ q => q
theorem Un.laid (k : ∀ b u, h.get? b = some u → h'.get? b = some u) (hp : h.objs.size ≤ a) (hn : H a = none) : Un fs ex H (upd H a o) h h' where
  keep := fun b u q _ _ _ => k b u q
  slot := fun b u q _ _ _ => ⟨u.slots, k b u q⟩
  free := fun b u q n _ => by rw [upd_ne (Nat.ne_of_lt (Nat.lt_of_lt_of_le (Heap.lt_size q) hp))]; exact n
  there := fun b u q _ => ⟨u, k b u q⟩
  tups := fun b xs q => by rw [upd_ne (ne_of_none q hn)]; exact q
  frzs := fun b u xs q => by rw [upd_ne (ne_of_none q hn)]; exact q
  tbls := fun b ps q => ⟨#[], by rw [upd_ne (ne_of_none q hn), q]; simp⟩
theorem Un.write (mu : Mut (H x)) (he : e = x ∨ H e = some (.own x)) (k : ∀ b u, b ≠ e → h.get? b = some u → h'.get? b = some u) (heo : ∃ u, h'.get? e = some u) : Un fs ex H (upd H x o) h h' := by
  have hx : ∀ b, H b = none → b ≠ x := fun b n z => by subst z; rw [n] at mu; exact mu
  have hb : ∀ b, H b = none → b ≠ e := fun b n z => by
    subst z
    rcases he with r | r
    · exact hx b n r
    · rw [n] at r; cases r
  have hm : ∀ b u, H b = some u → ¬ Mut (some u) → b ≠ x := fun b u q nm z => by subst z; rw [q] at mu; exact nm mu
  refine ⟨fun b u q n _ _ => k b u (hb b n) q, fun b u q n _ _ => ⟨u.slots, k b u (hb b n) q⟩, fun b u q n _ => by rw [upd_ne (hx b n)]; exact n, fun b u q _ => ?_,
    fun b xs q => by rw [upd_ne (hm b _ q fun z => z)]; exact q, fun b u xs q => by rw [upd_ne (hm b _ q fun z => z)]; exact q, fun b ps q => ⟨#[], by rw [upd_ne (hm b _ q fun z => z), q]; simp⟩⟩
  by_cases hbe : b = e
  · subst hbe; exact heo
  · exact ⟨u, k b u hbe q⟩
end

def trk (h : Heap) (H : Hp) : List Addr := (List.range h.objs.size).filter fun a => (H a).isSome
def hidT (h : Heap) (H : Hp) : Heap := PySem.W.hideAll h (trk h H)
theorem hidT_size (h : Heap) (H : Hp) : (hidT h H).objs.size = h.objs.size := PySem.W.hideAll_size _ _
theorem hidT_get {h : Heap} {H : Hp} {b : Addr} {o : Obj} (e : h.get? b = some o) (n : H b = none) : (hidT h H).get? b = some o :=
  PySem.W.hideAll_get _ e fun hm => by
    have q : (H b).isSome = true := (List.mem_filter.mp hm).2
    rw [n] at q; simp at q
theorem of_hidT {h : Heap} {H : Hp} {b : Addr} {o : Obj} (e : (hidT h H).get? b = some o) : h.get? b = some o ∧ H b = none := by
  have e' : h.get? b = some o := PySem.W.of_hideAll (trk h H) e
  refine ⟨e', ?_⟩
  cases q : H b with
  | none => rfl
  | some x =>
    have hm : b ∈ trk h H := List.mem_filter.mpr ⟨List.mem_range.mpr (Heap.lt_size e'), by simp [q]⟩
    have z : (hidT h H).get? b = none := PySem.W.hideAll_none (trk h H) hm
    rw [z] at e; cases e

def allNews (g h : Heap) (L : Addr) : List (Addr × Obj) := (List.range h.objs.size).filterMap fun a => if a = L ∨ (g.get? a).isSome = true then none else (h.get? a).map fun o => (a, o)
def rest (g h : Heap) (L d : Addr) : List (Addr × Obj) := (allNews g h L).filter fun p => decide (p.1 ≠ d)
end L2

namespace L2
open PySem PySem.Spec PyProof.Rows

structure Mod (K : PySem.W.Frag) (mg : Str → Option Value) (base : Heap) : Prop where
  kin : K.In base
  glob : base.Ns mainGlobals mg
  blt : ∃ mb, base.Ns builtinsNs mb ∧ ∀ x : Str, x ≠ "__name__" → mb x = bootBuiltins x
  nolimit : base.NoLimit

structure Cx where
  prog : Program
  w : World
  K : PySem.W.Frag
  mg : Str → Option Value
  base : Heap
  A : Around
  N : List Str
  s₀ : Shared
  H₀ : Hp
  env : Env
  outer : List Env
  stack : List Env
  ex : List Addr
  fn : Str → Bool
  calm : Bool
  pn : List (Addr × Obj)
  xe : Value → Shared → Prop
def frs (l : List Env) : List Addr := l.filterMap (·.frame)
abbrev Cx.fs (X : Cx) : List Addr := frs X.outer

def Vis (sc : Scope) (x : Str) : Prop := sc.names.lookup x = some .local ∨ sc.names.lookup x = some .cell ∨ sc.names.lookup x = some .free
def Loc (sc : Scope) (x : Str) : Prop := sc.names.lookup x = some .local ∨ sc.names.lookup x = some .cell
def Look (env : Env) (h : Heap) (m : Str → Option Value) (x : Str) (u : Value) : Prop :=
  (env.kindOf x = some .local ∧ m x = some u) ∨ ((env.kindOf x = some .cell ∨ env.kindOf x = some .free) ∧ ∃ c, env.cells.lookup x = some c ∧ h.IsCell c (some u))

structure Cx.Ok (X : Cx) : Prop where
  mod : Mod X.K X.mg X.base
  kind : X.env.scope.kind = .function
  glob : X.env.globals = mainGlobals
  blt : X.env.builtins = builtinsNs
  above : X.s₀.heap.objs.size ≤ X.env.locals
  inj : ∀ x y c, X.env.cells.lookup x = some c → X.env.cells.lookup y = some c → x = y
  has : ∀ x, (X.env.kindOf x = some .cell ∨ X.env.kindOf x = some .free) → ∃ c, X.env.cells.lookup x = some c
  cab : ∀ x c, X.fn x = true → X.env.cells.lookup x = some c → X.s₀.heap.objs.size ≤ c
  hd : X.calm = true → X.A.handled = none
  frames : X.A.frames = some X.stack
  stk : X.stack = X.outer ∨ (X.stack = X.env :: X.outer ∧ X.env.frame = some X.env.locals)
  exf : ∀ b ∈ X.ex, b ≠ X.env.locals ∧ ∀ x c, X.env.cells.lookup x = some c → c ≠ b
  bs : ∀ b o, X.base.get? b = some o → X.s₀.heap.get? b = some o ∧ X.H₀ b = none
  bsz : X.base.objs.size ≤ X.s₀.heap.objs.size
  noex : ∀ b o, X.base.get? b = some o → b ∉ X.ex
  exfs : ∀ b ∈ X.ex, b ∉ X.fs
  funs : X.s₀.heap.FunFrames X.base X.outer
  frf : ∀ b ∈ X.fs, X.H₀ b = none

structure Inv (X : Cx) (pins : List (Addr × Obj)) (σ : List (Option V)) (H : Hp) (s : Shared) : Prop where
  ok : X.Ok
  os : s.os = X.s₀.os
  bare : AllBare s.gens
  base : Un X.fs X.ex X.H₀ H X.s₀.heap s.heap
  loc : ∃ m, s.heap.Ns X.env.locals m ∧ ∀ (i : Nat) (x : Str) (v : V), X.N[i]? = some x → σ[i]? = some (some v) → Vis X.env.scope x → ∃ u, RelV v u ∧ Look X.env s.heap m x u
  cell : ∀ x c, X.env.cells.lookup x = some c → ∃ v, s.heap.IsCell c v
  free : H X.env.locals = none
  freeC : ∀ x c, X.env.cells.lookup x = some c → H c = none
  pin : ∀ p ∈ X.pn ++ pins, s.heap.get? p.1 = some p.2 ∧ H p.1 = none ∧ p.1 ≠ X.env.locals ∧ p.1 ∉ X.fs ∧ ∀ v, p.2.data ≠ .cell v
  hok : HOk X.prog X.w H s.heap
  len : σ.length = X.N.length

section
variable {X : Cx} {pins : List (Addr × Obj)} {σ : List (Option V)} {H H' : Hp} {s : Shared} {h' : Heap}

theorem Cx.Ok.nofr (ok : X.Ok) {b : Addr} {o : Obj} (e : X.base.get? b = some o) : b ∉ X.fs := fun hb => by
  have := (ok.funs.mem hb).1
  rw [e] at this; cases this
theorem Inv.bs (I : Inv X pins σ H s) : ∀ b o, X.base.get? b = some o → s.heap.get? b = some o ∧ H b = none := fun b o e =>
  ⟨I.base.keep b o (I.ok.bs b o e).1 (I.ok.bs b o e).2 (I.ok.nofr e) (I.ok.noex b o e), I.base.free b o (I.ok.bs b o e).1 (I.ok.bs b o e).2 (I.ok.noex b o e)⟩
theorem Inv.bk (I : Inv X pins σ H s) : ∀ b o, X.base.get? b = some o → s.heap.get? b = some o := fun b o e => (I.bs b o e).1
theorem Inv.mod (I : Inv X pins σ H s) : Mod X.K X.mg X.base := I.ok.mod
theorem Inv.kIn (I : Inv X pins σ H s) : X.K.In s.heap := I.ok.mod.kin.keeps I.bk
theorem Inv.lt (I : Inv X pins σ H s) : X.env.locals < s.heap.objs.size := let ⟨_, hn, _⟩ := I.loc; hn.lt
theorem Inv.sz (I : Inv X pins σ H s) : X.s₀.heap.objs.size ≤ s.heap.objs.size := Nat.le_trans I.ok.above (Nat.le_of_lt I.lt)
theorem Inv.nofs (I : Inv X pins σ H s) {a : Addr} (h : s.heap.objs.size ≤ a) : a ∉ X.fs := fun hb => by
  obtain ⟨_, o, ho, _⟩ := I.ok.funs.mem hb
  exact absurd (Nat.lt_of_lt_of_le (Heap.lt_size ho) (Nat.le_trans I.sz h)) (Nat.lt_irrefl _)
theorem Inv.cne (I : Inv X pins σ H s) : ∀ x c, X.env.cells.lookup x = some c → c ≠ X.env.locals := fun x c e z => by
  obtain ⟨v, o, ho, hd⟩ := I.cell x c e
  obtain ⟨m, ⟨o', es, ep, ho', hd', _⟩, _⟩ := I.loc
  rw [z, ho'] at ho; cases ho; rw [hd'] at hd; cases hd
theorem Inv.funs (I : Inv X pins σ H s) : s.heap.FunFrames X.base X.outer := by
  have all : ∀ (l : List Env), (∀ b ∈ frs l, b ∈ X.fs) → X.s₀.heap.FunFrames X.base l → s.heap.FunFrames X.base l := by
    intro l
    induction l with
    | nil => intro _ _; trivial
    | cons env r ih =>
      intro hs hl
      obtain ⟨hk, ⟨L, o, hf, hn, ho, hd⟩, hr⟩ := hl
      have hL : L ∈ X.fs := hs L (by unfold frs; rw [List.filterMap_cons, hf]; exact List.mem_cons_self)
      obtain ⟨sl, e⟩ := I.base.slot L o ho (I.ok.frf L hL) hL fun z => I.ok.exfs L z hL
      exact ⟨hk, ⟨L, _, hf, hn, e, hd⟩, ih (fun b hb => hs b (by unfold frs; rw [List.filterMap_cons, hf]; exact List.mem_cons_of_mem _ hb)) hr⟩
  exact all X.outer (fun _ hb => hb) I.ok.funs

theorem Inv.stack (I : Inv X pins σ H s) : s.heap.FunFrames X.base X.stack := by
  rcases I.ok.stk with e | ⟨e, hf⟩
  · rw [e]; exact I.funs
  · rw [e]
    obtain ⟨m, hn, _⟩ := I.loc
    refine .cons (by rw [I.ok.kind]; decide) hf hn ?_ I.funs
    exact Heap.get?_none_of_le (Nat.le_trans I.ok.bsz I.ok.above)
theorem Inv.stkSub (I : Inv X pins σ H s) : ∀ b ∈ frs X.stack, b ∈ X.env.locals :: X.fs := fun b hb => by
  rcases I.ok.stk with e | ⟨e, hf⟩
  · rw [e] at hb; exact List.mem_cons_of_mem _ hb
  · rw [e] at hb
    unfold frs at hb
    rw [List.filterMap_cons, hf] at hb
    exact hb
theorem Inv.stkFree (I : Inv X pins σ H s) : ∀ b ∈ frs X.stack, H b = none := fun b hb => by
  rcases List.mem_cons.mp (I.stkSub b hb) with e | hb
  · rw [e]; exact I.free
  · obtain ⟨_, o, ho, _⟩ := I.ok.funs.mem hb
    exact I.base.free b o ho (I.ok.frf b hb) fun z => I.ok.exfs b z hb

theorem Inv.step {g' : Array GenState} {t' : Nat} {d' : Drawn} {ch : List Addr} (I : Inv X pins σ H s)
    (hch : ∀ b ∈ ch, (b ∈ X.ex ∨ X.s₀.heap.objs.size ≤ b) ∧ b ≠ X.env.locals ∧ (∀ x c, X.env.cells.lookup x = some c → c ≠ b) ∧ ∀ p ∈ X.pn ++ pins, p.1 ≠ b)
    (keep : ∀ b o, b ≠ X.env.locals → b ∉ X.fs → b ∉ ch → s.heap.get? b = some o → H b = none → h'.get? b = some o)
    (slot : ∀ b o, b ≠ X.env.locals → b ∈ X.fs → b ∉ ch → s.heap.get? b = some o → H b = none → ∃ sl, h'.get? b = some { o with slots := sl }) (free : ∀ b o, b ∉ ch → s.heap.get? b = some o → H b = none → H' b = none)
    (there : ∀ b o, b ∉ ch → s.heap.get? b = some o → ∃ o', h'.get? b = some o')
    (tups : ∀ b xs, H b = some (.tup xs) → H' b = some (.tup xs)) (frzs : ∀ b o u, H b = some (.frz o u) → H' b = some (.frz o u)) (tbls : ∀ b ps, H b = some (.tbl ps) → ∃ more, H' b = some (.tbl (ps ++ more)))
    (ns : ∀ m, s.heap.Ns X.env.locals m → h'.Ns X.env.locals m) (hok : HOk X.prog X.w H' h') (hg : AllBare g') :
    Inv X pins σ H' { s with heap := h', gens := g', drawn := d', toks := t' } := by
  have neL : ∀ b o, X.s₀.heap.get? b = some o → b ≠ X.env.locals := fun b o e => Nat.ne_of_lt (Nat.lt_of_lt_of_le (Heap.lt_size e) I.ok.above)
  have neC : ∀ b o, X.s₀.heap.get? b = some o → b ∉ X.ex → b ∉ ch := fun b o e hx hb => by
    rcases (hch b hb).1 with z | z
    · exact hx z
    · exact absurd (Nat.lt_of_lt_of_le (Heap.lt_size e) z) (Nat.lt_irrefl _)
  have cellK : ∀ x c, X.env.cells.lookup x = some c → ∀ v, s.heap.IsCell c v → h'.IsCell c v := fun x c e v ⟨o, ho, hd⟩ => by
    have nch : c ∉ ch := fun z => (hch c z).2.2.1 x c e rfl
    by_cases hc : c ∈ X.fs
    · obtain ⟨sl, q⟩ := slot c o (I.cne x c e) hc nch ho (I.freeC x c e)
      exact ⟨_, q, hd⟩
    · exact ⟨o, keep c o (I.cne x c e) hc nch ho (I.freeC x c e), hd⟩
  refine ⟨I.ok, I.os, hg, ⟨fun b o e n hb hx => ?_, fun b o e n hb hx => ?_, fun b o e n hx => ?_, fun b o e hx => ?_, fun b xs e => tups b xs (I.base.tups b xs e), fun b o xs e => frzs b o xs (I.base.frzs b o xs e), fun b ps e => ?_⟩, ?_, fun x c e => ?_, ?_, fun x c e => ?_, fun p hp => ?_, hok, I.len⟩
  · exact keep b o (neL b o e) hb (neC b o e hx) (I.base.keep b o e n hb hx) (I.base.free b o e n hx)
  · obtain ⟨sl, e1⟩ := I.base.slot b o e n hb hx
    obtain ⟨sl', e2⟩ := slot b _ (neL b o e) hb (neC b o e hx) e1 (I.base.free b o e n hx)
    exact ⟨sl', e2⟩
  · obtain ⟨o', e1⟩ := I.base.there b o e hx
    exact free b o' (neC b o e hx) e1 (I.base.free b o e n hx)
  · obtain ⟨o', e1⟩ := I.base.there b o e hx
    exact there b o' (neC b o e hx) e1
  · obtain ⟨m1, e1⟩ := I.base.tbls b ps e
    obtain ⟨m2, e2⟩ := tbls b _ e1
    exact ⟨m1 ++ m2, by rw [e2, Array.append_assoc]⟩
  · obtain ⟨m, hn, hl⟩ := I.loc
    refine ⟨m, ns m hn, fun i x v e1 e2 e3 => ?_⟩
    obtain ⟨u, r, l⟩ := hl i x v e1 e2 e3
    refine ⟨u, r, ?_⟩
    rcases l with l | ⟨k, c, e, z⟩
    · exact .inl l
    · exact .inr ⟨k, c, e, cellK x c e _ z⟩
  · obtain ⟨v, z⟩ := I.cell x c e
    exact ⟨v, cellK x c e v z⟩
  · obtain ⟨m, ⟨o, _, _, ho, _⟩, _⟩ := I.loc
    exact free _ o (fun z => (hch _ z).2.1 rfl) ho I.free
  · obtain ⟨v, o, ho, hd⟩ := I.cell x c e
    exact free c o (fun z => (hch c z).2.2.1 x c e rfl) ho (I.freeC x c e)
  · obtain ⟨e, n, ne, nf, d⟩ := I.pin p hp
    have nch : p.1 ∉ ch := fun z => (hch p.1 z).2.2.2 p hp rfl
    exact ⟨keep p.1 p.2 ne nf nch e n, free p.1 p.2 nch e n, ne, nf, d⟩
theorem Inv.un {t' : Nat} (I : Inv X pins σ H s) (u : Un X.fs [] H H' s.heap h') (hok : HOk X.prog X.w H' h') : Inv X pins σ H' { s with heap := h', toks := t' } := by
  obtain ⟨m, ⟨o, es, ep, ho, r⟩, _⟩ := id I.loc
  obtain ⟨sl, hL⟩ := u.any ho I.free (by simp)
  exact I.step (g' := s.gens) (d' := s.drawn) (ch := []) (fun _ z => nomatch z) (fun b o _ hb _ e n => u.keep b o e n hb (by simp)) (fun b o _ hb _ e n => u.slot b o e n hb (by simp)) (fun b o _ e n => u.free b o e n (by simp)) (fun b o _ e => u.there b o e (by simp)) u.tups u.frzs u.tbls (fun m' hm => by
    obtain ⟨o', es', ep', ho', r'⟩ := hm
    rw [ho] at ho'; cases ho'
    exact ⟨_, es', ep', hL, r'⟩) hok I.bare
theorem Inv.call {g' : Array GenState} {t' : Nat} {d' : Drawn} {ch : List Addr} (I : Inv X pins σ H s) (u : Un (frs X.stack) ch H H' s.heap h') (hok : HOk X.prog X.w H' h') (hg : AllBare g')
    (hch : ∀ b ∈ ch, (b ∈ X.ex ∨ X.s₀.heap.objs.size ≤ b) ∧ b ≠ X.env.locals ∧ (∀ x c, X.env.cells.lookup x = some c → c ≠ b) ∧ ∀ p ∈ X.pn ++ pins, p.1 ≠ b) :
    Inv X pins σ H' { s with heap := h', gens := g', drawn := d', toks := t' } := by
  obtain ⟨m, ⟨o, es, ep, ho, r⟩, _⟩ := id I.loc
  obtain ⟨sl, hL⟩ := u.any ho I.free fun z => (hch _ z).2.1 rfl
  exact I.step (ch := ch) hch (fun b o hL hb hc e n => u.keep b o e n (fun z => (List.mem_cons.mp (I.stkSub b z)).elim hL hb) hc) (fun b o _ _ hc e n => u.any e n hc) (fun b o hc e n => u.free b o e n hc) (fun b o hc e => u.there b o e hc) u.tups u.frzs u.tbls (fun m' hm => by
    obtain ⟨o', es', ep', ho', r'⟩ := hm
    rw [ho] at ho'; cases ho'
    exact ⟨_, es', ep', hL, r'⟩) hok hg
theorem Inv.turned {t' : Nat} {it : Addr} (I : Inv X pins σ H s) (k : ∀ b o, b ≠ it → s.heap.get? b = some o → h'.get? b = some o) (hn : H it = none) (hL : it ≠ X.env.locals)
    (h1 : it ∈ X.ex ∨ X.s₀.heap.objs.size ≤ it) (h2 : ∀ x c, X.env.cells.lookup x = some c → c ≠ it) (h3 : ∀ p ∈ X.pn ++ pins, p.1 ≠ it) : Inv X pins σ H { s with heap := h', toks := t' } := by
  have nit : ∀ b u, H b = some u → b ≠ it := fun b u e z => by rw [z, hn] at e; cases e
  refine I.step (g' := s.gens) (d' := s.drawn) (ch := [it]) (fun b hb => ?_) (fun b o _ _ hc e _ => k b o (fun z => hc (by simp [z])) e) (fun b o _ _ hc e _ => ⟨o.slots, k b o (fun z => hc (by simp [z])) e⟩) (fun _ _ _ _ n => n)
    (fun b o hc e => ⟨o, k b o (fun z => hc (by simp [z])) e⟩) (fun _ _ e => e) (fun _ _ _ e => e) (fun b ps e => ⟨#[], by rw [e]; simp⟩) (fun m hm => ?_) (fun b u e => ?_) I.bare
  · have e : b = it := by simpa using hb
    subst e
    exact ⟨h1, hL, h2, h3⟩
  · obtain ⟨o, es, ep, ho, r⟩ := hm
    exact ⟨o, es, ep, k _ o (Ne.symm hL) ho, r⟩
  · refine (I.hok b u e).stay (fun c v hc q => k c v ?_ q) (fun _ q => q) fun _ _ q => q
    rcases hc with z | z
    · rw [z]; exact nit b u e
    · exact nit c _ z
theorem Inv.tok (I : Inv X pins σ H s) (t : Nat) : Inv X pins σ H { s with toks := t } := I.un (h' := s.heap) (t' := t) Un.refl I.hok
theorem Inv.kept {t' : Nat} (I : Inv X pins σ H s) (k : ∀ b u, s.heap.get? b = some u → h'.get? b = some u) : Inv X pins σ H { s with heap := h', toks := t' } := I.un (Un.kept k) (I.hok.kept k)
theorem Inv.laid {a : Addr} {o : HO} {t' : Nat} (I : Inv X pins σ H s) (k : ∀ b u, s.heap.get? b = some u → h'.get? b = some u) (hp : s.heap.objs.size ≤ a) (new : ObjOk X.prog X.w (upd H a o) h' a o) :
    Inv X pins σ (upd H a o) { s with heap := h', toks := t' } := I.un (Un.laid k hp (I.hok.fresh hp)) (I.hok.laid k hp new)
theorem Inv.write {x e : Addr} {o : HO} {t' : Nat} (I : Inv X pins σ H s) (mu : Mut (H x)) (he : e = x ∨ H e = some (.own x)) (k : ∀ b u, b ≠ e → s.heap.get? b = some u → h'.get? b = some u) (heo : ∃ u, h'.get? e = some u)
    (new : ObjOk X.prog X.w (upd H x o) h' x o) : Inv X pins σ (upd H x o) { s with heap := h', toks := t' } := I.un (Un.write mu he k heo) (I.hok.write mu he k heo new)
theorem Inv.weak {σ' : List (Option V)} (I : Inv X pins σ H s) (hl : σ'.length = σ.length) (w : ∀ (i : Nat) v, σ'[i]? = some (some v) → σ[i]? = some (some v)) : Inv X pins σ' H s :=
  ⟨I.ok, I.os, I.bare, I.base, let ⟨m, hn, hl'⟩ := I.loc; ⟨m, hn, fun i x v e1 e2 e3 => hl' i x v e1 (w i v e2) e3⟩, I.cell, I.free, I.freeC, I.pin, I.hok, hl.trans I.len⟩
theorem Inv.pins_of {pins' : List (Addr × Obj)} (I : Inv X pins σ H s) (h : ∀ p ∈ pins', s.heap.get? p.1 = some p.2 ∧ H p.1 = none ∧ p.1 ≠ X.env.locals ∧ p.1 ∉ X.fs ∧ ∀ v, p.2.data ≠ .cell v) : Inv X pins' σ H s :=
  ⟨I.ok, I.os, I.bare, I.base, I.loc, I.cell, I.free, I.freeC, fun p hp => (List.mem_append.mp hp).elim (fun z => I.pin p (List.mem_append_left _ z)) (h p), I.hok, I.len⟩

theorem nodup_ix {N : List Str} (hN : N.Nodup) {i j : Nat} {x : Str} (a : N[i]? = some x) (b : N[j]? = some x) : i = j := by
  obtain ⟨h1, e1⟩ := List.getElem?_eq_some_iff.mp a
  obtain ⟨h2, e2⟩ := List.getElem?_eq_some_iff.mp b
  exact (List.getElem_inj hN).mp (e1.trans e2.symm)

theorem store_ok2 {M : Model} {A : Around} {E : Value → Shared → Prop} {i : Nat} {x : Str} {v : V} {u : Value} {Q : Unit → Shared → Prop} (I : Inv X pins σ H s) (hN : X.N.Nodup) (hi : X.N[i]? = some x) (hx : Loc X.env.scope x) (r : RelV v u)
    (h : ∀ s', Inv X pins (σ.set i (some v)) H s' → (∃ a, Heap.SameBut a s.heap s'.heap ∧ (a = X.env.locals ∨ X.env.cells.lookup x = some a)) → Q () s') (hf : X.fn x = true ∨ X.env.scope.names.lookup x = some .local := by first | exact .inl rfl | exact .inr rfl | assumption) : wpAny M A (storeName X.env x u) Q E s := by
  obtain ⟨m, hn, hl⟩ := id I.loc
  have hcls : (X.env.scope.kind == .class || (X.env.scope.kind == .module && X.env.locals != X.env.globals)) = false := by rw [I.ok.kind]; rfl
  have hiσ : i < σ.length := by rw [I.len]; exact (List.getElem?_eq_some_iff.mp hi).1
  have cne := I.cne
  have tracked : ∀ {a : Addr} {h' : Heap}, (∃ o, s.heap.get? a = some o ∧ H a = none) → Heap.SameBut a s.heap h' → HOk X.prog X.w H h' := fun {a h'} ha hs b ob e => by
    obtain ⟨_, _, hfree⟩ := ha
    refine (I.hok b ob e).stay (fun c w' hc q => (hs.2 c ?_).trans q) (fun _ q => q) fun _ _ q => q
    rintro rfl
    rcases hc with rfl | hc
    · rw [hfree] at e; cases e
    · rw [hfree] at hc; cases hc
  rcases hx with hk | hk
  · refine wpAny_storeName_local hk hn (fun h' hn' hs => ?_) hcls
    obtain ⟨oL, _, _, hoL, _⟩ := id hn
    refine h _ ⟨I.ok, I.os, I.bare, ⟨fun b o e n hb hx => ?_, fun b o e n hb hx => ?_, I.base.free, fun b o e hx => ?_, I.base.tups, I.base.frzs, I.base.tbls⟩, ⟨_, hn', fun j y v' e1 e2 e3 => ?_⟩, fun y c e => ?_, I.free, I.freeC, fun p hp => ?_, tracked ⟨oL, hoL, I.free⟩ hs, by simpa using I.len⟩ ⟨_, hs, .inl rfl⟩
    · exact (hs.2 b (Nat.ne_of_lt (Nat.lt_of_lt_of_le (Heap.lt_size e) I.ok.above))).trans (I.base.keep b o e n hb hx)
    · obtain ⟨sl, e1⟩ := I.base.slot b o e n hb hx
      exact ⟨sl, (hs.2 b (Nat.ne_of_lt (Nat.lt_of_lt_of_le (Heap.lt_size e) I.ok.above))).trans e1⟩
    · obtain ⟨o', e1⟩ := I.base.there b o e hx
      exact ⟨o', (hs.2 b (Nat.ne_of_lt (Nat.lt_of_lt_of_le (Heap.lt_size e) I.ok.above))).trans e1⟩
    · by_cases hj : j = i
      · subst hj
        rw [hi] at e1; cases e1
        rw [List.getElem?_set_self hiσ] at e2
        cases e2
        exact ⟨u, r, .inl ⟨hk, by simp⟩⟩
      · rw [List.getElem?_set_ne (Ne.symm hj)] at e2
        obtain ⟨u', r', q⟩ := hl j y v' e1 e2 e3
        refine ⟨u', r', ?_⟩
        rcases q with ⟨k, e⟩ | ⟨k, c, e, z⟩
        · refine .inl ⟨k, ?_⟩
          have : y ≠ x := fun e => hj (nodup_ix hN e1 (e ▸ hi))
          simp [this, e]
        · exact .inr ⟨k, c, e, z.sameBut hs (cne y c e)⟩
    · obtain ⟨w', z⟩ := I.cell y c e
      exact ⟨w', z.sameBut hs (cne y c e)⟩
    · obtain ⟨e, n, ne, nf, d⟩ := I.pin p hp
      exact ⟨(hs.2 p.1 ne).trans e, n, ne, nf, d⟩
  · have hfn : X.fn x = true := by
      rcases hf with z | z
      · exact z
      · rw [z] at hk; cases hk
    obtain ⟨c, hc⟩ := I.ok.has x (.inl hk)
    obtain ⟨w', z⟩ := I.cell x c hc
    refine wpAny_storeName_cell I.ok.kind hk hc z (fun h' hc' hs => ?_)
    obtain ⟨oc, hoc, hocd⟩ := id z
    refine h { s with heap := h' } ⟨I.ok, I.os, I.bare, ⟨fun b o e n hb hx => ?_, fun b o e n hb hx => ?_, I.base.free, fun b o e hx => ?_, I.base.tups, I.base.frzs, I.base.tbls⟩, ⟨m, hn.sameBut hs (Ne.symm (cne x c hc)), fun j y v' e1 e2 e3 => ?_⟩, fun y c' e => ?_, I.free, I.freeC, fun p hp => ?_, tracked ⟨oc, hoc, I.freeC x c hc⟩ hs, by simpa using I.len⟩ ⟨c, hs, .inr hc⟩
    · exact (hs.2 b (Nat.ne_of_lt (Nat.lt_of_lt_of_le (Heap.lt_size e) (I.ok.cab x c hfn hc)))).trans (I.base.keep b o e n hb hx)
    · obtain ⟨sl, e1⟩ := I.base.slot b o e n hb hx
      exact ⟨sl, (hs.2 b (Nat.ne_of_lt (Nat.lt_of_lt_of_le (Heap.lt_size e) (I.ok.cab x c hfn hc)))).trans e1⟩
    · obtain ⟨o', e1⟩ := I.base.there b o e hx
      exact ⟨o', (hs.2 b (Nat.ne_of_lt (Nat.lt_of_lt_of_le (Heap.lt_size e) (I.ok.cab x c hfn hc)))).trans e1⟩
    · by_cases hj : j = i
      · subst hj
        rw [hi] at e1; cases e1
        rw [List.getElem?_set_self hiσ] at e2
        cases e2
        exact ⟨u, r, .inr ⟨.inl hk, c, hc, hc'⟩⟩
      · rw [List.getElem?_set_ne (Ne.symm hj)] at e2
        obtain ⟨u', r', q⟩ := hl j y v' e1 e2 e3
        refine ⟨u', r', ?_⟩
        rcases q with q | ⟨k, c', e, z'⟩
        · exact .inl q
        · refine .inr ⟨k, c', e, z'.sameBut hs ?_⟩
          rintro rfl
          exact hj (nodup_ix hN e1 (I.ok.inj _ _ _ e hc ▸ hi))
    · by_cases hcc : c' = c
      · subst hcc; exact ⟨_, hc'⟩
      · obtain ⟨w2, z2⟩ := I.cell y c' e
        exact ⟨w2, z2.sameBut hs hcc⟩
    · obtain ⟨e, n, ne, nf, d⟩ := I.pin p hp
      refine ⟨(hs.2 p.1 ?_).trans e, n, ne, nf, d⟩
      intro q
      rw [q, hoc] at e
      have q' : oc = p.2 := Option.some.inj e
      exact d w' (by rw [← q']; exact hocd)
theorem store_ok {M : Model} {A : Around} {E : Value → Shared → Prop} {i : Nat} {x : Str} {v : V} {u : Value} {Q : Unit → Shared → Prop} (I : Inv X pins σ H s) (hN : X.N.Nodup) (hi : X.N[i]? = some x) (hx : Loc X.env.scope x) (r : RelV v u)
    (h : ∀ s', Inv X pins (σ.set i (some v)) H s' → Q () s') (hf : X.fn x = true ∨ X.env.scope.names.lookup x = some .local := by first | exact .inl rfl | exact .inr rfl | assumption) : wpAny M A (storeName X.env x u) Q E s :=
  store_ok2 I hN hi hx r (fun s' I' _ => h s' I') hf
theorem Inv.call' {s' : Shared} {ch : List Addr} (I : Inv X pins σ H s) (ho : s'.os = s.os) (u : Un (frs X.stack) ch H H' s.heap s'.heap) (hok : HOk X.prog X.w H' s'.heap) (hg : AllBare s'.gens)
    (hch : ∀ b ∈ ch, (b ∈ X.ex ∨ X.s₀.heap.objs.size ≤ b) ∧ b ≠ X.env.locals ∧ (∀ x c, X.env.cells.lookup x = some c → c ≠ b) ∧ ∀ p ∈ X.pn ++ pins, p.1 ≠ b) : Inv X pins σ H' s' := by
  obtain ⟨h', g', d', t', o'⟩ := s'
  have e : o' = s.os := ho
  subst e
  exact I.call (g' := g') (t' := t') (d' := d') u hok hg hch
end

abbrev XK := Value → Option Addr → Hp → Prop
abbrev St := List (Option V)
abbrev VK := V → Hp → Prop
abbrev TE := St → Hp → VK → Prop
abbrev TT := St → Hp → (Bool → Hp → Prop) → Prop
abbrev TA := St → Hp → (List V → Hp → Prop) → Prop
structure Ends where
  nx : St → Hp → Prop
  rt : VK
  bk : St → Hp → Prop := fun _ _ => False
  ct : St → Hp → Prop := fun _ _ => False
abbrev TS := Ends → St → Hp → Prop

def EP (X : Cx) (pins : List (Addr × Obj)) (σ : St) (Q : VK) (u : Value) (s' : Shared) : Prop := ∃ v H', Inv X pins σ H' s' ∧ RelV v u ∧ Q v H'
def TP (X : Cx) (pins : List (Addr × Obj)) (σ : St) (Q : Bool → Hp → Prop) (b : Bool) (s' : Shared) : Prop := ∃ H', Inv X pins σ H' s' ∧ Q b H'
def AP (X : Cx) (pins : List (Addr × Obj)) (σ : St) (Q : List V → Hp → Prop) (us : List Value) (s' : Shared) : Prop := ∃ vs H', Inv X pins σ H' s' ∧ Vals vs us ∧ Q vs H'
def SP (X : Cx) (pins : List (Addr × Obj)) (D : Ends) (f : Flow) (s' : Shared) : Prop :=
  match f with
  | .next => ∃ σ' H', Inv X pins σ' H' s' ∧ D.nx σ' H'
  | .brk => ∃ σ' H', Inv X pins σ' H' s' ∧ D.bk σ' H'
  | .cont => ∃ σ' H', Inv X pins σ' H' s' ∧ D.ct σ' H'
  | .ret u => ∃ v σ' H', Inv X pins σ' H' s' ∧ RelV v u ∧ D.rt v H'

def PE (X : Cx) (e : Expr) (t : TE) : Prop :=
  ∀ (pins : List (Addr × Obj)) (s : Shared) (σ : St) (H : Hp) (Q : VK), Inv X pins σ H s → t σ H Q → wpAny (model X.prog X.w) X.A (eval e X.env) (EP X pins σ Q) X.xe s
def PT (X : Cx) (e : Expr) (t : TT) : Prop :=
  ∀ (pins : List (Addr × Obj)) (s : Shared) (σ : St) (H : Hp) (Q : Bool → Hp → Prop), Inv X pins σ H s → t σ H Q → wpAny (model X.prog X.w) X.A (isTrue e X.env (eval e X.env)) (TP X pins σ Q) X.xe s
def PW (X : Cx) (e : Expr) (t : TT) : Prop :=
  ∀ (whole : Sem Value) (pins : List (Addr × Obj)) (s : Shared) (σ : St) (H : Hp) (Q : Bool → Hp → Prop), Inv X pins σ H s → t σ H Q → wpAny (model X.prog X.w) X.A (isTrue e X.env whole) (TP X pins σ Q) X.xe s
theorem PW.pt {X : Cx} {e : Expr} {t : TT} (h : PW X e t) : PT X e t := h _
def PA (X : Cx) (es : List Expr) (t : TA) : Prop :=
  ∀ (pos : Pos) (pins : List (Addr × Obj)) (s : Shared) (σ : St) (H : Hp) (Q : List V → Hp → Prop), Inv X pins σ H s → t σ H Q → wpAny (model X.prog X.w) X.A (spliced (backTo pos (starEach es X.env))) (AP X pins σ Q) X.xe s
def PS (X : Cx) (st : Stmt) (t : TS) : Prop :=
  ∀ (pins : List (Addr × Obj)) (s : Shared) (σ : St) (H : Hp) (D : Ends), Inv X pins σ H s → t D σ H → wpAny (model X.prog X.w) X.A (exec st X.env) (SP X pins D) X.xe s
def PSs (X : Cx) (st : List Stmt) (t : TS) : Prop :=
  ∀ (pins : List (Addr × Obj)) (s : Shared) (σ : St) (H : Hp) (D : Ends), Inv X pins σ H s → t D σ H → wpAny (model X.prog X.w) X.A (execs st X.env) (SP X pins D) X.xe s
theorem thn {α : Type} {t : Sem α} {Q Q' : α → Shared → Prop} {M : Model} {A : Around} {E : Value → Shared → Prop} {s : Shared} (h : wpAny M A t Q E s) (hQ : ∀ a s, Q a s → Q' a s) : wpAny M A t Q' E s := wpAny_mono h hQ fun _ _ x => x
end L2

namespace L2
open PySem PySem.Spec PyProof.Rows
section
variable {X : Cx}

def tVar (i : Nat) : TE := fun σ H Q => ∃ v, σ[i]? = some (some v) ∧ Q v H
def tC (v : V) : TE := fun _ H Q => Q v H
theorem pe_var {i : Nat} {x : Str} {pos : Pos} (hN : X.N[i]? = some x) (hv : Vis X.env.scope x) (hd : (x == ("__debug__" : Str)) = false := by decide) (hcd : (x == ("__classdict__" : Str)) = false := by decide) : PE X (.Name x pos) (tVar i) := by
  intro pins s σ H Q I h
  obtain ⟨v, e, h⟩ := h
  obtain ⟨m, hn, hl⟩ := I.loc
  obtain ⟨u, r, l⟩ := hl i x v hN e hv
  have fin : EP X pins σ Q u s := ⟨v, H, I, r, h⟩
  rcases l with ⟨hk, hm⟩ | ⟨hk, c, hc, hcell⟩
  · exact wpAny_Name (wpAny_loadName_local I.ok.kind hk hn hm fin) hd
  · rcases hk with hk | hk
    · exact wpAny_Name (wpAny_loadName_cell I.ok.kind hk hc hcell fin) hd
    · exact wpAny_Name (wpAny_loadName_free I.ok.kind hk hc hcell fin hcd) hd
theorem pe_int {i j pos} : PE X (.Constant (.int i) j pos) (tC (.int i)) := fun _ _ _ H _ I h => wpAny_Constant_int ⟨.int i, H, I.tok _, ⟨_, rfl⟩, h⟩
theorem pe_bl {b j pos} : PE X (.Constant (.bool b) j pos) (tC (.bl b)) := fun _ _ _ H _ I h => Constant_bool ⟨.bl b, H, I, rfl, h⟩
theorem pe_str {x j pos} : PE X (.Constant (.str x) j pos) (tC (.str x)) := fun _ _ _ H _ I h => Calls.Constant_str ⟨.str x, H, I.tok _, ⟨_, rfl⟩, h⟩

def Gl (X : Cx) (x : Str) : Prop := X.env.kindOf x = some .globalImplicit
theorem ld_glob {E : Value → Shared → Prop} {pins : List (Addr × Obj)} {s : Shared} {σ : St} {H : Hp} {x : Str} {u : Value} {pos : Pos} {Q : Value → Shared → Prop} (I : Inv X pins σ H s) (hg : Gl X x) (hm : X.mg x = some u) (h : Q u s)
    (hd : (x == ("__debug__" : Str)) = false := by decide) : wpAny (model X.prog X.w) X.A (eval (.Name x pos) X.env) Q E s :=
  Calls.Name_function_global I.ok.kind hg (Calls.loadGlobal_global (by rw [I.ok.glob]; exact I.mod.glob.keeps I.bk) hm h) hd
theorem ld_blt {E : Value → Shared → Prop} {pins : List (Addr × Obj)} {s : Shared} {σ : St} {H : Hp} {x : Str} {u : Value} {pos : Pos} {Q : Value → Shared → Prop} (I : Inv X pins σ H s) (hg : Gl X x) (hm : X.mg x = none) (hv : bootBuiltins x = some u) (h : Q u s)
    (hn : x ≠ "__name__" := by decide) (hd : (x == ("__debug__" : Str)) = false := by decide) : wpAny (model X.prog X.w) X.A (eval (.Name x pos) X.env) Q E s := by
  obtain ⟨mb, h1, h2⟩ := I.mod.blt
  exact Calls.Name_function_global I.ok.kind hg (Calls.loadGlobal_builtin (by rw [I.ok.glob]; exact I.mod.glob.keeps I.bk) hm (by rw [I.ok.blt]; exact h1.keeps I.bk) ((h2 x hn).trans hv) h) hd
theorem pe_glob {x : Str} {v : V} {u : Value} {pos : Pos} (hg : Gl X x) (hm : X.mg x = some u) (r : RelV v u) (hd : (x == ("__debug__" : Str)) = false := by decide) : PE X (.Name x pos) (tC v) :=
  fun _ _ _ H _ I h => ld_glob I hg hm ⟨v, H, I, r, h⟩ hd
def t2I (ta tb : TE) (k : Int → Int → Hp → Prop) : St → Hp → Prop := fun σ H => ta σ H fun x H1 => tb σ H1 fun y H2 => ∃ i j, x = .int i ∧ y = .int j ∧ k i j H2
def tAdd (ta tb : TE) : TE := fun σ H Q => t2I ta tb (fun i j H2 => Q (.int (i + j)) H2) σ H
def tSub (ta tb : TE) : TE := fun σ H Q => t2I ta tb (fun i j H2 => Q (.int (i - j)) H2) σ H
def tMul (ta tb : TE) : TE := fun σ H Q => t2I ta tb (fun i j H2 => (-(2 ^ 64) < i ∧ i < 2 ^ 64) ∧ Q (.int (i * j)) H2) σ H
variable {a b : Expr} {ta tb : TE} {pos : Pos}
def PC (X : Cx) (op : CmpOp) (a b : Expr) (t : TE) : Prop :=
  ∀ (pins : List (Addr × Obj)) (s : Shared) (σ : St) (H : Hp) (Q : VK), Inv X pins σ H s → t σ H Q →
    wpAny (model X.prog X.w) X.A (eval a X.env) (fun v s₁ => wpAny (model X.prog X.w) X.A (eval b X.env) (fun u s₂ => wpAny (model X.prog X.w) X.A (compareOp op v u) (EP X pins σ Q) X.xe s₂) X.xe s₁) X.xe s
def tCmp (p : Int → Int → Bool) (ta tb : TE) : TE := fun σ H Q => t2I ta tb (fun i j H2 => Q (.bl (p i j)) H2) σ H
abbrev tLt : TE → TE → TE := tCmp fun i j => decide (i < j)
abbrev tLe : TE → TE → TE := tCmp fun i j => decide (i ≤ j)
abbrev tGt : TE → TE → TE := tCmp fun i j => decide (j < i)
abbrev tGe : TE → TE → TE := tCmp fun i j => decide (j ≤ i)
abbrev tEqI : TE → TE → TE := tCmp fun i j => decide (i = j)
abbrev tNeI : TE → TE → TE := tCmp fun i j => !decide (i = j)
def tIsN (ta : TE) : TE := fun σ H Q => ta σ H fun x H1 => Q (.bl (decide (x = .non))) H1
def tNotN (ta : TE) : TE := fun σ H Q => ta σ H fun x H1 => Q (.bl (!decide (x = .non))) H1
def tB (t : TE) : TT := fun σ H Q => t σ H fun x H1 => ∃ c, x = .bl c ∧ Q c H1
theorem pt_val {e : Expr} {t : TE} (h : PE X e t) (he : ∀ whole, isTrue e X.env whole = (do let v ← whole; standAt e.pos; holding [v] (truthy v)) := by intro _; rfl) : PT X e (tB t) := by
  intro pins s σ H Q I hw
  refine isTrue_plain (thn (h pins s σ H _ I hw) fun v s1 ⟨x, H1, I1, r1, q1⟩ => ?_) (he _)
  obtain ⟨d, rfl, q⟩ := q1
  cases r1
  exact wpAny_truthy_bool ⟨H1, I1, q⟩

variable {tA tB' : TT} {rest : List Expr}
def tAnd (t u : TT) : TT := fun σ H Q => t σ H fun c H1 => if c = true then u σ H1 Q else Q false H1
def tOr (t u : TT) : TT := fun σ H Q => t σ H fun c H1 => if c = true then Q true H1 else u σ H1 Q
def tNot (t : TT) : TT := fun σ H Q => t σ H fun c H1 => Q (!c) H1
theorem pw_and1 (ha : PT X a tA) : PW X (.BoolOp .And [a] pos) tA := by
  intro wh pins s σ H Q I h
  refine isTrue_and (thn (ha pins s σ H Q I h) fun c s1 e => ?_)
  cases c with
  | true => exact isTrue_and_nil e
  | false => exact e
theorem pw_and (ha : PT X a tA) (hb : PW X (.BoolOp .And (b :: rest) pos) tB') : PW X (.BoolOp .And (a :: b :: rest) pos) (tAnd tA tB') := by
  intro wh pins s σ H Q I h
  refine isTrue_and (thn (ha pins s σ H _ I h) fun c s1 ⟨H1, I1, q1⟩ => ?_)
  cases c with
  | true => exact hb wh pins s1 σ H1 Q I1 q1
  | false => exact ⟨H1, I1, q1⟩
theorem pt_not (ha : PT X a tA) : PT X (.UnaryOp .Not a pos) (tNot tA) := by
  intro pins s σ H Q I h
  exact isTrue_not (ha pins s σ H (fun c H1 => Q (!c) H1) I h)
def tAndV (ta tb : TE) : TE := fun σ H Q => ta σ H fun x H1 => ∃ c, x = .bl c ∧ if c = true then tb σ H1 Q else Q (.bl false) H1
def tOrV (ta tb : TE) : TE := fun σ H Q => ta σ H fun x H1 => ∃ c, x = .bl c ∧ if c = true then Q (.bl true) H1 else tb σ H1 Q
def tNotV (ta : TE) : TE := fun σ H Q => ta σ H fun x H1 => ∃ c, x = .bl c ∧ Q (.bl (!c)) H1
theorem pe_one {op} {t : TE} (h : PE X a t) : PE X (.BoolOp op [a] pos) t := fun pins s σ H Q I hw => BoolOp_one (h pins s σ H Q I hw)
theorem pe_and (ha : PE X a ta) (hb : PE X (.BoolOp .And (b :: rest) pos) tb) : PE X (.BoolOp .And (a :: b :: rest) pos) (tAndV ta tb) := by
  intro pins s σ H Q I h
  refine BoolOp_and (thn (ha pins s σ H _ I h) fun v s1 ⟨x, H1, I1, r1, q1⟩ => ?_)
  obtain ⟨c, rfl, q1⟩ := q1
  cases r1
  refine wpAny_truthy_bool ?_
  cases c with
  | true => exact hb pins s1 σ H1 Q I1 q1
  | false => exact ⟨.bl false, H1, I1, rfl, q1⟩
def tIf (t : TT) (ta tb : TE) : TE := fun σ H Q => t σ H fun c H1 => if c = true then ta σ H1 Q else tb σ H1 Q
theorem pe_ifExp {c : Expr} (hc : PT X c tA) (ha : PE X a ta) (hb : PE X b tb) : PE X (.IfExp c a b pos) (tIf tA ta tb) := by
  intro pins s σ H Q I h
  refine wpAny_IfExp (thn (hc pins s σ H _ I h) fun d s1 ⟨H1, I1, q1⟩ => ?_)
  cases d with
  | true => exact ha pins s1 σ H1 Q I1 q1
  | false => exact hb pins s1 σ H1 Q I1 q1
end
end L2

namespace L2
open PySem PySem.Spec PyProof.Rows

def SqL (K : PySem.W.Frag) (H : Hp) (a : Addr) (xs : List V) : Prop :=
  Rd H a (.lst xs) ∨
    ∃ (o : Obj) (its : Array Value) (n : Nat), K.lookup a = some o ∧ o.cls = .type "list" ∧ o.dict = none ∧ o.data = .seq its n ∧ its.size ≤ sizeLine ∧ Vals xs its.toList
def SqT (K : PySem.W.Frag) (H : Hp) (a : Addr) (xs : List V) : Prop :=
  Rd H a (.tup xs) ∨
    ∃ (o : Obj) (its : Array Value) (n : Nat), K.lookup a = some o ∧ o.cls = .type "tuple" ∧ o.data = .seq its n ∧ its.size ≤ sizeLine ∧ Vals xs its.toList
def absV : Value → Option V
  | .none => some .non
  | .bool b => some (.bl b)
  | .int i _ => some (.int i)
  | .str x _ => some (.str x)
  | .bytes b _ => some (.byt b)
  | .float b _ => some (.flt b)
  | .ref a => some (.ref a)
  | .type n => some (.ty n)
  | _ => none
theorem RelV.abs {x : V} {u : Value} (r : RelV x u) : absV u = some x := by
  cases x with
  | non => cases r; rfl
  | bl _ => cases r; rfl
  | int _ => obtain ⟨t, rfl⟩ := r; rfl
  | str _ => obtain ⟨t, rfl⟩ := r; rfl
  | byt _ => obtain ⟨t, rfl⟩ := r; rfl
  | flt _ => obtain ⟨t, rfl⟩ := r; rfl
  | ref _ => cases r; rfl
  | ty _ => cases r; rfl
theorem RelV.inj {x y : V} {u : Value} (r : RelV x u) (q : RelV y u) : x = y := Option.some.inj (r.abs.symm.trans q.abs)
theorem Vals.inj : ∀ {xs ys : List V} {us : List Value}, Vals xs us → Vals ys us → xs = ys
  | _, _, _, .nil, .nil => rfl
  | _, _, _, .cons r t, .cons r' t' => by rw [r.inj r', Vals.inj t t']
section
variable {X : Cx} {pins : List (Addr × Obj)} {σ : St} {H : Hp} {s : Shared} {a : Addr} {xs ys : List V}
theorem SqL.of {K : PySem.W.Frag} (h : H a = some (.lst xs)) : SqL K H a xs := .inl (.inl h)
theorem SqT.of {K : PySem.W.Frag} (h : H a = some (.tup xs)) : SqT K H a xs := .inl (.inl h)
theorem Inv.list (I : Inv X pins σ H s) (h : SqL X.K H a xs) : ∃ its : List Value, Vals xs its ∧ PlainL s.heap a its.toArray ∧ xs.length ≤ sizeLine := by
  rcases h with h | ⟨o, its, n, hk, hc, hd, hs, hz, r⟩
  · obtain ⟨z, its, n, r, e⟩ := h.ok I.hok
    exact ⟨its, r, ⟨_, n, e, rfl, rfl, rfl⟩, z⟩
  · refine ⟨its.toList, r, ⟨o, n, I.kIn a o hk, hc, hd, by simpa using hs⟩, ?_⟩
    have e := r.length
    simp only [Array.length_toList] at e
    omega
theorem Inv.tuple (I : Inv X pins σ H s) (h : SqT X.K H a xs) : ∃ its : List Value, Vals xs its ∧ IsTup s.heap a its.toArray ∧ xs.length ≤ sizeLine := by
  rcases h with h | ⟨o, its, n, hk, hc, hs, hz, r⟩
  · obtain ⟨z, its, r, p⟩ := h.ok I.hok
    exact ⟨its, r, p.tup, z⟩
  · refine ⟨its.toList, r, ⟨o, I.kIn a o hk, hc, n, by simpa using hs⟩, ?_⟩
    have e := r.length
    simp only [Array.length_toList] at e
    omega
theorem Inv.list_inj (I : Inv X pins σ H s) (h : SqL X.K H a xs) (h' : SqL X.K H a ys) : xs = ys := by
  obtain ⟨its, r, ⟨o, n, e, _, _, d⟩, _⟩ := I.list h
  obtain ⟨its', r', ⟨o', n', e', _, _, d'⟩, _⟩ := I.list h'
  rw [e] at e'; cases e'
  rw [d] at d'
  injection d' with d1 _
  have : its = its' := by simpa using congrArg Array.toList d1
  subst this
  exact r.inj r'
theorem Inv.tuple_inj (I : Inv X pins σ H s) (h : SqT X.K H a xs) (h' : SqT X.K H a ys) : xs = ys := by
  obtain ⟨its, r, ⟨o, e, _, n, d⟩, _⟩ := I.tuple h
  obtain ⟨its', r', ⟨o', e', _, n', d'⟩, _⟩ := I.tuple h'
  rw [e] at e'; cases e'
  rw [d] at d'
  injection d' with d1 _
  have : its = its' := by simpa using congrArg Array.toList d1
  subst this
  exact r.inj r'
end

abbrev Cx.wish (X : Cx) (E : Value → Shared → Prop) : Cx := { X with xe := E }
abbrev Cx.nox (X : Cx) : Cx := X.wish fun _ _ => False
theorem Cx.Ok.wish {X : Cx} (ok : X.Ok) (E : Value → Shared → Prop) : (X.wish E).Ok :=
  ⟨ok.mod, ok.kind, ok.glob, ok.blt, ok.above, ok.inj, ok.has, ok.cab, ok.hd, ok.frames, ok.stk, ok.exf, ok.bs, ok.bsz, ok.noex, ok.exfs, ok.funs, ok.frf⟩
theorem Cx.Ok.unwish {X : Cx} {E : Value → Shared → Prop} (ok : (X.wish E).Ok) : X.Ok :=
  ⟨ok.mod, ok.kind, ok.glob, ok.blt, ok.above, ok.inj, ok.has, ok.cab, ok.hd, ok.frames, ok.stk, ok.exf, ok.bs, ok.bsz, ok.noex, ok.exfs, ok.funs, ok.frf⟩
section
variable {X : Cx} {pins : List (Addr × Obj)} {σ : St} {H : Hp} {s : Shared} {E : Value → Shared → Prop}
theorem Inv.wish (I : Inv X pins σ H s) (E : Value → Shared → Prop) : Inv (X.wish E) pins σ H s := ⟨I.ok.wish E, I.os, I.bare, I.base, I.loc, I.cell, I.free, I.freeC, I.pin, I.hok, I.len⟩
theorem Inv.unwish (I : Inv (X.wish E) pins σ H s) : Inv X pins σ H s := ⟨I.ok.unwish, I.os, I.bare, I.base, I.loc, I.cell, I.free, I.freeC, I.pin, I.hok, I.len⟩
theorem SP.unwish {D : Ends} {f : Flow} {s' : Shared} (h : SP (X.wish E) pins D f s') : SP X pins D f s' := by
  cases f with
  | next => obtain ⟨σ', H', I, q⟩ := h; exact ⟨σ', H', I.unwish, q⟩
  | brk => obtain ⟨σ', H', I, q⟩ := h; exact ⟨σ', H', I.unwish, q⟩
  | cont => obtain ⟨σ', H', I, q⟩ := h; exact ⟨σ', H', I.unwish, q⟩
  | ret u => obtain ⟨v, σ', H', I, r, q⟩ := h; exact ⟨v, σ', H', I.unwish, r, q⟩
theorem PSs.nox {st : List Stmt} {t : TS} (h : PSs X.nox st t) : PSs X st t := fun pins s σ H D I hw =>
  wpAny_mono (h pins s σ H D (I.wish _) hw) (fun _ _ q => q.unwish) fun _ _ z => False.elim z
end

section
variable {X : Cx} {st : Stmt} {rest : List Stmt} {t u : TS} {e : Expr} {te : TE} {pos : Pos}
def tNext : TS := fun D σ H => D.nx σ H
def tSeq (t u : TS) : TS := fun D σ H => t { D with nx := u D } σ H
theorem pss_nil : PSs X [] tNext := fun _ _ σ H _ I h => wpAny_execs_nil ⟨σ, H, I, h⟩
theorem pss_cons (h1 : PS X st t) (h2 : PSs X rest u) : PSs X (st :: rest) (tSeq t u) := by
  intro pins s σ H D I h
  refine wpAny_execs_cons (thn (h1 pins s σ H { D with nx := u D } I h) fun f s1 q => ?_)
  cases f with
  | next =>
    obtain ⟨σ', H', I', q⟩ := q
    exact h2 pins s1 σ' H' D I' q
  | ret v => exact q
  | brk => exact q
  | cont => exact q
theorem pss_one (h1 : PS X st t) : PSs X [st] t := by
  intro pins s σ H D I h
  refine wpAny_execs_cons (thn (h1 pins s σ H D I h) fun f s1 q => ?_)
  cases f with
  | next => exact wpAny_execs_nil q
  | ret v => exact q
  | brk => exact q
  | cont => exact q
def tBreak : TS := fun D σ H => D.bk σ H
def tCont : TS := fun D σ H => D.ct σ H
theorem Inv.quiet {pins : List (Addr × Obj)} {σ : St} {H : Hp} {s : Shared} (I : Inv X pins σ H s) : interactive X.env = false := by simp [interactive, I.ok.kind]
def tDrop (te : TE) : TS := fun D σ H => te σ H fun _ H1 => D.nx σ H1
theorem ps_expr (he : PE X e te) (hs : swapsWith e none pos.line X.env = pure false := by rfl) : PS X (.Expr e pos) (tDrop te) := by
  intro pins s σ H D I h
  exact wpAny_Expr_any (thn (he pins s σ H _ I h) fun v s1 ⟨x, H1, I1, r1, q1⟩ => ⟨σ, H1, I1, q1⟩) I.quiet hs
def tRet (te : TE) : TS := fun D σ H => te σ H D.rt
theorem ps_ret (he : PE X e te) : PS X (.Return (some e) pos) (tRet te) := by
  intro pins s σ H D I h
  exact wpAny_Return_some (thn (he pins s σ H _ I h) fun v s1 ⟨x, H1, I1, r1, q1⟩ => ⟨x, σ, H1, I1, r1, q1⟩)
def tRetN : TS := fun D _ H => D.rt .non H
def tIfS (c : TT) (t u : TS) : TS := fun D σ H => c σ H fun b H1 => if b = true then t D σ H1 else u D σ H1
theorem ps_if {c : Expr} {a b : List Stmt} {tc : TT} (hc : PT X c tc) (ha : PSs X a t) (hb : PSs X b u) : PS X (.If c a b pos) (tIfS tc t u) := by
  intro pins s σ H D I h
  refine wpAny_If (thn (hc pins s σ H _ I h) fun d s1 ⟨H1, I1, q1⟩ => ?_)
  cases d with
  | true => exact ha pins s1 σ H1 D I1 q1
  | false => exact hb pins s1 σ H1 D I1 q1
def tNever : TS := fun _ _ _ => False
end

abbrev TG := V → St → Hp → (St → Hp → Prop) → Prop
abbrev TGs := List V → St → Hp → (St → Hp → Prop) → Prop
def PG (X : Cx) (target : Expr) (t : TG) : Prop :=
  ∀ (pins : List (Addr × Obj)) (s : Shared) (σ : St) (H : Hp) (v : V) (u : Value) (Q : St → Hp → Prop), Inv X pins σ H s → RelV v u → t v σ H Q →
    wpAny (model X.prog X.w) X.A (assign target X.env u) (fun _ s' => ∃ σ' H', Inv X pins σ' H' s' ∧ Q σ' H') X.xe s
def PGs (X : Cx) (ts : List Expr) (t : TGs) : Prop :=
  ∀ (pins : List (Addr × Obj)) (s : Shared) (σ : St) (H : Hp) (vs : List V) (us : List Value) (Q : St → Hp → Prop), Inv X pins σ H s → Vals vs us → t vs σ H Q →
    wpAny (model X.prog X.w) X.A (assignInOrder ((assignEach ts X.env).map (·.2)) us) (fun _ s' => ∃ σ' H', Inv X pins σ' H' s' ∧ Q σ' H') X.xe s
abbrev TSet := V → V → V → Hp → (Hp → Prop) → Prop
def PSet (X : Cx) (t : TSet) : Prop :=
  ∀ (pins : List (Addr × Obj)) (s : Shared) (σ : St) (H : Hp) (o i v : V) (ov iv u : Value) (Q : Hp → Prop), Inv X pins σ H s → RelV o ov → RelV i iv → RelV v u → t o i v H Q →
    wpAny (model X.prog X.w) X.A (setItem ov iv u) (fun _ s' => ∃ H', Inv X pins σ H' s' ∧ Q H') X.xe s
abbrev TIp := V → V → Hp → VK → Prop
def PIp (X : Cx) (op : Operator) (t : TIp) : Prop :=
  ∀ (pins : List (Addr × Obj)) (s : Shared) (σ : St) (H : Hp) (x y : V) (v u : Value) (Q : VK), Inv X pins σ H s → RelV x v → RelV y u → t x y H Q →
    wpAny (model X.prog X.w) X.A (inplaceOp op v u) (EP X pins σ Q) X.xe s
section
variable {X : Cx} {pos : Pos}
def gName (i : Nat) : TG := fun v σ H Q => Q (σ.set i (some v)) H
theorem pg_name {i : Nat} {x : Str} (hN : X.N.Nodup) (hi : X.N[i]? = some x) (hx : Loc X.env.scope x) (hf : X.fn x = true ∨ X.env.scope.names.lookup x = some .local := by first | exact .inl rfl | exact .inr rfl | assumption) : PG X (.Name x pos) (gName i) := by
  intro pins s σ H v u Q I r h
  exact wpAny_assign_Name (store_ok I hN hi hx r (fun s' I' => ⟨_, H, I', h⟩) hf)
def gNil : TGs := fun vs σ H Q => vs = [] ∧ Q σ H
def gCons (t : TG) (u : TGs) : TGs := fun vs σ H Q => ∃ v r, vs = v :: r ∧ t v σ H fun σ' H' => u r σ' H' Q
theorem pgs_nil : PGs X [] gNil := by
  intro pins s σ H vs us Q I r h
  obtain ⟨e, h⟩ := h
  subst e
  cases r
  exact assignInOrder_nil ⟨σ, H, I, h⟩
theorem pgs_cons {e : Expr} {es : List Expr} {t : TG} {u : TGs} (h1 : PG X e t) (h2 : PGs X es u)
    (hs : (assignEach (e :: es) X.env).map (·.2) = assign e X.env :: (assignEach es X.env).map (·.2) := by rfl) : PGs X (e :: es) (gCons t u) := by
  intro pins s σ H vs us Q I r h
  obtain ⟨v, vr, e1, h⟩ := h
  subst e1
  cases r with
  | cons r rr =>
    rw [hs]
    refine assignInOrder_cons (thn (h1 pins s σ H _ _ _ I r h) fun _ s1 ⟨σ1, H1, I1, q1⟩ => ?_)
    exact h2 pins s1 σ1 H1 _ _ Q I1 rr q1
def gTup (K : PySem.W.Frag) (n : Nat) (t : TGs) : TG := fun v σ H Q => ∃ a xs, v = .ref a ∧ SqT K H a xs ∧ xs.length = n ∧ t xs σ H Q
theorem pg_tup {es : List Expr} {k : Nat} {t : TGs} {n : Nat} (hc : X.calm = true) (h : PGs X es t)
    (hn : (assignEach es X.env).length = n := by rfl) (hst : (assignEach es X.env).findIdx? (·.1) = none := by rfl) : PG X (.Tuple es k pos) (gTup X.K n t) := by
  intro pins s σ H v u Q I r hw
  obtain ⟨a, xs, e1, hq, hl, hw⟩ := hw
  subst e1
  cases r
  obtain ⟨its, rv, ht, hz⟩ := I.tuple hq
  refine assign_Tuple_tuple (I.ok.hd hc) ht (by simp [hn, ← hl, rv.length]) hst fun h' hx => ?_
  have I1 : Inv X pins σ H { s with heap := h' } := I.kept (t' := s.toks) fun b o e => hx b o (Nat.ne_of_lt (Heap.lt_size e)) e
  exact h pins _ σ H xs _ Q I1 (by simpa using rv) hw
def gSub (to ti : TE) (t : TSet) : TG := fun v σ H Q => to σ H fun o H1 => ti σ H1 fun i H2 => t o i v H2 fun H3 => Q σ H3
theorem pg_sub {o i : Expr} {to ti : TE} {t : TSet} (ho : PE X o to) (hi : PE X i ti) (hs : PSet X t)
    (ha : ∀ v, assign (.Subscript o i pos) X.env v = (do
      let ov ← holding [v] (eval o X.env)
      let iv ← holding [v, ov] (eval i X.env)
      standAt pos
      holding [v, ov, iv] (setItem ov iv v)
      release [v, ov, iv] []) := by intro _; rfl) : PG X (.Subscript o i pos) (gSub to ti t) := by
  intro pins s σ H v u Q I r h
  rw [ha]
  refine wpAny_bind (wpAny_holding (thn (ho pins s σ H _ I h) fun ov s1 ⟨x, H1, I1, r1, q1⟩ => ?_))
  refine wpAny_bind (wpAny_holding (thn (hi pins s1 σ H1 _ I1 q1) fun iv s2 ⟨y, H2, I2, r2, q2⟩ => ?_))
  refine wpAny_bind (wpAny_standAt (wpAny_bind (wpAny_holding (thn (hs pins s2 σ H2 x y v ov iv u _ I2 r1 r2 r q2) fun _ s3 ⟨H3, I3, q3⟩ => ?_))))
  exact wpAny_release ⟨σ, H3, I3, q3⟩
def tAsg (te : TE) (g : TG) : TS := fun D σ H => te σ H fun x H1 => g x σ H1 D.nx
theorem ps_asg {tg e : Expr} {te : TE} {g : TG} (he : PE X e te) (hg : PG X tg g) (hs : swapsWithSole [tg] e pos.line X.env = pure false := by rfl) (hw : swappedStores [tg] e X.env = pure none := by rfl)
    (h1 : (assignEach [tg] X.env).map (·.2) = [assign tg X.env] := by rfl) : PS X (.Assign [tg] e pos) (tAsg te g) := by
  intro pins s σ H D I h
  refine wpAny_Assign_stores (thn (he pins s σ H _ I h) fun v s1 ⟨x, H1, I1, r1, q1⟩ => ?_) hs hw
  rw [h1]
  exact thn (hg pins s1 σ H1 x v _ I1 r1 q1) fun _ s2 q => q
theorem ps_set {i : Nat} {x : Str} {e : Expr} {te : TE} {pos' : Pos} (hN : X.N.Nodup) (hi : X.N[i]? = some x) (hx : Loc X.env.scope x) (he : PE X e te) (hs : swapsWith e (some (.Name x pos')) pos.line X.env = pure false := by rfl) (hf : X.fn x = true ∨ X.env.scope.names.lookup x = some .local := by first | exact .inl rfl | exact .inr rfl | assumption) :
    PS X (.Assign [.Name x pos'] e pos) (tAsg te (gName i)) := by
  intro pins s σ H D I h
  refine wpAny_Assign_Name (thn (he pins s σ H _ I h) fun v s1 ⟨y, H1, I1, r1, q1⟩ => ?_) hs
  exact store_ok I1 hN hi hx r1 (fun s2 I2 => ⟨_, H1, I2, q1⟩) hf
def tPar (i j : Nat) (ta : TA) : TS := fun D σ H => ta σ H fun vs H1 => ∃ v w, vs = [v, w] ∧ D.nx ((σ.set i (some v)).set j (some w)) H1
theorem ps_par {i j : Nat} {x y : Str} {a b : Expr} {ta : TA} {px py pt : Pos} {kt k2 pt2} (hc : X.calm = true) (hN : X.N.Nodup) (hi : X.N[i]? = some x) (hj : X.N[j]? = some y) (hij : i ≠ j)
    (hx : X.env.scope.names.lookup x = some .local) (hy : X.env.scope.names.lookup y = some .local) (ha : PA X [a, b] ta)
    (hw : swappedStores [.Tuple [.Name x px, .Name y py] kt pt] (.Tuple [a, b] k2 pt2) X.env = pure (some [x, y]))
    (hs : swapsWithSole [.Tuple [.Name x px, .Name y py] kt pt] (.Tuple [a, b] k2 pt2) pos.line X.env = pure false := by rfl) :
    PS X (.Assign [.Tuple [.Name x px, .Name y py] kt pt] (.Tuple [a, b] k2 pt2) pos) (tPar i j ta) := by
  intro pins s σ H D I h
  rw [exec_Assign_arm]
  refine wpAny_bind (wpAny_standAt ?_)
  rw [hs]
  refine wpAny_bind (wpAny_pure ?_)
  rw [if_neg (by decide)]
  refine wpAny_bind (Tuple_ (thn (ha _ pins s σ H _ I h) fun us s1 ⟨vs, H1, I1, r1, q1⟩ => ?_))
  obtain ⟨v, w, e1, q1⟩ := q1
  subst e1
  obtain ⟨u1, u2, rfl, rv, rw'⟩ : ∃ u1 u2, us = [u1, u2] ∧ RelV v u1 ∧ RelV w u2 := by
    cases r1 with
    | cons p q =>
      cases q with
      | cons p' q' =>
        cases q'
        exact ⟨_, _, rfl, p, p'⟩
  refine wpAny_newObj_type ?_ (by show 2 ≤ sizeLine; decide)
  have I2 : Inv X pins σ H1 { s1 with heap := s1.heap.push { cls := .type "tuple", data := .seq [u1, u2].toArray } } := I1.kept (t' := s1.toks) fun b o e => Heap.get?_push_of_some _ e
  rw [hw]
  refine wpAny_bind (wpAny_pure ?_)
  show wpAny (model X.prog X.w) X.A (do rule "assign.swapped-stores"; let items ← unpackItems (.ref s1.heap.objs.size) 2 none; assignInOrder [fun v => bindName X.env y v, fun v => bindName X.env x v] items.reverse; pure Flow.next) _ _ _
  refine wpAny_bind (wpAny_rule (wpAny_bind (unpackItems_tuple (items := #[u1, u2]) (I.ok.hd hc) (IsTup.new s1.heap _) fun h' hx' => ?_)))
  have I3 := I2.kept (h' := h') (t' := s1.toks) fun b o e => hx' b o (Nat.ne_of_lt (Heap.lt_size e)) e
  show wpAny _ _ (assignInOrder [fun v => bindName X.env y v, fun v => bindName X.env x v] [u2, u1] >>= fun _ => pure Flow.next) _ _ _
  refine wpAny_bind (assignInOrder_cons (wpAny_bindName (store_ok I3 hN hj (.inl hy) rw' (fun s2 I4 => ?_) (.inr hy))))
  refine assignInOrder_cons (wpAny_bindName (store_ok I4 hN hi (.inl hx) rv (fun s3 I5 => assignInOrder_nil (wpAny_pure ?_)) (.inr hx)))
  rw [List.set_comm _ _ (Ne.symm hij)] at I5
  exact ⟨_, H1, I5, q1⟩
def tAug (i : Nat) (te : TE) (ti : TIp) : TS := fun D σ H => ∃ x, σ[i]? = some (some x) ∧ te σ H fun y H1 => ti x y H1 fun z H2 => D.nx (σ.set i (some z)) H2
theorem ps_aug {i : Nat} {x : Str} {e : Expr} {te : TE} {op : Operator} {ti : TIp} {pos' : Pos} (hN : X.N.Nodup) (hi : X.N[i]? = some x) (hx : Loc X.env.scope x) (he : PE X e te) (ho : PIp X op ti) (hf : X.fn x = true ∨ X.env.scope.names.lookup x = some .local := by first | exact .inl rfl | exact .inr rfl | assumption) :
    PS X (.AugAssign (.Name x pos') op e pos) (tAug i te ti) := by
  intro pins s σ H D I h
  obtain ⟨v, e1, h⟩ := h
  obtain ⟨m, hn, hl⟩ := I.loc
  have vis : Vis X.env.scope x := by rcases hx with k | k; exact .inl k; exact .inr (.inl k)
  obtain ⟨u, r, l⟩ := hl i x v hi e1 vis
  refine wpAny_AugAssign_Name ?_
  have go : wpAny (model X.prog X.w) X.A (eval e X.env) (fun w s₂ => wpAny (model X.prog X.w) X.A (inplaceOp op u w) (fun r s₃ => wpAny (model X.prog X.w) X.A (storeName X.env x r) (fun _ => SP X pins D .next) X.xe s₃) X.xe s₂) X.xe s := by
    refine thn (he pins s σ H _ I h) fun w s1 ⟨y, H1, I1, r1, q1⟩ => ?_
    refine thn (ho pins s1 σ H1 v y u w _ I1 r r1 q1) fun z s2 ⟨zv, H2, I2, r2, q2⟩ => ?_
    exact store_ok I2 hN hi hx r2 (fun s3 I3 => ⟨_, H2, I3, q2⟩) hf
  rcases l with ⟨hk, hm⟩ | ⟨hk, c, hc, hcell⟩
  · exact wpAny_loadName_local I.ok.kind hk hn hm go
  · rcases hk with hk | hk
    · exact wpAny_loadName_cell I.ok.kind hk hc hcell go
    · rcases hx with k | k
      · have : X.env.scope.names.lookup x = some .free := hk
        rw [k] at this; cases this
      · have : X.env.scope.names.lookup x = some .free := hk
        rw [k] at this; cases this
def tAugS (to ti te : TE) (tget : V → V → Hp → VK → Prop) (tip : TIp) (tset : TSet) : TS := fun D σ H => to σ H fun o H1 => ti σ H1 fun i H2 => tget o i H2 fun x H3 => te σ H3 fun y H4 => tip x y H4 fun z H5 => tset o i z H5 fun H6 => D.nx σ H6
def PGet (X : Cx) (t : V → V → Hp → VK → Prop) : Prop :=
  ∀ (pins : List (Addr × Obj)) (s : Shared) (σ : St) (H : Hp) (o i : V) (ov iv : Value) (Q : VK), Inv X pins σ H s → RelV o ov → RelV i iv → t o i H Q →
    wpAny (model X.prog X.w) X.A (getItem ov iv) (EP X pins σ Q) X.xe s
def ipI (f : Int → Int → Int) : TIp := fun x y H Q => ∃ i j, x = .int i ∧ y = .int j ∧ Q (.int (f i j)) H
theorem ip_add : PIp X .Add (ipI fun i j => i + j) := by
  intro pins s σ H x y v u Q I r1 r2 h
  obtain ⟨i, j, e1, e2, q⟩ := h
  subst e1; subst e2
  obtain ⟨t, rfl⟩ := r1
  obtain ⟨t', rfl⟩ := r2
  exact iadd_int ⟨.int _, H, I.tok _, ⟨_, rfl⟩, q⟩
end

section
variable {X : Cx} {pos : Pos}
def tWhile (c : TT) (tb : TS) : TS := fun D σ H => ∃ W : Nat → St → Hp → Prop, (∃ m, W m σ H) ∧ ∀ m σ H, W m σ H →
  c σ H fun b H1 => if b = true then ∃ N : St → Hp → Prop, (∀ σ' H', N σ' H' → ∃ m', m' < m ∧ W m' σ' H') ∧ tb { D with nx := N, ct := N, bk := D.nx } σ H1 else D.nx σ H1
theorem ps_while {c : Expr} {body : List Stmt} {tc : TT} {tb : TS} (hp : PassesOwn (model X.prog X.w) X.A X.env X.xe) (hc : PT X c tc) (hb : PSs X body tb) : PS X (.While c body [] pos) (tWhile tc tb) := by
  intro pins s σ H D I h
  obtain ⟨W, ⟨m0, w0⟩, turn⟩ := h
  refine wpAny_While (codeAny_whileLoop (fun n s' => ∃ σ' H', Inv X pins σ' H' s' ∧ W n σ' H') ?_ m0 ⟨σ, H, I, w0⟩)
  rintro n s1 ⟨σ1, H1, I1, w1⟩
  refine wpAny_passesOwn hp (thn (hc pins s1 σ1 H1 _ I1 (turn n σ1 H1 w1)) fun b s2 ⟨H2, I2, q2⟩ => ?_)
  cases b with
  | true =>
    obtain ⟨N, hN, q2⟩ := q2
    rw [if_pos rfl]
    refine wpAny_passesOwn hp (thn (hb pins s2 σ1 H2 _ I2 q2) fun f s3 q3 => ?_)
    cases f with
    | next =>
      obtain ⟨σ3, H3, I3, n3⟩ := q3
      obtain ⟨m', hm, w3⟩ := hN σ3 H3 n3
      exact ⟨m', hm, σ3, H3, I3, w3⟩
    | cont =>
      obtain ⟨σ3, H3, I3, n3⟩ := q3
      obtain ⟨m', hm, w3⟩ := hN σ3 H3 n3
      exact ⟨m', hm, σ3, H3, I3, w3⟩
    | brk => exact q3
    | ret v => exact q3
  | false =>
    rw [if_neg Bool.false_ne_true]
    exact wpAny_execs_nil ⟨σ1, H2, I2, q2⟩
end

structure It where
  go : Nat → Hp → Prop
  yld : Nat → Hp → V → Hp → Prop
  stop : Nat → Hp → Prop
def FpOk (X : Cx) (pins : List (Addr × Obj)) (H : Hp) (b : Addr) : Prop :=
  H b = none ∧ b ≠ X.env.locals ∧ b ∉ X.fs ∧ (b ∈ X.ex ∨ X.s₀.heap.objs.size ≤ b) ∧ (∀ x c, X.env.cells.lookup x = some c → c ≠ b) ∧ ∀ p ∈ X.pn ++ pins, p.1 ≠ b
theorem Inv.fpOk {X : Cx} {pins : List (Addr × Obj)} {σ : St} {H H' : Hp} {s : Shared} {b : Addr} (I : Inv X pins σ H s) (hb : s.heap.objs.size ≤ b) (hn : H' b = none) : FpOk X pins H' b := by
  refine ⟨hn, Nat.ne_of_gt (Nat.lt_of_lt_of_le I.lt hb), I.nofs hb, .inr (Nat.le_trans I.sz hb), fun x c e z => ?_, fun p hp z => ?_⟩
  · obtain ⟨v, q⟩ := I.cell x c e
    exact absurd (Nat.lt_of_lt_of_le q.lt (by rw [z]; exact hb)) (Nat.lt_irrefl _)
  · exact absurd (Nat.lt_of_lt_of_le (Heap.lt_size (I.pin p hp).1) (by rw [z]; exact hb)) (Nat.lt_irrefl _)
structure Turn (P : Program) (w : World) (K : PySem.W.Frag) (tg : Expr) (J : It) (fp : List Addr) (it : Addr) (tn : Nat → Heap → Prop) : Prop where
  mem : it ∈ fp
  obj : ∀ i h, tn i h → ∀ b ∈ fp, ∃ o, h.get? b = some o ∧ ∀ v, o.data ≠ .cell v
  keep : ∀ i h h', tn i h → (∀ b ∈ fp, ∀ o, h.get? b = some o → h'.get? b = some o) → tn i h'
  item : ∀ (X : Cx), X.prog = P → X.w = w → X.K = K → X.calm = true → ∀ (i : Nat) (pins : List (Addr × Obj)) (s : Shared) (σ : St) (H : Hp) (E : Value → Shared → Prop), Inv X pins σ H s → (∀ b ∈ fp, FpOk X pins H b) → tn i s.heap → J.go i H →
    wpAny (model P w) X.A (pyNext (.ref it)) (fun r s1 => ∃ u, r = some u ∧
      wpAny (model P w) X.A (letOwnedTupleGo tg (.ref it) u) (fun _ s2 => ∃ x H', Inv X pins σ H' s2 ∧ RelV x u ∧ J.yld i H x H' ∧ tn (i + 1) s2.heap ∧ ∀ b ∈ fp, H' b = none) E s1) E s
  done : ∀ (X : Cx), X.prog = P → X.w = w → X.K = K → X.calm = true → ∀ (i : Nat) (pins : List (Addr × Obj)) (s : Shared) (σ : St) (H : Hp) (E : Value → Shared → Prop), Inv X pins σ H s → (∀ b ∈ fp, FpOk X pins H b) → tn i s.heap → J.stop i H →
    wpAny (model P w) X.A (pyNext (.ref it)) (fun r s1 => r = none ∧ Inv X pins σ H s1) E s
  self : ∀ (A : Around) (i : Nat) (s : Shared) (Q : Value → Shared → Prop) (E : Value → Shared → Prop), tn i s.heap → Q (.ref it) s → wpAny (model P w) A (pyIter (.ref it)) Q E s
abbrev TI := St → Hp → (It → Hp → Prop) → Prop
def PIE (X : Cx) (pins : List (Addr × Obj)) (σ : St) (tg : Expr) (R : It → Hp → Prop) (itv : Value) (s2 : Shared) : Prop :=
  ∃ (it : Addr) (fp : List Addr) (tn : Nat → Heap → Prop) (J : It) (H' : Hp), itv = .ref it ∧ Inv X pins σ H' s2 ∧ Turn X.prog X.w X.K tg J fp it tn ∧ tn 0 s2.heap ∧ (∀ b ∈ fp, FpOk X pins H' b) ∧ R J H'
def PI (X : Cx) (tg iter : Expr) (wi : TI) : Prop :=
  ∀ (pins : List (Addr × Obj)) (s : Shared) (σ : St) (H : Hp) (R : It → Hp → Prop), Inv X pins σ H s → wi σ H R →
    wpAny (model X.prog X.w) X.A (eval iter X.env) (fun v s1 => wpAny (model X.prog X.w) X.A (pyIter v) (PIE X pins σ tg R) X.xe s1) X.xe s

theorem go_of {M : Model} {A : Around} {E : Value → Shared → Prop} {s : Shared} {tg : Expr} {it : Addr} {u : Value} {o : Obj} {n : String} {vs : Array Value} {Q : Unit → Shared → Prop} (ho : s.heap.get? it = some o) (hc : o.cls = .type n) (hd : o.data = .fields vs)
    (hn : ["enumerate", "zip", "dict_itemiterator", "dict_reverseitemiterator", "odict_iterator", "itertools.zip_longest", "itertools.pairwise"].contains n = false) (hQ : Q () s) : wpAny M A (letOwnedTupleGo tg (.ref it) u) Q E s := by
  unfold letOwnedTupleGo
  cases tg <;> first
    | exact wpAny_pure hQ
    | (cases u <;> first
        | exact wpAny_pure hQ
        | (refine wpAny_bind (wpAny_load ho ?_)
           rw [hc, hd]
           show wpAny M A (if (["enumerate", "zip", "dict_itemiterator", "dict_reverseitemiterator", "odict_iterator", "itertools.zip_longest", "itertools.pairwise"].contains n && vs[0]? == some (rawInt _)) = true then _ else _) Q E s
           rw [if_neg (by intro h; rw [hn, Bool.false_and] at h; cases h)]
           exact wpAny_pure hQ))

def Itl (K : PySem.W.Frag) (a : Addr) : It :=
  ⟨fun i H => ∃ xs x, SqL K H a xs ∧ xs[i]? = some x, fun i H x H' => H' = H ∧ ∀ xs, SqL K H a xs → xs[i]? = some x, fun i H => ∃ xs, SqL K H a xs ∧ xs.length ≤ i⟩
def Itt (K : PySem.W.Frag) (a : Addr) : It :=
  ⟨fun i H => ∃ xs x, SqT K H a xs ∧ xs[i]? = some x, fun i H x H' => H' = H ∧ ∀ xs, SqT K H a xs → xs[i]? = some x, fun i H => ∃ xs, SqT K H a xs ∧ xs.length ≤ i⟩
def Itr (lo : Int) (n : Nat) : It := ⟨fun i _ => i < n, fun i H x H' => H' = H ∧ x = .int (lo + i), fun i _ => n ≤ i⟩
theorem turn_list {P : Program} {w : World} {K : PySem.W.Frag} {tg : Expr} (a it : Addr) : Turn P w K tg (Itl K a) [it] it (fun i h => h.IsListIter it a i) where
  mem := by simp
  obj := fun i h st b hb => by
    have e : b = it := by simpa using hb
    subst e
    obtain ⟨o, e, c, d⟩ := st
    exact ⟨o, e, fun v z => by rw [d] at z; cases z⟩
  keep := fun i h h' st k => st.at fun o e => k it (by simp) o e
  item := by
    intro X hP hw hK hc i pins s σ H E I hf st hg
    subst hP hw hK
    obtain ⟨xs, x, hq, hx⟩ := hg
    obtain ⟨its, rv, p, hz⟩ := I.list hq
    obtain ⟨u, hu, ru⟩ := rv.get hx
    obtain ⟨f0, f1, f2, f3, f4, f5⟩ := hf it (by simp)
    refine wpAny_pyNext_list_item st p.isList (x := u) (by simpa using hu) fun h' st' sb => ?_
    have I1 : Inv X pins σ H { s with heap := h' } := I.turned (t' := s.toks) (fun b o hb e => (sb.2 b hb).trans e) f0 f1 f3 f4 f5
    obtain ⟨o, e, c, d⟩ := id st'
    exact ⟨u, rfl, go_of (s := { s with heap := h' }) e c d (by decide) ⟨x, H, I1, ru, ⟨rfl, fun ys hy => by rw [I.list_inj hy hq]; exact hx⟩, st', fun b hb => (hf b hb).1⟩⟩
  done := by
    intro X hP hw hK hc i pins s σ H E I hf st hg
    subst hP hw hK
    obtain ⟨xs, hq, hx⟩ := hg
    obtain ⟨its, rv, p, hz⟩ := I.list hq
    obtain ⟨f0, f1, f2, f3, f4, f5⟩ := hf it (by simp)
    have hl := rv.length
    exact wpAny_pyNext_list_end (I.ok.hd hc) st p.isList (by simp; omega) fun h' eb => ⟨rfl, I.turned (t' := s.toks) (fun b o hb e => eb b o hb e) f0 f1 f3 f4 f5⟩
  self := fun _ _ _ _ _ st h => wpAny_pyIter_listiter st h
theorem turn_tuple {P : Program} {w : World} {K : PySem.W.Frag} {tg : Expr} (a it : Addr) : Turn P w K tg (Itt K a) [it] it (fun i h => h.IsTupleIter it a i) where
  mem := by simp
  obj := fun i h st b hb => by
    have e : b = it := by simpa using hb
    subst e
    obtain ⟨o, e, c, d⟩ := st
    exact ⟨o, e, fun v z => by rw [d] at z; cases z⟩
  keep := fun i h h' st k => st.at fun o e => k it (by simp) o e
  item := by
    intro X hP hw hK hc i pins s σ H E I hf st hg
    subst hP hw hK
    obtain ⟨xs, x, hq, hx⟩ := hg
    obtain ⟨its, rv, p, hz⟩ := I.tuple hq
    obtain ⟨u, hu, ru⟩ := rv.get hx
    obtain ⟨f0, f1, f2, f3, f4, f5⟩ := hf it (by simp)
    refine wpAny_pyNext_tuple_item st (show s.heap.IsTuple a its.toArray from p) (x := u) (by simpa using hu) fun h' st' sb => ?_
    have I1 : Inv X pins σ H { s with heap := h' } := I.turned (t' := s.toks) (fun b o hb e => (sb.2 b hb).trans e) f0 f1 f3 f4 f5
    obtain ⟨o, e, c, d⟩ := id st'
    exact ⟨u, rfl, go_of (s := { s with heap := h' }) e c d (by decide) ⟨x, H, I1, ru, ⟨rfl, fun ys hy => by rw [I.tuple_inj hy hq]; exact hx⟩, st', fun b hb => (hf b hb).1⟩⟩
  done := by
    intro X hP hw hK hc i pins s σ H E I hf st hg
    subst hP hw hK
    obtain ⟨xs, hq, hx⟩ := hg
    obtain ⟨its, rv, p, hz⟩ := I.tuple hq
    obtain ⟨f0, f1, f2, f3, f4, f5⟩ := hf it (by simp)
    have hl := rv.length
    exact wpAny_pyNext_tuple_end (I.ok.hd hc) st (show s.heap.IsTuple a its.toArray from p) (by simp; omega) fun h' eb => ⟨rfl, I.turned (t' := s.toks) (fun b o hb e => eb b o hb e) f0 f1 f3 f4 f5⟩
  self := fun _ _ _ _ _ st h => wpAny_pyIter_tupleiter st h
theorem turn_range {P : Program} {w : World} {K : PySem.W.Frag} {tg : Expr} (it : Addr) (lo : Int) (n : Nat) : Turn P w K tg (Itr lo n) [it] it (fun i h => IsRangeIter h it (lo + (i : Nat) * 1) ((n : Int) - (i : Nat)) 1) where
  mem := by simp
  obj := fun i h st b hb => by
    have e : b = it := by simpa using hb
    subst e
    exact ⟨_, st, fun v z => by
      have z' : Data.fields _ = Data.cell v := z
      cases z'⟩
  keep := fun i h h' st k => k it (by simp) _ st
  item := by
    intro X hP hw hK hc i pins s σ H E I hf st hg
    subst hP hw hK
    obtain ⟨f0, f1, f2, f3, f4, f5⟩ := hf it (by simp)
    have W := Walks.range (prog := X.prog) (w := X.w) (I.ok.hd hc) it lo 1 n
    refine W.item i s _ _ hg st fun v h' tk hv st' kk => ?_
    obtain ⟨t, rfl⟩ := hv
    have I1 : Inv X pins σ H { s with heap := h', toks := tk } := I.turned (fun b o hb e => kk b o (by simpa using hb) e) f0 f1 f3 f4 f5
    refine ⟨_, rfl, go_of (s := { s with heap := h', toks := tk }) (n := "range_iterator") st' rfl rfl (by decide) ⟨.int (lo + i), H, I1, ⟨t, ?_⟩, ⟨rfl, rfl⟩, st', fun b hb => (hf b hb).1⟩⟩
    rw [Int.mul_one]
  done := by
    intro X hP hw hK hc i pins s σ H E I hf st hg
    subst hP hw hK
    obtain ⟨f0, f1, f2, f3, f4, f5⟩ := hf it (by simp)
    exact wpAny_pyNext_range_end (I.ok.hd hc) st (by have : n ≤ i := hg; omega) fun h' eb => ⟨rfl, I.turned (t' := s.toks) (fun b o hb e => eb b o hb e) f0 f1 f3 f4 f5⟩
  self := fun _ _ _ _ _ st h => wpAny_pyIter_rangeiter st h
end L2

namespace L2
open PySem PySem.Spec PyProof.Rows
section
variable {X : Cx} {tg : Expr}
def iList (K : PySem.W.Frag) (tl : TE) : TI := fun σ H R => tl σ H fun x H1 => ∃ a, x = .ref a ∧ (∃ xs, SqL K H1 a xs) ∧ R (Itl K a) H1
def iTup (K : PySem.W.Frag) (tl : TE) : TI := fun σ H R => tl σ H fun x H1 => ∃ a, x = .ref a ∧ (∃ xs, SqT K H1 a xs) ∧ R (Itt K a) H1
theorem pi_list {l : Expr} {tl : TE} (hl : PE X l tl) : PI X tg l (iList X.K tl) := by
  intro pins s σ H R I h
  refine thn (hl pins s σ H _ I h) fun v s1 ⟨x, H1, I1, r1, q1⟩ => ?_
  obtain ⟨a, e, ⟨xs, hq⟩, q⟩ := q1
  subst e
  cases r1
  obtain ⟨its, rv, p, hz⟩ := I1.list hq
  refine wpAny_pyIter_list p.isList ?_
  refine ⟨s1.heap.objs.size, [s1.heap.objs.size], _, _, H1, rfl, I1.kept (t' := s1.toks) fun b o e => Heap.get?_push_of_some _ e, turn_list a _, ⟨_, Heap.get?_push_size _ rfl, rfl, rfl⟩, fun b hb => ?_, q⟩
  have e : b = s1.heap.objs.size := by simpa using hb
  subst e
  exact I1.fpOk (Nat.le_refl _) (I1.hok.fresh (Nat.le_refl _))
theorem pi_tup {l : Expr} {tl : TE} (hl : PE X l tl) : PI X tg l (iTup X.K tl) := by
  intro pins s σ H R I h
  refine thn (hl pins s σ H _ I h) fun v s1 ⟨x, H1, I1, r1, q1⟩ => ?_
  obtain ⟨a, e, ⟨xs, hq⟩, q⟩ := q1
  subst e
  cases r1
  obtain ⟨its, rv, p, hz⟩ := I1.tuple hq
  refine wpAny_pyIter_tuple (show s1.heap.IsTuple a its.toArray from p) ?_
  refine ⟨s1.heap.objs.size, [s1.heap.objs.size], _, _, H1, rfl, I1.kept (t' := s1.toks) fun b o e => Heap.get?_push_of_some _ e, turn_tuple a _, ⟨_, Heap.get?_push_size _ rfl, rfl, rfl⟩, fun b hb => ?_, q⟩
  have e : b = s1.heap.objs.size := by simpa using hb
  subst e
  exact I1.fpOk (Nat.le_refl _) (I1.hok.fresh (Nat.le_refl _))
theorem range_it {pins : List (Addr × Obj)} {σ : St} {H : Hp} {s : Shared} {R : It → Hp → Prop} {E : Value → Shared → Prop} {lo hi : Int} {t u v : Tok} {tk : Nat} (I : Inv X pins σ H s) (h1 : -(2 ^ 62) ≤ lo) (h2 : lo < 2 ^ 62) (h3 : -(2 ^ 62) ≤ hi) (h4 : hi < 2 ^ 62)
    (q : R (Itr lo (hi - lo).toNat) H) : wpAny (model X.prog X.w) X.A (pyIter (.ref s.heap.objs.size)) (PIE X pins σ tg R) E { s with heap := s.heap.push { cls := .type "range", data := .fields #[.int lo t, .int hi u, .int 1 v] }, toks := tk } := by
  refine wpAny_pyIter_range (IsRange.new ..) (small_one h1 h2 h3 h4) ?_
  have I1 : Inv X pins σ H { s with heap := s.heap.push { cls := .type "range", data := .fields #[.int lo t, .int hi u, .int 1 v] }, toks := tk } := I.kept fun b o e => Heap.get?_push_of_some _ e
  refine ⟨(s.heap.push { cls := .type "range", data := .fields #[.int lo t, .int hi u, .int 1 v] }).objs.size, [(s.heap.push { cls := .type "range", data := .fields #[.int lo t, .int hi u, .int 1 v] }).objs.size], _, _, H, rfl,
    I1.kept (t' := tk) fun b o e => Heap.get?_push_of_some _ e, turn_range _ lo (hi - lo).toNat, ?_, fun b hb => ?_, q⟩
  · have e1 : lo + ((0 : Nat) : Int) * 1 = lo := by simp
    have e2 : (((hi - lo).toNat : Nat) : Int) - ((0 : Nat) : Int) = Builtin.Range.rangeSize lo hi 1 := by rw [rangeSize_one]; split <;> omega
    show IsRangeIter _ _ (lo + ((0 : Nat) : Int) * 1) ((((hi - lo).toNat : Nat) : Int) - ((0 : Nat) : Int)) 1
    rw [e1, e2]
    exact Heap.get?_push_size _ rfl
  · have e : b = (s.heap.push { cls := .type "range", data := .fields #[.int lo t, .int hi u, .int 1 v] }).objs.size := by simpa using hb
    subst e
    exact I1.fpOk (Nat.le_refl _) (I1.hok.fresh (Nat.le_refl _))
def iRng1 (ta : TA) : TI := fun σ H R => ta σ H fun vs H1 => ∃ j : Int, vs = [.int j] ∧ -(2 ^ 62) ≤ j ∧ j < 2 ^ 62 ∧ R (Itr 0 j.toNat) H1
def iRng2 (ta : TA) : TI := fun σ H R => ta σ H fun vs H1 => ∃ i j : Int, vs = [.int i, .int j] ∧ (-(2 ^ 62) ≤ i ∧ i < 2 ^ 62 ∧ -(2 ^ 62) ≤ j ∧ j < 2 ^ 62) ∧ R (Itr i (j - i).toNat) H1
theorem pi_range1 {a : Expr} {ta : TA} {p pos : Pos} (hg : Gl X "range") (hm : X.mg "range" = none) (ha : PA X [a] ta) (hs : starEach [a] X.env = [(false, eval a X.env)] := by rfl) : PI X tg (.Call (.Name "range" p) [a] [] pos) (iRng1 ta) := by
  intro pins s σ H R I h
  refine Call_ (ld_blt I hg hm boot_range (PyProof.Rows.callWith_type1 (thn (ha pos pins s σ H _ I h) fun us s1 ⟨vs, H1, I1, r1, q1⟩ => ?_) hs rfl))
  obtain ⟨j, e, q1, q2, q⟩ := q1
  subst e
  cases r1 with
  | cons r rr =>
    cases rr
    obtain ⟨t, rfl⟩ := r
    exact call_range_1 (range_it I1 (by omega) (by omega) q1 q2 (by simpa using q))
def tFor (wi : TI) (g : TG) (tb : TS) : TS := fun D σ H => wi σ H fun J H1 => ∃ W : Nat → Nat → St → Hp → Prop, (∃ m, W 0 m σ H1) ∧ ∀ i m σ H, W i m σ H →
  (J.stop i H ∧ D.nx σ H) ∨ (J.go i H ∧ ∃ N : St → Hp → Prop, (∀ σ' H', N σ' H' → ∃ m', m' < m ∧ W (i + 1) m' σ' H') ∧ ∀ x H', J.yld i H x H' → g x σ H' fun σ2 H2 => tb { D with nx := N, ct := N, bk := D.nx } σ2 H2)
def pinsAt (fp : List Addr) (h : Heap) : List (Addr × Obj) := fp.filterMap fun b => (h.get? b).map fun o => (b, o)
theorem mem_pinsAt {fp : List Addr} {h : Heap} {b : Addr} {o : Obj} (hb : b ∈ fp) (e : h.get? b = some o) : (b, o) ∈ pinsAt fp h := List.mem_filterMap.mpr ⟨b, hb, by rw [e]; rfl⟩
theorem of_pinsAt {fp : List Addr} {h : Heap} {p : Addr × Obj} (hp : p ∈ pinsAt fp h) : p.1 ∈ fp ∧ h.get? p.1 = some p.2 := by
  obtain ⟨b, hb, e⟩ := List.mem_filterMap.mp hp
  cases q : h.get? b with
  | none => rw [q] at e; cases e
  | some o =>
    rw [q] at e
    have e' : (b, o) = p := Option.some.inj e
    subst e'
    exact ⟨hb, q⟩
theorem Inv.pinned {pins : List (Addr × Obj)} {σ : St} {H : Hp} {s : Shared} {fp : List Addr} (I : Inv X pins σ H s) (hf : ∀ b ∈ fp, FpOk X pins H b) (ho : ∀ b ∈ fp, ∃ o, s.heap.get? b = some o ∧ ∀ v, o.data ≠ .cell v) : Inv X (pins ++ pinsAt fp s.heap) σ H s :=
  I.pins_of fun p hp => (List.mem_append.mp hp).elim (fun z => I.pin p (List.mem_append_right _ z)) fun z => by
    obtain ⟨hb, e⟩ := of_pinsAt z
    obtain ⟨f0, f1, f2, _⟩ := hf p.1 hb
    obtain ⟨o, e', d⟩ := ho p.1 hb
    rw [e] at e'; cases e'
    exact ⟨e, f0, f1, f2, d⟩
theorem Inv.unpinned {pins pl : List (Addr × Obj)} {σ : St} {H : Hp} {s : Shared} (I : Inv X (pins ++ pl) σ H s) : Inv X pins σ H s := I.pins_of fun p hp => I.pin p (List.mem_append_right _ (List.mem_append_left _ hp))
theorem ps_for {iter : Expr} {body : List Stmt} {wi : TI} {g : TG} {tb : TS} {pos : Pos} (hp : PassesOwn (model X.prog X.w) X.A X.env X.xe) (hc : X.calm = true) (hi : PI X tg iter wi) (hg : PG X tg g) (hb : PSs X body tb)
    (hs : ∀ x, foldedSetIterable iter X.env x = pure x := by intro _; rfl) : PS X (.For tg iter body [] pos) (tFor wi g tb) := by
  intro pins s σ H D I h
  refine wpAny_For (thn (hi pins s σ H _ I h) fun v s1 h1 => thn h1 fun itv s2 h2 => ?_) hs
  obtain ⟨it, fp, tn, J, H2, e, I2, T, st2, f2, W, ⟨m0, w0⟩, turn⟩ := h2
  subst e
  -- what stays true of the iterator's objects through the loop
  have stat : ∀ {H' : Hp}, (∀ b ∈ fp, H' b = none) → ∀ b ∈ fp, FpOk X pins H' b := fun hn b hb => ⟨hn b hb, (f2 b hb).2⟩
  refine codeAny_forLoop_any (fun n s' => ∃ i σ' H', Inv X pins σ' H' s' ∧ tn i s'.heap ∧ (∀ b ∈ fp, H' b = none) ∧ W i n σ' H') ?_ m0 ⟨0, σ, H2, I2, st2, fun b hb => (f2 b hb).1, w0⟩
  rintro n s3 ⟨i, σ3, H3, I3, st3, fr3, w3⟩
  rcases turn i n σ3 H3 w3 with ⟨stop, qn⟩ | ⟨go, N, hN, step⟩
  · refine wpAny_passesOwn hp (thn (T.done X rfl rfl rfl hc i pins s3 σ3 H3 X.xe I3 (stat fr3) st3 stop) fun r s4 ⟨hr, I4⟩ => ?_)
    subst hr
    exact wpAny_execs_nil ⟨σ3, H3, I4, qn⟩
  · refine wpAny_passesOwn hp (thn (T.item X rfl rfl rfl hc i pins s3 σ3 H3 X.xe I3 (stat fr3) st3 go) fun r s4 ⟨u, hr, h4⟩ => ?_)
    subst hr
    refine wpAny_passesOwn hp (thn h4 fun _ s5 ⟨x, H5, I5, r5, y5, st5, fr5⟩ => ?_)
    have I5' := I5.pinned (stat fr5) (T.obj _ _ st5)
    refine wpAny_passesOwn hp (thn (hg _ s5 σ3 H5 x u _ I5' r5 (step x H5 y5)) fun _ s6 ⟨σ6, H6, I6, q6⟩ => ?_)
    refine wpAny_passesOwn hp (thn (hb _ s6 σ6 H6 _ I6 q6) fun f s7 q7 => ?_)
    have again : ∀ {σ7 : St} {H7 : Hp}, Inv X (pins ++ pinsAt fp s5.heap) σ7 H7 s7 → N σ7 H7 → ∃ m, m < n ∧ ∃ i σ' H', Inv X pins σ' H' s7 ∧ tn i s7.heap ∧ (∀ b ∈ fp, H' b = none) ∧ W i m σ' H' := fun {σ7 H7} I7 n7 => by
      obtain ⟨m', hm, w7⟩ := hN σ7 H7 n7
      refine ⟨m', hm, i + 1, σ7, H7, I7.unpinned, T.keep _ _ _ st5 fun b hb o e => (I7.pin (b, o) (List.mem_append_right _ (List.mem_append_right _ (mem_pinsAt hb e)))).1, fun b hb => ?_, w7⟩
      obtain ⟨o, e, d⟩ := T.obj _ _ st5 b hb
      exact (I7.pin (b, o) (List.mem_append_right _ (List.mem_append_right _ (mem_pinsAt hb e)))).2.1
    cases f with
    | next => obtain ⟨σ7, H7, I7, n7⟩ := q7; exact again I7 n7
    | cont => obtain ⟨σ7, H7, I7, n7⟩ := q7; exact again I7 n7
    | brk => obtain ⟨σ7, H7, I7, q7⟩ := q7; exact ⟨σ7, H7, I7.unpinned, q7⟩
    | ret v => obtain ⟨x7, σ7, H7, I7, r7, q7⟩ := q7; exact ⟨x7, σ7, H7, I7.unpinned, r7, q7⟩
end

theorem for_list {K : PySem.W.Frag} {a : Addr} {xs : List V} {g : TG} {tb : TS} {D : Ends} {σ : St} {H : Hp} (Pv : Nat → St → Hp → Prop) (h0 : Pv 0 σ H) (hl : ∀ i σ H, i ≤ xs.length → Pv i σ H → SqL K H a xs)
    (hs : ∀ i x σ H, xs[i]? = some x → Pv i σ H → g x σ H fun σ2 H2 => tb { D with nx := Pv (i + 1), ct := Pv (i + 1), bk := D.nx } σ2 H2) (hd : ∀ σ H, Pv xs.length σ H → D.nx σ H) :
    ∃ W : Nat → Nat → St → Hp → Prop, (∃ m, W 0 m σ H) ∧ ∀ i m σ H, W i m σ H →
      ((Itl K a).stop i H ∧ D.nx σ H) ∨ ((Itl K a).go i H ∧ ∃ N : St → Hp → Prop, (∀ σ' H', N σ' H' → ∃ m', m' < m ∧ W (i + 1) m' σ' H') ∧ ∀ x H', (Itl K a).yld i H x H' → g x σ H' fun σ2 H2 => tb { D with nx := N, ct := N, bk := D.nx } σ2 H2) := by
  refine ⟨fun i m σ H => m = xs.length - i ∧ i ≤ xs.length ∧ Pv i σ H, ⟨xs.length, by simp, Nat.zero_le _, h0⟩, ?_⟩
  rintro i m σ H ⟨rfl, hi, p⟩
  have q := hl i σ H hi p
  by_cases hlt : i < xs.length
  · refine .inr ⟨⟨xs, xs[i], q, by simp [hlt]⟩, Pv (i + 1), fun σ' H' p' => ⟨xs.length - (i + 1), by omega, rfl, hlt, p'⟩, fun x H' y => ?_⟩
    obtain ⟨e, y⟩ := y
    subst e
    exact hs i x σ _ (y xs q) p
  · have e : i = xs.length := by omega
    subst e
    exact .inl ⟨⟨xs, q, Nat.le_refl _⟩, hd σ H p⟩
theorem for_tup {K : PySem.W.Frag} {a : Addr} {xs : List V} {g : TG} {tb : TS} {D : Ends} {σ : St} {H : Hp} (Pv : Nat → St → Hp → Prop) (h0 : Pv 0 σ H) (hl : ∀ i σ H, i ≤ xs.length → Pv i σ H → SqT K H a xs)
    (hs : ∀ i x σ H, xs[i]? = some x → Pv i σ H → g x σ H fun σ2 H2 => tb { D with nx := Pv (i + 1), ct := Pv (i + 1), bk := D.nx } σ2 H2) (hd : ∀ σ H, Pv xs.length σ H → D.nx σ H) :
    ∃ W : Nat → Nat → St → Hp → Prop, (∃ m, W 0 m σ H) ∧ ∀ i m σ H, W i m σ H →
      ((Itt K a).stop i H ∧ D.nx σ H) ∨ ((Itt K a).go i H ∧ ∃ N : St → Hp → Prop, (∀ σ' H', N σ' H' → ∃ m', m' < m ∧ W (i + 1) m' σ' H') ∧ ∀ x H', (Itt K a).yld i H x H' → g x σ H' fun σ2 H2 => tb { D with nx := N, ct := N, bk := D.nx } σ2 H2) := by
  refine ⟨fun i m σ H => m = xs.length - i ∧ i ≤ xs.length ∧ Pv i σ H, ⟨xs.length, by simp, Nat.zero_le _, h0⟩, ?_⟩
  rintro i m σ H ⟨rfl, hi, p⟩
  have q := hl i σ H hi p
  by_cases hlt : i < xs.length
  · refine .inr ⟨⟨xs, xs[i], q, by simp [hlt]⟩, Pv (i + 1), fun σ' H' p' => ⟨xs.length - (i + 1), by omega, rfl, hlt, p'⟩, fun x H' y => ?_⟩
    obtain ⟨e, y⟩ := y
    subst e
    exact hs i x σ _ (y xs q) p
  · have e : i = xs.length := by omega
    subst e
    exact .inl ⟨⟨xs, q, Nat.le_refl _⟩, hd σ H p⟩
theorem for_range {lo : Int} {n : Nat} {g : TG} {tb : TS} {D : Ends} {σ : St} {H : Hp} (Pv : Nat → St → Hp → Prop) (h0 : Pv 0 σ H)
    (hs : ∀ i σ H, i < n → Pv i σ H → g (.int (lo + i)) σ H fun σ2 H2 => tb { D with nx := Pv (i + 1), ct := Pv (i + 1), bk := D.nx } σ2 H2) (hd : ∀ σ H, Pv n σ H → D.nx σ H) :
    ∃ W : Nat → Nat → St → Hp → Prop, (∃ m, W 0 m σ H) ∧ ∀ i m σ H, W i m σ H →
      ((Itr lo n).stop i H ∧ D.nx σ H) ∨ ((Itr lo n).go i H ∧ ∃ N : St → Hp → Prop, (∀ σ' H', N σ' H' → ∃ m', m' < m ∧ W (i + 1) m' σ' H') ∧ ∀ x H', (Itr lo n).yld i H x H' → g x σ H' fun σ2 H2 => tb { D with nx := N, ct := N, bk := D.nx } σ2 H2) := by
  refine ⟨fun i m σ H => m = n - i ∧ i ≤ n ∧ Pv i σ H, ⟨n, by simp, Nat.zero_le _, h0⟩, ?_⟩
  rintro i m σ H ⟨rfl, hi, p⟩
  by_cases hlt : i < n
  · refine .inr ⟨hlt, Pv (i + 1), fun σ' H' p' => ⟨n - (i + 1), by omega, rfl, hlt, p'⟩, fun x H' y => ?_⟩
    obtain ⟨e, y⟩ := y
    subst e y
    exact hs i σ _ hlt p
  · have e : i = n := by omega
    subst e
    exact .inl ⟨Nat.le_refl _, hd σ H p⟩
end L2

namespace L2
open PySem PySem.Spec PyProof.Rows

abbrev R2 := V → V → Hp → VK → Prop
def OpR (X : Cx) (f : Value → Value → Sem Value) (r : R2) : Prop :=
  ∀ (pins : List (Addr × Obj)) (s : Shared) (σ : St) (H : Hp) (x y : V) (v u : Value) (Q : VK), Inv X pins σ H s → RelV x v → RelV y u → r x y H Q →
    wpAny (model X.prog X.w) X.A (f v u) (EP X pins σ Q) X.xe s
def UnR (X : Cx) (f : Value → Sem Value) (r : V → Hp → VK → Prop) : Prop :=
  ∀ (pins : List (Addr × Obj)) (s : Shared) (σ : St) (H : Hp) (x : V) (v : Value) (Q : VK), Inv X pins σ H s → RelV x v → r x H Q →
    wpAny (model X.prog X.w) X.A (f v) (EP X pins σ Q) X.xe s
def CallR (X : Cx) (f : Value) (r : List V → Hp → VK → Prop) : Prop :=
  ∀ (pins : List (Addr × Obj)) (s : Shared) (σ : St) (H : Hp) (xs : List V) (us : List Value) (Q : VK), Inv X pins σ H s → Vals xs us → r xs H Q →
    wpAny (model X.prog X.w) X.A (call f us) (EP X pins σ Q) X.xe s
def TruR (X : Cx) (r : V → Hp → (Bool → Hp → Prop) → Prop) : Prop :=
  ∀ (pins : List (Addr × Obj)) (s : Shared) (σ : St) (H : Hp) (x : V) (v : Value) (Q : Bool → Hp → Prop), Inv X pins σ H s → RelV x v → r x H Q →
    wpAny (model X.prog X.w) X.A (truthy v) (TP X pins σ Q) X.xe s

def tOp (r : R2) (ta tb : TE) : TE := fun σ H Q => ta σ H fun x H1 => tb σ H1 fun y H2 => r x y H2 Q
def tUn (r : V → Hp → VK → Prop) (ta : TE) : TE := fun σ H Q => ta σ H fun x H1 => r x H1 Q
def rI (C : Int → Int → Prop) (g : Int → Int → V) : R2 := fun x y H Q => ∃ i j, x = .int i ∧ y = .int j ∧ C i j ∧ Q (g i j) H
def rI0 (g : Int → Int → V) : R2 := fun x y H Q => ∃ i j, x = .int i ∧ y = .int j ∧ Q (g i j) H
def rU (g : Int → V) : V → Hp → VK → Prop := fun x H Q => ∃ i, x = .int i ∧ Q (g i) H

section
variable {X : Cx} {a b c : Expr} {ta tb tc : TE} {pos : Pos}

theorem binT (ha : PE X a ta) (hb : PE X b tb) {pins : List (Addr × Obj)} {s : Shared} {σ : St} {H : Hp} {R : V → V → Hp → Prop} (I : Inv X pins σ H s)
    (h : ta σ H fun x H1 => tb σ H1 fun y H2 => R x y H2) {Q : Value → Shared → Prop} {f : Value → Value → Sem Value}
    (hf : ∀ v u s2 x y H2, Inv X pins σ H2 s2 → RelV x v → RelV y u → R x y H2 → wpAny (model X.prog X.w) X.A (f v u) Q X.xe s2) :
    wpAny (model X.prog X.w) X.A (eval a X.env) (fun v s₁ => wpAny (model X.prog X.w) X.A (eval b X.env) (fun u s₂ => wpAny (model X.prog X.w) X.A (f v u) Q X.xe s₂) X.xe s₁) X.xe s := by
  refine thn (ha pins s σ H _ I h) fun v s1 ⟨x, H1, I1, r1, q1⟩ => ?_
  refine thn (hb pins s1 σ H1 _ I1 q1) fun u s2 ⟨y, H2, I2, r2, q2⟩ => ?_
  exact hf v u s2 x y H2 I2 r1 r2 q2

theorem pe_op {op : Operator} {r : R2} (ho : OpR X (binaryOp op) r) (ha : PE X a ta) (hb : PE X b tb) : PE X (.BinOp a op b pos) (tOp r ta tb) := by
  intro pins s σ H Q I h
  exact wpAny_BinOp (binT ha hb I h fun v u s2 x y H2 I2 rx ry q => ho pins s2 σ H2 x y v u Q I2 rx ry q)
theorem pe_un {op : UnaryOp} {r : V → Hp → VK → Prop} (ho : UnR X (unaryOp op) r) (ha : PE X a ta) : PE X (.UnaryOp op a pos) (tUn r ta) := by
  intro pins s σ H Q I h
  exact UnaryOp_ (thn (ha pins s σ H _ I h) fun v s1 ⟨x, H1, I1, r1, q1⟩ => ho pins s1 σ H1 x v Q I1 r1 q1)
theorem opI {f : Value → Value → Sem Value} {C : Int → Int → Prop} {g : Int → Int → Int}
    (rule : ∀ (i j : Int) (t u : Tok) (s : Shared) (Q : Value → Shared → Prop) (E : Value → Shared → Prop), C i j → Q (.int (g i j) s.toks) { s with toks := s.toks + 1 } → wpAny (model X.prog X.w) X.A (f (.int i t) (.int j u)) Q E s) :
    OpR X f (rI C fun i j => .int (g i j)) := by
  intro pins s σ H x y v u Q I rx ry h
  obtain ⟨i, j, rfl, rfl, hc, q⟩ := h
  obtain ⟨t, rfl⟩ := rx
  obtain ⟨t', rfl⟩ := ry
  exact rule i j t t' s _ _ hc ⟨.int (g i j), H, I.tok _, ⟨_, rfl⟩, q⟩
theorem opI0 {f : Value → Value → Sem Value} {g : Int → Int → Int}
    (rule : ∀ (i j : Int) (t u : Tok) (s : Shared) (Q : Value → Shared → Prop) (E : Value → Shared → Prop), Q (.int (g i j) s.toks) { s with toks := s.toks + 1 } → wpAny (model X.prog X.w) X.A (f (.int i t) (.int j u)) Q E s) :
    OpR X f (rI0 fun i j => .int (g i j)) := by
  intro pins s σ H x y v u Q I rx ry h
  obtain ⟨i, j, rfl, rfl, q⟩ := h
  obtain ⟨t, rfl⟩ := rx
  obtain ⟨t', rfl⟩ := ry
  exact rule i j t t' s _ _ ⟨.int (g i j), H, I.tok _, ⟨_, rfl⟩, q⟩
theorem opB0 {f : Value → Value → Sem Value} {g : Int → Int → Bool}
    (rule : ∀ (i j : Int) (t u : Tok) (s : Shared) (Q : Value → Shared → Prop) (E : Value → Shared → Prop), Q (.bool (g i j)) s → wpAny (model X.prog X.w) X.A (f (.int i t) (.int j u)) Q E s) :
    OpR X f (rI0 fun i j => .bl (g i j)) := by
  intro pins s σ H x y v u Q I rx ry h
  obtain ⟨i, j, rfl, rfl, q⟩ := h
  obtain ⟨t, rfl⟩ := rx
  obtain ⟨t', rfl⟩ := ry
  exact rule i j t t' s _ _ ⟨.bl (g i j), H, I, rfl, q⟩

def CDiv (i j : Int) : Prop := 0 < j ∧ j < 1073741824
def CDivN (i j : Int) : Prop := j ≠ 0 ∧ j.natAbs < 1073741824
def CPow (i j : Int) : Prop := 0 ≤ j ∧ j ≤ 1000000 ∧ i.natAbs < 2 ^ 64
def CMul (i j : Int) : Prop := (-(2 ^ 64) < i ∧ i < 2 ^ 64) ∨ (-(2 ^ 64) < j ∧ j < 2 ^ 64)
theorem CMul.ok {i j : Int} (h : CMul i j) : IntMulOk i j := by
  rcases h with ⟨h1, h2⟩ | ⟨h1, h2⟩
  · exact .of_left (intBits_le_64 h1 h2)
  · exact .of_right (intBits_le_64 h1 h2)
theorem op_add : OpR X (binaryOp .Add) (rI0 fun i j => .int (i + j)) := opI0 fun _ _ _ _ _ _ _ q => add_int q
theorem op_sub : OpR X (binaryOp .Sub) (rI0 fun i j => .int (i - j)) := opI0 fun _ _ _ _ _ _ _ q => sub_int q
theorem op_mul : OpR X (binaryOp .Mult) (rI CMul fun i j => .int (i * j)) := opI fun _ _ _ _ _ _ _ hc q => mul_int q hc.ok
theorem op_fdiv : OpR X (binaryOp .FloorDiv) (rI CDiv fun i j => .int (i / j)) := opI fun i j _ _ _ _ _ hc q => by
  have h1 : (0 : Int) < j := hc.1
  have h2 : j < 1073741824 := hc.2
  exact floordiv_int (by omega) (by rw [Int.fdiv_eq_ediv_of_nonneg i (by omega)]; exact q) (.inl (PyProof.noPylong_small (by omega)))
theorem op_mod : OpR X (binaryOp .Mod) (rI (fun _ j => 0 < j) fun i j => .int (i % j)) := opI fun i j _ _ _ _ _ hc q => by
  have h1 : (0 : Int) < j := hc
  exact mod_int' (by omega) (by rw [Int.fmod_eq_emod_of_nonneg i (by omega)]; exact q)
theorem op_pow : OpR X (binaryOp .Pow) (rI CPow fun i j => .int (i ^ j.toNat)) := opI fun _ _ _ _ _ _ _ hc q => pow_int_small hc.1 hc.2.1 hc.2.2 q
theorem unI {f : Value → Sem Value} {g : Int → Int}
    (rule : ∀ (i : Int) (t : Tok) (s : Shared) (Q : Value → Shared → Prop) (E : Value → Shared → Prop), Q (.int (g i) s.toks) { s with toks := s.toks + 1 } → wpAny (model X.prog X.w) X.A (f (.int i t)) Q E s) :
    UnR X f (rU fun i => .int (g i)) := by
  intro pins s σ H x v Q I rx h
  obtain ⟨i, rfl, q⟩ := h
  obtain ⟨t, rfl⟩ := rx
  exact rule i t s _ _ ⟨.int (g i), H, I.tok _, ⟨_, rfl⟩, q⟩
theorem un_neg : UnR X (unaryOp .USub) (rU fun i => .int (-i)) := unI fun _ _ _ _ _ q => neg_int q
end

def scal : V → V → Bool
  | .non, .non => true | .non, .int _ => true | .int _, .non => true | .non, .bl _ => true | .bl _, .non => true | .non, .str _ => true | .str _, .non => true
  | .int _, .int _ => true | .bl _, .bl _ => true | .str _, .str _ => true | .byt _, .byt _ => true
  | .int _, .str _ => true | .str _, .int _ => true | .bl _, .str _ => true | .str _, .bl _ => true
  | _, _ => false
def rEq : R2 := fun x y H Q => scal x y = true ∧ Q (.bl (decide (x = y))) H
def rNe : R2 := fun x y H Q => scal x y = true ∧ Q (.bl (!decide (x = y))) H

theorem dec_int {i j : Int} : decide (V.int i = V.int j) = (i == j) := by
  rw [Bool.eq_iff_iff]
  simp
theorem dec_bl {i j : Bool} : decide (V.bl i = V.bl j) = (i == j) := by
  rw [Bool.eq_iff_iff]
  simp
theorem dec_str {i j : Str} : decide (V.str i = V.str j) = (i == j) := by
  rw [Bool.eq_iff_iff]
  simp
theorem dec_byt {i j : Array UInt8} : decide (V.byt i = V.byt j) = (i.toList == j.toList) := by
  rw [Bool.eq_iff_iff]
  cases i
  cases j
  simp

section
variable {X : Cx} {a b c : Expr} {ta tb tc : TE} {pos : Pos}
theorem fin_bl {pins : List (Addr × Obj)} {σ : St} {H : Hp} {s : Shared} {Q : VK} {k k' : Bool} (I : Inv X pins σ H s) (q : Q (.bl k) H) (e : k = k') : EP X pins σ Q (.bool k') s := by
  subst e
  exact ⟨.bl k, H, I, rfl, q⟩
theorem op_eq : OpR X (compareOp .Eq) rEq := by
  intro pins s σ H x y v u Q I rx ry h
  obtain ⟨hs, q⟩ := h
  cases x with
  | non =>
    cases rx
    cases y with
    | non => cases ry; exact PySem.EqNone.eq_none_none (fin_bl I q (by simp))
    | bl j => cases ry; exact PySem.EqNone.eq_none_bool (fin_bl I q (by simp))
    | int j => obtain ⟨t', rfl⟩ := ry; exact PySem.EqNone.eq_none_int (fin_bl I q (by simp))
    | str j => obtain ⟨t', rfl⟩ := ry; exact PySem.EqNone.eq_none_str (fin_bl I q (by simp))
    | _ => exact absurd (show false = true from hs) Bool.false_ne_true
  | bl i =>
    cases rx
    cases y with
    | non => cases ry; exact PySem.EqNone.eq_bool_none (fin_bl I q (by simp))
    | bl j => cases ry; exact eq_bool (fin_bl I q dec_bl)
    | str j => obtain ⟨t', rfl⟩ := ry; exact PySem.EqMixed.eq_bool_str (fin_bl I q (by simp))
    | _ => exact absurd (show false = true from hs) Bool.false_ne_true
  | int i =>
    obtain ⟨t, rfl⟩ := rx
    cases y with
    | non => cases ry; exact PySem.EqNone.eq_int_none (fin_bl I q (by simp))
    | int j => obtain ⟨t', rfl⟩ := ry; exact eq_int (fin_bl I q dec_int)
    | str j => obtain ⟨t', rfl⟩ := ry; exact PySem.EqMixed.eq_int_str (fin_bl I q (by simp))
    | _ => exact absurd (show false = true from hs) Bool.false_ne_true
  | str i =>
    obtain ⟨t, rfl⟩ := rx
    cases y with
    | non => cases ry; exact PySem.EqNone.eq_str_none (fin_bl I q (by simp))
    | bl j => cases ry; exact PySem.EqMixed.eq_str_bool (fin_bl I q (by simp))
    | int j => obtain ⟨t', rfl⟩ := ry; exact PySem.EqMixed.eq_str_int (fin_bl I q (by simp))
    | str j => obtain ⟨t', rfl⟩ := ry; exact eq_str (fin_bl I q dec_str)
    | _ => exact absurd (show false = true from hs) Bool.false_ne_true
  | byt i =>
    obtain ⟨t, rfl⟩ := rx
    cases y with
    | byt j => obtain ⟨t', rfl⟩ := ry; exact PySem.W.eq_bytes (fin_bl I q dec_byt)
    | _ => exact absurd (show false = true from hs) Bool.false_ne_true
  | _ => cases y <;> exact absurd (show false = true from hs) Bool.false_ne_true
theorem op_ne : OpR X (compareOp .NotEq) rNe := by
  intro pins s σ H x y v u Q I rx ry h
  obtain ⟨hs, q⟩ := h
  cases x with
  | non =>
    cases rx
    cases y with
    | non => cases ry; exact PySem.EqNone.ne_none_none (fin_bl I q (by simp))
    | bl j => cases ry; exact PySem.EqNone.ne_none_bool (fin_bl I q (by simp))
    | int j => obtain ⟨t', rfl⟩ := ry; exact PySem.EqNone.ne_none_int (fin_bl I q (by simp))
    | str j => obtain ⟨t', rfl⟩ := ry; exact PySem.EqNone.ne_none_str (fin_bl I q (by simp))
    | _ => exact absurd (show false = true from hs) Bool.false_ne_true
  | bl i =>
    cases rx
    cases y with
    | non => cases ry; exact PySem.EqNone.ne_bool_none (fin_bl I q (by simp))
    | bl j => cases ry; exact ne_bool (fin_bl I q (congrArg not dec_bl))
    | str j => obtain ⟨t', rfl⟩ := ry; exact PySem.EqMixed.ne_bool_str (fin_bl I q (by simp))
    | _ => exact absurd (show false = true from hs) Bool.false_ne_true
  | int i =>
    obtain ⟨t, rfl⟩ := rx
    cases y with
    | non => cases ry; exact PySem.EqNone.ne_int_none (fin_bl I q (by simp))
    | int j => obtain ⟨t', rfl⟩ := ry; exact ne_int (fin_bl I q (congrArg not dec_int))
    | str j => obtain ⟨t', rfl⟩ := ry; exact PySem.EqMixed.ne_int_str (fin_bl I q (by simp))
    | _ => exact absurd (show false = true from hs) Bool.false_ne_true
  | str i =>
    obtain ⟨t, rfl⟩ := rx
    cases y with
    | non => cases ry; exact PySem.EqNone.ne_str_none (fin_bl I q (by simp))
    | bl j => cases ry; exact PySem.EqMixed.ne_str_bool (fin_bl I q (by simp))
    | int j => obtain ⟨t', rfl⟩ := ry; exact PySem.EqMixed.ne_str_int (fin_bl I q (by simp))
    | str j => obtain ⟨t', rfl⟩ := ry; exact ne_str (fin_bl I q (congrArg not dec_str))
    | _ => exact absurd (show false = true from hs) Bool.false_ne_true
  | byt i =>
    obtain ⟨t, rfl⟩ := rx
    cases y with
    | byt j => obtain ⟨t', rfl⟩ := ry; exact PySem.W.ne_bytes (fin_bl I q (congrArg not dec_byt))
    | _ => exact absurd (show false = true from hs) Bool.false_ne_true
  | _ => cases y <;> exact absurd (show false = true from hs) Bool.false_ne_true

theorem op_lt : OpR X (compareOp .Lt) (rI0 fun i j => .bl (decide (i < j))) := opB0 fun _ _ _ _ _ _ _ q => lt_int q
theorem op_gt : OpR X (compareOp .Gt) (rI0 fun i j => .bl (decide (j < i))) := opB0 fun _ _ _ _ _ _ _ q => gt_int q
theorem op_ge : OpR X (compareOp .GtE) (rI0 fun i j => .bl (decide (j ≤ i))) := opB0 fun _ _ _ _ _ _ _ q => ge_int q
def isObj : HO → Bool
  | .lst _ => true
  | .ins _ _ _ => true
  | _ => false
theorem nomark (b : Expr) {op : CmpOp} (h : op ≠ .In := by decide) (h2 : op ≠ .NotIn := by decide) : behindInMarks op b = false := by
  have e1 : (op == CmpOp.In) = false := by cases op <;> first | rfl | exact absurd rfl h
  have e2 : (op == CmpOp.NotIn) = false := by cases op <;> first | rfl | exact absurd rfl h2
  cases b <;> simp [behindInMarks, e1, e2]
theorem pe_cmpR {op : CmpOp} {r : R2} (ho : OpR X (compareOp op) r) (ha : PE X a ta) (hb : PE X b tb) (hm : behindInMarks op b = false) : PE X (.Compare a [op] [b] pos) (tOp r ta tb) := by
  intro pins s σ H Q I h
  exact wpAny_Compare1 (binT ha hb I h fun v u s2 x y H2 I2 rx ry q => ho pins s2 σ H2 x y v u Q I2 rx ry q) hm
def tTest (t : TE) : TT := fun σ H Q => t σ H fun x H' => ∃ k, x = .bl k ∧ Q k H'
theorem pt_cmpR {op : CmpOp} {r : R2} (ho : OpR X (compareOp op) r) (ha : PE X a ta) (hb : PE X b tb) (hm : behindInMarks op b = false) : PT X (.Compare a [op] [b] pos) (tTest (tOp r ta tb)) := by
  intro pins s σ H Q I h
  refine wpAny_isTrue_Compare1 (thn (ha pins s σ H _ I h) fun v s1 ⟨x, H1, I1, r1, q1⟩ => thn (hb pins s1 σ H1 _ I1 q1) fun u s2 ⟨y, H2, I2, r2, q2⟩ =>
    thn (ho pins s2 σ H2 x y v u _ I2 r1 r2 q2) fun c s3 ⟨z, H3, I3, r3, k, e, q3⟩ => ?_) hm
  subst e
  cases r3
  exact wpAny_truthy_bool ⟨H3, I3, q3⟩
def tChain (r r' : R2) (ta tb tc : TE) : TE := fun σ H Q => ta σ H fun x H1 => tb σ H1 fun y H2 => r x y H2 fun z H3 => ∃ k, z = .bl k ∧
  (if k = true then tc σ H3 fun w' H4 => r' y w' H4 Q else Q (.bl false) H3)
def TruV (K : PySem.W.Frag) (x : V) (H : Hp) (k : Bool) : Prop :=
  match x with
  | .non => k = false
  | .bl b => k = b
  | .int i => k = (i != 0)
  | .str y => y.length ≤ sizeLine ∧ k = ((y.length : Int) != 0)
  | .byt y => y.size ≤ sizeLine ∧ k = ((y.size : Int) != 0)
  | .ref p => (∃ xs, SqL K H p xs ∧ k = !xs.isEmpty) ∨ (∃ xs, SqT K H p xs ∧ k = !xs.isEmpty) ∨ ∃ kvs, H p = some (.dK kvs) ∧ k = !kvs.isEmpty
  | _ => False
theorem line63 : (sizeLine : Nat) < 2 ^ 63 := by rw [sizeLine_eq]; decide
def PlainIxT (b : Expr) : Prop := ∀ o i, subscripted b false o i = operate [o, i] (getItem o i)
theorem vals1 {x : V} {us : List Value} (r : Vals [x] us) : ∃ u, us = [u] ∧ RelV x u := by
  cases r with
  | cons r1 r2 => cases r2; exact ⟨_, rfl, r1⟩
theorem vals2 {x y : V} {us : List Value} (r : Vals [x, y] us) : ∃ u w', us = [u, w'] ∧ RelV x u ∧ RelV y w' := by
  cases r with
  | cons r1 r2 =>
    cases r2 with
    | cons r3 r4 => cases r4; exact ⟨_, _, rfl, r1, r3⟩
theorem call_max2 (hc : X.calm = true) : CallR X (.builtin "max") (fun xs H Q => ∃ i j, xs = [.int i, .int j] ∧ Q (.int (if j > i then j else i)) H) := by
  intro pins s σ H xs us Q I r h
  obtain ⟨i, j, rfl, q⟩ := h
  obtain ⟨u, w', rfl, ⟨t, rfl⟩, ⟨t', rfl⟩⟩ := vals2 r
  refine max_two_ints (I.ok.hd hc) fun h' tk k => ⟨_, H, I.kept k, ?_, q⟩
  by_cases hj : j > i
  · rw [if_pos hj, if_pos hj]; exact ⟨_, rfl⟩
  · rw [if_neg hj, if_neg hj]; exact ⟨_, rfl⟩
theorem call_min2 (hc : X.calm = true) : CallR X (.builtin "min") (fun xs H Q => ∃ i j, xs = [.int i, .int j] ∧ Q (.int (if j < i then j else i)) H) := by
  intro pins s σ H xs us Q I r h
  obtain ⟨i, j, rfl, q⟩ := h
  obtain ⟨u, w', rfl, ⟨t, rfl⟩, ⟨t', rfl⟩⟩ := vals2 r
  refine min_two_ints (I.ok.hd hc) fun h' tk k => ⟨_, H, I.kept k, ?_, q⟩
  by_cases hj : j < i
  · rw [if_pos hj, if_pos hj]; exact ⟨_, rfl⟩
  · rw [if_neg hj, if_neg hj]; exact ⟨_, rfl⟩
theorem call_int1 : CallR X (.type "int") (fun xs H Q => (∃ i, xs = [.int i] ∧ Q (.int i) H) ∨ ∃ k, xs = [.bl k] ∧ Q (.int (if k then 1 else 0)) H) := by
  intro pins s σ H xs us Q I r h
  rcases h with ⟨i, rfl, q⟩ | ⟨k, rfl, q⟩
  · obtain ⟨u, rfl, t, rfl⟩ := vals1 r
    exact call_int_int ⟨.int i, H, I, ⟨_, rfl⟩, q⟩
  · obtain ⟨u, rfl, r1⟩ := vals1 r
    cases r1
    exact call_int_bool ⟨.int (if k then 1 else 0), H, I.tok _, ⟨_, rfl⟩, q⟩
def LenV (K : PySem.W.Frag) (x : V) (H : Hp) (n : Nat) : Prop :=
  match x with
  | .str y => y.length ≤ sizeLine ∧ n = y.length
  | .byt y => y.size ≤ sizeLine ∧ n = y.size
  | .ref p => (∃ xs, SqL K H p xs ∧ n = xs.length) ∨ ∃ xs, SqT K H p xs ∧ n = xs.length
  | _ => False
end
end L2

namespace L2
open PySem PySem.Spec PyProof.Rows

structure ObjM (h : Heap) (x dx C : Addr) (mA : Str → Option Value) : Prop where
  obj : h.get? x = some (PySem.W.instObj C dx)
  ns : h.Ns1 dx mA
  ne : dx ≠ x

section
variable {prog : Program} {w : World} {A : Around} {E : Value → Shared → Prop} {s : Shared} {K : PySem.W.Frag} {x dx C f : Addr} {mA : Str → Option Value} {name : Str} {v : Value}

end

def putF (f : Str) (v : V) : List (Str × V) → List (Str × V)
  | [] => [(f, v)]
  | (g, x) :: r => if g = f then (g, v) :: r else (g, x) :: putF f v r
section
variable {P : Program} {w : World} {H H' : Hp} {h h' : Heap} {a C dx : Addr} {fs fs' : List (Str × V)}
end

structure Cls (K : PySem.W.Frag) (C : Addr) : Prop where
  pg : PySem.W.plainGet K C Str.empty = true
  hd : PySem.W.hasDictIn K C = true
  po : PySem.W.plainOver K C = true
  sa : PySem.W.findIn K (.ref C) "__setattr__" = some (some (.builtin "object.__setattr__"))
def NoAttr (K : PySem.W.Frag) (C : Addr) (f : Str) : Prop := PySem.W.findIn K (.ref C) f = some none
structure Con (K : PySem.W.Frag) (C : Addr) (f : Str) (v : V) (u : Value) : Prop where
  at_ : PySem.W.findIn K (.ref C) f = some (some u)
  rel : RelV v u
  get : PySem.W.specialIn K u "__get__" = some none
  cp : PySem.W.copiedNames.contains f = false
structure Meth (K : PySem.W.Frag) (C : Addr) (m : Str) (f : Addr) : Prop where
  at_ : PySem.W.findIn K (.ref C) m = some (some (.ref f))
  fn : PySem.W.isFn K (.ref f) = true
  kp : PySem.W.keepIn K (.ref f) = true

section
variable {X : Cx} {pins : List (Addr × Obj)} {σ : St} {H : Hp} {s : Shared} {a C dx : Addr} {fs : List (Str × V)} {f : Str} {v : V} {A : Around} {E : Value → Shared → Prop}

end

def tFld (K : PySem.W.Frag) (ta : TE) (f : Str) : TE := fun σ H Q => ta σ H fun x H1 => ∃ a C dx fs v, x = .ref a ∧ H1 a = some (.ins C dx fs) ∧ Cls K C ∧ NoAttr K C f ∧ fs.lookup f = some v ∧ Q v H1
def tCon (K : PySem.W.Frag) (ta : TE) (f : Str) : TE := fun σ H Q => ta σ H fun x H1 => ∃ a C dx fs v u, x = .ref a ∧ H1 a = some (.ins C dx fs) ∧ Cls K C ∧ Con K C f v u ∧ fs.lookup f = none ∧ Q v H1
def sFld (K : PySem.W.Frag) (ta tv : TE) (f : Str) : TS := fun D σ H => tv σ H fun y H1 => ta σ H1 fun x H2 => ∃ a C dx fs, x = .ref a ∧ H2 a = some (.ins C dx fs) ∧ Cls K C ∧ NoAttr K C f ∧ fs.length < 1000 ∧
  D.nx σ (upd H2 a (.ins C dx (putF f y fs)))
def InOp (X : Cx) (op : Operator) (rd : V → V → Hp → VK → Prop) : Prop :=
  ∀ (pins : List (Addr × Obj)) (s : Shared) (σ : St) (H : Hp) (x y : V) (u v : Value) (Q : VK), Inv X pins σ H s → RelV x u → RelV y v → rd x y H Q → wpAny (model X.prog X.w) X.A (inplaceOp op u v) (EP X pins σ Q) X.xe s
def sFldAug (K : PySem.W.Frag) (ta tv : TE) (rd : V → V → Hp → VK → Prop) (f : Str) : TS := fun D σ H => ta σ H fun x H1 => ∃ a C dx fs v, x = .ref a ∧ H1 a = some (.ins C dx fs) ∧ Cls K C ∧ NoAttr K C f ∧ fs.lookup f = some v ∧
  tv σ H1 fun y H2 => rd v y H2 fun z H3 => ∃ dx' fs', H3 a = some (.ins C dx' fs') ∧ fs'.length < 1000 ∧ D.nx σ (upd H3 a (.ins C dx' (putF f z fs')))

section
variable {X : Cx} {o e value : Expr} {f : Str} {pos pos' tpos : Pos} {ta tv : TE}
def rAdd : V → V → Hp → VK → Prop := fun x y H Q => ∃ i j, x = .int i ∧ y = .int j ∧ Q (.int (i + j)) H
def rSub : V → V → Hp → VK → Prop := fun x y H Q => ∃ i j, x = .int i ∧ y = .int j ∧ Q (.int (i - j)) H
end

section
variable {X : Cx} {pins : List (Addr × Obj)} {σ : St} {H : Hp} {s : Shared} {A : Around} {E : Value → Shared → Prop} {Q : Value → Shared → Prop} {c : Value} {b : Bool}
inductive TyOf (K : PySem.W.Frag) (H : Hp) : V → Value → Prop where
  | non : TyOf K H .non (.type "NoneType")
  | bl (x : Bool) : TyOf K H (.bl x) (.type "bool")
  | int (i : Int) : TyOf K H (.int i) (.type "int")
  | str (x : Str) : TyOf K H (.str x) (.type "str")
  | flt (x : UInt64) : TyOf K H (.flt x) (.type "float")
  | lst {a : Addr} {xs : List V} (e : H a = some (.lst xs)) : TyOf K H (.ref a) (.type "list")
  | frz {a : Addr} {o : Obj} {xs : List V} (e : H a = some (.frz o (.lst xs))) : TyOf K H (.ref a) (.type "list")
  | tup {a : Addr} {xs : List V} (e : H a = some (.tup xs)) : TyOf K H (.ref a) (.type "tuple")
  | dK {a : Addr} {kvs : List (Key × V)} (e : H a = some (.dK kvs)) : TyOf K H (.ref a) (.type "dict")
  | dT {a : Addr} {kvs : List (List Key × V)} (e : H a = some (.dT kvs)) : TyOf K H (.ref a) (.type "dict")
  | ins {a C dx : Addr} {fs : List (Str × V)} (e : H a = some (.ins C dx fs)) (cl : Cls K C) (ha : PySem.W.findIn K (.ref C) "__class__" = some (some (.builtin "object.__class__")))
      (hn : PySem.W.specialIn K (.builtin "object.__class__") "__get__" = some (some (.builtin "getset_descriptor.__get__"))) (htk : PySem.W.takesIn K (.builtin "object.__class__") = some true)
      (hm : PySem.W.mroIn K C (.type "object") = some true) : TyOf K H (.ref a) (.ref C)
end
end L2

namespace L2
open PySem PySem.Spec PyProof.Rows

structure Room (k : Nat) (A : Around) : Prop where
  hd : A.handled = none
  dp : A.depth + 3 * k + 5 < recursionLimit
  un : A.units + 16 * k + 200 < cLine
  gd : A.guards = some []
theorem Room.mono {j k : Nat} {A : Around} (r : Room k A) (h : j ≤ k) : Room j A := ⟨r.hd, by have := r.dp; omega, by have := r.un; omega, r.gd⟩
theorem Room.deeper {k : Nat} {A : Around} (r : Room (k + 1) A) (env : Env) : Room k (A.deeper env) :=
  ⟨r.hd, by have := r.dp; show A.depth + 1 + 3 * k + 5 < _; omega, by have := r.un; show A.units + 3 + 16 * k + 200 < _; omega, r.gd⟩
theorem Room.depth {k : Nat} {A : Around} (r : Room k A) : A.depth < recursionLimit := by have := r.dp; omega
theorem Room.units {k : Nat} {A : Around} (r : Room k A) : A.units + 64 < cLine := by have := r.un; omega
def tNil : TA := fun _ H Q => Q [] H
def tCons (ta : TE) (tr : TA) : TA := fun σ H Q => ta σ H fun x H1 => tr σ H1 fun xs H2 => Q (x :: xs) H2
section
variable {X : Cx} {e : Expr} {es : List Expr} {te : TE} {t : TA} {pos : Pos}
theorem pa_nil : PA X [] tNil := fun _ _ _ _ H Q I h => Calls.spliced_nil ⟨[], H, I, .nil, h⟩
theorem pa_cons (ha : PE X e te) (hr : PA X es t) (hs : starEach (e :: es) X.env = (false, eval e X.env) :: starEach es X.env := by rfl) : PA X (e :: es) (tCons te t) := by
  intro pos pins s σ H Q I h
  rw [hs]
  show wpAny _ _ (spliced ((false, eval e X.env) :: backTo pos (starEach es X.env))) _ _ s
  refine Calls.spliced_cons (thn (ha pins s σ H _ I h) fun u s1 ⟨x, H1, I1, r1, q1⟩ => ?_)
  exact thn (hr pos pins s1 σ H1 _ I1 q1) fun us s2 ⟨xs, H2, I2, r2, q2⟩ => ⟨x :: xs, H2, I2, .cons r1 r2, q2⟩

def tTup (t : TA) : TE := fun σ H Q => t σ H fun xs H1 => xs.length ≤ sizeLine ∧ ∀ p, H1 p = none → Q (.ref p) (upd H1 p (.tup xs))
def tLst (t : TA) : TE := fun σ H Q => t σ H fun xs H1 => xs.length ≤ sizeLine ∧ ∀ p, H1 p = none → Q (.ref p) (upd H1 p (.lst xs))
theorem pe_tup {x1} (h : PA X es t) : PE X (.Tuple es x1 pos) (tTup t) := by
  intro pins s σ H Q I hq
  refine wpAny_Tuple_spliced (thn (h pos pins s σ H _ I hq) fun us s1 ⟨xs, H1, I1, r, z, q⟩ => ⟨by rw [← r.length]; exact z, ?_⟩)
  have hf : H1 s1.heap.objs.size = none := I1.hok.fresh (Nat.le_refl _)
  refine ⟨.ref s1.heap.objs.size, upd H1 s1.heap.objs.size (.tup xs), I1.laid (t' := s1.toks) (fun b u e => Heap.get?_push_of_some _ e) (Nat.le_refl _) ?_, rfl, q _ hf⟩
  exact ⟨z, us, r, PTup.new⟩
theorem pe_lst (h : PA X es t) : PE X (.List es pos) (tLst t) := by
  intro pins s σ H Q I hq
  refine wpAny_List_spliced (thn (h pos pins s σ H _ I hq) fun us s1 ⟨xs, H1, I1, r, z, q⟩ => ⟨by rw [← r.length]; exact z, ?_⟩)
  have hf : H1 s1.heap.objs.size = none := I1.hok.fresh (Nat.le_refl _)
  refine ⟨.ref s1.heap.objs.size, upd H1 s1.heap.objs.size (.lst xs), I1.laid (t' := s1.toks) (fun b u e => Heap.get?_push_of_some _ e) (Nat.le_refl _) ?_, rfl, q _ hf⟩
  exact ⟨z, us, 0, r, Heap.get?_push_size _ rfl⟩
end

abbrev Sp := List V → Hp → VK → XK → Prop
abbrev CXT := List Env → Hp → Shared → XK → Value → Shared → Prop

structure Env0 (P : Program) (w : World) (K : PySem.W.Frag) (mg : Str → Option Value) (base : Heap) (A : Around) (outer : List Env) (s : Shared) (H : Hp) : Prop where
  frames : A.frames = some outer
  mod : Mod K mg base
  bs : ∀ b o, base.get? b = some o → s.heap.get? b = some o ∧ H b = none
  bsz : base.objs.size ≤ s.heap.objs.size
  funs : s.heap.FunFrames base outer
  frf : ∀ b ∈ frs outer, H b = none
  hok : HOk P w H s.heap
  bare : AllBare s.gens
def CE (outer : List Env) (P : Program) (w : World) (H : Hp) (s : Shared) (Q : VK) (u : Value) (s' : Shared) : Prop :=
  ∃ v H', s'.os = s.os ∧ AllBare s'.gens ∧ Un (frs outer) [] H H' s.heap s'.heap ∧ HOk P w H' s'.heap ∧ RelV v u ∧ Q v H'
def CR (CX : CXT) (outer : List Env) (P : Program) (w : World) (H : Hp) (s : Shared) (Q : VK) (E : XK) (r : Result) (s' : Shared) : Prop :=
  match r with
  | .ok (.ret u) => CE outer P w H s Q u s'
  | .ok _ => False
  | .error e => CX outer H s E e s'
structure FnOk (P : Program) (w : World) (K : PySem.W.Frag) (mg : Str → Option Value) (base : Heap) (CX : CXT) (k : Nat) (f : Addr) (fd : FuncData) (ps : List Str) (sp : Sp) : Prop where
  len : ∀ vs H Q E, sp vs H Q E → vs.length = ps.length
  run : ∀ (A : Around) (outer : List Env) (s : Shared) (H : Hp) (args : Args) (us : List Value) (vs : List V) (Q : VK) (E : XK), Room k A → Env0 P w K mg base A outer s H → BindsTo s fd args (ps.zip us) → Vals vs us → sp vs H Q E →
    codeAny (model P w) A (.call (.ref f) args) (CR CX outer P w H s Q E) s
theorem FnOk.mono {P : Program} {w : World} {K : PySem.W.Frag} {mg : Str → Option Value} {base : Heap} {CX : CXT} {j k : Nat} {f : Addr} {fd : FuncData} {ps : List Str} {sp : Sp} (F : FnOk P w K mg base CX j f fd ps sp) (h : j ≤ k) :
    FnOk P w K mg base CX k f fd ps sp := ⟨F.len, fun A outer s H args us vs Q E hr => F.run A outer s H args us vs Q E (hr.mono h)⟩
section
variable {X : Cx} {pins : List (Addr × Obj)} {σ : St} {H : Hp} {s s' : Shared}
theorem Inv.env0 (I : Inv X pins σ H s) : Env0 X.prog X.w X.K X.mg X.base X.A X.stack s H :=
  ⟨I.ok.frames, I.ok.mod, I.bs, Nat.le_trans I.ok.bsz I.sz, I.stack, I.stkFree, I.hok, I.bare⟩
theorem Inv.after {Q : VK} {u : Value} (I : Inv X pins σ H s) (h : CE X.stack X.prog X.w H s Q u s') : EP X pins σ Q u s' := by
  obtain ⟨v, H', os, bare, un, hok, r, q⟩ := h
  obtain ⟨hh, g, d, t, os'⟩ := s'
  obtain rfl : os' = s.os := os
  exact ⟨v, H', I.call (h' := hh) (g' := g) (d' := d) (t' := t) (ch := []) un hok bare (fun b z => absurd z (by simp)), r, q⟩
end

def tCall (sp : Sp) (dvs : List V) (E : XK) (t : TA) : TE := fun σ H Q => t σ H fun vs H1 => sp (vs ++ dvs) H1 Q E
def tMeth (C : Addr) (m : Str) (sp : Sp) (dvs : List V) (E : XK) (ta : TE) (t : TA) : TE := fun σ H Q => ta σ H fun x H1 => ∃ a dx fs, x = .ref a ∧ H1 a = some (.ins C dx fs) ∧ fs.lookup m = none ∧
  t σ H1 fun vs H2 => sp (x :: (vs ++ dvs)) H2 Q E
def tMake (C : Addr) (sp : Sp) (dvs : List V) (E : XK) (t : TA) : TE := fun σ H Q => t σ H fun vs H1 => ∀ x dx, H1 x = none → H1 dx = none → dx ≠ x →
  sp (.ref x :: (vs ++ dvs)) (upd (upd H1 dx (.own x)) x (.ins C dx [])) (fun v H2 => v = .non ∧ Q (.ref x) H2) E

def Binds (K : PySem.W.Frag) (fd : FuncData) (ps : List Str) (ds : List Value) : Prop :=
  ∀ (s : Shared) (us : List Value), K.In s.heap → (us ++ ds).length = ps.length → BindsTo s fd ⟨us, []⟩ (ps.zip (us ++ ds))
theorem Binds.all {K : PySem.W.Frag} {fd : FuncData} {ps : List Str} (h : ∀ us : List Value, us.length = ps.length → bindArgs fd ⟨us, []⟩ = pure (ps.zip us)) : Binds K fd ps [] := fun s us _ hl => by
  rw [List.append_nil] at hl ⊢
  exact .of_eq (h us hl)

def Passes (CX : CXT) (X : Cx) (E : XK) : Prop := ∀ (pins : List (Addr × Obj)) (σ : St) (H : Hp) (s : Shared) (e : Value) (s' : Shared), Inv X pins σ H s → CX X.stack H s E e s' → X.xe e s'

section
variable {X : Cx} {CX : CXT} {k : Nat} {f C : Addr} {fd : FuncData} {ps : List Str} {sp : Sp} {dvs : List V} {ds : List Value} {E : XK} {x m : Str} {p pos apos : Pos} {e o : Expr} {es : List Expr} {ta : TE} {t : TA}

theorem run_fn {pins : List (Addr × Obj)} {σ : St} {H : Hp} {s : Shared} {Q : VK} {us : List Value} {vs : List V} (F : FnOk X.prog X.w X.K X.mg X.base CX k f fd ps sp) (hr : Room k X.A) (hb : Binds X.K fd ps ds) (hd : Vals dvs ds) (hx : Passes CX X E)
    (I : Inv X pins σ H s) (r : Vals vs us) (h : sp (vs ++ dvs) H Q E) : wpAny (model X.prog X.w) X.A (call (.ref f) us) (EP X pins σ Q) X.xe s := by
  have r2 : Vals (vs ++ dvs) (us ++ ds) := r.append hd
  have hl : (us ++ ds).length = ps.length := by rw [← r2.length]; exact F.len _ _ _ _ h
  refine wpAny_call (codeAny_mono (F.run X.A X.stack s H ⟨us, []⟩ (us ++ ds) (vs ++ dvs) Q E hr I.env0 (hb s us I.kIn hl) r2 h) fun r s' hq => ?_)
  cases r with
  | error e => exact hx pins σ H s e s' I hq
  | ok fl =>
    cases fl with
    | ret u => exact I.after hq
    | next => exact False.elim hq
    | brk => exact False.elim hq
    | cont => exact False.elim hq

theorem pe_call (F : FnOk X.prog X.w X.K X.mg X.base CX k f fd ps sp) (hr : Room k X.A) (hg : Gl X x) (hm : X.mg x = some (.ref f)) (hk : PySem.W.keepIn X.K (.ref f) = true) (hb : Binds X.K fd ps ds) (hd : Vals dvs ds) (hx : Passes CX X E)
    (ha : PA X (e :: es) t) (hdb : (x == ("__debug__" : Str)) = false := by decide) (he : starEach (e :: es) X.env = (false, eval e X.env) :: starEach es X.env := by rfl) (hpl : (backTo pos (starEach es X.env)).any (·.1) = false := by rfl) :
    PE X (.Call (.Name x p) (e :: es) [] pos) (tCall sp dvs E t) := by
  intro pins s σ H Q I h
  refine wpAny_Call_Name_kw (ld_glob I hg hm ?_ hdb)
  refine PySem.W.callWith_K (h₀ := X.base) I.ok.mod.kin hk (thn (ha pos pins s σ H _ I h) fun us s1 ⟨vs, H1, I1, r, q⟩ => ⟨I1.kIn, ?_⟩) he hpl
  exact run_fn F hr hb hd hx I1 r q
structure Mk (K : PySem.W.Frag) (C f : Addr) : Prop where
  makes : PySem.W.makesIn K C = true
  init : PySem.W.findIn K (.ref C) "__init__" = some (some (.ref f))
  fn : PySem.W.isFn K (.ref f) = true
  kp : PySem.W.keepIn K (.ref C) = true

end

def PK (X : Cx) (kws : List Keyword) (t : TA) : Prop :=
  ∀ (pos : Pos) (pins : List (Addr × Obj)) (s : Shared) (σ : St) (H : Hp) (Q : List V → Hp → Prop), Inv X pins σ H s → t σ H Q → wpAny (model X.prog X.w) X.A (evalAll ((backToKw pos (keywordEach kws X.env)).map (·.2))) (AP X pins σ Q) X.xe s
section
variable {X : Cx} {CX : CXT} {k : Nat} {f C : Addr} {fd : FuncData} {ps ks : List Str} {sp : Sp} {E : XK} {x m : Str} {p pos apos kpos : Pos} {e o : Expr} {es : List Expr} {kws : List Keyword} {te ta : TE} {t tk : TA} {nm : Option Str}
structure KBinds (K : PySem.W.Frag) (fd : FuncData) (ps ks : List Str) (g : List Value → List Value → List Value) (gV : List V → List V → List V) : Prop where
  to : ∀ (s : Shared) (us ws : List Value), K.In s.heap → (g us ws).length = ps.length → BindsTo s fd ⟨us, ks.zip ws⟩ (ps.zip (g us ws))
  rel : ∀ {vs : List V} {us : List Value} {zs : List V} {ws : List Value}, Vals vs us → Vals zs ws → Vals (gV vs zs) (g us ws)
def tCallK (sp : Sp) (gV : List V → List V → List V) (E : XK) (t tk : TA) : TE := fun σ H Q => t σ H fun vs H1 => tk σ H1 fun zs H2 => sp (gV vs zs) H2 Q E
variable {g : List Value → List Value → List Value} {gV : List V → List V → List V}
end

structure FnScope (N P : List Str) (sc : Scope) : Prop where
  kind : sc.kind = .function
  co : sc.isCoroutine = false
  gen : sc.isGenerator = false
  nd : N.Nodup
  pre : N.take P.length = P
  par : ∀ x ∈ P, sc.names.lookup x = some .local ∨ sc.names.lookup x = some .cell
  nofree : ∀ y ∈ sc.names, y.2 ≠ .free

theorem bindL_out {kindOf : Str → Option NameKind} {x : Str} : ∀ {binds : List (Str × Value)} {m : Str → Option Value}, (∀ v, (x, v) ∉ binds) → bindL kindOf binds m x = m x
  | [], _, _ => rfl
  | (n, v) :: r, m, h => by
    unfold bindL
    rw [bindL_out fun w hw => h w (List.mem_cons_of_mem _ hw)]
    split
    · have : x ≠ n := by rintro rfl; exact h v List.mem_cons_self
      simp [this]
    · rfl
theorem bindC_out {kindOf : Str → Option NameKind} {x : Str} : ∀ {binds : List (Str × Value)} {m : Str → Option Value}, (∀ v, (x, v) ∉ binds) → bindC kindOf binds m x = m x
  | [], _, _ => rfl
  | (n, v) :: r, m, h => by
    unfold bindC
    rw [bindC_out fun w hw => h w (List.mem_cons_of_mem _ hw)]
    split
    · rfl
    · have : x ≠ n := by rintro rfl; exact h v List.mem_cons_self
      simp [this]
theorem bindL_get {kindOf : Str → Option NameKind} {x : Str} {v : Value} : ∀ {P : List Str} {vs : List Value} {i : Nat} {m : Str → Option Value}, P.Nodup → P[i]? = some x → vs[i]? = some v → kindOf x = some .local →
    bindL kindOf (P.zip vs) m x = some v
  | [], _, _, _, _, h, _, _ => by simp at h
  | _ :: _, [], _, _, _, _, h, _ => by simp at h
  | p :: P, w :: vs, 0, m, nd, h1, h2, hk => by
    simp at h1 h2; subst h1; subst h2
    show bindL kindOf ((p, w) :: P.zip vs) m p = _
    unfold bindL
    rw [bindL_out fun v hv => (List.nodup_cons.mp nd).1 (List.of_mem_zip hv).1, if_pos hk]
    simp
  | p :: P, w :: vs, i + 1, m, nd, h1, h2, hk => by
    show bindL kindOf ((p, w) :: P.zip vs) m x = _
    unfold bindL
    exact bindL_get (i := i) (List.nodup_cons.mp nd).2 (by simpa using h1) (by simpa using h2) hk
theorem bindC_get {kindOf : Str → Option NameKind} {x : Str} {v : Value} : ∀ {P : List Str} {vs : List Value} {i : Nat} {m : Str → Option Value}, P.Nodup → P[i]? = some x → vs[i]? = some v → kindOf x ≠ some .local →
    bindC kindOf (P.zip vs) m x = some v
  | [], _, _, _, _, h, _, _ => by simp at h
  | _ :: _, [], _, _, _, _, h, _ => by simp at h
  | p :: P, w :: vs, 0, m, nd, h1, h2, hk => by
    simp at h1 h2; subst h1; subst h2
    show bindC kindOf ((p, w) :: P.zip vs) m p = _
    unfold bindC
    rw [bindC_out fun v hv => (List.nodup_cons.mp nd).1 (List.of_mem_zip hv).1, if_neg hk]
    simp
  | p :: P, w :: vs, i + 1, m, nd, h1, h2, hk => by
    show bindC kindOf ((p, w) :: P.zip vs) m x = _
    unfold bindC
    exact bindC_get (i := i) (List.nodup_cons.mp nd).2 (by simpa using h1) (by simpa using h2) hk

def start (N : List Str) (vs : List V) : St := vs.map some ++ List.replicate (N.length - vs.length) none

def cxOf (CX : CXT) (P : Program) (w : World) (K : PySem.W.Frag) (mg : Str → Option Value) (base : Heap) (N : List Str) (qual : Str) (scope : Scope) (f : Addr) (cd : Value) (A : Around) (outer : List Env) (s : Shared) (H : Hp) (E : XK) : Cx where
  prog := P
  w := w
  K := K
  mg := mg
  base := base
  A := A.deeper (envOfC qual scope s.heap.objs.size f cd)
  N := N
  s₀ := s
  H₀ := H
  env := envOfC qual scope s.heap.objs.size f cd
  outer := outer
  stack := envOfC qual scope s.heap.objs.size f cd :: outer
  ex := []
  calm := true
  fn := fun _ => true
  pn := []
  xe := fun e s' => wpAny (model P w) (A.deeper (envOfC qual scope s.heap.objs.size f cd)) (leaving (envOfC qual scope s.heap.objs.size f cd) e) (fun _ s'' => CX outer H s E e s'') (fun e' s'' => CX outer H s E e' s'') s'

theorem cell_has {sc : Scope} {n : Nat} {x : Str} (h : sc.names.lookup x = some .cell) : ∃ c, (cellsFrom n sc.names []).lookup x = some c := by
  have q := PySem.W.cellsFrom_some sc.names n [] (.inl h)
  exact Option.isSome_iff_exists.mp q

theorem inv_start {CX : CXT} {P : Program} {w : World} {K : PySem.W.Frag} {mg : Str → Option Value} {base : Heap} {N ps : List Str} {qual : Str} {scope : Scope} {f : Addr} {cd : Value} {A : Around} {outer : List Env} {s s1 : Shared} {H : Hp} {E : XK} {us : List Value} {vs : List V}
    (S : FnScope N ps scope) (hd : A.handled = none) (e0 : Env0 P w K mg base A outer s H) (hl : vs.length = ps.length) (r : Vals vs us)
    (x : InCallC s s.heap.objs.size (bindL (envOfC qual scope s.heap.objs.size f cd).kindOf (ps.zip us) fun _ => none) (cellsFrom (s.heap.objs.size + 1) scope.names []) (bindC (envOfC qual scope s.heap.objs.size f cd).kindOf (ps.zip us) fun _ => none) s1) :
    Inv (cxOf CX P w K mg base N qual scope f cd A outer s H E) [] (start N vs) H s1 := by
  have hpl : ps.length ≤ N.length := by have := congrArg List.length S.pre; rw [List.length_take] at this; omega
  obtain ⟨h1, tk, rfl, hk⟩ := x.done
  have noA : ∀ b : Addr, b ∉ (cxOf CX P w K mg base N qual scope f cd A outer s H E).ex := fun b z => absurd (show b ∈ ([] : List Addr) from z) (by simp)
  refine ⟨⟨e0.mod, S.kind, rfl, rfl, Nat.le_refl _, fun y z c h1 h2 => ?_, fun y hy => ?_, fun y c _ h => ?_, fun _ => hd, Around.frames_deeper e0.frames, .inr ⟨rfl, rfl⟩, fun b z => absurd z (noA b), e0.bs, e0.bsz, fun b _ _ => noA b, fun b z => absurd z (noA b), e0.funs, e0.frf⟩,
    rfl, e0.bare, Un.kept hk, ⟨_, x.toInCall.ns, fun i y v h1 h2 h3 => ?_⟩, fun y c h => ⟨_, x.cell y c h⟩, e0.hok.fresh (Nat.le_refl _), fun y c h => ?_, fun p hp => absurd (show p ∈ ([] : List (Addr × Obj)) from hp) (by simp), e0.hok.kept hk, ?_⟩
  · exact name_of_addr x.apart (PySem.mem_of_lookup h1) (PySem.mem_of_lookup h2)
  · have hy : scope.names.lookup y = some .cell ∨ scope.names.lookup y = some .free := hy
    rcases hy with hy | hy
    · exact cell_has hy
    · exact absurd rfl (S.nofree _ (PySem.mem_of_lookup hy))
  · exact Nat.le_of_lt (x.above y c (PySem.mem_of_lookup h))
  · have hi : i < vs.length := by
      unfold start at h2
      by_cases hi : i < vs.length
      · exact hi
      · rw [List.getElem?_append_right (by simpa using hi)] at h2
        rw [List.getElem?_replicate] at h2
        split at h2 <;> cases h2
    have ha : vs[i]? = some v := by
      unfold start at h2
      rw [List.getElem?_append_left (by simpa using hi), List.getElem?_map] at h2
      cases e : vs[i]? with
      | none => rw [e] at h2; cases h2
      | some a => rw [e] at h2; cases h2; rfl
    obtain ⟨u, hu, rv⟩ := r.get ha
    have hp : ps[i]? = some y := by
      rw [← S.pre, List.getElem?_take_of_lt (by omega)]; exact h1
    have ndP : ps.Nodup := by rw [← S.pre]; exact S.nd.sublist (List.take_sublist _ _)
    refine ⟨u, rv, ?_⟩
    rcases S.par y (List.mem_of_getElem? hp) with k | k
    · exact .inl ⟨k, bindL_get ndP hp hu k⟩
    · obtain ⟨c, e⟩ := cell_has (n := s.heap.objs.size + 1) k
      refine .inr ⟨.inl k, c, e, ?_⟩
      have q := x.cell y c e
      rw [bindC_get ndP hp hu (by show scope.names.lookup y ≠ _; rw [k]; decide)] at q
      exact q
  · exact e0.hok.fresh (Nat.le_of_lt (x.above y c (PySem.mem_of_lookup h)))
  · unfold start
    show _ = N.length
    rw [List.length_append, List.length_map, List.length_replicate]
    omega

theorem fn_of {CX : CXT} {P : Program} {w : World} {K : PySem.W.Frag} {mg : Str → Option Value} {base : Heap} {k : Nat} {f : Addr} {name qual : Str} {params : Arguments} {body : List Stmt} {scope : Scope} {dV kV doc pm cdv ct oc : Value} {an od : Option Addr}
    {osl : Array (Option Value)} {N ps : List Str} {sp : Sp} (lk : K.lookup f = some ⟨oc, od, .func (PySem.W.fnOf name qual params body scope dV kV doc pm an cdv ct), osl⟩) (hcd : PySem.W.codeIn K cdv qual = true) (S : FnScope N ps scope)
    (len : ∀ vs H Q E, sp vs H Q E → vs.length = ps.length)
    (hbody : ∀ (A : Around) (outer : List Env) (s : Shared) (H : Hp) (vs : List V) (Q : VK) (E : XK), Room k (A.deeper (envOfC qual scope s.heap.objs.size f cdv)) → sp vs H Q E →
      ∃ t, PSs (cxOf CX P w K mg base N qual scope f cdv A outer s H E) body t ∧ t { nx := fun _ H' => Q .non H', rt := Q } (start N vs) H) :
    FnOk P w K mg base CX (k + 1) f (PySem.W.fnOf name qual params body scope dV kV doc pm an cdv ct) ps sp := by
  refine ⟨len, fun A outer s H args us vs Q E hr e0 hb r hsp => ?_⟩
  have hl := len _ _ _ _ hsp
  have KX : K.In s.heap := e0.mod.kin.keeps fun b o e => (e0.bs b o e).1
  have lim : s.heap.NoLimit := e0.mod.nolimit.keeps fun b o e => (e0.bs b o e).1
  have hkind : ∀ y ∈ ps.zip us, scope.names.lookup y.1 = some .local ∨ (scope.names.lookup y.1 = some .cell ∧ ((cellsFrom (s.heap.objs.size + 1) scope.names []).lookup y.1).isSome = true) := fun ⟨n, v⟩ hy => by
    rcases S.par n (List.of_mem_zip hy).1 with q | q
    · exact .inl q
    · exact .inr ⟨q, PySem.W.cellsFrom_some _ _ _ (.inl q)⟩
  refine codeAny_call_function hr.depth (KX _ _ lk) rfl S.co S.gen rfl (PySem.W.codeRec_of KX hcd) (hb _ _ _ _ ?_)
  refine wpAny_newFunctionEnv_cells S.kind hkind fun env he s1 x => ?_
  subst he
  refine ⟨lim.keeps x.toInCall.keep, codeAny_func ?_⟩
  obtain ⟨t, ht, hq⟩ := hbody A outer s H vs Q E (hr.deeper _) hsp
  have I : Inv (cxOf CX P w K mg base N qual scope f cdv A outer s H E) [] (start N vs) H s1 := inv_start S hr.hd e0 hl r x
  refine wpAny_mono (ht [] s1 (start N vs) H _ I hq) (fun fl s' hs => ?_) fun e s' hs => hs
  have fin : ∀ {σ' : St} {H' : Hp} {v : V} {u : Value}, Inv (cxOf CX P w K mg base N qual scope f cdv A outer s H E) [] σ' H' s' → RelV v u → Q v H' → CE outer P w H s Q u s' :=
    fun {σ' H' v u} J rv q => ⟨v, H', J.os, J.bare, J.base, J.hok, rv, q⟩
  cases fl with
  | ret u =>
    obtain ⟨v, σ', H', J, rv, q⟩ := hs
    exact fin J rv q
  | next =>
    obtain ⟨σ', H', J, q⟩ := hs
    exact fin (v := V.non) (u := Value.none) J rfl q
  | brk =>
    obtain ⟨_, _, _, q⟩ := hs
    exact False.elim q
  | cont =>
    obtain ⟨_, _, _, q⟩ := hs
    exact False.elim q
end L2

namespace L2
open PySem PySem.Spec PyProof.Rows
section
variable {X : Cx} {x : Str} {p pos : Pos} {e : Expr} {es : List Expr} {t : TA} {id T : String} {r : List V → Hp → VK → Prop}

def tCB (r : List V → Hp → VK → Prop) (t : TA) : TE := fun σ H Q => t σ H fun vs H1 => r vs H1 Q
theorem pe_callB (hc : CallR X (.builtin id) r) (hg : Gl X x) (hm : X.mg x = none) (hv : bootBuiltins x = some (.builtin id)) (ha : PA X (e :: es) t) (hn : x ≠ "__name__" := by decide) (hdb : (x == ("__debug__" : Str)) = false := by decide)
    (he : starEach (e :: es) X.env = (false, eval e X.env) :: starEach es X.env := by rfl) (hpl : (backTo pos (starEach es X.env)).any (·.1) = false := by rfl) : PE X (.Call (.Name x p) (e :: es) [] pos) (tCB r t) := by
  intro pins s σ H Q I h
  refine wpAny_Call_Name_kw (ld_blt I hg hm hv ?_ hn hdb)
  exact PyProof.Rows.callWith_builtin1 (thn (ha pos pins s σ H _ I h) fun us s1 ⟨vs, H1, I1, r1, q1⟩ => hc pins s1 σ H1 vs us Q I1 r1 q1) he hpl
theorem pe_callTy (hc : CallR X (.type T) r) (hg : Gl X x) (hm : X.mg x = none) (hv : bootBuiltins x = some (.type T)) (ha : PA X (e :: es) t) (hn : x ≠ "__name__" := by decide) (hdb : (x == ("__debug__" : Str)) = false := by decide)
    (he : starEach (e :: es) X.env = (false, eval e X.env) :: starEach es X.env := by rfl) (hpl : (backTo pos (starEach es X.env)).any (·.1) = false := by rfl) : PE X (.Call (.Name x p) (e :: es) [] pos) (tCB r t) := by
  intro pins s σ H Q I h
  refine wpAny_Call_Name_kw (ld_blt I hg hm hv ?_ hn hdb)
  exact PyProof.Rows.callWith_type1 (thn (ha pos pins s σ H _ I h) fun us s1 ⟨vs, H1, I1, r1, q1⟩ => hc pins s1 σ H1 vs us Q I1 r1 q1) he hpl
end
end L2

namespace HT
open PySem PyProof.Rows

def lexLt : List Int → List Int → Bool
  | [], [] => false
  | [], _ :: _ => true
  | _ :: _, [] => false
  | x :: xs, y :: ys => if x = y then lexLt xs ys else decide (x < y)
section
open PySem.SeqAt
open PySem.AutoSeq1 (wpAny_loadPart')
open PySem.MeetsSeq PySem.MeetsSeq2 PySem.MeetsSeq3

end

section
variable {prog : Program} {w : World} {A : Around} {E : Value → Shared → Prop} {s : Shared}

theorem cat_tup {t b : Addr} {vs ws : List Value} {Q : Value → Shared → Prop} (ht : IsTup s.heap t vs.toArray) (hb : IsTup s.heap b ws.toArray) (hv : vs ≠ [])
    (h1 : ws = [] → Q (.ref t) s) (h2 : ws ≠ [] → Q (.ref s.heap.objs.size) { s with heap := s.heap.push { cls := .type "tuple", data := .seq (vs ++ ws).toArray } })
    (hsz : vs.length + ws.length ≤ sizeLine) : wpAny (model prog w) A (binaryOp .Add (.ref t) (.ref b)) Q E s := by
  obtain ⟨⟨cls, dd, data, sl⟩, ho, hc, n, hd⟩ := id ht
  obtain ⟨⟨cls2, dd2, data2, sl2⟩, ho2, hc2, n2, hd2⟩ := id hb
  simp only at hc hd hc2 hd2
  subst hc hd hc2 hd2
  have e : vs.toArray ++ ws.toArray = (vs ++ ws).toArray := by simp
  by_cases hw : ws = []
  · exact concat_meets ⟨_, ho, rfl⟩ ⟨_, ho2, rfl⟩ noFill_tuple_add seq_tuple_add PySem.F.slot_tuple_add PySem.F.entry_tuple_add (PySem.F.args_tuple_add_2 _ _)
      (tuple_addW1 t b vs.toArray ws.toArray n n2 dd dd2 sl sl2 (by simpa using hv) (by simp [hw])) ⟨ho, ho2, h1 hw⟩
  · refine concat_meets ⟨_, ho, rfl⟩ ⟨_, ho2, rfl⟩ noFill_tuple_add seq_tuple_add PySem.F.slot_tuple_add PySem.F.entry_tuple_add (PySem.F.args_tuple_add_2 _ _)
      (tuple_addW2 t b vs.toArray ws.toArray n n2 dd dd2 sl sl2 (by simpa using hv) (by simpa using hw) (by rw [List.size_toArray, List.size_toArray]; exact hsz)) ⟨ho, ho2, ?_⟩
    rw [e]
    exact h2 hw

def sIx (n d : Nat) : Option Int → Nat
  | none => d
  | some v => if v < 0 then (v + (n : Int)).toNat else min v.toNat n
theorem sIx_none (n d : Nat) : sIx n d none = d := rfl
theorem sIx_nat (n d k : Nat) : sIx n d (some (k : Int)) = min k n := by
  show (if (k : Int) < 0 then ((k : Int) + (n : Int)).toNat else min (k : Int).toNat n) = min k n
  rw [if_neg (by omega), Int.toNat_natCast]
theorem sIx_le (n d : Nat) (hd : d ≤ n) (o : Option Int) : sIx n d o ≤ n := by
  cases o with
  | none => exact hd
  | some v =>
    show (if v < 0 then (v + (n : Int)).toNat else min v.toNat n) ≤ n
    by_cases hv : v < 0
    · rw [if_pos hv]; omega
    · rw [if_neg hv]; exact Nat.min_le_right _ _
theorem clip_eq (v : Int) (n d : Nat) : (if v < 0 then max (v + (n : Int)) 0 else min v (n : Int)) = ((sIx n d (some v) : Nat) : Int) := by
  show (if v < 0 then max (v + (n : Int)) 0 else min v (n : Int)) = (((if v < 0 then (v + (n : Int)).toNat else min v.toNat n) : Nat) : Int)
  by_cases hv : v < 0
  · simp only [if_pos hv]; omega
  · simp only [if_neg hv]; omega
theorem adjust_gen (lo hi : Option Int) (n : Nat) : Builtin.Slice.sliceAdjust lo hi 1 (n : Int) = (((sIx n 0 lo : Nat) : Int), ((sIx n n hi : Nat) : Int)) := by
  have h1 : ¬ ((1 : Int) < 0) := by omega
  unfold Builtin.Slice.sliceAdjust
  simp only [h1, if_false]
  refine Prod.ext ?_ ?_
  · cases lo with
    | none => rfl
    | some v => exact clip_eq v n 0
  · cases hi with
    | none => rfl
    | some v => exact clip_eq v n n
theorem places_gen (i j : Nat) : Builtin.Slice.slicePlaces (i : Int) (j : Int) 1 = j - i := by
  unfold Builtin.Slice.slicePlaces
  have h1 : (1 : Int) > 0 := by omega
  simp only [h1, if_true, Int.ediv_one]
  split <;> omega
theorem slicePart_ {v : Value} {o : Option Int} {Q : Option Int → Shared → Prop} (p : IsPart v o) (h : Q o s) : wpAny (model prog w) A (Builtin.Slice.slicePartIndex v) Q E s := by
  cases p with
  | none => exact slicePart_none h
  | int i t => exact slicePart_int h
theorem sliceApplied_gen {sl : Addr} {vl vu : Value} {lo hi : Option Int} {n : Nat} {Q : Int × Int × Nat → Shared → Prop} (hs : s.heap.IsSliceOf sl vl vu .none) (pl : IsPart vl lo) (pu : IsPart vu hi)
    (h : Q (((sIx n 0 lo : Nat) : Int), 1, sIx n n hi - sIx n 0 lo) s) : wpAny (model prog w) A (Builtin.Slice.sliceApplied (.ref sl) (pure (n : Int))) Q E s := by
  obtain ⟨os, hos, hcs, hds⟩ := id hs
  unfold Builtin.Slice.sliceApplied Builtin.Slice.sliceFields
  refine wpAny_bind (wpAny_bind (wpAny_field hos hds (x := vl) rfl (wpAny_bind (wpAny_field hos hds (x := vu) rfl (wpAny_bind (wpAny_field hos hds (x := .none) rfl (wpAny_pure ?_)))))))
  refine wpAny_bind (slicePart_none ?_)
  show wpAny _ _ (if ((1 : Int) == 0) = true then _ else _) _ _ s
  rw [if_neg (by decide)]
  refine wpAny_bind (slicePart_ pl (wpAny_bind (slicePart_ pu (wpAny_bind (wpAny_pure ?_)))))
  show wpAny _ _ (match Builtin.Slice.sliceAdjust lo hi 1 (n : Int) with | (lo, hi) => pure (lo, (1 : Int), Builtin.Slice.slicePlaces lo hi 1)) _ _ s
  rw [adjust_gen lo hi n]
  show wpAny _ _ (pure (((sIx n 0 lo : Nat) : Int), (1 : Int), Builtin.Slice.slicePlaces ((sIx n 0 lo : Nat) : Int) ((sIx n n hi : Nat) : Int) 1)) _ _ s
  rw [places_gen]
  exact wpAny_pure h
theorem pick_gen (xs : Array Value) (i k : Nat) : ((List.range k).filterMap fun (m : Nat) => xs[((i : Int) + (m : Int) * 1).toNat]?).toArray = ((xs.toList.drop i).take k).toArray := by
  have e : (fun (m : Nat) => xs[((i : Int) + (m : Int) * 1).toNat]?) = fun m => xs[i + m]? := by
    funext m
    have : ((i : Int) + (m : Int) * 1).toNat = i + m := by omega
    rw [this]
  rw [e]
  have := pick_run xs i k
  rw [List.filterMap_map] at this
  have e2 : ((fun x => xs[x]?) ∘ fun x => i + x) = fun m => xs[i + m]? := rfl
  rw [e2] at this
  rw [this]

theorem getItem_tuple_cut {t sl : Addr} {items : Array Value} {vl vu : Value} {lo hi : Option Int} {Q : Value → Shared → Prop} (ht : IsTup s.heap t items) (hs : s.heap.IsSliceOf sl vl vu .none) (pl : IsPart vl lo) (pu : IsPart vu hi)
    (hw : ¬ (sIx items.size 0 lo = 0 ∧ sIx items.size items.size hi = items.size))
    (h : Q (.ref s.heap.objs.size) { s with heap := s.heap.push { cls := .type "tuple", data := .seq ((items.toList.drop (sIx items.size 0 lo)).take (sIx items.size items.size hi - sIx items.size 0 lo)).toArray } })
    (hsz : items.size ≤ sizeLine) : wpAny (model prog w) A (getItem (.ref t) (.ref sl)) Q E s := by
  have htake : sizeOk (.seq ((items.toList.drop (sIx items.size 0 lo)).take (sIx items.size items.size hi - sIx items.size 0 lo)).toArray) := by
    show ((items.toList.drop (sIx items.size 0 lo)).take (sIx items.size items.size hi - sIx items.size 0 lo)).toArray.size ≤ sizeLine
    rw [List.size_toArray, List.length_take, List.length_drop, Array.length_toList]
    omega
  have hj : sIx items.size items.size hi ≤ items.size := sIx_le _ _ (Nat.le_refl _) hi
  obtain ⟨os, hos, hcs, hds⟩ := id hs
  have hTs : s.TypeIs (.ref sl) "slice" := ⟨os, hos, hcs⟩
  unfold getItem
  try with_reducible refine wpAny_holding ?_
  first | refine wpAny_bind (wpAny_pure ?_) | skip
  refine wpAny_bind (wpAny_sequenceKey ht.typeIs (by decide) ?_)
  refine wpAny_bind (wpAny_callSpecial?_slot (name := Str.ofString "__getitem__") ht.typeIs PyProof.Rows.slot_tuple_getitem
    (wpAny_call_entry PyProof.Rows.slot_tuple_getitem ht.typeIs entry_tuple_getitem ?_ (args_tuple_getitem _ _)))
  show wpAny _ _ (Builtin.Tuple.tupleItemsOf (.ref t) >>= _) _ _ s
  refine wpAny_bind (tupleItemsOf_ ht ?_)
  refine wpAny_bind (wpAny_typeOf hTs ?_)
  rw [if_pos (by decide)]
  refine wpAny_bind (sliceApplied_gen hs pl pu ?_)
  have hno : ¬ ((((sIx items.size 0 lo : Nat) : Int) == 0 && (1 : Int) == 1 && (sIx items.size items.size hi - sIx items.size 0 lo) == items.size) = true) := by
    intro q
    rw [Bool.and_eq_true, Bool.and_eq_true] at q
    have q1 : ((sIx items.size 0 lo : Nat) : Int) = 0 := eq_of_beq q.1.1
    have q2 : sIx items.size items.size hi - sIx items.size 0 lo = items.size := eq_of_beq q.2
    exact hw ⟨by omega, by omega⟩
  show wpAny _ _ (if (((sIx items.size 0 lo : Nat) : Int) == 0 && (1 : Int) == 1 && (sIx items.size items.size hi - sIx items.size 0 lo) == items.size) = true then _ else _) _ _ s
  rw [if_neg hno, pick_gen]
  first
    | exact wpAny_bind (m := Builtin.Tuple.tupleExact _) (wpAny_newObj_type (wpAny_pure ⟨_, rfl, wpAny_pure h⟩) htake)
    | exact wpAny_bind (m := Builtin.Tuple.tupleExact _) (wpAny_newObj_type (wpAny_bind (wpAny_pure (wpAny_pure ⟨_, rfl, wpAny_pure h⟩))) htake)
    | exact wpAny_bind (wpAny_bind (m := Builtin.Tuple.tupleExact _) (wpAny_newObj_type (wpAny_pure (wpAny_pure ⟨_, rfl, wpAny_pure h⟩)) htake))
    | exact wpAny_bind (wpAny_bind (m := Builtin.Tuple.tupleExact _) (wpAny_newObj_type (wpAny_pure ⟨_, rfl, wpAny_pure h⟩) htake))
end
end HT

namespace L2
open PySem PySem.Spec PyProof.Rows

abbrev TO := St → Hp → (Option Int → Hp → Prop) → Prop
def PO (X : Cx) (e : Option Expr) (t : TO) : Prop :=
  ∀ (pins : List (Addr × Obj)) (s : Shared) (σ : St) (H : Hp) (Q : Option Int → Hp → Prop), Inv X pins σ H s → t σ H Q →
    wpAny (model X.prog X.w) X.A (evalPart e X.env) (fun u s' => ∃ o H', Inv X pins σ H' s' ∧ IsPart u o ∧ Q o H') X.xe s
def tNoPart : TO := fun _ H Q => Q none H
def tPart (t : TE) : TO := fun σ H Q => t σ H fun x H1 => ∃ i, x = .int i ∧ Q (some i) H1

theorem intsAre_of {ns : List Int} : ∀ {us : List Value}, Vals (ns.map V.int) us → IntsAre us ns := by
  induction ns with
  | nil => intro us r; rw [List.map_nil] at r; cases r; exact .nil
  | cons n ns ih =>
    intro us r
    rw [List.map_cons] at r
    cases r with
    | cons r1 r2 =>
      obtain ⟨t, e⟩ := r1
      subst e
      exact .cons n t (ih r2)

section
variable {X : Cx} {e : Expr} {te : TE} {lo hi : Option Expr} {tl th : TO} {pos p2 : Pos}

theorem po_none : PO X none tNoPart := by
  intro pins s σ H Q I h
  rw [evalPart_none]
  exact wpAny_pure ⟨none, H, I, .none, h⟩
theorem po_some (h : PE X e te) : PO X (some e) (tPart te) := by
  intro pins s σ H Q I hw
  rw [evalPart_some]
  refine thn (h pins s σ H _ I hw) fun u s1 ⟨x, H1, I1, r1, q1⟩ => ?_
  obtain ⟨i, rfl, q⟩ := q1
  obtain ⟨t, rfl⟩ := r1
  exact ⟨some i, H1, I1, .int i t, q⟩

def SlR (X : Cx) (r : V → Option Int → Option Int → Hp → VK → Prop) : Prop :=
  ∀ (pins : List (Addr × Obj)) (s : Shared) (σ : St) (H : Hp) (x : V) (v vl vu : Value) (lo hi : Option Int) (sl : Addr) (Q : VK), Inv X pins σ H s → RelV x v → s.heap.IsSliceOf sl vl vu .none → IsPart vl lo → IsPart vu hi → r x lo hi H Q →
    ∃ T id, typeLookup (.type T) "__getitem__" = pure (some (.builtin id)) ∧ s.TypeIs v T ∧ wpAny (model X.prog X.w) X.A (getItem v (.ref sl)) (EP X pins σ Q) X.xe s
def tSl (r : V → Option Int → Option Int → Hp → VK → Prop) (te : TE) (tl th : TO) : TE := fun σ H Q => te σ H fun x H1 => tl σ H1 fun l H2 => th σ H2 fun u H3 => r x l u H3 Q
theorem pe_slice {r : V → Option Int → Option Int → Hp → VK → Prop} (hr : SlR X r) (he : PE X e te) (hl : PO X lo tl) (hu : PO X hi th) : PE X (.Subscript e (.Slice lo hi none p2) pos) (tSl r te tl th) := by
  intro pins s σ H Q I h
  refine Subscript_ (thn (he pins s σ H _ I h) fun v s1 ⟨x, H1, I1, r1, q1⟩ => ?_)
  refine wpAny_Slice (thn (hl pins s1 σ H1 _ I1 q1) fun vl s2 ⟨l, H2, I2, pl, q2⟩ => thn (hu pins s2 σ H2 _ I2 q2) fun vu s3 ⟨u, H3, I3, pu, q3⟩ => ?_)
  rw [evalPart_none]
  refine wpAny_pure ?_
  have I4 : Inv X pins σ H3 { s3 with heap := s3.heap.push { cls := .type "slice", data := .fields #[vl, vu, .none] } } := I3.kept (t' := s3.toks) fun b ob q => Heap.get?_push_of_some _ q
  obtain ⟨T, id, hT, ht, hg⟩ := hr pins { s3 with heap := s3.heap.push { cls := .type "slice", data := .fields #[vl, vu, .none] } } σ H3 x v vl vu l u s3.heap.objs.size Q I4 r1 (Heap.IsSliceOf.new ..) pl pu q3
  show wpAny (model X.prog X.w) X.A (subscriptTail e (.Slice lo hi none p2) v (.ref s3.heap.objs.size)) (EP X pins σ Q) X.xe { s3 with heap := s3.heap.push { cls := .type "slice", data := .fields #[vl, vu, .none] } }
  exact tail_any (ops := [.ref s3.heap.objs.size, v]) ht hT hg (by with_unfolding_all rfl)

def cutV (xs : List V) (lo hi : Option Int) : List V := (xs.drop (HT.sIx xs.length 0 lo)).take (HT.sIx xs.length xs.length hi - HT.sIx xs.length 0 lo)
theorem cutV_length (xs : List V) (lo hi : Option Int) : (cutV xs lo hi).length ≤ xs.length := by
  unfold cutV
  rw [List.length_take, List.length_drop]
  omega
def rSlT (K : PySem.W.Frag) : V → Option Int → Option Int → Hp → VK → Prop := fun x lo hi H Q => ∃ a xs, x = .ref a ∧ SqT K H a xs ∧
  ¬ (HT.sIx xs.length 0 lo = 0 ∧ HT.sIx xs.length xs.length hi = xs.length) ∧ ∀ p, H p = none → Q (.ref p) (upd H p (.tup (cutV xs lo hi)))
theorem sl_tup : SlR X (rSlT X.K) := by
  intro pins s σ H x v vl vu lo hi sl Q I rx hs pl pu h
  obtain ⟨a, xs, rfl, hx, hw, q⟩ := h
  cases rx
  obtain ⟨its, r, ht, hz⟩ := I.tuple hx
  have hlen : its.toArray.size = xs.length := by rw [List.size_toArray]; exact r.length.symm
  refine ⟨"tuple", _, PyProof.Rows.slot_tuple_getitem.lookup, ht.typeIs, ?_⟩
  refine HT.getItem_tuple_cut ht hs pl pu (by rw [hlen]; exact hw) ?_ (by rw [hlen]; exact hz)
  rw [hlen]
  refine ⟨.ref s.heap.objs.size, _, I.laid (t' := s.toks) (o := .tup (cutV xs lo hi)) (fun b ob q => Heap.get?_push_of_some _ q) (Nat.le_refl _) ?_, rfl, q _ (I.hok.fresh (Nat.le_refl _))⟩
  exact ⟨Nat.le_trans (cutV_length xs lo hi) hz, _, (r.drop (HT.sIx xs.length 0 lo)).take (HT.sIx xs.length xs.length hi - HT.sIx xs.length 0 lo), PTup.new⟩

def rLtT (K : PySem.W.Frag) : R2 := fun x y H Q => ∃ a b ns ms, x = .ref a ∧ y = .ref b ∧ SqT K H a (ns.map V.int) ∧ SqT K H b (ms.map V.int) ∧ Q (.bl (HT.lexLt ns ms)) H
def rCatT (K : PySem.W.Frag) : R2 := fun x y H Q => ∃ a b xs ys, x = .ref a ∧ y = .ref b ∧ SqT K H a xs ∧ SqT K H b ys ∧ xs ≠ [] ∧ xs.length + ys.length ≤ sizeLine ∧
  (ys = [] → Q (.ref a) H) ∧ (ys ≠ [] → ∀ p, H p = none → Q (.ref p) (upd H p (.tup (xs ++ ys))))
theorem Vals.nil_iff {xs : List V} {us : List Value} (r : Vals xs us) : us = [] ↔ xs = [] := by
  cases r with
  | nil => simp
  | cons _ _ => simp
theorem op_catT : OpR X (binaryOp .Add) (rCatT X.K) := by
  intro pins s σ H x y v u Q I rx ry h
  obtain ⟨a, b, xs, ys, rfl, rfl, ha, hb, hx, hz, q1, q2⟩ := h
  cases rx
  cases ry
  obtain ⟨its, r1, p1, _⟩ := I.tuple ha
  obtain ⟨its2, r2, p2, _⟩ := I.tuple hb
  refine HT.cat_tup p1 p2 (fun z => hx (r1.nil_iff.mp z)) (fun z => ⟨.ref a, H, I, rfl, q1 (r2.nil_iff.mp z)⟩) (fun z => ?_) (by rw [← r1.length, ← r2.length]; exact hz)
  refine ⟨.ref s.heap.objs.size, _, I.laid (t' := s.toks) (o := .tup (xs ++ ys)) (fun b ob q => Heap.get?_push_of_some _ q) (Nat.le_refl _) ?_, rfl, q2 (fun w => z (r2.nil_iff.mpr w)) _ (I.hok.fresh (Nat.le_refl _))⟩
  exact ⟨by rw [List.length_append]; exact hz, _, r1.append r2, PTup.new⟩
end
end L2

namespace L2
open PySem PySem.Spec PyProof.Rows

def ixN (n : Nat) (i : Int) : Option Nat := if 0 ≤ i then (if i < n then some i.toNat else none) else if -(n : Int) ≤ i then some (i + n).toNat else none
def atI {α : Type} (xs : List α) (i : Int) : Option α := (ixN xs.length i).bind fun j => xs[j]?
theorem ixN_seq {n : Nat} {i : Int} {j : Nat} (h : ixN n i = some j) : seqIndex? i n = some j ∧ j < n ∧ -(n : Int) ≤ i ∧ i < n := by
  unfold ixN at h
  by_cases h0 : 0 ≤ i
  · rw [if_pos h0] at h
    by_cases h1 : i < n
    · rw [if_pos h1] at h
      have e : i.toNat = j := Option.some.inj h
      exact ⟨by rw [seqIndex_of h0 h1, e], by omega, by omega, h1⟩
    · rw [if_neg h1] at h; cases h
  · rw [if_neg h0] at h
    by_cases h1 : -(n : Int) ≤ i
    · rw [if_pos h1] at h
      have e : (i + n).toNat = j := Option.some.inj h
      exact ⟨by rw [seqIndex_neg (by omega) h1, e], by omega, h1, by omega⟩
    · rw [if_neg h1] at h; cases h
theorem atI_get {α : Type} {xs : List α} {i : Int} {v : α} (h : atI xs i = some v) : ∃ j, seqIndex? i xs.length = some j ∧ xs[j]? = some v ∧ j < xs.length ∧ -(xs.length : Int) ≤ i ∧ i < xs.length := by
  unfold atI at h
  cases e : ixN xs.length i with
  | none => rw [e] at h; cases h
  | some j =>
    rw [e] at h
    obtain ⟨h1, h2, h3, h4⟩ := ixN_seq e
    exact ⟨j, h1, h, h2, h3, h4⟩
theorem atI_nat {α : Type} {xs : List α} {j : Nat} {v : α} (h : xs[j]? = some v) : atI xs (j : Int) = some v := by
  have hj : j < xs.length := (List.getElem?_eq_some_iff.mp h).1
  have e : ixN xs.length (j : Int) = some j := by
    unfold ixN
    rw [if_pos (by omega), if_pos (by omega)]; simp
  unfold atI; rw [e]; exact h
def PlainIx (b : Expr) : Prop := ∀ o i, subscripted b false o i = operate [o, i] (getItem o i)
def IxR (X : Cx) (r : R2) : Prop :=
  ∀ (value slice : Expr) (pins : List (Addr × Obj)) (s : Shared) (σ : St) (H : Hp) (x y : V) (v u : Value) (Q : VK), Inv X pins σ H s → RelV x v → RelV y u → r x y H Q →
    subscripted slice false v u = operate [v, u] (getItem v u) → wpAny (model X.prog X.w) X.A (subscriptTail value slice v u) (EP X pins σ Q) X.xe s
def MtR (X : Cx) (id : String) (r : V → List V → Hp → VK → Prop) : Prop :=
  ∀ (pins : List (Addr × Obj)) (s : Shared) (σ : St) (H : Hp) (x : V) (xs : List V) (v : Value) (us : List Value) (Q : VK), Inv X pins σ H s → RelV x v → Vals xs us → r x xs H Q →
    wpAny (model X.prog X.w) X.A (call (.builtin id) (v :: us)) (EP X pins σ Q) X.xe s
section
variable {X : Cx} {a b : Expr} {ta tb : TE} {pos : Pos}
theorem pe_ix {r : R2} (hr : IxR X r) (ha : PE X a ta) (hb : PE X b tb) (hs : PlainIx b) : PE X (.Subscript a b pos) (tOp r ta tb) := by
  intro pins s σ H Q I h
  exact Subscript_ (binT ha hb I h fun v u s2 x y H2 I2 rx ry q => hr a b pins s2 σ H2 x y v u Q I2 rx ry q (hs _ _))

def rIxL (K : PySem.W.Frag) : R2 := fun x y H Q => ∃ p xs i v, x = .ref p ∧ y = .int i ∧ SqL K H p xs ∧ atI xs i = some v ∧ Q v H
def rIxT (K : PySem.W.Frag) : R2 := fun x y H Q => ∃ p xs i v, x = .ref p ∧ y = .int i ∧ SqT K H p xs ∧ atI xs i = some v ∧ Q v H
def rIxS : R2 := fun x y H Q => ∃ z i c, x = .str z ∧ y = .int i ∧ z.length ≤ sizeLine ∧ atI z.cps.toList i = some c ∧ Q (.str ⟨#[c]⟩) H
theorem ix_list : IxR X (rIxL X.K) := by
  intro value slice pins s σ H x y v u Q I rx ry h hs
  obtain ⟨p, xs, i, z, rfl, rfl, hq, he, q⟩ := h
  cases rx
  obtain ⟨t, rfl⟩ := ry
  obtain ⟨its, r, pl, hz⟩ := I.list hq
  obtain ⟨j, h1, h2, h3, h4, h5⟩ := atI_get he
  obtain ⟨w, ew, rw'⟩ := r.get h2
  have hl := r.length
  have hn := line63
  have fin : EP X pins σ Q w s := ⟨z, H, I, rw', q⟩
  by_cases h0 : 0 ≤ i
  · have hj : i.toNat = j := by
      rw [seqIndex_of h0 h5] at h1
      exact Option.some.inj h1
    exact item_listR pl.isList h0 (by omega) (by rw [hj]; simpa using ew) fin hs
  · have hj : (i + (its.toArray.size : Int)).toNat = j := by
      rw [seqIndex_neg (by omega) h4] at h1
      rw [List.size_toArray, ← hl]
      exact Option.some.inj h1
    exact subscriptTail_builtinR (x := w) pl.isList.typeIs slot_list_getitem.lookup
      (wpAny_getItem_list_neg (Q := fun r s' => r = w ∧ EP X pins σ Q r s') pl.isList (by omega) (by rw [List.size_toArray] <;> omega) (by omega) (by rw [hj]; simpa using ew) ⟨rfl, fin⟩) hs
theorem ix_tup : IxR X (rIxT X.K) := by
  intro value slice pins s σ H x y v u Q I rx ry h hs
  obtain ⟨p, xs, i, z, rfl, rfl, hq, he, q⟩ := h
  cases rx
  obtain ⟨t, rfl⟩ := ry
  obtain ⟨its, r, pl, hz⟩ := I.tuple hq
  obtain ⟨j, h1, h2, h3, h4, h5⟩ := atI_get he
  obtain ⟨w, ew, rw'⟩ := r.get h2
  have hl := r.length
  have hn := line63
  have fin : EP X pins σ Q w s := ⟨z, H, I, rw', q⟩
  exact subscriptTail_builtinR (x := w) pl.typeIs slot_tuple_getitem.lookup
    (getItem_tuple (j := j) (Q := fun r s' => r = w ∧ EP X pins σ Q r s') pl (by omega) (by omega) (by rw [List.size_toArray, ← hl]; exact h1) (by simpa using ew) ⟨rfl, fin⟩) hs
def rIx (K : PySem.W.Frag) : R2 := fun x y H Q => rIxL K x y H Q ∨ rIxT K x y H Q ∨ rIxS x y H Q
theorem mapSeq_set (its : List Value) (n j : Nat) (u : Value) : Obj.mapSeq (·.setIfInBounds j u) { cls := .type "list", data := .seq its.toArray n } = { cls := .type "list", data := .seq (its.set j u).toArray n } := by
  simp [Obj.mapSeq]
theorem Inv.lst {pins : List (Addr × Obj)} {σ : St} {H : Hp} {s : Shared} {p : Addr} {xs : List V} (I : Inv X pins σ H s) (h : H p = some (.lst xs)) :
    ∃ (its : List Value) (n : Nat), Vals xs its ∧ s.heap.get? p = some { cls := .type "list", data := .seq its.toArray n } ∧ xs.length ≤ sizeLine := by
  obtain ⟨z, its, n, r, e⟩ := I.hok p _ h
  exact ⟨its, n, r, e, z⟩
theorem Inv.lstUpd {pins : List (Addr × Obj)} {σ : St} {H : Hp} {s : Shared} {p : Addr} {xs ys : List V} {its its' : List Value} {n n' : Nat} {f : Obj → Obj} (I : Inv X pins σ H s) (h : H p = some (.lst xs))
    (ho : s.heap.get? p = some { cls := .type "list", data := .seq its.toArray n }) (hf : f { cls := .type "list", data := .seq its.toArray n } = { cls := .type "list", data := .seq its'.toArray n' }) (r : Vals ys its') (hz : ys.length ≤ sizeLine) (t : Nat) :
    Inv X pins σ (upd H p (.lst ys)) { s with heap := s.heap.update p f, toks := t } := by
  have e : (s.heap.update p f).get? p = some { cls := .type "list", data := .seq its'.toArray n' } := by
    rw [Heap.get?_update_self f ho (by rw [hf] <;> rfl), hf]
  refine I.write (x := p) (e := p) (by rw [h]; trivial) (.inl rfl) (fun b u hb q => (Heap.get?_update_other _ _ (Ne.symm hb)).trans q) ⟨_, e⟩ ?_
  exact ⟨hz, its', n', r, e⟩
def rSetL : V → V → V → Hp → (Hp → Prop) → Prop := fun o i v H Q => ∃ p xs k j, o = .ref p ∧ i = .int k ∧ H p = some (.lst xs) ∧ ixN xs.length k = some j ∧ Q (upd H p (.lst (xs.set j v)))
theorem set_list : PSet X rSetL := by
  intro pins s σ H o i v ov iv u Q I ro ri rv h
  obtain ⟨p, xs, k, j, rfl, rfl, hp, hj, q⟩ := h
  cases ro
  obtain ⟨t, rfl⟩ := ri
  obtain ⟨its, n, r, ho, hz⟩ := I.lst hp
  obtain ⟨h1, h2, h3, h4⟩ := ixN_seq hj
  have hl := r.length
  have hn := line63
  have I' : Inv X pins σ (upd H p (.lst (xs.set j v))) { s with heap := s.heap.update p (Obj.mapSeq (·.setIfInBounds j u)) } :=
    I.lstUpd hp ho (mapSeq_set its n j u) (r.set rv j) (by rw [List.length_set]; exact hz) s.toks
  by_cases h0 : 0 ≤ k
  · have hk : k.toNat = j := by
      rw [seqIndex_of h0 h4] at h1
      exact Option.some.inj h1
    exact PySem.W.ki_setAt ho h0 (by omega) (by rw [List.size_toArray, ← hl]; exact h4) (by rw [hk]; exact ⟨_, I', q⟩)
  · have hk : (k + (its.toArray.size : Int)).toNat = j := by
      rw [seqIndex_neg (by omega) h3] at h1
      rw [List.size_toArray, ← hl]
      exact Option.some.inj h1
    exact PySem.W.ki_setBack ho (by omega) (by rw [List.size_toArray, ← hl]; exact h3) (by omega) (by rw [hk]; exact ⟨_, I', q⟩)

theorem slice_bounds (lo hi : Option Int) (n : Nat) : (sliceBounds lo hi none n).1 = ((HT.sIx n 0 lo : Nat) : Int) ∧ (sliceBounds lo hi none n).2.1 = ((HT.sIx n n hi : Nat) : Int) ∧ (sliceBounds lo hi none n).2.2 = 1 := by
  refine ⟨?_, ?_, rfl⟩
  · cases lo with
    | none => simp [sliceBounds, HT.sIx]
    | some i =>
      simp only [sliceBounds, HT.sIx, Option.getD_none, show (1 : Int) > 0 by decide, if_true]
      by_cases h : i < 0
      · simp only [h, if_true] <;> omega
      · simp only [h, if_false] <;> omega
  · cases hi with
    | none => simp [sliceBounds, HT.sIx]
    | some i =>
      simp only [sliceBounds, HT.sIx, Option.getD_none, show (1 : Int) > 0 by decide, if_true]
      by_cases h : i < 0
      · simp only [h, if_true] <;> omega
      · simp only [h, if_false] <;> omega
theorem slicePick_cut (its : List Value) (lo hi : Option Int) : slicePick its.toArray lo hi none = ((its.drop (HT.sIx its.length 0 lo)).take (HT.sIx its.length its.length hi - HT.sIx its.length 0 lo)).toArray := by
  obtain ⟨h1, h2, h3⟩ := slice_bounds lo hi its.toArray.size
  unfold slicePick
  rw [h1, h2, h3]
  simp only [sliceRange_one, pick_run, List.size_toArray] <;> rfl
def rSlL (K : PySem.W.Frag) : V → Option Int → Option Int → Hp → VK → Prop := fun x lo hi H Q => ∃ a xs, x = .ref a ∧ SqL K H a xs ∧ ∀ p, H p = none → Q (.ref p) (upd H p (.lst (cutV xs lo hi)))
theorem sl_list : SlR X (rSlL X.K) := by
  intro pins s σ H x v vl vu lo hi sl Q I rx hs pl pu h
  obtain ⟨a, xs, rfl, hx, q⟩ := h
  cases rx
  obtain ⟨its, r, ht, hz⟩ := I.list hx
  have hlen := r.length
  refine ⟨"list", _, slot_list_getitem.lookup, ht.isList.typeIs, ?_⟩
  refine wpAny_getItem_list_slice ht.isList hs pl pu .none (by simp) ?_ (by rw [List.size_toArray] <;> omega)
  rw [slicePick_cut, ← hlen]
  refine ⟨.ref s.heap.objs.size, _, I.laid (t' := s.toks) (o := .lst (cutV xs lo hi)) (fun b ob q => Heap.get?_push_of_some _ q) (Nat.le_refl _) ?_, rfl, q _ (I.hok.fresh (Nat.le_refl _))⟩
  exact ⟨Nat.le_trans (cutV_length xs lo hi) hz, _, 0, (r.drop (HT.sIx xs.length 0 lo)).take (HT.sIx xs.length xs.length hi - HT.sIx xs.length 0 lo), Heap.get?_push_size _ rfl⟩

def flatV : V → Bool
  | .non => true
  | .bl _ => true
  | .int _ => true
  | .str _ => true
  | _ => false
def eqV : V → V → Bool
  | .non, .non => true
  | .bl a, .bl b => a == b
  | .bl a, .int b => (if a then 1 else 0) == b
  | .int a, .bl b => a == (if b then 1 else 0)
  | .int a, .int b => a == b
  | .str a, .str b => a == b
  | _, _ => false
def eqU (x : V) (u : Value) : Bool := match u with
  | .none => eqV .non x
  | .bool b => eqV (.bl b) x
  | .int i _ => eqV (.int i) x
  | .str z _ => eqV (.str z) x
  | _ => false
def inV (x : V) (xs : List V) : Bool := xs.any fun y => eqV y x
def rIn (K : PySem.W.Frag) (neg : Bool) : R2 := fun x y H Q => ∃ p xs, y = .ref p ∧ (SqL K H p xs ∨ SqT K H p xs) ∧ flatV x = true ∧ xs.all flatV = true ∧ Q (.bl (if neg then !inV x xs else inV x xs)) H
theorem call_len_seq : CallR X (.builtin "len") (fun xs H Q => ∃ p ys, xs = [.ref p] ∧ (SqL X.K H p ys ∨ SqT X.K H p ys) ∧ Q (.int ys.length) H) := by
  intro pins s σ H xs us Q I r h
  obtain ⟨p, ys, rfl, hq, q⟩ := h
  obtain ⟨u, rfl, rx⟩ := vals1 r
  cases rx
  have hn := line63
  rcases hq with hq | hq
  · obtain ⟨its, r', pl, hz⟩ := I.list hq
    have hlen := r'.length
    exact Calls.call_len_list pl.isList (by simp only [List.size_toArray] <;> omega) ⟨.int ys.length, H, I.tok _, ⟨s.toks + 1, by rw [List.size_toArray, hlen]⟩, q⟩
  · obtain ⟨its, r', pl, hz⟩ := I.tuple hq
    have hlen := r'.length
    exact len_tuple pl (by simp only [List.size_toArray] <;> omega) ⟨.int ys.length, H, I.tok _, ⟨s.toks + 1, by rw [List.size_toArray, hlen]⟩, q⟩
theorem call_tuple_of : CallR X (.type "tuple") (fun xs H Q => ∃ p ys, xs = [.ref p] ∧ ((SqL X.K H p ys ∧ ∀ l, H l = none → Q (.ref l) (upd H l (.tup ys))) ∨ (SqT X.K H p ys ∧ Q (.ref p) H))) := by
  intro pins s σ H xs us Q I r h
  obtain ⟨p, ys, rfl, h⟩ := h
  obtain ⟨u, rfl, rx⟩ := vals1 r
  cases rx
  rcases h with ⟨hq, q⟩ | ⟨hq, q⟩
  · obtain ⟨its, r', pl, hz⟩ := I.list hq
    have hlen := r'.length
    refine call_tuple_list pl.isList (fun h' kp => ?_) (by simp only [List.size_toArray] <;> omega)
    have I1 : Inv X pins σ H { s with heap := h' } := I.kept (t' := s.toks) kp
    have I2 : Inv X pins σ (upd H h'.objs.size (.tup ys)) { s with heap := h'.push { cls := .type "tuple", data := .seq its.toArray } } :=
      I1.laid (t' := s.toks) (fun b o e => Heap.get?_push_of_some _ e) (Nat.le_refl _) (show ObjOk X.prog X.w _ _ _ (.tup ys) from ⟨hz, its, r', PTup.new⟩)
    exact ⟨.ref h'.objs.size, _, I2, rfl, q _ (I1.hok.fresh (Nat.le_refl _))⟩
  · obtain ⟨its, r', pl, hz⟩ := I.tuple hq
    exact call_tuple_same pl ⟨.ref p, H, I, rfl, q⟩

def tyV (K : PySem.W.Frag) (T : String) (x : V) (H : Hp) : Prop := match x with
  | .str _ => T = "str"
  | .int _ => T = "int"
  | .ref p => (T = "list" ∧ ∃ xs, SqL K H p xs) ∨ (T = "tuple" ∧ ∃ o, K.lookup p = some o ∧ o.cls = .type "tuple" ∧ o.dict = none) ∨
      (T = "dict" ∧ ((∃ kvs, H p = some (.dK kvs)) ∨ ∃ kvs, H p = some (.dT kvs))) ∨ (T = "set" ∧ ∃ S n, H p = some (.set S n))
  | _ => False
theorem tyV_is {pins : List (Addr × Obj)} {σ : St} {H : Hp} {s : Shared} {T : String} {x : V} {v : Value} (I : Inv X pins σ H s) (r : RelV x v) (ty : tyV X.K T x H) :
    s.TypeIs v T ∧ ∀ a, v = .ref a → ∃ ob, s.heap.get? a = some ob ∧ ob.dict = none := by
  cases x with
  | str z =>
    obtain ⟨t, rfl⟩ := r
    cases (show T = "str" from ty)
    exact ⟨typeIs_str s z t, fun _ e => nomatch e⟩
  | int i =>
    obtain ⟨t, rfl⟩ := r
    cases (show T = "int" from ty)
    exact ⟨typeIs_int s i t, fun _ e => nomatch e⟩
  | ref p =>
    cases r
    rcases ty with ⟨rfl, xs, hq⟩ | ⟨rfl, o, hk, hc, hd⟩ | ⟨rfl, hk⟩ | ⟨rfl, S, n, hk⟩
    · obtain ⟨its, _, pl, _⟩ := I.list hq
      refine ⟨pl.isList.typeIs, fun a e => ?_⟩
      cases e
      obtain ⟨o, n, e, c, hd, _⟩ := pl
      exact ⟨o, e, hd⟩
    · refine ⟨⟨o, I.kIn p o hk, hc⟩, fun a e => ?_⟩
      cases e
      exact ⟨o, I.kIn _ o hk, hd⟩
    · have z : ∃ o, s.heap.get? p = some o ∧ o.ExactDict := by
        rcases hk with ⟨kvs, hk⟩ | ⟨kvs, hk⟩
        · obtain ⟨_, _, _, _, o, _, _, e, ex, _⟩ := I.hok p _ hk
          exact ⟨o, e, ex⟩
        · obtain ⟨_, _, _, _, o, _, _, e, ex, _⟩ := I.hok p _ hk
          exact ⟨o, e, ex⟩
      obtain ⟨o, e, ex⟩ := z
      refine ⟨⟨o, e, ex.1⟩, fun a e2 => ?_⟩
      cases e2
      exact ⟨o, e, ex.2.1⟩
    · obtain ⟨o, _, _, _, e, ex, _⟩ := I.hok p _ hk
      refine ⟨⟨o, e, ex.1⟩, fun a e2 => ?_⟩
      cases e2
      exact ⟨o, e, ex.2.1⟩
  | _ => exact False.elim ty
def tBM0 (K : PySem.W.Frag) (T : String) (r : V → List V → Hp → VK → Prop) (to : TE) : TE := fun σ H Q => to σ H fun x H1 => tyV K T x H1 ∧ r x [] H1 Q
def tBM (K : PySem.W.Frag) (T : String) (r : V → List V → Hp → VK → Prop) (to : TE) (t : TA) : TE := fun σ H Q => to σ H fun x H1 => tyV K T x H1 ∧ t σ H1 fun xs H2 => r x xs H2 Q
variable {o e : Expr} {es : List Expr} {to : TE} {t : TA} {name : Str} {apos cpos : Pos} {T id : String} {r : V → List V → Hp → VK → Prop}
theorem pe_bm (pa : PlainAttrs T) (slot : Slot T name id) (hty : typeOf (.builtin id) = pure (.type "method_descriptor")) (hm : MtR X id r) (ho : PE X o to) (ha : PA X (e :: es) t)
    (hbase : attributeBase o name X.env (eval o X.env) = eval o X.env := by rfl)
    (hfew : ((backTo cpos (starEach (e :: es) X.env)).all (fun x => !x.1) && (backToKw cpos (keywordEach [] X.env)).all (fun x => x.1.isSome)
      && decide ((e :: es).length + ([] : List Keyword).length + (if ([] : List Keyword).isEmpty then 0 else 1) < 30)) = true := by rfl)
    (hline : (apos.endLine == cpos.line) = true := by rfl) (hs : starEach (e :: es) X.env = (false, eval e X.env) :: starEach es X.env := by rfl) (hplain : (backTo cpos (starEach es X.env)).any (·.1) = false := by rfl) :
    PE X (.Call (.Attribute o name apos) (e :: es) [] cpos) (tBM X.K T r to t) := by
  intro pins s σ H Q I h
  refine wpAny_Call_method_late hbase hfew hline rfl (thn (ho pins s σ H _ I h) fun v s1 ⟨x, H1, I1, r1, ty, q1⟩ => ?_)
  obtain ⟨h1, h2⟩ := tyV_is I1 r1 ty
  refine ⟨T, id, pa, slot, hty, h1, h2, ?_⟩
  have hA := ha cpos pins s1 σ H1 _ I1 q1
  rw [hs] at hA ⊢
  refine Calls.callWith_builtin (by show (false || (backTo cpos (starEach es X.env)).any (·.1)) = false; rw [hplain] <;> rfl) (Calls.evalArgs_plain ?_)
  exact thn hA fun us s2 ⟨vs, H2, I2, r2, q2⟩ => hm pins s2 σ H2 x vs v us Q I2 r1 r2 q2
end
end L2

namespace L2
open PySem PySem.Spec PyProof.Rows

def MtM (X : Cx) (id : String) (r : V → List V → Hp → VK → Prop) : Prop :=
  ∀ (pins : List (Addr × Obj)) (s : Shared) (σ : St) (H : Hp) (x : V) (xs : List V) (v : Value) (us : List Value) (Q : VK), Inv X pins σ H s → RelV x v → Vals xs us → r x xs H Q →
    wpAny (model X.prog X.w) X.A (call (.builtin id) (v :: us)) (EP X pins σ Q) X.xe s

theorem Vals.one : ∀ {x : V} {us : List Value}, Vals [x] us → ∃ u, us = [u] ∧ RelV x u
  | _, _, .cons r .nil => ⟨_, rfl, r⟩
theorem Vals.two : ∀ {x y : V} {us : List Value}, Vals [x, y] us → ∃ u v, us = [u, v] ∧ RelV x u ∧ RelV y v
  | _, _, _, .cons r (.cons q .nil) => ⟨_, _, rfl, r, q⟩
theorem Vals.eraseIdx : ∀ {xs : List V} {us : List Value} (i : Nat), Vals xs us → Vals (xs.eraseIdx i) (us.eraseIdx i)
  | _, _, _, .nil => .nil
  | _, _, 0, .cons _ t => t
  | _, _, i + 1, .cons r t => .cons r (Vals.eraseIdx i t)
theorem Vals.reverse {xs : List V} {us : List Value} (h : Vals xs us) : Vals xs.reverse us.reverse := by
  induction h with
  | nil => exact .nil
  | cons r t ih => rw [List.reverse_cons, List.reverse_cons]; exact Vals.append ih (.cons r .nil)
theorem Vals.rep {xs : List V} {us : List Value} (h : Vals xs us) : ∀ k : Nat, Vals (List.replicate k xs).flatten (List.replicate k us).flatten
  | 0 => .nil
  | k + 1 => by
    rw [List.replicate_succ, List.replicate_succ, List.flatten_cons, List.flatten_cons]
    exact Vals.append h (Vals.rep h k)
theorem len_erase {α : Type} : ∀ (l : List α) (i : Nat), (l.eraseIdx i).length ≤ l.length
  | [], _ => Nat.le_refl _
  | _ :: _, 0 => Nat.le_succ _
  | _ :: r, i + 1 => Nat.succ_le_succ (len_erase r i)
theorem foldl_rep (its : List Value) : ∀ (k : Nat) (acc : List Value),
    List.foldl (fun x1 x2 => x1 ++ x2) acc.toArray (List.replicate k its.toArray) = (acc ++ (List.replicate k its).flatten).toArray
  | 0, acc => by simp
  | k + 1, acc => by
    have e : acc.toArray ++ its.toArray = (acc ++ its).toArray := by simp
    have e2 : (acc ++ its) ++ (List.replicate k its).flatten = acc ++ (List.replicate (k + 1) its).flatten := by
      rw [List.replicate_succ, List.flatten_cons, List.append_assoc]
    rw [← e2, ← foldl_rep its k (acc ++ its), ← e, List.replicate_succ, List.foldl_cons]

section
variable {X : Cx} {pins : List (Addr × Obj)} {σ : St} {H : Hp} {s : Shared} {l b : Addr} {xs ys zs : List V}

theorem Inv.lset {its its' : List Value} {n : Nat} {f : Array Value → Array Value} {t' : Nat} (I : Inv X pins σ H s) (hH : H l = some (.lst xs))
    (e : s.heap.get? l = some { cls := .type "list", data := .seq its.toArray n }) (hf : f its.toArray = its'.toArray) (hv : Vals ys its') (hz : ys.length ≤ sizeLine) :
    Inv X pins σ (upd H l (.lst ys)) { s with heap := s.heap.update l (Obj.mapSeq f), toks := t' } := by
  have q := PySem.IsL.update e f
  rw [hf] at q
  refine I.write (x := l) (e := l) (by rw [hH]; exact trivial) (.inl rfl) (fun b' u hb hu => (Heap.get?_update_other s.heap (Obj.mapSeq f) (Ne.symm hb)).trans hu) ⟨_, q⟩ ?_
  exact ⟨hz, its', _, hv, q⟩
theorem Inv.lnew {its : List Value} {t' : Nat} (I : Inv X pins σ H s) (hv : Vals ys its) (hz : ys.length ≤ sizeLine) :
    Inv X pins σ (upd H s.heap.objs.size (.lst ys)) { s with heap := s.heap.push { cls := .type "list", data := .seq its.toArray }, toks := t' } :=
  I.laid (fun _ _ q => Heap.get?_push_of_some _ q) (Nat.le_refl _) ⟨hz, its, 0, hv, Heap.get?_push_size _ rfl⟩
theorem Inv.fresh (I : Inv X pins σ H s) : H s.heap.objs.size = none := I.hok.fresh (Nat.le_refl _)
theorem Inv.lstM (I : Inv X pins σ H s) (hH : H l = some (.lst xs)) : xs.length ≤ sizeLine ∧ ∃ (its : List Value) (n : Nat), Vals xs its ∧ xs.length = its.length ∧ s.heap.get? l = some { cls := .type "list", data := .seq its.toArray n } := by
  obtain ⟨z, its, n, r, e⟩ := I.hok l _ hH
  exact ⟨z, its, n, r, r.length, e⟩

theorem notLongL {n : Nat} (h : n ≤ sizeLine) : Builtin.List.listTooLong n = false := by
  unfold Builtin.List.listTooLong
  exact decide_eq_false (by omega)
end

section
variable {X : Cx}

def rAppend : V → List V → Hp → VK → Prop := fun x vs H Q => ∃ l xs y, x = .ref l ∧ vs = [y] ∧ H l = some (.lst xs) ∧ xs.length < sizeLine ∧ Q .non (upd H l (.lst (xs ++ [y])))
theorem mt_append : MtM X "list.append" rAppend := by
  intro pins s σ H x vs v us Q I rx rv h
  obtain ⟨l, xs, y, rfl, rfl, hH, hz, q⟩ := h
  cases rx
  obtain ⟨u, rfl, ru⟩ := rv.one
  obtain ⟨z, its, n, r, hl, e⟩ := I.lstM hH
  refine call_meets F.slot_list_append ⟨_, e, rfl⟩ F.entry_list_append (F.args_list_append_2 _ _) (PySem.list_append l its.toArray n u (by rw [List.size_toArray]; omega)) ⟨e, ?_⟩
  refine ⟨.non, _, I.lset (its' := its ++ [u]) hH e (by simp) (r.append (.cons ru .nil)) ?_, rfl, q⟩
  rw [List.length_append, List.length_singleton]
  omega

def rExtend : V → List V → Hp → VK → Prop := fun x vs H Q => ∃ l b xs zs, x = .ref l ∧ vs = [.ref b] ∧ H l = some (.lst xs) ∧ H b = some (.lst zs) ∧ xs.length + zs.length ≤ sizeLine ∧ Q .non (upd H l (.lst (xs ++ zs)))
def rPop : V → List V → Hp → VK → Prop := fun x vs H Q => ∃ l xs y, x = .ref l ∧ vs = [] ∧ H l = some (.lst xs) ∧ xs[xs.length - 1]? = some y ∧ Q y (upd H l (.lst xs.dropLast))
def rPopAt : V → List V → Hp → VK → Prop := fun x vs H Q => ∃ l xs i k y, x = .ref l ∧ vs = [.int i] ∧ H l = some (.lst xs) ∧ -(2 ^ 63) ≤ i ∧ i < 2 ^ 63 ∧ seqIndex? i xs.length = some k ∧ xs[k]? = some y ∧ Q y (upd H l (.lst (xs.eraseIdx k)))
theorem mt_popAt : MtM X "list.pop" rPopAt := by
  intro pins s σ H x vs v us Q I rx rv h
  obtain ⟨l, xs, i, k, y, rfl, rfl, hH, h1, h2, hk, hy, q⟩ := h
  cases rx
  obtain ⟨u, rfl, ru⟩ := rv.one
  obtain ⟨t, rfl⟩ := ru
  obtain ⟨z, its, n, r, hl, e⟩ := I.lstM hH
  obtain ⟨w, hw, rw'⟩ := r.get hy
  refine call_meets F.slot_list_pop ⟨_, e, rfl⟩ F.entry_list_pop (F.args_list_pop_2 _ _)
    (MeetsSeq.list_pop_at l its.toArray n i t k w (fitsIndex_both h1 h2) (by rw [List.size_toArray, ← hl]; exact hk) (by rw [← Array.getElem?_toList]; exact hw) (by rw [List.size_toArray]; omega)) ⟨e, ?_⟩
  refine ⟨y, _, I.lset (its' := its.eraseIdx k) hH e ?_ (r.eraseIdx k) ?_, rw', q⟩
  · show its.toArray.eraseIdxIfInBounds k = (its.eraseIdx k).toArray
    rw [List.eraseIdxIfInBounds_toArray]
  · have := len_erase xs k
    omega

def rReverse : V → List V → Hp → VK → Prop := fun x vs H Q => ∃ l xs, x = .ref l ∧ vs = [] ∧ H l = some (.lst xs) ∧ Q .non (upd H l (.lst xs.reverse))
def rClear : V → List V → Hp → VK → Prop := fun x vs H Q => ∃ l xs, x = .ref l ∧ vs = [] ∧ H l = some (.lst xs) ∧ Q .non (upd H l (.lst []))
def rCat : R2 := fun x y H Q => ∃ l b xs zs, x = .ref l ∧ y = .ref b ∧ H l = some (.lst xs) ∧ H b = some (.lst zs) ∧ xs.length + zs.length ≤ sizeLine ∧ ∀ p, H p = none → Q (.ref p) (upd H p (.lst (xs ++ zs)))
theorem op_cat : OpR X (binaryOp .Add) rCat := by
  intro pins s σ H x y v u Q I rx ry h
  obtain ⟨l, b, xs, zs, rfl, rfl, hH, hB, hz, q⟩ := h
  cases rx
  cases ry
  obtain ⟨z, its, n, r, hl, e⟩ := I.lstM hH
  obtain ⟨z2, its2, n2, r2, hl2, e2⟩ := I.lstM hB
  refine PySem.P.add_list e e2 ?_ (by rw [List.size_toArray, List.size_toArray]; omega)
  have ea : its.toArray ++ its2.toArray = (its ++ its2).toArray := by simp
  rw [ea]
  exact ⟨.ref _, _, I.lnew (t' := s.toks) (r.append r2) (by rw [List.length_append]; omega), rfl, q _ I.fresh⟩
def rRep : R2 := fun x y H Q => ∃ l k xs, x = .ref l ∧ y = .int k ∧ H l = some (.lst xs) ∧ -(2 ^ 63) ≤ k ∧ k < 2 ^ 63 ∧ xs.length * k.toNat ≤ sizeLine ∧
  ∀ p, H p = none → Q (.ref p) (upd H p (.lst (List.replicate k.toNat xs).flatten))
theorem len_rep {α : Type} (xs : List α) (k : Nat) : (List.replicate k xs).flatten.length = k * xs.length := by
  induction k with
  | zero => simp
  | succ k ih => rw [List.replicate_succ, List.flatten_cons, List.length_append, ih, Nat.succ_mul, Nat.add_comm]
theorem op_rep : OpR X (binaryOp .Mult) rRep := by
  intro pins s σ H x y v u Q I rx ry h
  obtain ⟨l, k, xs, rfl, rfl, hH, h1, h2, hz, q⟩ := h
  cases rx
  obtain ⟨t, rfl⟩ := ry
  obtain ⟨z, its, n, r, hl, e⟩ := I.lstM hH
  have hlen : its.toArray.size * k.toNat ≤ sizeLine := by rw [List.size_toArray, ← hl]; exact hz
  have hcap : ¬ its.toArray.size * k.toNat > (2 ^ 63 - 1) / 8 := by
    have : (sizeLine : Nat) ≤ (2 ^ 63 - 1) / 8 := by decide
    omega
  have hfit : ¬ (!Builtin.List.listFitsIndex k) = true := by
    rw [fitsIndex_both h1 h2]
    exact Bool.false_ne_true
  have hlong : ¬ Builtin.List.listTooLong (its.toArray.size * k.toNat) = true := by
    rw [notLongL hlen]
    exact Bool.false_ne_true
  have hnew : List.foldl (fun x1 x2 => x1 ++ x2) #[] (List.replicate (if its.toArray.isEmpty = true then 0 else k.toNat) its.toArray) = (List.replicate k.toNat its).flatten.toArray := by
    have f0 : ∀ m : Nat, List.foldl (fun x1 x2 => x1 ++ x2) #[] (List.replicate m its.toArray) = (List.replicate m its).flatten.toArray := fun m => by
      have := foldl_rep its m []
      rw [List.nil_append] at this
      exact this
    rw [f0]
    cases its with
    | nil => simp
    | cons a r' => rw [if_neg (by simp)]
  refine wpAny_binaryOp_repeat_ref (T := "list") (U := "int") (by decide) ⟨_, e, rfl⟩ (fun s' => typeIs_int s' k t) noFill_list_mul F.fills_int_mul F.slot_int_rmul repeat_list F.slot_int_index.lookup
    (call_meets F.slot_int_rmul (typeIs_int s k t) F.entry_int_rmul (F.args_int_rmul_2 _ _) (int___rmul___int_list k t l its.toArray n)
      ⟨e, rfl, ⟨_, e, rfl⟩, call_meets F.slot_list_mul ⟨_, e, rfl⟩ F.entry_list_mul (F.args_list_mul_2 _ _) (AutoListH.list___mul___list_int_3 l its.toArray n k t hfit hcap hlong) ⟨e, ?_⟩⟩)
  rw [hnew]
  exact ⟨.ref _, _, I.lnew (t' := s.toks) (r.rep k.toNat) (by rw [len_rep, Nat.mul_comm]; exact hz), rfl, q _ I.fresh⟩

end

section
variable {prog : Program} {w : World} {A : Around} {E : Value → Shared → Prop} {s : Shared}
end

section
variable {X : Cx}
end
end L2

namespace Att
open PySem PySem.W PySem.Calls PyProof.Rows

theorem ints_of_wellAll {P : Params} {h : Heap} : ∀ (ns : List Int) (vs : List Value), WellAll P h vs (ns.map WData.int) → IntsAre vs ns := by
  intro ns
  induction ns with
  | nil =>
    intro vs w
    rw [List.map_nil] at w
    cases w
    exact .nil
  | cons n ns ih =>
    intro vs w
    rw [List.map_cons] at w
    cases w with
    | cons a b =>
      cases a
      exact .cons _ _ (ih _ b)

theorem script_of {l : OpenLaw} {n : Nat} (hn : l.most = some n) {P : Params} {h : Heap} {args : List WData} {vals : List Value}
    (hpre : l.row.toRowW.claim.pre args = true) (hwl : WellAll P h vals args) :
    ∃ a vs ns, vals = [Value.ref a] ∧ args = [WData.list (ns.map WData.int)] ∧ h.get? a = some { cls := .type "list", data := .seq vs.toArray } ∧ IntsAre vs ns ∧ ns.length ≤ n := by
  have hsh : WShape.hasAll [] args [.list .int] = true := (pre_splitW hpre).1
  have hc : l.pre.holds [] { args := args } = true := (pre_splitW hpre).2
  obtain ⟨d, r, rfl, h1, h2⟩ := hasAllW_cons hsh
  obtain rfl := hasAllW_nil h2
  obtain ⟨xs, rfl, h3⟩ := hasW_list h1
  obtain ⟨ns, rfl⟩ := items_int h3
  have hlen : ns.length ≤ n := by
    unfold OpenLaw.pre at hc
    have h4 : (WTm.not (.lt (.lit (.int (n : Int))) (.len (.arg 0)))).holds [] { args := [.list (ns.map .int)] } = true := by
      have h4 := (holds_andW hc).1
      rw [hn] at h4
      exact h4
    have h5 := condW_of h4 (w_not (w_lt w_lit (w_len_list (w_arg rfl))))
    rw [List.length_map] at h5
    refine Nat.le_of_not_lt fun q => ?_
    have q' : (n : Int) < ((ns.length : Nat) : Int) := by omega
    first
      | (rw [decide_eq_true q'] at h5; exact absurd h5 (by decide))
      | (simp at h5; omega)
  cases hwl with
  | cons w1 w2 =>
    cases w2
    cases w1 with
    | list ho hall => exact ⟨_, _, ns, rfl, rfl, ho, ints_of_wellAll ns _ hall, hlen⟩

theorem post_true (l : OpenLaw) (args : List WData) : l.row.toRowW.claim.post args (.bool true) args = true :=
  postW_of (r := l.row.toRowW) (X := (true == true))
    (show WShape.has [] (.bool true) .bool = true by first | rfl | decide | simp [WShape.has, WShape.arms, WShape.armsAll])
    (show (WTm.eq .res (.lit (.bool true))).value [] { args := args, res := some (.bool true), after := args } = some (.bool (true == true)) from w_eq_bool (w_res rfl) w_lit) rfl

theorem attach_call {l : OpenLaw} {n : Nat} {q : Program} {loose : List Str} {XP : (Str → Option Value) → Heap → Prop} {YP : World → Heap → Prop} {d : DefRec}
    (hn : l.most = some n) (hdf : d.params.defaults = [])
    (call : ∀ (w : World) (s₀ s₁ : Shared) (mg mb : Str → Option Value) (fa : Addr) (o : Obj) (pm cd doc : Value) (a : Addr) (vs : List Value) (ns : List Int),
      Ground q loose [] XP w s₀ mg mb s₁.heap → YP w s₁.heap →
      s₁.heap.get? fa = some o → o.data = .func (docDef d.name d.params d.body d.scope pm cd doc) → s₁.heap.CodeRec cd d.name → mg d.name = some (.ref fa) →
      s₁.heap.get? a = some { cls := .type "list", data := .seq vs.toArray } → IntsAre vs ns → ns.length ≤ n → s₁.gens = #[] →
      codeAny (model l.prog w) callerA (.call (.ref fa) ⟨[.ref a], []⟩) (fun r s' => r = .ok (.ret (.bool true)) ∧ OldK s₁.heap s'.heap ∧ s'.os = s₁.os ∧ AllBare s'.gens) s₁) :
    WalkO q loose XP YP l.row.toRowW d [] (fun f vs => PySem.call f vs) := by
  intro w s₀ s₁ mg mb G Y fa o pm cd doc dV kV ho hd hcd hD hmg hg args vals as hpre hlay hrd hwl hlo
  obtain rfl : dV = .none := Dflts.none hD hdf
  obtain rfl : kV = .none := Dflts.noKw hD
  obtain ⟨a, vs, ns, rfl, rfl, hobj, hints, hlen⟩ := script_of hn hpre hwl
  refine enter_call (codeAny_mono (call w s₀ s₁ mg mb fa o pm cd doc a vs ns G Y ho (fd_plain hd) hcd hmg hobj hints hlen hg) fun r s' hq => ?_)
  obtain ⟨rfl, h2, h3, h4⟩ := hq
  exact ⟨.inl ⟨.bool true, .bool true, [], rfl, fun _ => rfl, .bool true, post_true l _, fun _ => ⟨List.Pairwise.nil, fun _ hm => (nomatch hm)⟩⟩, h2, h3, h4⟩

section
variable {prog : Program} {w : World} {A : Around} {E : Value → Shared → Prop} {s : Shared} {K : Frag}

def noObjs (h : Heap) : Heap := { h with objs := #[] }
def ledger (h : Heap) (L d : Addr) : List (Addr × Obj) := (List.range h.objs.size).filterMap fun a => if a = L ∨ a = d then none else (h.get? a).map fun o => (a, o)
end
end Att

namespace L2
open PySem PySem.Spec PyProof.Rows

theorem vals_ints : ∀ {vs : List Value} {ns : List Int}, IntsAre vs ns → Vals (ns.map V.int) vs
  | _, _, .nil => .nil
  | _, _, .cons n t h => .cons ⟨t, rfl⟩ (vals_ints h)

def Only (H : Hp) : Prop := ∀ b, H b = none ∨ ∃ o xs, H b = some (.frz o (.lst xs))

theorem law_call {P : Program} {w : World} {K : PySem.W.Frag} {mg mb : Str → Option Value} {CX : CXT} {k : Nat} {fa a : Addr} {fd : FuncData} {x : Str} {sp : Sp} {s₁ : Shared} {vs : List Value} {ns : List Int}
    (KX : K.In s₁.heap) (hns : s₁.heap.Ns mainGlobals mg) (hb : s₁.heap.Ns builtinsNs mb) (hbb : ∀ x : Str, x ≠ "__name__" → mb x = bootBuiltins x) (hlim : s₁.heap.NoLimit) (hg : s₁.gens = #[])
    (ha : s₁.heap.get? a = some { cls := .type "list", data := .seq vs.toArray }) (hi : IntsAre vs ns) (hl : ns.length ≤ sizeLine) (hr : Room k callerA)
    (F : ∀ base : Heap, K.In base → base.Ns mainGlobals mg → FnOk P w K mg base CX k fa fd [x] sp) (hbind : ∀ (s : Shared) (u : Value), BindsTo s fd ⟨[u], []⟩ [(x, u)])
    (hsp : ∀ H : Hp, Only H → SqL K H a (ns.map V.int) → sp [.ref a] H (fun v _ => v = .bl true) fun _ _ _ => False)
    (hCX : ∀ H e s', CX [] H s₁ (fun _ _ _ => False) e s' → False) :
    codeAny (model P w) callerA (.call (.ref fa) ⟨[.ref a], []⟩) (fun r s' => r = .ok (.ret (.bool true)) ∧ OldK s₁.heap s'.heap ∧ s'.os = s₁.os ∧ AllBare s'.gens) s₁ := by
  have rv := vals_ints hi
  have lenV := hi.length
  -- from an abstract heap in which nothing but the script may be tracked
  have core : ∀ H : Hp, Only H → SqL K H a (ns.map V.int) → HOk P w H s₁.heap → (∀ b, H b ≠ none → b = a) → (H a ≠ none → K.lookup a = none) →
      codeAny (model P w) callerA (.call (.ref fa) ⟨[.ref a], []⟩) (fun r s' => r = .ok (.ret (.bool true)) ∧ OldK s₁.heap s'.heap ∧ s'.os = s₁.os ∧ AllBare s'.gens) s₁ := by
    intro H hO hS hok hA hK
    have base_of : ∀ {b : Addr} {o : Obj}, s₁.heap.get? b = some o → H b = none → (hidT s₁.heap H).get? b = some o := fun e n => hidT_get e n
    have noA : ∀ {b : Addr} {o : Obj} {es : Array DictEntry} {ep : Nat}, s₁.heap.get? b = some o → o.data = .dict es ep → H b = none := fun {b o es ep} e d => by
      cases q : H b with
      | none => rfl
      | some u =>
        have e' : b = a := hA b (by rw [q]; simp)
        subst e'
        rw [ha] at e; cases e
        have d' : Data.seq vs.toArray _ = Data.dict es ep := d
        cases d'
    have nsK : ∀ {b : Addr} {m : Str → Option Value}, s₁.heap.Ns b m → (hidT s₁.heap H).Ns b m := fun {b m} ⟨o, es, ep, e, d, r⟩ => ⟨o, es, ep, base_of e (noA e d), d, r⟩
    have hKb : K.In (hidT s₁.heap H) := fun b o e => base_of (KX b o e) (by
      cases q : H b with
      | none => rfl
      | some u =>
        have e' : b = a := hA b (by rw [q]; simp)
        subst e'
        rw [hK (by rw [q]; simp)] at e; cases e)
    have hM : Mod K mg (hidT s₁.heap H) := ⟨hKb, nsK hns, ⟨mb, nsK hb, hbb⟩, let ⟨mc, h1, h2⟩ := hlim; ⟨mc, nsK h1, h2⟩⟩
    have e0 : Env0 P w K mg (hidT s₁.heap H) callerA [] s₁ H := ⟨rfl, hM, fun b o e => of_hidT e, Nat.le_of_eq (hidT_size _ _), trivial, fun b hb => absurd (show b ∈ ([] : List Addr) from hb) (by simp), hok, .of_eq hg⟩
    refine codeAny_mono ((F _ hKb (nsK hns)).run callerA [] s₁ H ⟨[.ref a], []⟩ [.ref a] [.ref a] _ _ hr e0 (hbind s₁ (.ref a)) (.cons rfl .nil) (hsp H hO hS)) fun r s' h => ?_
    cases r with
    | error e => exact (hCX H e s' h).elim
    | ok fl =>
      cases fl with
      | next => exact False.elim h
      | brk => exact False.elim h
      | cont => exact False.elim h
      | ret u =>
        obtain ⟨v, H', os, bare, un, hok', r', q⟩ := h
        have q' : v = .bl true := q
        subst q'
        obtain rfl : u = Value.bool true := r'
        refine ⟨rfl, OldK.of_keep fun b o e => ?_, os, bare⟩
        cases q : H b with
        | none => exact un.keep b o e q (by intro z; exact absurd (show b ∈ ([] : List Addr) from z) (by simp)) (by simp)
        | some u =>
          rcases hO b with z | ⟨ob, xs, z⟩
          · rw [q] at z; cases z
          · have z2 := un.frzs b ob _ z
            obtain ⟨e1, _⟩ := hok b _ z
            obtain ⟨e2, _⟩ := hok' b _ z2
            rw [e] at e1; cases e1
            exact e2
  cases hk : K.lookup a with
  | some o =>
    -- the script is one of the module's own objects
    have e := KX a o hk
    rw [ha] at e
    cases e
    refine core (fun _ => none) (fun _ => .inl rfl) (.inr ⟨_, vs.toArray, _, hk, rfl, rfl, rfl, by rw [List.size_toArray, lenV]; exact hl, by simpa using rv⟩) (fun b u z => by have z' : (none : Option HO) = some u := z; cases z') (fun b z => absurd rfl z) fun z => absurd rfl z
  | none =>
    refine core (fun b => if b = a then some (.frz { cls := .type "list", data := .seq vs.toArray } (.lst (ns.map V.int))) else none) (fun b => ?_) (.inl (.inr ⟨{ cls := .type "list", data := .seq vs.toArray }, if_pos rfl⟩)) (fun b u z => ?_) (fun b z => ?_) fun _ => hk
    · by_cases hb : b = a
      · exact .inr ⟨_, _, if_pos hb⟩
      · exact .inl (if_neg hb)
    · by_cases hb : b = a
      · have z' := (if_pos hb).symm.trans z
        cases z'
        subst hb
        exact ⟨ha, by rw [List.length_map]; exact hl, vs, _, rv, ha⟩
      · have z' := (if_neg hb).symm.trans z
        cases z'
    · by_cases hb : b = a
      · exact hb
      · exact absurd (if_neg hb) z
end L2

namespace L2
open PySem PySem.Spec PyProof.Rows

abbrev KOf {K : PySem.W.Frag} {h : Heap} (_ : K.In h) : PySem.W.Frag := K

theorem walk_of {l : PySem.W.OpenLaw} {n k : Nat} {q : Program} {loose : List Str} {XP : (Str → Option Value) → Heap → Prop} {YP : World → Heap → Prop} {d : DefRec} {K : Params → PySem.W.Frag} {CX : World → CXT} {sp : World → Sp} {x : Str}
    (hn : l.most = some n) (hn2 : n ≤ sizeLine) (hdf : d.params.defaults = []) (hr : Room k callerA)
    (hY : ∀ (w : World) (h : Heap), YP w h → (K w.params).In h)
    (F : ∀ (w : World) (mg : Str → Option Value) (fa : Addr) (h : Heap), (K w.params).In h → h.Ns mainGlobals mg → mg d.name = some (.ref fa) →
      ∃ fd : FuncData, (∀ (s : Shared) (u : Value), BindsTo s fd ⟨[u], []⟩ [(x, u)]) ∧
        ∀ base : Heap, (K w.params).In base → base.Ns mainGlobals mg → FnOk l.prog w (K w.params) mg base (CX w) k fa fd [x] (sp w))
    (hsp : ∀ (w : World) (H : Hp) (a : Addr) (ns : List Int), ns.length ≤ n → Only H → SqL (K w.params) H a (ns.map V.int) → sp w [.ref a] H (fun v _ => v = .bl true) fun _ _ _ => False)
    (hCX : ∀ (w : World) (H : Hp) (s : Shared) (e : Value) (s' : Shared), CX w [] H s (fun _ _ _ => False) e s' → False) :
    PySem.W.WalkO q loose XP YP l.row.toRowW d [] (fun f vs => PySem.call f vs) := by
  refine Att.attach_call hn hdf fun w s₀ s₁ mg mb fa o pm cd doc a vs ns G Y ho hd hcd hmg hobj hints hlen hg => ?_
  have KX := hY w _ Y
  obtain ⟨fd, hb, hF⟩ := F w mg fa _ KX G.T.g hmg
  exact law_call KX G.T.g G.T.b G.T.builtins G.T.nolimit hg hobj hints (Nat.le_trans hlen hn2) hr hF hb (fun H hO hS => hsp w H a ns hlen hO hS) fun H e s' => hCX w H s₁ e s'
end L2


namespace L2
open PySem PySem.Spec PyProof.Rows

def inClass (s : Stmt) (j : Nat) : Stmt := match s with
  | .ClassDef _ _ _ body _ _ _ _ _ _ _ => body.getD j (.Pass ⟨0, 0, 0, 0⟩)
  | _ => .Pass ⟨0, 0, 0, 0⟩
def defArgs (s : Stmt) : Arguments := match s with
  | .FunctionDef _ a _ _ _ _ _ _ _ _ => a
  | _ => { posonlyargs := [], args := [], vararg := none, kwonlyargs := [], kw_defaults := [], kwarg := none, defaults := [] }
def defBody (s : Stmt) : List Stmt := match s with
  | .FunctionDef _ _ b _ _ _ _ _ _ _ => b
  | _ => []
def defScope (s : Stmt) : Scope := match s with
  | .FunctionDef _ _ _ _ _ _ sc _ _ _ => sc
  | _ => { kind := .function, names := [], isGenerator := false, isCoroutine := false }

abbrev CX0 : CXT := fun _ _ _ _ _ _ => False
abbrev E0 : XK := fun _ _ _ => False
theorem pass0 {X : Cx} : Passes CX0 X E0 := fun _ _ _ _ _ _ _ h => h.elim

structure Fun (K : PySem.W.Frag) (x qual : Str) (st : Stmt) (f : Addr) (fd : FuncData) : Prop where
  ex : ∃ (oc : Value) (od : Option Addr) (kV doc pm : Value) (an : Option Addr) (cdv ct : Value) (osl : Array (Option Value)),
    fd = PySem.W.fnOf x qual (defArgs st) (defBody st) (defScope st) .none kV doc pm an cdv ct ∧ K.lookup f = some ⟨oc, od, .func fd, osl⟩ ∧ PySem.W.codeIn K cdv qual = true
  kp : PySem.W.keepIn K (.ref f) = true
section
variable {P : Program} {w : World} {K : PySem.W.Frag} {mg : Str → Option Value} {base : Heap}
theorem Fun.ok {x qual : Str} {st : Stmt} {f : Addr} {fd : FuncData} {N ps : List Str} {k : Nat} {sp : Sp} (F : Fun K x qual st f fd) (S : FnScope N ps (defScope st)) (len : ∀ vs H Q E, sp vs H Q E → vs.length = ps.length)
    (hbody : ∀ (cdv : Value) (A : Around) (outer : List Env) (s : Shared) (H : Hp) (vs : List V) (Q : VK) (E : XK), Room k (A.deeper (envOfC qual (defScope st) s.heap.objs.size f cdv)) → sp vs H Q E →
      ∃ t, PSs (cxOf CX0 P w K mg base N qual (defScope st) f cdv A outer s H E).nox (defBody st) t ∧ t { nx := fun _ H' => Q .non H', rt := Q } (start N vs) H) : FnOk P w K mg base CX0 (k + 1) f fd ps sp := by
  obtain ⟨oc, od, kV, doc, pm, an, cdv, ct, osl, rfl, lk, hcd⟩ := F.ex
  refine fn_of lk hcd S len fun A outer s H vs Q E hr hsp => ?_
  obtain ⟨t, h, q⟩ := hbody cdv A outer s H vs Q E hr hsp
  exact ⟨t, h.nox, q⟩
theorem Fun.binds {x qual : Str} {st : Stmt} {f : Addr} {fd : FuncData} {ps : List Str} (F : Fun K x qual st f fd)
    (h : ∀ (kV doc pm : Value) (an : Option Addr) (cdv ct : Value) (us : List Value), us.length = ps.length → bindArgs (PySem.W.fnOf x qual (defArgs st) (defBody st) (defScope st) .none kV doc pm an cdv ct) ⟨us, []⟩ = pure (ps.zip us)) : Binds K fd ps [] := by
  obtain ⟨oc, od, kV, doc, pm, an, cdv, ct, osl, rfl, lk, hcd⟩ := F.ex
  exact .all (h kV doc pm an cdv ct)
theorem fun_mk {x qual : Str} {st : Stmt} {f : Addr} {oc : Value} {od an : Option Addr} {osl : Array (Option Value)} {kV doc pm cdv ct : Value} (l : K.lookup f = some ⟨oc, od, .func (PySem.W.fnOf x qual (defArgs st) (defBody st) (defScope st) .none kV doc pm an cdv ct), osl⟩)
    (c : PySem.W.codeIn K cdv qual = true) (k : PySem.W.keepIn K (.ref f) = true) : Fun K x qual st f (PySem.W.fnOf x qual (defArgs st) (defBody st) (defScope st) .none kV doc pm an cdv ct) := ⟨⟨oc, od, kV, doc, pm, an, cdv, ct, osl, rfl, l, c⟩, k⟩
end
section
variable {X : Cx}
theorem pv (i : Nat) {x : Str} {pos : Pos} (hN : X.N[i]? = some x := by rfl) (hv : Vis X.env.scope x := by first | exact Or.inl rfl | exact Or.inr (Or.inl rfl) | exact Or.inr (Or.inr rfl)) (hd : (x == ("__debug__" : Str)) = false := by decide)
    (hcd : (x == ("__classdict__" : Str)) = false := by decide) : PE X (.Name x pos) (tVar i) := pe_var hN hv hd hcd
end

theorem iteF {A B : Prop} (h : B) : if false = true then A else B := by
  rw [if_neg Bool.false_ne_true]
  exact h
theorem iteT {A B : Prop} (h : A) : if true = true then A else B := by
  rw [if_pos rfl]
  exact h
theorem ite2 {c A B : Prop} [Decidable c] (h1 : c → A) (h2 : ¬ c → B) : if c then A else B := by
  by_cases h : c
  · rw [if_pos h]
    exact h1 h
  · rw [if_neg h]
    exact h2 h
def Same (H H' : Hp) : Prop := ∀ b o, H b = some o → H' b = some o
theorem Same.refl (H : Hp) : Same H H := fun _ _ h => h
theorem Same.trans {H H1 H2 : Hp} (a : Same H H1) (b : Same H1 H2) : Same H H2 := fun c o h => b c o (a c o h)
theorem Same.free {H H' : Hp} (e : Same H H') {l : Addr} (h : H' l = Option.none) : H l = Option.none := by
  cases q : H l with
  | none => rfl
  | some o =>
    rw [e l o q] at h
    cases h
theorem Same.seq {K : PySem.W.Frag} {H H' : Hp} {a : Addr} {xs : List V} (e : Same H H') (h : SqL K H a xs) : SqL K H' a xs := by
  rcases h with (h | ⟨o, h⟩) | h
  · exact .inl (.inl (e _ _ h))
  · exact .inl (.inr ⟨o, e _ _ h⟩)
  · exact .inr h

end L2


namespace L2
open PySem PySem.Spec PyProof.Rows


theorem closure_ok {env : Env} {scope : Scope} (h : ∀ y ∈ scope.names, y.2 = .free → ∃ c, env.cells.lookup y.1 = some c) :
    ∃ cl, closureFor scope env = pure cl ∧ (∀ x c, cl.lookup x = some c → env.cells.lookup x = some c) ∧ ∀ y ∈ scope.names, y.2 = .free → cl.lookup y.1 = env.cells.lookup y.1 := by
  have go : ∀ (names : List (Str × NameKind)) (acc : List (Str × Addr)), (∀ y ∈ names, y.2 = .free → ∃ c, env.cells.lookup y.1 = some c) →
      (∀ x c, acc.lookup x = some c → env.cells.lookup x = some c) →
      ∃ cl, (forIn names acc (fun (y : Str × NameKind) (cs : List (Str × Addr)) => if (y.2 == .free) = true then (do let c ← cellOf env y.1; pure (ForInStep.yield ((y.1, c) :: cs))) else pure (ForInStep.yield cs)) : Sem (List (Str × Addr))) = pure cl ∧
        (∀ x c, cl.lookup x = some c → env.cells.lookup x = some c) ∧ (∀ x c, acc.lookup x = some c → cl.lookup x = some c) ∧ ∀ y ∈ names, y.2 = .free → cl.lookup y.1 = env.cells.lookup y.1 := by
    intro names
    induction names with
    | nil => intro acc _ ha; exact ⟨acc, rfl, ha, fun _ _ h => h, fun y hy => nomatch hy⟩
    | cons y r ih =>
      intro acc hn ha
      obtain ⟨n, k⟩ := y
      by_cases hk : k = .free
      · subst hk
        obtain ⟨c, hc⟩ := hn (n, .free) List.mem_cons_self rfl
        have ha' : ∀ x d, (((n, c) :: acc : List (Str × Addr))).lookup x = some d → env.cells.lookup x = some d := fun x d e => by
          rw [List.lookup_cons] at e
          cases hx : x == n with
          | true =>
            rw [hx] at e
            have e1 : x = n := eq_of_beq hx
            subst e1
            cases e
            exact hc
          | false => rw [hx] at e; exact ha x d e
        obtain ⟨cl, e, h1, h2, h3⟩ := ih ((n, c) :: acc) (fun y hy => hn y (List.mem_cons_of_mem _ hy)) ha'
        refine ⟨cl, ?_, h1, fun x d e => ?_, fun y hy hf => ?_⟩
        · rw [List.forIn_cons]
          have ec : cellOf env n = pure c := by unfold cellOf; rw [hc]
          simp only [beq_self_eq_true, if_true]
          rw [ec]
          exact e
        · have e' := ha x d e
          by_cases hx : x = n
          · subst hx
            rw [hc] at e'; cases e'
            exact h2 x c (by rw [List.lookup_cons]; simp)
          · exact h2 x d (by rw [List.lookup_cons, beq_eq_false_iff_ne.mpr hx]; exact e)
        · rcases List.mem_cons.mp hy with rfl | hy
          · show cl.lookup n = env.cells.lookup n
            rw [hc]
            exact h2 n c (by rw [List.lookup_cons]; simp)
          · exact h3 y hy hf
      · obtain ⟨cl, e, h1, h2, h3⟩ := ih acc (fun y hy => hn y (List.mem_cons_of_mem _ hy)) ha
        refine ⟨cl, ?_, h1, h2, fun y hy hf => ?_⟩
        · rw [List.forIn_cons]
          have : (k == NameKind.free) = false := by simpa using hk
          simp only [this, Bool.false_eq_true, if_false]
          exact e
        · rcases List.mem_cons.mp hy with rfl | hy
          · exact absurd hf hk
          · exact h3 y hy hf
  obtain ⟨cl, e, h1, _, h3⟩ := go scope.names [] h (fun x c e => by simp at e)
  refine ⟨cl, ?_, h1, h3⟩
  unfold closureFor
  exact (congrArg (fun m => m >>= fun r => pure r) e).trans rfl

def compSt (n : Nat) (ix : List Nat) (σ : St) : St := List.replicate n none ++ ix.map fun i => σ.getD i none

def Cx.comp (X : Cx) (s₂ : Shared) (H₂ : Hp) (N' : List Str) (scope : Scope) (cl : List (Str × Addr)) (C : Addr) (fp : List Addr) : Cx :=
  { X with N := N', s₀ := s₂, H₀ := H₂, env := compEnvC scope cl C X.env, outer := X.stack, stack := X.stack, ex := fp, fn := fun _ => false, pn := [], xe := fun _ _ => False }

structure CompScope (X : Cx) (scope : Scope) (N' : List Str) (n : Nat) (ix : List Nat) : Prop where
  kind : scope.kind = .function
  nocell : ∀ y ∈ scope.names, y.2 ≠ .cell
  names : ∀ y ∈ scope.names, y.2 = .local → scope.names.lookup y.1 = some .local
  free : ∀ y ∈ scope.names, y.2 = .free → X.env.scope.names.lookup y.1 = some .cell ∨ X.env.scope.names.lookup y.1 = some .free
  nodup : ∀ y : Str, (y, NameKind.free) ∈ scope.names → scope.names.lookup y = some .local → False
  len : N'.length = n + ix.length
  at_ : ∀ (j i : Nat), ix[j]? = some i → ∃ x, N'[n + j]? = some x ∧ X.N[i]? = some x ∧ (x, NameKind.free) ∈ scope.names
end L2
namespace L2
open PySem PySem.Spec PyProof.Rows

theorem relabel_lookup {env : Env} {scope : Scope} (x : Str) : (relabel scope env).names.lookup x = (scope.names.lookup x).map fun k => if (k == .free && env.scope.kind == .function && env.kindOf x == some .cell) then .cell else k := by
  show (scope.names.map fun (n, k) => if (k == NameKind.free && env.scope.kind == .function && env.kindOf n == some .cell) then (n, NameKind.cell) else (n, k)).lookup x = _
  generalize scope.names = l
  induction l with
  | nil => rfl
  | cons y r ih =>
    obtain ⟨n, k⟩ := y
    rw [List.map_cons, List.lookup_cons]
    cases hx : x == n with
    | true =>
      have e : x = n := eq_of_beq hx
      subst e
      by_cases hc : (k == NameKind.free && env.scope.kind == .function && env.kindOf x == some .cell) = true
      · rw [if_pos hc, List.lookup_cons]
        simp only [beq_self_eq_true]
        show some NameKind.cell = some (ite _ _ _)
        rw [if_pos hc]
      · rw [if_neg hc, List.lookup_cons]
        simp only [beq_self_eq_true]
        show some k = some (ite _ _ _)
        rw [if_neg hc]
    | false =>
      by_cases hc : (k == NameKind.free && env.scope.kind == .function && env.kindOf n == some .cell) = true
      · rw [if_pos hc, List.lookup_cons, hx]; exact ih
      · rw [if_neg hc, List.lookup_cons, hx]; exact ih

section
variable {X : Cx} {pins : List (Addr × Obj)} {σ : St} {H : Hp} {s : Shared}

theorem relabel_free {env : Env} {scope : Scope} {x : Str} (h : scope.names.lookup x = some .free) : (relabel scope env).names.lookup x = some .cell ∨ (relabel scope env).names.lookup x = some .free := by
  rw [relabel_lookup, h]
  by_cases hc : (NameKind.free == NameKind.free && env.scope.kind == .function && env.kindOf x == some .cell) = true
  · exact .inl (by show some (ite _ _ _) = _; rw [if_pos hc])
  · exact .inr (by show some (ite _ _ _) = _; rw [if_neg hc])
theorem of_relabel {env : Env} {scope : Scope} {x : Str} (hn : ∀ y ∈ scope.names, y.2 ≠ .cell) (h : (relabel scope env).names.lookup x = some .cell ∨ (relabel scope env).names.lookup x = some .free) : scope.names.lookup x = some .free := by
  rw [relabel_lookup] at h
  cases e : scope.names.lookup x with
  | none => rw [e] at h; rcases h with h | h <;> cases h
  | some k =>
    rw [e] at h
    have hk := hn _ (PySem.mem_of_lookup e)
    by_cases hf : k = .free
    · rw [hf]
    · have hb : (k == NameKind.free) = false := by simpa using hf
      have hr : Option.map (fun k => if (k == NameKind.free && env.scope.kind == .function && env.kindOf x == some .cell) = true then NameKind.cell else k) (some k) = some k := by
        show some (ite _ _ _) = _
        rw [if_neg (by rw [hb]; simp)]
      rw [hr] at h
      rcases h with h | h
      · cases h; exact absurd rfl hk
      · exact h

theorem inv_comp {scope : Scope} {N' : List Str} {n : Nat} {ix : List Nat} {cl : List (Str × Addr)} {fp : List Addr} {h₁ : Heap} {acc C : Addr} {na : Nat} {m : Str → Option Value} {tk : Nat}
    (I : Inv X pins σ H s) (S : CompScope X scope N' n ix) (hcl1 : ∀ x c, cl.lookup x = some c → X.env.cells.lookup x = some c) (hcl2 : ∀ y ∈ scope.names, y.2 = .free → cl.lookup y.1 = X.env.cells.lookup y.1)
    (hf : ∀ b ∈ fp, FpOk X pins H b) (hlt : ∀ b ∈ fp, b < s.heap.objs.size) (ha : s.heap.objs.size ≤ acc) (hC : s.heap.objs.size ≤ C) (hne : C ≠ acc)
    (k : ∀ b u, s.heap.get? b = some u → h₁.get? b = some u) (hacc : h₁.get? acc = some { cls := .type "list", data := .seq ([] : List Value).toArray na }) (hns : h₁.Ns C m) :
    Inv (X.comp s H N' scope cl C fp) [] (compSt n ix σ) (upd H acc (.lst [])) { s with heap := h₁, toks := tk } := by
  have fr : ∀ b : Addr, s.heap.objs.size ≤ b → H b = none := fun b hb => I.hok.fresh hb
  have cellLt : ∀ x c, cl.lookup x = some c → c < s.heap.objs.size := fun x c e => by
    obtain ⟨v, q⟩ := I.cell x c (hcl1 x c e)
    exact q.lt
  refine ⟨⟨I.ok.mod, S.kind, I.ok.glob, I.ok.blt, hC, fun x y c e1 e2 => I.ok.inj x y c (hcl1 x c e1) (hcl1 y c e2), fun x hx => ?_, fun x c e _ => absurd e Bool.false_ne_true, I.ok.hd, I.ok.frames, .inl rfl, fun b hb => ⟨Nat.ne_of_lt (Nat.lt_of_lt_of_le (hlt b hb) hC), fun x c e => (hf b hb).2.2.2.2.1 x c (hcl1 x c e)⟩,
      I.bs, Nat.le_trans I.ok.bsz I.sz, fun b o e hb => ?_, fun b hb hs => ?_, I.stack, I.stkFree⟩,
    rfl, I.bare, Un.laid k ha (fr acc ha), ⟨m, hns, fun i x v e1 e2 e3 => ?_⟩, fun x c e => ?_, ?_, fun x c e => ?_, fun p hp => absurd (show p ∈ ([] : List (Addr × Obj)) from hp) (by simp), I.hok.laid k ha ⟨Nat.zero_le _, [], na, .nil, hacc⟩, ?_⟩
  · have hx' : scope.names.lookup x = some .free := of_relabel (env := X.env) S.nocell hx
    have hm := PySem.mem_of_lookup hx'
    obtain ⟨c, e⟩ := I.ok.has x (S.free _ hm rfl)
    exact ⟨c, (hcl2 _ hm rfl).trans e⟩
  · rcases (hf b hb).2.2.2.1 with z | z
    · exact I.ok.noex b o e z
    · exact absurd (Nat.lt_of_lt_of_le (Heap.lt_size e) (Nat.le_trans I.ok.bsz z)) (Nat.lt_irrefl _)
  · rcases List.mem_cons.mp (I.stkSub b hs) with z | z
    · exact (hf b hb).2.1 z
    · exact (hf b hb).2.2.1 z
  · -- a name of the frame, seen through its cell
    have hi : n ≤ i := by
      by_cases hi : n ≤ i
      · exact hi
      · unfold compSt at e2
        rw [List.getElem?_append_left (by simp; omega), List.getElem?_replicate] at e2
        split at e2 <;> cases e2
    obtain ⟨j, rfl⟩ : ∃ j, i = n + j := ⟨i - n, by omega⟩
    unfold compSt at e2
    rw [List.getElem?_append_right (by simp), List.length_replicate, Nat.add_sub_cancel_left, List.getElem?_map] at e2
    cases ej : ix[j]? with
    | none => rw [ej] at e2; cases e2
    | some q =>
      rw [ej] at e2
      have e2' : σ.getD q none = some v := Option.some.inj e2
      have e2'' : σ[q]? = some (some v) := by
        rw [List.getD_eq_getElem?_getD] at e2'
        cases eq : σ[q]? with
        | none => rw [eq] at e2'; cases e2'
        | some z => rw [eq] at e2'; exact congrArg some e2'
      obtain ⟨y, h1, h2, h3⟩ := S.at_ j q ej
      have ey : y = x := Option.some.inj (h1.symm.trans e1)
      subst ey
      have hk := S.free _ h3 rfl
      obtain ⟨mX, _, hl⟩ := I.loc
      obtain ⟨u, r, l⟩ := hl q y v h2 e2'' (.inr hk)
      refine ⟨u, r, .inr ?_⟩
      have hkc : X.env.kindOf y = some .cell ∨ X.env.kindOf y = some .free := hk
      have l' : ∃ c, X.env.cells.lookup y = some c ∧ s.heap.IsCell c (some u) := by
        rcases l with ⟨z, _⟩ | ⟨_, c, ec, hc⟩
        · rcases hkc with q | q <;> (rw [q] at z; cases z)
        · exact ⟨c, ec, hc⟩
      obtain ⟨c, ec, o, ho, hd⟩ := l'
      have e3' : Vis (relabel scope X.env) y := e3
      refine ⟨?_, c, (hcl2 _ h3 rfl).trans ec, o, k _ _ ho, hd⟩
      -- its kind in the block
      have nl : scope.names.lookup y ≠ some .local := fun z => ?_
      · cases el : scope.names.lookup y with
        | none =>
          have : (relabel scope X.env).names.lookup y = none := by rw [relabel_lookup, el]; rfl
          rcases e3' with z | z | z <;> (rw [this] at z; cases z)
        | some kk =>
          have hmem := PySem.mem_of_lookup el
          have ncell := S.nocell _ hmem
          have hr : (relabel scope X.env).names.lookup y = some (if (kk == NameKind.free && X.env.scope.kind == .function && X.env.kindOf y == some .cell) = true then .cell else kk) := by rw [relabel_lookup, el]; rfl
          by_cases hkf : kk = .free
          · subst hkf
            exact relabel_free (env := X.env) el
          · have hb : (kk == NameKind.free) = false := by simpa using hkf
            have hr' : (relabel scope X.env).names.lookup y = some kk := by rw [hr, hb]; rfl
            rcases e3' with z | z | z
            · rw [hr'] at z; cases z; exact absurd el nl
            · rw [hr'] at z; cases z; exact absurd rfl ncell
            · rw [hr'] at z; cases z; exact absurd rfl hkf
      · exact S.nodup _ h3 z
  · obtain ⟨v, o, ho, hd⟩ := I.cell x c (hcl1 x c e)
    exact ⟨v, o, k _ _ ho, hd⟩
  · show upd H acc (.lst []) C = none
    rw [upd_ne hne]; exact fr C hC
  · show upd H acc (.lst []) c = none
    have := cellLt x c e
    rw [upd_ne (Nat.ne_of_lt (Nat.lt_of_lt_of_le this ha))]
    exact I.freeC x c (hcl1 x c e)
  · show (compSt n ix σ).length = N'.length
    unfold compSt
    rw [List.length_append, List.length_replicate, List.length_map, S.len]
end
end L2


namespace L2
open PySem PySem.Spec PyProof.Rows

def Wk (σ σ' : St) : Prop := σ.length = σ'.length ∧ ∀ (i : Nat) v, σ[i]? = some (some v) → σ'[i]? = some (some v)
def PTs (Y : Cx) (ifs : List Expr) (t : TT) : Prop :=
  ∀ (pins : List (Addr × Obj)) (s : Shared) (σ : St) (H : Hp) (Q : Bool → Hp → Prop), Inv Y pins σ H s → t σ H Q →
    wpAny (model Y.prog Y.w) Y.A (forIn ifs true fun c r => if r = true then do let ok ← isTrue c Y.env (eval c Y.env); pure (ForInStep.yield ok) else pure (ForInStep.yield r)) (TP Y pins σ Q) Y.xe s
def tNoTest : TT := fun _ H Q => Q true H
theorem pts_nil {Y : Cx} : PTs Y [] tNoTest := fun _ _ _ H _ I h => wpAny_tests_nil ⟨H, I, h⟩
theorem pts_one {Y : Cx} {c : Expr} {t : TT} (h : PT Y c t) : PTs Y [c] t := fun pins s σ H Q I q => wpAny_tests_one (h pins s σ H Q I q)

theorem compLoop_gen {prog : Program} {w : World} {A : Around} {R : Result → Shared → Prop} {s : Shared} {elt target iter : Expr} {ifs : List Expr} {scope : Scope} {pos : Pos} {it acc : Value} {env : Env} (I : Nat → Shared → Prop)
    (turn : ∀ n s, I n s → wpAny (model prog w) A (pyNext it) (fun r s₁ => match r with
      | none => R (.ok .next) s₁
      | some v => wpAny (model prog w) A (letOwnedTupleGo target it v) (fun _ s₂ => wpAny (model prog w) A (assign target env v) (fun _ s₃ =>
          wpAny (model prog w) A (forIn ifs true fun c r => if r = true then do let ok ← isTrue c env (eval c env); pure (ForInStep.yield ok) else pure (ForInStep.yield r)) (fun ok s₄ =>
            if ok = true then wpAny (model prog w) A (eval elt env) (fun x s₅ =>
              wpAny (model prog w) A (call (.builtin "list.append") [acc, x]) (fun _ s₆ => ∃ m, m < n ∧ I m s₆) (fun _ _ => False) s₅) (fun _ _ => False) s₄
            else ∃ m, m < n ∧ I m s₄) (fun _ _ => False) s₃) (fun _ _ => False) s₂) (fun _ _ => False) s₁) (fun _ _ => False) s)
    (n : Nat) (h : I n s) :
    codeAny (model prog w) A (.compLoop (.ListComp elt [⟨target, iter, ifs, 0⟩] scope pos) 0 it acc env) R s := by
  refine codeAny_loop rfl I (fun n s hI => ?_) n h
  show wpAny _ A ((compTurn (.ListComp elt [⟨target, iter, ifs, 0⟩] scope pos) 0 it acc env).onRaise (fun x => do noteFrame x env; theTreesLotGoes x)) _ _ s
  refine wpAny_noted (wpAny_noRaise ?_)
  rw [compTurn_list]
  refine wpAny_bind (wpAny_standAt (wpAny_bind (thn (turn n s hI) fun r s₁ h₁ => ?_)))
  cases r with
  | none => exact wpAny_pure h₁
  | some v =>
    refine wpAny_bind (thn h₁ fun _ s₂ h₂ => wpAny_bind (thn h₂ fun _ s₃ h₃ => wpAny_bind (thn h₃ fun ok s₄ h₄ => ?_)))
    cases ok with
    | false => exact wpAny_pure ⟨rfl, h₄⟩
    | true => exact wpAny_bind (wpAny_bind (thn h₄ fun x s₅ h₅ => wpAny_bind (thn h₅ fun _ s₆ h₆ => wpAny_pure (wpAny_pure ⟨rfl, h₆⟩))))

def LcW (J : It) (H1 : Hp) (g : TG) (tt : TT) (te : TE) (n : Nat) (ix : List Nat) (σ : St) (Q : VK) : Prop := ∀ acc, H1 acc = none →
  ∃ W : Nat → Nat → Hp → Prop, (∃ m, W 0 m (upd H1 acc (.lst []))) ∧ ∀ i m H, W i m H →
    (J.stop i H ∧ Q (.ref acc) H) ∨ (J.go i H ∧ ∀ x H', J.yld i H x H' → g x (compSt n ix σ) H' fun σ2 H2 => Wk (compSt n ix σ) σ2 ∧ tt σ2 H2 fun b H3 =>
      if b = true then te σ2 H3 fun v H4 => ∃ ys, H4 acc = some (.lst ys) ∧ ys.length < sizeLine ∧ ∃ m', m' < m ∧ W (i + 1) m' (upd H4 acc (.lst (ys ++ [v])))
      else ∃ m', m' < m ∧ W (i + 1) m' H3)
def tLc (wi : TI) (g : TG) (tt : TT) (te : TE) (n : Nat) (ix : List Nat) : TE := fun σ H Q => wi σ H fun J H1 => LcW J H1 g tt te n ix σ Q

section
variable {X : Cx} {elt tg iter : Expr} {ifs : List Expr} {scope : Scope} {pos : Pos} {wi : TI} {g : TG} {tt : TT} {te : TE} {N' : List Str} {n : Nat} {ix : List Nat}
theorem lc_core {pins : List (Addr × Obj)} {σ : St} {H2 : Hp} {s2 : Shared} {cl : List (Str × Addr)} {it : Addr} {fp : List Addr} {tn : Nat → Heap → Prop} {J : It} {Q : VK} {R : Value → Addr → Result → Shared → Prop}
    (hc : X.calm = true) (S : CompScope X scope N' n ix)
    (hY : ∀ s₂ H₂ cl C fp, PG (X.comp s₂ H₂ N' scope cl C fp) tg g ∧ PTs (X.comp s₂ H₂ N' scope cl C fp) ifs tt ∧ PE (X.comp s₂ H₂ N' scope cl C fp) elt te)
    (I2 : Inv X pins σ H2 s2) (hcl1 : ∀ x c, cl.lookup x = some c → X.env.cells.lookup x = some c) (hcl2 : ∀ y ∈ scope.names, y.2 = .free → cl.lookup y.1 = X.env.cells.lookup y.1)
    (T : Turn X.prog X.w X.K tg J fp it tn) (st2 : tn 0 s2.heap) (f2 : ∀ b ∈ fp, FpOk X pins H2 b)
    (hW : LcW J H2 g tt te n ix σ Q)
    (hR : ∀ acc C s' H' m, s'.heap.Ns C m → Inv X pins σ H' s' → H' C = none → C ≠ X.env.locals → (C ∈ X.ex ∨ X.s₀.heap.objs.size ≤ C) → (∀ x c, X.env.cells.lookup x = some c → c ≠ C) → (∀ p ∈ X.pn ++ pins, p.1 ≠ C) → C ∉ X.fs → Q (.ref acc) H' → R (.ref acc) C (.ok .next) s') :
    wpAny (model X.prog X.w) X.A (newList []) (fun acc s₃ => wpAny (model X.prog X.w) X.A (newFunctionEnv scope X.env.globals cl [] X.env.qual none .none (some X.env)) (fun cenv s₄ =>
      codeAny (model X.prog X.w) X.A (.compStart (.ListComp elt [⟨tg, iter, ifs, 0⟩] scope pos) 0 (.ref it) acc { cenv with scope := relabel scope X.env }) (R acc cenv.locals) s₄) X.xe s₃) X.xe s2 := by
  refine wpAny_newObj_type (wpAny_newFunctionEnv S.nocell (by intro y hy; simp at hy) (fun h₁ hns₁ hsb₁ => ?_) S.kind)
  dsimp only at hns₁ hsb₁ ⊢
  generalize hH2 : s2.heap.push { cls := .type "list", dict := none, data := .seq ([] : List Value).toArray } = G at hns₁ hsb₁ ⊢
  have hC : G.objs.size = s2.heap.objs.size + 1 := by rw [← hH2, Heap.size_push]
  have hlt : ∀ b ∈ fp, b < s2.heap.objs.size := fun b hb => by
    obtain ⟨o, e, _⟩ := T.obj _ _ st2 b hb
    exact Heap.lt_size e
  have old : ∀ b o, s2.heap.get? b = some o → h₁.get? b = some o := fun b o e => hsb₁.extBut b o (by rw [hC]; exact Nat.ne_of_lt (Nat.lt_succ_of_lt (Heap.lt_size e))) (Heap.get?_push_of_some _ (hH2 ▸ Heap.get?_push_of_some _ e))
  have hacc : h₁.get? s2.heap.objs.size = some { cls := .type "list", dict := none, data := .seq ([] : List Value).toArray } := hsb₁.extBut _ _ (by rw [hC]; exact Nat.ne_of_lt (Nat.lt_succ_self _)) (Heap.get?_push_of_some _ (hH2 ▸ Heap.get?_push_size _ rfl))
  obtain ⟨W, ⟨m0, w0⟩, turn⟩ := hW s2.heap.objs.size (I2.hok.fresh (Nat.le_refl _))
  obtain ⟨hYg, hYt, hYe⟩ := hY s2 H2 cl G.objs.size fp
  have fpY : ∀ {H' : Hp}, (∀ b ∈ fp, H' b = none) → ∀ b ∈ fp, FpOk (X.comp s2 H2 N' scope cl G.objs.size fp) [] H' b := fun {H'} hn b hb => by
    obtain ⟨_, q1, q2, q3, q4, q5⟩ := f2 b hb
    refine ⟨hn b hb, ?_, fun z => ?_, .inl hb, fun x c e => q4 x c (hcl1 x c e), fun p hp => absurd (show p ∈ ([] : List (Addr × Obj)) from hp) (by simp)⟩
    · show b ≠ G.objs.size
      rw [hC]
      exact Nat.ne_of_lt (Nat.lt_succ_of_lt (hlt b hb))
    · rcases List.mem_cons.mp (I2.stkSub b z) with y | y
      · exact q1 y
      · exact q2 y
  have loop : ∀ s₃ : Shared, s₃ = { s2 with heap := h₁, toks := s2.toks + ([] : List (Str × Value)).length } →
      codeAny (model X.prog X.w) X.A (.compLoop (.ListComp elt [⟨tg, iter, ifs, 0⟩] scope pos) 0 (.ref it) (.ref s2.heap.objs.size) (compEnvC scope cl G.objs.size X.env)) (R (.ref s2.heap.objs.size) G.objs.size) s₃ := by
    rintro s₃ rfl
    have I4 := inv_comp (tk := s2.toks + ([] : List (Str × Value)).length) I2 S hcl1 hcl2 f2 hlt (Nat.le_refl _) (by rw [hC]; exact Nat.le_succ _) (by rw [hC]; exact Nat.ne_of_gt (Nat.lt_succ_self _)) old hacc hns₁
    refine compLoop_gen (fun n' s' => ∃ i H', Inv (X.comp s2 H2 N' scope cl G.objs.size fp) [] (compSt n ix σ) H' s' ∧ tn i s'.heap ∧ (∀ b ∈ fp, H' b = none) ∧ W i n' H') ?_ m0
      ⟨0, _, I4, T.keep _ _ _ st2 fun b hb o e => old b o e, fun b hb => ?_, w0⟩
    · rintro n' s3 ⟨i, H3, I3, st3, fr3, w3⟩
      rcases turn i n' H3 w3 with ⟨stop, q⟩ | ⟨go, step⟩
      · refine thn (T.done (X.comp s2 H2 N' scope cl G.objs.size fp) rfl rfl rfl hc i [] s3 _ H3 _ I3 (fpY fr3) st3 stop) fun r s4 ⟨hr, I5⟩ => ?_
        subst hr
        obtain ⟨mC, hnC, _⟩ := I5.loc
        have IX : Inv X pins σ H3 s4 := I2.call' I5.os I5.base I5.hok I5.bare fun b hb => by
          obtain ⟨_, q1, q2, q3, q4, q5⟩ := f2 b hb
          exact ⟨q3, q1, q4, q5⟩
        refine hR _ _ s4 H3 mC hnC IX I5.free ?_ (.inr ?_) (fun x c e z => ?_) (fun p hp z => ?_) (I2.nofs (by rw [hC]; exact Nat.le_succ _)) q
        · rw [hC]
          exact Nat.ne_of_gt (Nat.lt_succ_of_lt I2.lt)
        · rw [hC]
          exact Nat.le_succ_of_le I2.sz
        · obtain ⟨v, q⟩ := I2.cell x c e
          rw [hC] at z
          exact absurd z (Nat.ne_of_lt (Nat.lt_succ_of_lt q.lt))
        · rw [hC] at z
          exact absurd z (Nat.ne_of_lt (Nat.lt_succ_of_lt (Heap.lt_size (I2.pin p hp).1)))
      · refine thn (T.item (X.comp s2 H2 N' scope cl G.objs.size fp) rfl rfl rfl hc i [] s3 _ H3 _ I3 (fpY fr3) st3 go) fun r s4 ⟨u, hr, h4⟩ => ?_
        subst hr
        refine thn h4 fun _ s5 ⟨x, H5, I5, r5, y5, st5, fr5⟩ => ?_
        have I5' := I5.pinned (fpY fr5) (T.obj _ _ st5)
        refine thn (hYg _ s5 _ H5 x u _ I5' r5 (step x H5 y5)) fun _ s6 ⟨σ6, H6, I6, wk, q6⟩ => ?_
        have back : ∀ {H' : Hp} {s' : Shared}, Inv (X.comp s2 H2 N' scope cl G.objs.size fp) ([] ++ pinsAt fp s5.heap) σ6 H' s' →
            Inv (X.comp s2 H2 N' scope cl G.objs.size fp) [] (compSt n ix σ) H' s' ∧ tn (i + 1) s'.heap ∧ ∀ b ∈ fp, H' b = none := fun {H' s'} I7 => by
          refine ⟨I7.unpinned.weak wk.1 wk.2, T.keep _ _ _ st5 fun b hb o e => (I7.pin (b, o) (List.mem_append_right _ (List.mem_append_right _ (mem_pinsAt hb e)))).1, fun b hb => ?_⟩
          obtain ⟨o, e, d⟩ := T.obj _ _ st5 b hb
          exact (I7.pin (b, o) (List.mem_append_right _ (List.mem_append_right _ (mem_pinsAt hb e)))).2.1
        refine thn (hYt _ s6 σ6 H6 _ I6 q6) fun ok s7 ⟨H7, I7, q7⟩ => ?_
        cases ok with
        | false =>
          rw [if_neg Bool.false_ne_true] at q7 ⊢
          obtain ⟨m', hm, w7⟩ := q7
          obtain ⟨b1, b2, b3⟩ := back I7
          exact ⟨m', hm, i + 1, H7, b1, b2, b3, w7⟩
        | true =>
          rw [if_pos rfl] at q7 ⊢
          refine thn (hYe _ s7 σ6 H7 _ I7 q7) fun xv s8 ⟨v8, H8, I8, r8, ys, ha, hz, m', hm, w8⟩ => ?_
          refine thn (mt_append _ s8 σ6 H8 (.ref s2.heap.objs.size) [v8] (.ref s2.heap.objs.size) [xv] (fun _ H' => H' = upd H8 s2.heap.objs.size (.lst (ys ++ [v8]))) I8 rfl (.cons r8 .nil) ⟨_, ys, v8, rfl, rfl, ha, hz, rfl⟩) fun _ s9 ⟨_, H9, I9, _, e9⟩ => ?_
          subst e9
          obtain ⟨b1, b2, b3⟩ := back I9
          exact ⟨m', hm, i + 1, _, b1, b2, b3, w8⟩
    · rw [upd_ne (Nat.ne_of_lt (hlt b hb))]
      exact (f2 b hb).1
  exact codeAny_compStart_list (loop _ rfl) (T.self _ 0 _ _ _ (T.keep _ _ _ st2 fun b hb o e => old b o e) (loop _ rfl))

theorem pe_lc (hc : X.calm = true) (S : CompScope X scope N' n ix) (hi : PI X tg iter wi)
    (hY : ∀ s₂ H₂ cl C fp, PG (X.comp s₂ H₂ N' scope cl C fp) tg g ∧ PTs (X.comp s₂ H₂ N' scope cl C fp) ifs tt ∧ PE (X.comp s₂ H₂ N' scope cl C fp) elt te)
    (hs : ∀ x, foldedSetIterable iter X.env x = pure x := by intro _; rfl) : PE X (.ListComp elt [⟨tg, iter, ifs, 0⟩] scope pos) (tLc wi g tt te n ix) := by
  intro pins s σ H Q I h
  obtain ⟨cl, hcl, hcl1, hcl2⟩ := closure_ok (env := X.env) (scope := scope) fun y hy hf => I.ok.has _ (S.free y hy hf)
  rw [eval_ListComp]
  refine wpAny_comprehension_free (use := none) rfl hs hcl S.kind S.names (thn (hi pins s σ H _ I h) fun v s1 h1 => thn h1 fun itv s2 h2 => ?_)
  obtain ⟨it, fp, tn, J, H2, rfl, I2, T, st2, f2, hW⟩ := h2
  refine lc_core (R := fun acc C => compPost (model X.prog X.w) X.A X.xe none (EP X pins σ Q) acc C) hc S hY I2 hcl1 hcl2 T st2 f2 hW ?_
  intro acc C s' H' m hn IX hf hL h1 h2 h3 h4 q
  exact ⟨m, hn, fun h' sb => ⟨.ref acc, H', IX.turned (t' := s'.toks) (fun b o hb e => sb.extBut b o hb e) hf hL h1 h2 h3, rfl, q⟩⟩

theorem ps_lcset {x : Str} {i : Nat} {pos' spos : Pos} (hsw : swapsWith (.ListComp elt [⟨tg, iter, ifs, 0⟩] scope pos) (some (.Name x pos')) spos.line X.env = pure true) (hN : X.N.Nodup) (hi' : X.N[i]? = some x) (hx : X.env.scope.names.lookup x = some .local)
    (hc : X.calm = true) (S : CompScope X scope N' n ix) (hi : PI X tg iter wi)
    (hY : ∀ s₂ H₂ cl C fp, PG (X.comp s₂ H₂ N' scope cl C fp) tg g ∧ PTs (X.comp s₂ H₂ N' scope cl C fp) ifs tt ∧ PE (X.comp s₂ H₂ N' scope cl C fp) elt te)
    (hs : ∀ x, foldedSetIterable iter X.env x = pure x := by intro _; rfl) : PS X (.Assign [.Name x pos'] (.ListComp elt [⟨tg, iter, ifs, 0⟩] scope pos) spos) (tAsg (tLc wi g tt te n ix) (gName i)) := by
  intro pins s σ H D I h
  obtain ⟨cl, hcl, hcl1, hcl2⟩ := closure_ok (env := X.env) (scope := scope) fun y hy hf => I.ok.has _ (S.free y hy hf)
  rw [exec_Assign_Name_used _ _ _ _ hsw]
  refine wpAny_bind (wpAny_standAt (wpAny_bind ?_))
  show wpAny _ _ (do let _ ← comprehension (.ListComp elt [⟨tg, iter, ifs, 0⟩] scope pos) scope X.env _ (newList []) false (eval iter X.env) (some (assign (.Name x pos') X.env))) _ _ s
  refine wpAny_bind (thn (wpAny_comprehension_free (use := some (assign (.Name x pos') X.env)) (Q := fun _ s' => SP X pins D .next s') rfl hs hcl S.kind S.names (thn (hi pins s σ H _ I h) fun v s1 h1 => thn h1 fun itv s2 h2 => ?_)) fun _ s' hq => wpAny_pure (wpAny_pure hq))
  obtain ⟨it, fp, tn, J, H2, rfl, I2, T, st2, f2, hW⟩ := h2
  refine lc_core (Q := fun x H1 => gName i x σ H1 D.nx) (R := fun acc C => compPost (model X.prog X.w) X.A X.xe (some (assign (.Name x pos') X.env)) (fun _ s' => SP X pins D .next s') acc C) hc S hY I2 hcl1 hcl2 T st2 f2 hW ?_
  intro acc C s' H' m hn IX hf hL h1 h2 h3 h4 q
  show wpAny _ _ (assign (.Name x pos') X.env (.ref acc)) _ _ _
  -- the block's own dict is pinned through the store
  obtain ⟨oC, esC, epC, hoC, hdC, rC⟩ := id hn
  have IP : Inv X (pins ++ [(C, oC)]) σ H' s' := IX.pins_of fun p hp => by
    rcases List.mem_append.mp hp with z | z
    · exact IX.pin p (List.mem_append_right _ z)
    · have e : p = (C, oC) := by simpa using z
      subst e
      exact ⟨hoC, hf, hL, h4, fun v z => by rw [hdC] at z; cases z⟩
  refine thn (pg_name hN hi' (.inl hx) (.inr hx) _ s' σ H' (.ref acc) (.ref acc) D.nx IP rfl q) fun _ s'' ⟨σ', H'', I'', q''⟩ => ?_
  obtain ⟨e1, e2, _⟩ := I''.pin (C, oC) (List.mem_append_right _ (List.mem_append_right _ (by simp)))
  refine ⟨m, ⟨oC, esC, epC, e1, hdC, rC⟩, fun h' sb => ⟨σ', H'', ?_, q''⟩⟩
  exact I''.unpinned.turned (t' := s''.toks) (fun b o hb e => sb.extBut b o hb e) e2 hL h1 h2 h3
end
end L2


namespace L2
open PySem PySem.Spec PyProof.Rows

theorem PE.mono {X : Cx} {e : Expr} {t t' : TE} (h : PE X e t) (m : ∀ σ H Q, t' σ H Q → t σ H Q) : PE X e t' := fun pins s σ H Q I q => h pins s σ H Q I (m σ H Q q)

theorem same_upd {H : Hp} {a : Addr} {o : HO} (h : H a = none) : Same H (upd H a o) := fun b u e => by
  rw [upd_ne (ne_of_none e h)]; exact e
theorem same_updR {H H' : Hp} {a : Addr} {o : HO} (s : Same H H') (h : H a = none) : Same H (upd H' a o) := fun b u e => by
  rw [upd_ne (ne_of_none e h)]; exact s b u e

def SameT (H H' : Hp) : Prop := ∀ b xs, H b = some (.tup xs) → H' b = some (.tup xs)
theorem Same.t {H H' : Hp} (h : Same H H') : SameT H H' := fun b xs e => h b _ e
theorem SameT.trans {H H1 H2 : Hp} (a : SameT H H1) (b : SameT H1 H2) : SameT H H2 := fun c o h => b c o (a c o h)
theorem sameT_lst {H : Hp} {a : Addr} {xs ys : List V} (h : H a = some (.lst xs)) : SameT H (upd H a (.lst ys)) := fun b zs e => by
  rw [upd_ne (ne_of e h (by intro z; cases z))]; exact e

structure Yields (J : It) (Ok : Hp → Prop) (xs : List V) : Prop where
  go : ∀ i H, Ok H → i < xs.length → J.go i H
  yld : ∀ i H x H', Ok H → i < xs.length → J.yld i H x H' → H' = H ∧ xs[i]? = some x
  stop : ∀ H, Ok H → J.stop xs.length H
theorem yields_list {K : PySem.W.Frag} {a : Addr} {xs : List V} : Yields (Itl K a) (fun H => SqL K H a xs) xs :=
  ⟨fun i H q h => ⟨xs, xs[i], q, by simp [h]⟩, fun i H x H' q _ y => ⟨y.1, y.2 xs q⟩, fun H q => ⟨xs, q, Nat.le_refl _⟩⟩
theorem yields_tup {K : PySem.W.Frag} {a : Addr} {xs : List V} : Yields (Itt K a) (fun H => SqT K H a xs) xs :=
  ⟨fun i H q h => ⟨xs, xs[i], q, by simp [h]⟩, fun i H x H' q _ y => ⟨y.1, y.2 xs q⟩, fun H q => ⟨xs, q, Nat.le_refl _⟩⟩
def rangeV (lo : Int) (n : Nat) : List V := (List.range n).map fun (i : Nat) => V.int (lo + (i : Int))
theorem rangeV_len (lo : Int) (n : Nat) : (rangeV lo n).length = n := by simp [rangeV]
section
variable {J : It} {Ok : Hp → Prop} {xs : List V} {tt : TT} {te : TE} {ix : List Nat} {σ : St} {H1 : Hp} {Q : VK}
theorem lc_pure (Y : Yields J Ok xs) (small : xs.length < sizeLine) (p : V → Bool) (f : V → V) (hok : ∀ H, Same H1 H → Ok H)
    (ht : ∀ x ∈ xs, ∀ H, Same H1 H → ∀ Q' : Bool → Hp → Prop, Q' (p x) H → tt (some x :: ix.map fun i => σ.getD i none) H Q')
    (he : ∀ x ∈ xs, p x = true → ∀ H, Same H1 H → ∀ Q' : VK, Q' (f x) H → te (some x :: ix.map fun i => σ.getD i none) H Q')
    (fin : ∀ acc, H1 acc = none → Q (.ref acc) (upd H1 acc (.lst ((xs.filter p).map f)))) :
    LcW J H1 (gName 0) tt te 1 ix σ Q := by
  intro acc ha
  refine ⟨fun i m H => m = xs.length - i ∧ i ≤ xs.length ∧ H = upd H1 acc (.lst (((xs.take i).filter p).map f)), ⟨xs.length, by simp, Nat.zero_le _, rfl⟩, ?_⟩
  rintro i m H ⟨rfl, hi, rfl⟩
  have sm : Same H1 (upd H1 acc (.lst (((xs.take i).filter p).map f))) := same_upd ha
  have o := hok _ sm
  by_cases hlt : i < xs.length
  · refine .inr ⟨Y.go i _ o hlt, fun x H' y => ?_⟩
    obtain ⟨rfl, hx⟩ := Y.yld i _ x H' o hlt y
    have hmem : x ∈ xs := List.mem_of_getElem? hx
    have htk : xs.take (i + 1) = xs.take i ++ [x] := by
      rw [List.take_succ, hx]; rfl
    refine ⟨⟨rfl, fun j v e => ?_⟩, ?_⟩
    · cases j with
      | zero => cases e
      | succ j => exact e
    · refine ht x hmem _ sm _ ?_
      cases hp : p x with
      | false =>
        rw [if_neg Bool.false_ne_true]
        refine ⟨xs.length - (i + 1), by omega, rfl, hlt, ?_⟩
        rw [htk, List.filter_append]
        simp [hp]
      | true =>
        rw [if_pos rfl]
        refine he x hmem hp _ sm _ ?_
        refine ⟨_, upd_same, ?_, xs.length - (i + 1), by omega, rfl, hlt, ?_⟩
        · rw [List.length_map]
          refine Nat.lt_of_le_of_lt (List.length_filter_le _ _) ?_
          rw [List.length_take]; omega
        · rw [upd_upd, htk, List.filter_append, List.map_append]
          simp [hp]
  · have e : i = xs.length := by omega
    subst e
    refine .inl ⟨Y.stop _ o, ?_⟩
    rw [List.take_length]
    exact fin acc ha

theorem lc_grow (Y : Yields J Ok xs) (small : xs.length < sizeLine) (R : V → V → Hp → Prop) (hR : ∀ x v H H', SameT H H' → R x v H → R x v H') (hok : ∀ H, Same H1 H → Ok H)
    (he : ∀ x ∈ xs, ∀ H, Same H1 H → ∀ Q' : VK, (∀ v H', Same H H' → R x v H' → Q' v H') → te (some x :: ix.map fun i => σ.getD i none) H Q')
    (fin : ∀ acc ys H', H1 acc = none → Same H1 H' → H' acc = some (.lst ys) → Paired (fun x v => R x v H') xs ys → Q (.ref acc) H') :
    LcW J H1 (gName 0) tNoTest te 1 ix σ Q := by
  intro acc ha
  refine ⟨fun i m H => m = xs.length - i ∧ i ≤ xs.length ∧ Same H1 H ∧ ∃ ys, H acc = some (.lst ys) ∧ Paired (fun x v => R x v H) (xs.take i) ys, ⟨xs.length, by simp, Nat.zero_le _, same_upd ha, [], upd_same, .nil⟩, ?_⟩
  rintro i m H ⟨rfl, hi, sm, ys, hacc, pr⟩
  have o := hok _ sm
  have hlen : ys.length = i := by rw [← Paired.length pr, List.length_take]; omega
  by_cases hlt : i < xs.length
  · refine .inr ⟨Y.go i _ o hlt, fun x H' y => ?_⟩
    obtain ⟨rfl, hx⟩ := Y.yld i _ x H' o hlt y
    have hmem : x ∈ xs := List.mem_of_getElem? hx
    have htk : xs.take (i + 1) = xs.take i ++ [x] := by
      rw [List.take_succ, hx]; rfl
    refine ⟨⟨rfl, fun j v e => ?_⟩, ?_⟩
    · cases j with
      | zero => cases e
      | succ j => exact e
    · unfold tNoTest
      dsimp only
      rw [if_pos rfl]
      refine he x hmem _ sm _ fun v H4 s4 r4 => ?_
      have h4 : H4 acc = some (.lst ys) := s4 _ _ hacc
      refine ⟨ys, h4, by omega, xs.length - (i + 1), by omega, rfl, hlt, same_updR (sm.trans s4) ha, ys ++ [v], upd_same, ?_⟩
      rw [htk]
      have st : SameT H4 (upd H4 acc (.lst (ys ++ [v]))) := sameT_lst h4
      exact Paired.snoc (Paired.mapP pr fun x' v' r' => hR _ _ _ _ (s4.t.trans st) r') (hR _ _ _ _ st r4)
  · have e : i = xs.length := by omega
    subst e
    refine .inl ⟨Y.stop _ o, ?_⟩
    rw [List.take_length] at pr
    exact fin acc ys H ha sm hacc pr
end
end L2


namespace L2
open PySem PySem.Spec PyProof.Rows

mutual
inductive Is (H : Hp) : V → PyData → Prop
  | non : Is H .non .none
  | bl (b : Bool) : Is H (.bl b) (.bool b)
  | int (i : Int) : Is H (.int i) (.int i)
  | str (x : Str) : Is H (.str x) (.str x)
  | tup {a : Addr} {vs : List V} {ds : List PyData} : H a = some (.tup vs) → IsAll H vs ds → Is H (.ref a) (.tuple ds)
  | lst {a : Addr} {vs : List V} {ds : List PyData} : H a = some (.lst vs) → IsAll H vs ds → Is H (.ref a) (.list ds)
inductive IsAll (H : Hp) : List V → List PyData → Prop
  | nil : IsAll H [] []
  | cons {v : V} {vs : List V} {d : PyData} {ds : List PyData} : Is H v d → IsAll H vs ds → IsAll H (v :: vs) (d :: ds)
end

mutual
theorem Is.same {H H' : Hp} (e : Same H H') : ∀ {v : V} {d : PyData}, Is H v d → Is H' v d
  | _, _, .non => .non
  | _, _, .bl b => .bl b
  | _, _, .int i => .int i
  | _, _, .str x => .str x
  | _, _, .tup h r => .tup (e _ _ h) (IsAll.same e r)
  | _, _, .lst h r => .lst (e _ _ h) (IsAll.same e r)
theorem IsAll.same {H H' : Hp} (e : Same H H') : ∀ {vs : List V} {ds : List PyData}, IsAll H vs ds → IsAll H' vs ds
  | _, _, .nil => .nil
  | _, _, .cons h r => .cons (Is.same e h) (IsAll.same e r)
end
theorem IsAll.ints {H : Hp} : ∀ ns : List Int, IsAll H (ns.map V.int) (ns.map PyData.int)
  | [] => .nil
  | n :: r => .cons (.int n) (IsAll.ints r)
theorem Is.ints {H : Hp} {a : Addr} {ns : List Int} (h : H a = some (.tup (ns.map V.int))) : Is H (.ref a) (.tuple (ns.map PyData.int)) := .tup h (IsAll.ints ns)

section
variable {X : Cx} {pins : List (Addr × Obj)} {σ : St} {H : Hp} {s : Shared}
mutual
theorem Inv.reads (I : Inv X pins σ H s) : ∀ {v : V} {d : PyData} {u : Value}, Is H v d → RelV v u → ∃ as, Reads s.heap u d as
  | _, _, _, .non, r => by cases (show _ = Value.none from r); exact ⟨_, .none⟩
  | _, _, _, .bl b, r => by cases (show _ = Value.bool b from r); exact ⟨_, .bool b⟩
  | _, _, _, .int i, r => by obtain ⟨t, rfl⟩ := r; exact ⟨_, .int i t⟩
  | _, _, _, .str x, r => by obtain ⟨t, rfl⟩ := r; exact ⟨_, .str x t⟩
  | _, _, _, .tup (a := a) (vs := vs) h al, r => by
    cases (show _ = Value.ref a from r)
    obtain ⟨_, its, rv, o, ho, hc, ⟨n, hd⟩, _⟩ := (show ObjOk X.prog X.w H s.heap a (.tup vs) from I.hok a _ h)
    obtain ⟨as, q⟩ := Inv.readsAll I al rv
    exact ⟨as, .tuple ho hc hd (by simpa using q)⟩
  | _, _, _, .lst (a := a) (vs := vs) h al, r => by
    cases (show _ = Value.ref a from r)
    obtain ⟨_, its, n, rv, ho⟩ := (show ObjOk X.prog X.w H s.heap a (.lst vs) from I.hok a _ h)
    obtain ⟨as, q⟩ := Inv.readsAll I al rv
    exact ⟨_, .list ho rfl rfl (by simpa using q)⟩
theorem Inv.readsAll (I : Inv X pins σ H s) : ∀ {vs : List V} {ds : List PyData} {us : List Value}, IsAll H vs ds → Vals vs us → ∃ as, ReadsAll s.heap us ds as
  | _, _, _, .nil, .nil => ⟨_, .nil⟩
  | _, _, _, .cons h al, .cons r rs => by
    obtain ⟨as, q⟩ := Inv.reads I h r
    obtain ⟨bs, q'⟩ := Inv.readsAll I al rs
    exact ⟨_, .cons q q'⟩
end

def rEqD : R2 := fun x y H Q => ∃ d e, Is H x d ∧ Is H y e ∧ SeqAt.shaped d = true ∧ SeqAt.shaped e = true ∧ Q (.bl (PyData.eqv d e)) H
def rNeD : R2 := fun x y H Q => ∃ d e, Is H x d ∧ Is H y e ∧ SeqAt.shaped d = true ∧ SeqAt.shaped e = true ∧ Q (.bl (!PyData.eqv d e)) H
theorem op_eqD (hu : X.A.units + 64 < cLine) : OpR X (compareOp .Eq) rEqD := by
  intro pins s σ H x y v u Q I rx ry h
  obtain ⟨d, e, hd, he, sd, se, q⟩ := h
  obtain ⟨as, ra⟩ := I.reads hd rx
  obtain ⟨bs, rb⟩ := I.reads he ry
  exact eq_dataH ra rb sd se hu ⟨.bl _, H, I, rfl, q⟩
theorem op_neD (hu : X.A.units + 64 < cLine) : OpR X (compareOp .NotEq) rNeD := by
  intro pins s σ H x y v u Q I rx ry h
  obtain ⟨d, e, hd, he, sd, se, q⟩ := h
  obtain ⟨as, ra⟩ := I.reads hd rx
  obtain ⟨bs, rb⟩ := I.reads he ry
  exact ne_dataH ra rb sd se hu ⟨.bl _, H, I, rfl, q⟩
end

theorem lay_ints : ∀ ns : List Int, PyData.canLayAll0 (ns.map PyData.int) = true
  | [] => rfl
  | _ :: r => by simp [PyData.canLayAll0, PyData.canLay0, lay_ints r]
theorem deep_ints : ∀ ns : List Int, PyData.depthAll (ns.map PyData.int) = 0
  | [] => rfl
  | _ :: r => by simp [PyData.depthAll, PyData.depth, deep_ints r]
theorem shaped_tints (ns : List Int) : SeqAt.shaped (.tuple (ns.map PyData.int)) = true := by
  simp [SeqAt.shaped, PyData.canLay0, PyData.depth, lay_ints, deep_ints]
theorem shaped_lints (ns : List Int) : SeqAt.shaped (.list (ns.map PyData.int)) = true := by
  simp [SeqAt.shaped, PyData.canLay0, PyData.depth, lay_ints, deep_ints]
theorem eqv_ints : ∀ ns ms : List Int, PyData.eqvAll (ns.map PyData.int) (ms.map PyData.int) = decide (ns = ms)
  | [], [] => by simp [PyData.eqvAll]
  | [], _ :: _ => by simp [PyData.eqvAll]
  | _ :: _, [] => by simp [PyData.eqvAll]
  | a :: r, b :: t => by
    simp only [List.map_cons, PyData.eqvAll, PyData.eqv, eqv_ints r t]
    by_cases h : a = b <;> by_cases h' : r = t <;> simp [h, h']
end L2


namespace L2
open PySem PySem.Spec PyProof.Rows

section
variable {X : Cx}

def rIsi (K : PySem.W.Frag) : List V → Hp → VK → Prop := fun xs H Q => ∃ x T t b, xs = [x, .ty T] ∧ TyOf K H x t ∧ PySem.W.kitOne K t (.type T) = some b ∧ Q (.bl b) H
def rAll : List V → Hp → VK → Prop := fun xs H Q => ∃ (a : Addr) (bs : List Bool), xs = [.ref a] ∧ H a = some (.lst (bs.map V.bl)) ∧ Q (.bl (bs.all id)) H
def rInsert : V → List V → Hp → VK → Prop := fun x vs H Q => ∃ l xs i y, x = .ref l ∧ vs = [.int i, y] ∧ H l = some (.lst xs) ∧ 0 ≤ i ∧ i ≤ xs.length ∧ xs.length < sizeLine ∧ Q .non (upd H l (.lst (xs.take i.toNat ++ y :: xs.drop i.toNat)))
theorem mt_insert : MtM X "list.insert" rInsert := by
  intro pins s σ H x vs v us Q I rx rv h
  obtain ⟨l, xs, i, y, rfl, rfl, hH, h0, h1, hz, q⟩ := h
  cases rx
  obtain ⟨ui, uy, rfl, ri, ry⟩ := rv.two
  obtain ⟨ti, rfl⟩ := ri
  obtain ⟨z, its, n, r, hl, e⟩ := I.lstM hH
  have hfit : ¬ (!Builtin.List.listFitsIndex i) = true := by
    have hb : (i : Int) < 2 ^ 63 := Int.lt_of_le_of_lt h1 (by have := line63; omega)
    simp [Builtin.List.listFitsIndex]
    omega
  refine call_meets F.slot_list_insert ⟨_, e, rfl⟩ F.entry_list_insert (F.args_list_insert_3 _ _ _) (AutoSeq1.list_insert_list_int_val_1 l its.toArray n i ti uy hfit (by rw [List.size_toArray]; omega)) ⟨e, ?_⟩
  refine ⟨.non, _, I.lset (its' := its.take i.toNat ++ uy :: its.drop i.toNat) hH e ?_ ((r.take _).append (.cons ry (r.drop _))) ?_, rfl, q⟩
  · have hle : i.toNat ≤ its.length := by omega
    simp only [List.size_toArray]
    rw [if_neg (by omega), Nat.min_eq_left hle]
    apply Array.ext'
    simp
    rw [List.take_of_length_le (by simp)]
  · rw [List.length_append, List.length_cons, List.length_take, List.length_drop]
    omega
end
end L2


namespace L2
open PySem PySem.Spec PyProof.Rows
section
variable {prog : Program} {w : World} {A : Around} {E : Value → Shared → Prop} {s : Shared}

theorem nextT_item {it t : Addr} {i : Nat} {its : Array Value} {x : Value} {Q : Value → Shared → Prop} (hi : s.heap.IsTupleIter it t i) (ht : s.heap.IsTuple t its) (hx : its[i]? = some x)
    (q : ∀ h', h'.IsTupleIter it t (i + 1) → Heap.SameBut it s.heap h' → Q x { s with heap := h' }) : wpAny (model prog w) A (Builtin.SmallTypes.nextOf (.ref it)) Q E s := by
  obtain ⟨o, e1, e2, e3⟩ := id hi
  obtain ⟨u, f1, f2, nu, f3⟩ := ht
  unfold Builtin.SmallTypes.nextOf
  refine wpAny_bind (wpAny_callSpecial?_slot (name := Str.ofString "__next__") hi.typeIs F.slot_tuple_iterator_next (wpAny_call_entry F.slot_tuple_iterator_next hi.typeIs F.entry_tuple_iterator_next ?_ (F.args_tuple_iterator_next_1 _)))
  show wpAny _ _ (field (.ref it) 0 >>= _) _ _ s
  refine wpAny_bind (wpAny_field e1 e3 (x := .ref t) rfl ?_)
  show wpAny _ _ (if (Value.ref t == Value.none) = true then _ else _) _ _ s
  rw [if_neg (show ¬ ((Value.ref t == Value.none) = true) from Bool.false_ne_true)]
  show wpAny _ _ (field (.ref it) 1 >>= _) _ _ s
  refine wpAny_bind (wpAny_field e1 e3 (x := .int i 0) rfl ?_)
  show wpAny _ _ (seqItems? (.ref t) >>= _) _ _ s
  refine wpAny_bind (wpAny_seqItems f1 f3 ?_)
  simp only [Int.toNat_natCast, hx]
  refine wpAny_bind (wpAny_setField e1 e3 (by simp) (wpAny_pure ⟨x, rfl, wpAny_pure (q _ ⟨_, Heap.get?_update_self _ e1 (Obj.isFreed_of_fields (Obj.data_mapFields e3 _)), (Obj.cls_mapFields ..).trans e2, ?_⟩ (Heap.SameBut.update ..))⟩))
  rw [Obj.data_mapFields e3]
  simp [rawInt]
theorem nextT_end {it t : Addr} {i : Nat} {its : Array Value} {Q : Value → Shared → Prop} (hh : A.handled = none) (hi : s.heap.IsTupleIter it t i) (ht : s.heap.IsTuple t its) (hx : its[i]? = none)
    (q : ∀ h' e, Heap.ExtBut it s.heap h' → (∃ o, h'.get? e = some o ∧ o.cls = .type "StopIteration") → E (.ref e) { s with heap := h' }) : wpAny (model prog w) A (Builtin.SmallTypes.nextOf (.ref it)) Q E s := by
  obtain ⟨o, e1, e2, e3⟩ := id hi
  obtain ⟨u, f1, f2, nu, f3⟩ := ht
  unfold Builtin.SmallTypes.nextOf
  refine wpAny_bind (wpAny_callSpecial?_slot (name := Str.ofString "__next__") hi.typeIs F.slot_tuple_iterator_next (wpAny_call_entry F.slot_tuple_iterator_next hi.typeIs F.entry_tuple_iterator_next ?_ (F.args_tuple_iterator_next_1 _)))
  show wpAny _ _ (field (.ref it) 0 >>= _) _ _ s
  refine wpAny_bind (wpAny_field e1 e3 (x := .ref t) rfl ?_)
  show wpAny _ _ (if (Value.ref t == Value.none) = true then _ else _) _ _ s
  rw [if_neg (show ¬ ((Value.ref t == Value.none) = true) from Bool.false_ne_true)]
  show wpAny _ _ (field (.ref it) 1 >>= _) _ _ s
  refine wpAny_bind (wpAny_field e1 e3 (x := .int i 0) rfl ?_)
  show wpAny _ _ (seqItems? (.ref t) >>= _) _ _ s
  refine wpAny_bind (wpAny_seqItems f1 f3 ?_)
  simp only [Int.toNat_natCast, hx]
  refine wpAny_bind (wpAny_rule (wpAny_bind (wpAny_setField e1 e3 (by simp) ?_)))
  show wpAny _ _ (newExc (.type "StopIteration") [] >>= _) _ _ _
  refine wpAny_bind ?_
  simp only [newExc, newTuple]
  refine wpAny_bind (wpAny_newObj_type ?_ (by size_fits))
  refine wpAny_bind (m := firstArgMember _ _) (wpAny_of_eq (a := Value.none) (by first | rfl | (simp only [firstArgMember]; rfl)) ?_)
  refine wpAny_newObj_type ?_ (by size_fits)
  simp only [raiseNew]
  refine wpAny_bind (wpAny_handled ?_)
  first | rw [show A.in1.handled = none from hh] | rw [hh]
  refine wpAny_bind (wpAny_pure (wpAny_throw ?_))
  exact q _ _ (((Heap.SameBut.update ..).extBut.push _).push _) ⟨_, Heap.get?_push_size _ rfl, rfl⟩
end
theorem drawsT {prog : Program} {w : World} {A : Around} (hh : A.handled = none) (it t : Addr) (hne : t ≠ it) (its : Array Value) :
    Draws prog w A it [it, t] its.size (fun i v => its[i]? = some v) (fun i h => h.IsTupleIter it t i ∧ h.IsTuple t its) where
  live := fun _ _ st => let ⟨o, ho, _⟩ := st.1; ⟨o, ho⟩
  frame := fun _ _ _ st hk => ⟨let ⟨o, ho, r⟩ := st.1; ⟨o, hk it (by simp) o ho, r⟩, let ⟨o, ho, r⟩ := st.2; ⟨o, hk t (by simp) o ho, r⟩⟩
  item := fun i s Q E hi st hQ => nextT_item st.1 st.2 (x := its[i]) (by simp [hi]) fun h' a b => hQ _ h' s.toks (by simp [hi]) ⟨a, st.2.extBut b.extBut hne⟩ b
  done := fun s Q E st hE => nextT_end hh st.1 st.2 (by simp) hE

theorem enum_newT (l : Addr) (items : Array Value) (n : Nat) (dct : Option Addr) (sl : Array (Option Value)) :
    Meets (Builtin.«enumerate.__new__» ⟨[.type "enumerate", .ref l], []⟩) (fun _ R s => s.heap.get? l = some { cls := .type "tuple", dict := dct, data := .seq items n, slots := sl } ∧
      R (.ok (.ret (.ref (s.heap.push { cls := .type "tuple_iterator", data := .fields #[.ref l, .int 0 0] }).objs.size)))
        { s with heap := (s.heap.push { cls := .type "tuple_iterator", data := .fields #[.ref l, .int 0 0] }).push { cls := .type "enumerate", data := .fields #[.none, .bool false, .ref s.heap.objs.size, rawInt 0, .none, .none] } }) :=
  .of_wp fun prog w A R s h => by
    obtain ⟨hp, g, d, tk, os⟩ := s; obtain ⟨hl, h⟩ := h
    have hsub := sub_enumerate
    have hL : Heap.IsTuple (Shared.heap ⟨hp, g, d, tk, os⟩) l items := ⟨_, hl, rfl, n, rfl⟩
    wp_walk using AutoSeq1.wpAny_loadPart' hl
    refine wpAny_stack_any fun st => wpAny_pure ?_
    split
    · rename_i c _ _ _ _ _
      cases (c == Value.type "enumerate") <;> (wp_walk using AutoSeq1.wpAny_loadPart' hl, wpAny_pyIter_tuple hL; exact ⟨_, rfl, h⟩)
    · wp_walk using AutoSeq1.wpAny_loadPart' hl, wpAny_pyIter_tuple hL
      exact ⟨_, rfl, h⟩
theorem call_enumT {prog : Program} {w : World} {A : Around} {E : Value → Shared → Prop} {s : Shared} {l : Addr} {items : Array Value} {Q : Value → Shared → Prop} (hL : s.heap.IsTuple l items)
    (h : ∀ h', IsEnum h' (s.heap.objs.size + 1) s.heap.objs.size 0 .none → h'.IsTupleIter s.heap.objs.size l 0 → h'.objs.size = s.heap.objs.size + 2 →
      (∀ b o, s.heap.get? b = some o → h'.get? b = some o) → Q (.ref (s.heap.objs.size + 1)) { s with heap := h' }) :
    wpAny (model prog w) A (call (.type "enumerate") [.ref l]) Q E s := by
  obtain ⟨⟨c, dct, dt, sl⟩, hl, hc, n, hd⟩ := hL
  replace hc : c = .type "tuple" := hc
  replace hd : dt = .seq items n := hd
  subst hc hd
  refine callType_new F.called_enumerate (by decide) (F.typeCall_enumerate_1 _) (F.newCall_enumerate_1 _) (fun obj => F.args_object_init_2 obj _) F.entry_enumerate_new (enum_newT l items n dct sl) ⟨hl, ?_⟩
  have hz : (s.heap.push { cls := .type "tuple_iterator", data := .fields #[.ref l, .int 0 0] }).objs.size = s.heap.objs.size + 1 := Heap.size_push ..
  show _ ∧ _
  rw [hz]
  have he := Heap.get?_push_size (s.heap.push { cls := .type "tuple_iterator", data := .fields #[.ref l, .int 0 0] }) (o := { cls := .type "enumerate", data := .fields #[.none, .bool false, .ref s.heap.objs.size, rawInt 0, .none, .none] }) rfl
  rw [hz] at he
  exact ⟨⟨_, he, rfl⟩, h _ he ⟨_, Heap.get?_push_of_some _ (Heap.get?_push_size _ rfl), rfl, rfl⟩ (by rw [Heap.size_push, hz]) fun b o x => Heap.get?_push_of_some _ (Heap.get?_push_of_some _ x)⟩
end L2


namespace L2
open PySem PySem.Spec PyProof.Rows
section
variable {X : Cx} {pins : List (Addr × Obj)} {σ : St} {H : Hp} {s : Shared} {h' : Heap}
theorem Inv.turnedN {t' : Nat} {fp : List Addr} (I : Inv X pins σ H s) (hf : ∀ b ∈ fp, FpOk X pins H b) (k : ∀ b o, b ∉ fp → s.heap.get? b = some o → h'.get? b = some o) : Inv X pins σ H { s with heap := h', toks := t' } := by
  have nit : ∀ b u, H b = some u → b ∉ fp := fun b u e z => by rw [(hf b z).1] at e; cases e
  refine I.step (g' := s.gens) (d' := s.drawn) (ch := fp) (fun b hb => ?_) (fun b o _ _ hc e _ => k b o hc e) (fun b o _ _ hc e _ => ⟨o.slots, k b o hc e⟩) (fun _ _ _ _ n => n)
    (fun b o hc e => ⟨o, k b o hc e⟩) (fun _ _ e => e) (fun _ _ _ e => e) (fun b ps e => ⟨#[], by rw [e]; simp⟩) (fun m hm => ?_) (fun b u e => ?_) I.bare
  · obtain ⟨_, q1, q2, q3, q4, q5⟩ := hf b hb
    exact ⟨q3, q1, q4, q5⟩
  · obtain ⟨o, es, ep, ho, r⟩ := hm
    exact ⟨o, es, ep, k _ o (fun z => (hf _ z).2.1 rfl) ho, r⟩
  · refine (I.hok b u e).stay (fun c v hc q => k c v ?_ q) (fun _ q => q) fun _ _ q => q
    rcases hc with z | z
    · rw [z]; exact nit b u e
    · exact nit c _ z
theorem Inv.trackT {a : Addr} {xs : List V} {its : List Value} (I : Inv X pins σ H s) (hn : H a = none) (hs : X.s₀.heap.objs.size ≤ a) (hL : a ≠ X.env.locals) (hc : ∀ x c, X.env.cells.lookup x = some c → c ≠ a) (hp : ∀ p ∈ X.pn ++ pins, p.1 ≠ a)
    (rv : Vals xs its) (ht : PTup s.heap a its.toArray) (hz : xs.length ≤ sizeLine) : Inv X pins σ (upd H a (.tup xs)) s := by
  have ne : ∀ {b u}, H b = some u → b ≠ a := fun e => ne_of_none e hn
  refine ⟨I.ok, I.os, I.bare, ⟨I.base.keep, I.base.slot, fun b o e n hx => ?_, I.base.there, fun b ys e => ?_, fun b o u e => ?_, fun b ps e => ?_⟩, I.loc, I.cell, ?_, fun x c e => ?_, fun p hp' => ?_, fun b u e => ?_, I.len⟩
  · rw [upd_ne (Nat.ne_of_lt (Nat.lt_of_lt_of_le (Heap.lt_size e) hs))]
    exact I.base.free b o e n hx
  · have q := I.base.tups b ys e
    rw [upd_ne (ne q)]; exact q
  · have q := I.base.frzs b o u e
    rw [upd_ne (ne q)]; exact q
  · obtain ⟨m, q⟩ := I.base.tbls b ps e
    exact ⟨m, by rw [upd_ne (ne q)]; exact q⟩
  · rw [upd_ne (Ne.symm hL)]; exact I.free
  · rw [upd_ne (hc x c e)]; exact I.freeC x c e
  · obtain ⟨q1, q2, q3⟩ := I.pin p hp'
    exact ⟨q1, by rw [upd_ne (hp p hp')]; exact q2, q3⟩
  · by_cases hb : b = a
    · subst hb
      rw [upd_same] at e; cases e
      exact ⟨hz, its, rv, ht⟩
    · rw [upd_ne hb] at e
      exact (I.hok b u e).stay (fun _ _ _ q => q) (fun c q => by rw [upd_ne (ne q)]; exact q) fun c ys q => by rw [upd_ne (ne q)]; exact q
theorem Inv.turnedT {t' : Nat} {fp : List Addr} {xs : List V} {its : List Value} (I : Inv X pins σ H s) (hf : ∀ b ∈ fp, FpOk X pins H b) (k : ∀ b o, b ∉ fp → s.heap.get? b = some o → h'.get? b = some o)
    (rv : Vals xs its) (ht : PTup h' s.heap.objs.size its.toArray) (hz : xs.length ≤ sizeLine) : Inv X pins σ (upd H s.heap.objs.size (.tup xs)) { s with heap := h', toks := t' } := by
  refine (I.turnedN (t' := t') hf k).trackT (I.hok.fresh (Nat.le_refl _)) I.sz (Nat.ne_of_gt I.lt) (fun x c e => ?_) (fun p hp => ?_) rv ht hz
  · obtain ⟨v, q⟩ := I.cell x c e
    exact Nat.ne_of_lt q.lt
  · exact Nat.ne_of_lt (Heap.lt_size (I.pin p hp).1)
end

def Ite (K : PySem.W.Frag) (a : Addr) : It :=
  ⟨fun i H => ∃ xs x, SqT K H a xs ∧ xs[i]? = some x, fun i H v H' => ∃ t x, H t = none ∧ v = .ref t ∧ H' = upd H t (.tup [.int i, x]) ∧ ∀ xs, SqT K H a xs → xs[i]? = some x, fun i H => ∃ xs, SqT K H a xs ∧ xs.length = i⟩
theorem turn_enumT {P : Program} {w : World} {K : PySem.W.Frag} {els : List Expr} {kx} {tp : Pos} (a e it : Addr) (hne : e ≠ it) : Turn P w K (.Tuple els kx tp) (Ite K a) [e, it] e (fun i h => (∃ old, IsEnum h e it i old) ∧ h.IsTupleIter it a i) where
  mem := by simp
  obj := fun i h st b hb => by
    obtain ⟨⟨old, he⟩, o, ho, hc, hd⟩ := st
    rcases List.mem_cons.mp hb with rfl | hb
    · exact ⟨_, he, fun v z => by cases z⟩
    · rw [List.mem_singleton.mp hb]
      exact ⟨o, ho, fun v z => by rw [hd] at z; cases z⟩
  keep := fun i h h' st k => by
    obtain ⟨⟨old, he⟩, o, ho, r⟩ := st
    exact ⟨⟨old, k e (by simp) _ he⟩, o, k it (by simp) _ ho, r⟩
  item := by
    intro X hP hw hK hc i pins s σ H E I hf st hg
    subst hP hw hK
    obtain ⟨xs, x, hq, hx⟩ := hg
    obtain ⟨its, rv, p, hz⟩ := I.tuple hq
    obtain ⟨u, hu, ru⟩ := rv.get hx
    obtain ⟨⟨old, he⟩, hi⟩ := st
    obtain ⟨o, ho, hcl, hd⟩ := id hi
    have hT : s.heap.IsTuple a its.toArray := p
    have hai : a ≠ it := fun z => by
      obtain ⟨o', e1, e2, _⟩ := p
      rw [z, ho] at e1; cases e1; rw [hcl] at e2; injection e2 with z2; revert z2; decide
    have hae : e ≠ a := fun z => by
      obtain ⟨o', e1, e2, _⟩ := p
      rw [← z, he] at e1; cases e1; injection e2 with z2; revert z2; decide
    have hlt : i < its.toArray.size := by
      have := (List.getElem?_eq_some_iff.mp hu).1
      simpa using this
    have hh : X.A.in1.handled = none := I.ok.hd hc
    refine wpAny_pyNext_enum_itemD (drawsT hh it a hai its.toArray) he ⟨hi, hT⟩ hlt hne (by simp [hne, hae]) fun x' h1 tk hP1 ho1 hs1 hT1 hz1 hk1 => ?_
    have ex : x' = u := by
      have q : its[i]? = some x' := by simpa using hP1
      rw [hu] at q; exact (Option.some.inj q).symm
    subst ex
    refine ⟨_, rfl, wpAny_letOwnedTupleGo_enum ho1 fun h2 he2 hs2 => ?_⟩
    have hne0 : s.heap.objs.size ≠ e := Nat.ne_of_gt (Heap.lt_size he)
    have keep : ∀ b o, b ∉ [e, it] → s.heap.get? b = some o → h2.get? b = some o := fun b o hb e0 => (hs2.2 b fun z => hb (by simp [z])).trans (hk1 b o (fun z => hb (by simp [z])) (fun z => hb (by simp [z])) e0)
    refine ⟨.ref s.heap.objs.size, _, I.turnedT (h' := h2) (t' := tk + 1) (xs := [.int i, x]) hf keep (.cons ⟨tk, rfl⟩ (.cons ru .nil)) ⟨_, (hs2.2 _ hne0).trans hT1, rfl, ⟨_, rfl⟩, rfl, rfl⟩ (by show 2 ≤ sizeLine; decide), rfl, ⟨_, x, I.hok.fresh (Nat.le_refl _), rfl, rfl, fun ys hy => by rw [I.tuple_inj hy hq]; exact hx⟩, ⟨⟨_, by simpa using he2⟩, ?_⟩, fun b hb => ?_⟩
    · obtain ⟨⟨o1, e1, r1⟩, _⟩ := hs1
      exact ⟨o1, (hs2.2 it (Ne.symm hne)).trans e1, r1⟩
    · rcases List.mem_cons.mp hb with rfl | hb'
      · rw [upd_ne (Nat.ne_of_lt (Heap.lt_size he))]; exact (hf _ hb).1
      · have e9 := List.mem_singleton.mp hb'
        subst e9
        rw [upd_ne (Nat.ne_of_lt (Heap.lt_size ho))]; exact (hf _ hb).1
  done := by
    intro X hP hw hK hc i pins s σ H E I hf st hg
    subst hP hw hK
    obtain ⟨xs, hq, hx⟩ := hg
    obtain ⟨its, rv, p, hz⟩ := I.tuple hq
    obtain ⟨⟨old, he⟩, hi⟩ := st
    obtain ⟨o, ho, hcl, hd⟩ := id hi
    have hT : s.heap.IsTuple a its.toArray := p
    have hai : a ≠ it := fun z => by
      obtain ⟨o', e1, e2, _⟩ := p
      rw [z, ho] at e1; cases e1; rw [hcl] at e2; injection e2 with z2; revert z2; decide
    have hh : X.A.in1.handled = none := I.ok.hd hc
    have hl : its.toArray.size = i := by rw [List.size_toArray, ← rv.length, hx]
    refine wpAny_pyNext_enum_endD (drawsT hh it a hai its.toArray) he (by rw [hl]; exact ⟨hi, hT⟩) fun h1 hk => ⟨rfl, ?_⟩
    exact I.turnedN (t' := s.toks) hf fun b o hb e0 => hk b o (fun z => hb (by simp [z])) e0
  self := fun _ _ _ _ _ st h => by
    obtain ⟨⟨old, he⟩, _⟩ := st
    exact wpAny_pyIter_enum he h
section
variable {X : Cx}
def iEnum (K : PySem.W.Frag) (ta : TA) : TI := fun σ H R => ta σ H fun vs H1 => ∃ a, vs = [.ref a] ∧ (∃ xs, SqT K H1 a xs) ∧ R (Ite K a) H1
theorem pi_enumT {els : List Expr} {kx} {tp : Pos} {l : Expr} {ta : TA} {p pos : Pos} (hg : Gl X "enumerate") (hm : X.mg "enumerate" = none) (ha : PA X [l] ta) (hs : starEach [l] X.env = [(false, eval l X.env)] := by rfl) :
    PI X (.Tuple els kx tp) (.Call (.Name "enumerate" p) [l] [] pos) (iEnum X.K ta) := by
  intro pins s σ H R I h
  refine Call_ (ld_blt I hg hm boot_enumerate (PyProof.Rows.callWith_type1 (thn (ha pos pins s σ H _ I h) fun us s1 ⟨vs, H1, I1, r1, q1⟩ => ?_) hs rfl))
  obtain ⟨a, rfl, ⟨xs, hq⟩, q⟩ := q1
  obtain ⟨u, rfl, ru⟩ := vals1 r1
  cases (show u = Value.ref a from ru)
  obtain ⟨its, rv, p', hz⟩ := I1.tuple hq
  refine call_enumT (show s1.heap.IsTuple a its.toArray from p') fun h' he hi hsz hk => wpAny_pyIter_enum he ?_
  have I2 : Inv X pins σ H1 { s1 with heap := h' } := I1.kept (t' := s1.toks) hk
  refine ⟨s1.heap.objs.size + 1, [s1.heap.objs.size + 1, s1.heap.objs.size], _, _, H1, rfl, I2, turn_enumT a _ _ (Nat.ne_of_gt (Nat.lt_succ_self _)), ⟨⟨_, he⟩, hi⟩, fun b hb => ?_, q⟩
  rcases List.mem_cons.mp hb with rfl | hb
  · exact I1.fpOk (Nat.le_succ _) (I1.hok.fresh (Nat.le_succ _))
  · rw [List.mem_singleton.mp hb]
    exact I1.fpOk (Nat.le_refl _) (I1.hok.fresh (Nat.le_refl _))
end
end L2


namespace L2
open PySem PySem.Spec PyProof.Rows

structure ZipT (h : Heap) (z TI TO i1 i2 a b : Addr) (i : Nat) : Prop where
  z : IsZip h z TI TO .none
  ti : IsPair h TI (.ref i1) (.ref i2)
  to : ∃ x y, IsPair h TO x y
  one : h.IsTupleIter i1 a i
  two : h.IsTupleIter i2 b i
structure ZipNe (z TI TO i1 i2 : Addr) : Prop where
  az : TI ≠ z
  bz : TO ≠ z
  cz : i1 ≠ z
  dz : i2 ≠ z
  ab : TI ≠ TO
  ac : TI ≠ i1
  ad : TI ≠ i2
  bc : TO ≠ i1
  bd : TO ≠ i2
  cd : i1 ≠ i2
section
variable {prog : Program} {w : World} {A : Around} {E : Value → Shared → Prop} {s : Shared} {z TI TO i1 i2 a b : Addr} {i : Nat} {xs ys : Array Value}
theorem pairSet {T : Addr} {p q x : Value} {k : Nat} {Q : Unit → Shared → Prop} (hT : IsPair s.heap T p q) (h : ∀ h', h'.get? T = some { cls := .type "tuple", data := .seq ((#[p, q] : Array Value).setIfInBounds k x) } → Heap.SameBut T s.heap h' → Q () { s with heap := h' }) :
    wpAny (model prog w) A (updateSeq T (·.setIfInBounds k x)) Q E s := wpAny_updateSeq_pair hT h

theorem tupNe {h : Heap} {t j : Addr} {k : Nat} {its : Array Value} {u : Addr} (ht : h.IsTuple t its) (hj : h.IsTupleIter j u k) : t ≠ j := fun e => by
  obtain ⟨o, e1, e2, _⟩ := ht
  obtain ⟨o', f1, f2, _⟩ := hj
  rw [e, f1] at e1; cases e1; rw [f2] at e2; injection e2 with z2; revert z2; decide

theorem zipT_item {x y : Value} {Q : Option Value → Shared → Prop} (D : ZipNe z TI TO i1 i2) (S : ZipT s.heap z TI TO i1 i2 a b i) (ha : s.heap.IsTuple a xs) (hb : s.heap.IsTuple b ys) (haz : a ≠ z ∧ a ≠ TO) (hbz : b ≠ z ∧ b ≠ TO) (hx : xs[i]? = some x) (hy : ys[i]? = some y)
    (q : ∀ h', IsZip h' z TI TO (rawInt s.heap.objs.size) → IsPair h' TI (.ref i1) (.ref i2) → IsPair h' TO x y → h'.IsTupleIter i1 a (i + 1) → h'.IsTupleIter i2 b (i + 1) → IsPair h' s.heap.objs.size x y →
      (∀ c o, c ≠ z → c ≠ TO → c ≠ i1 → c ≠ i2 → s.heap.get? c = some o → h'.get? c = some o) → Q (some (.ref s.heap.objs.size)) { s with heap := h' }) :
    wpAny (model prog w) A (pyNext (.ref z)) Q E s := by
  obtain ⟨hz, hti, ⟨p0, p1, hto⟩, h1, h2⟩ := S
  have ai1 := tupNe ha h1
  have ai2 := tupNe ha h2
  have bi1 := tupNe hb h1
  have bi2 := tupNe hb h2
  have hT : s.TypeIs (.ref z) "zip" := ⟨_, hz, rfl⟩
  unfold pyNext
  refine wpAny_bind (wpAny_attempt (wpAny_callSpecial?_slot (name := Str.ofString "__next__") hT F.slot_zip_next (wpAny_call_entry F.slot_zip_next hT F.entry_zip_next ?_ (F.args_zip_next_1 _))))
  show wpAny _ _ (field (.ref z) 2 >>= _) _ _ _
  refine wpAny_bind (wpAny_field hz rfl (x := .bool false) rfl ?_); show wpAny _ _ (field (.ref z) 3 >>= _) _ _ _
  refine wpAny_bind (wpAny_field hz rfl (x := .ref TI) rfl (wpAny_bind (wpAny_seqItems hti rfl ?_)))
  show wpAny _ _ (Builtin.SmallTypes.ownedTupleIsFree (.ref z) >>= _) _ _ _
  refine wpAny_bind ?_
  unfold Builtin.SmallTypes.ownedTupleIsFree
  refine wpAny_bind (wpAny_field hz rfl (x := .none) rfl (wpAny_pure ?_)); simp only [if_true]
  refine wpAny_bind (wpAny_rule (wpAny_bind (wpAny_field hz rfl (x := .ref TO) rfl (wpAny_bind (wpAny_setField_rec hz (by simp) fun g1 k1 s1 => ?_)))))
  replace k1 : IsZip g1 z TI TO .ellipsis := k1
  refine wpAny_bind ?_
  simp only [List.zipIdx_cons, List.zipIdx_nil, List.forIn_cons, List.forIn_nil]
  -- the first
  refine wpAny_bind (wpAny_bind (wpAny_onRaise ?_)); show wpAny _ _ (Builtin.SmallTypes.nextOf (.ref i1) >>= _) _ _ _
  refine wpAny_bind (nextT_item (h1.extBut s1.extBut D.cz) (ha.extBut s1.extBut haz.1) hx fun g2 j2 s2 => wpAny_pure ?_)
  have t2 : IsPair g2 TO p0 p1 := s2.extBut _ _ D.bc (s1.extBut _ _ D.bz hto)
  refine wpAny_bind (wpAny_seqItems t2 rfl (wpAny_bind (pairSet t2 fun g3 t3 s3 => ?_)))
  replace t3 : IsPair g3 TO x p1 := t3
  refine wpAny_bind (wpAny_letGo (wpAny_pure ?_))
  -- the second
  refine wpAny_bind (wpAny_bind (wpAny_onRaise ?_)); show wpAny _ _ (Builtin.SmallTypes.nextOf (.ref i2) >>= _) _ _ _
  have e3 : ∀ c o, c ≠ z → c ≠ i1 → c ≠ TO → s.heap.get? c = some o → g3.get? c = some o := fun c o c1 c2 c3 e => s3.extBut _ _ c3 (s2.extBut _ _ c2 (s1.extBut _ _ c1 e))
  have h23 : g3.IsTupleIter i2 b i := let ⟨o, ho, r⟩ := h2; ⟨o, e3 _ _ D.dz D.cd.symm D.bd.symm ho, r⟩
  have hb3 : g3.IsTuple b ys := let ⟨o, ho, r⟩ := hb; ⟨o, e3 _ _ hbz.1 bi1 hbz.2 ho, r⟩
  refine wpAny_bind (nextT_item h23 hb3 hy fun g4 j4 s4 => wpAny_pure ?_)
  have t4 : IsPair g4 TO x p1 := s4.extBut _ _ D.bd t3
  refine wpAny_bind (wpAny_seqItems t4 rfl (wpAny_bind (pairSet t4 fun g5 t5 s5 => ?_)))
  replace t5 : IsPair g5 TO x y := t5
  refine wpAny_bind (wpAny_letGo (wpAny_pure (wpAny_pure ?_)))
  -- the tuple that is handed out
  refine wpAny_bind (wpAny_seqItems t5 rfl (wpAny_bind (wpAny_newTuple ?_)))
  have z5 : g5.objs.size = s.heap.objs.size := by rw [s5.1, s4.1, s3.1, s2.1, s1.1]
  have e5 : ∀ c o, c ≠ z → c ≠ TO → c ≠ i1 → c ≠ i2 → s.heap.get? c = some o → g5.get? c = some o := fun c o c1 c2 c3 c4 e => s5.extBut _ _ c2 (s4.extBut _ _ c4 (e3 c o c1 c3 c2 e))
  have k5 : IsZip g5 z TI TO .ellipsis := s5.extBut _ _ D.bz.symm (s4.extBut _ _ D.dz.symm (s3.extBut _ _ D.bz.symm (s2.extBut _ _ D.cz.symm k1)))
  have m1 : g5.IsTupleIter i1 a (i + 1) := ((j2.extBut s3.extBut D.bc.symm).extBut s4.extBut D.cd).extBut s5.extBut D.bc.symm
  have m2 : g5.IsTupleIter i2 b (i + 1) := j4.extBut s5.extBut D.bd.symm
  have zlt : z < g5.objs.size := Heap.lt_size k5
  show wpAny _ _ (Builtin.SmallTypes.ownedTupleHandOut (.ref z) (.ref g5.objs.size) >>= _) _ _ _
  refine wpAny_bind ?_
  unfold Builtin.SmallTypes.ownedTupleHandOut
  have k6 : IsZip (g5.push { cls := .type "tuple", data := .seq #[x, y] }) z TI TO .ellipsis := Heap.get?_push_of_some _ k5
  refine wpAny_bind (wpAny_setField_rec k6 (by simp) fun g7 k7 s7 => ?_)
  replace k7 : IsZip g7 z TI TO (rawInt g5.objs.size) := k7
  refine wpAny_setField_rec k7 (by simp) fun g8 k8 s8 => ?_
  replace k8 : IsZip g8 z TI TO (rawInt g5.objs.size) := k8
  have up : ∀ c o, c ≠ z → g5.get? c = some o → g8.get? c = some o := fun c o c1 e => s8.extBut _ _ c1 (s7.extBut _ _ c1 (Heap.get?_push_of_some _ e))
  have t8 : IsPair g8 g5.objs.size x y := s8.extBut _ _ (Nat.ne_of_gt zlt) (s7.extBut _ _ (Nat.ne_of_gt zlt) (Heap.get?_push_size _ rfl))
  rw [z5] at k8 t8
  refine wpAny_pure ⟨_, rfl, wpAny_pure ?_⟩
  show Q (some (.ref g5.objs.size)) _
  rw [z5]
  exact q g8 k8 (up _ _ D.az (e5 _ _ D.az D.ab D.ac D.ad hti)) (up _ _ D.bz t5) (let ⟨o, ho, r⟩ := m1; ⟨o, up _ _ D.cz ho, r⟩) (let ⟨o, ho, r⟩ := m2; ⟨o, up _ _ D.dz ho, r⟩) t8 fun c o c1 c2 c3 c4 e => up c o c1 (e5 c o c1 c2 c3 c4 e)
end
end L2


namespace L2
open PySem PySem.Spec PyProof.Rows
section
variable {prog : Program} {w : World} {A : Around} {E : Value → Shared → Prop} {s : Shared} {z TI TO i1 i2 a b : Addr} {i : Nat} {xs ys : Array Value}
theorem zipT_end {Q : Option Value → Shared → Prop} (hh : A.in1.handled = none) (D : ZipNe z TI TO i1 i2) (S : ZipT s.heap z TI TO i1 i2 a b i) (ha : s.heap.IsTuple a xs) (hb : s.heap.IsTuple b ys) (haz : a ≠ z ∧ a ≠ TO) (hbz : b ≠ z ∧ b ≠ TO) (hend : xs[i]? = none ∨ ys[i]? = none)
    (q : ∀ h', (∀ c o, c ≠ z → c ≠ TO → c ≠ i1 → c ≠ i2 → s.heap.get? c = some o → h'.get? c = some o) → Q none { s with heap := h' }) :
    wpAny (model prog w) A (pyNext (.ref z)) Q E s := by
  obtain ⟨hz, hti, ⟨p0, p1, hto⟩, h1, h2⟩ := S
  have bi1 := tupNe hb h1
  have hT : s.TypeIs (.ref z) "zip" := ⟨_, hz, rfl⟩
  unfold pyNext
  refine wpAny_bind (wpAny_attempt (wpAny_callSpecial?_slot (name := Str.ofString "__next__") hT F.slot_zip_next (wpAny_call_entry F.slot_zip_next hT F.entry_zip_next ?_ (F.args_zip_next_1 _))))
  show wpAny _ _ (field (.ref z) 2 >>= _) _ _ _
  refine wpAny_bind (wpAny_field hz rfl (x := .bool false) rfl ?_); show wpAny _ _ (field (.ref z) 3 >>= _) _ _ _
  refine wpAny_bind (wpAny_field hz rfl (x := .ref TI) rfl (wpAny_bind (wpAny_seqItems hti rfl ?_)))
  show wpAny _ _ (Builtin.SmallTypes.ownedTupleIsFree (.ref z) >>= _) _ _ _
  refine wpAny_bind ?_
  unfold Builtin.SmallTypes.ownedTupleIsFree
  refine wpAny_bind (wpAny_field hz rfl (x := .none) rfl (wpAny_pure ?_)); simp only [if_true]
  refine wpAny_bind (wpAny_rule (wpAny_bind (wpAny_field hz rfl (x := .ref TO) rfl (wpAny_bind (wpAny_setField_rec hz (by simp) fun g1 k1 s1 => ?_)))))
  replace k1 : IsZip g1 z TI TO .ellipsis := k1
  refine wpAny_bind ?_
  simp only [List.zipIdx_cons, List.zipIdx_nil, List.forIn_cons, List.forIn_nil]
  -- what an exception of an iterator's end comes to
  have fin : ∀ (g : Heap) (e : Addr), IsZip g z TI TO .ellipsis → (∀ c o, c ≠ z → c ≠ TO → c ≠ i1 → c ≠ i2 → s.heap.get? c = some o → g.get? c = some o) → (∃ o, g.get? e = some o ∧ o.cls = .type "StopIteration") →
      wpAny (model prog w) A.in1 (setField (.ref z) 0 .none) (fun _ s' => wpAny (model prog w) A (do if ← isInstance (.ref e) (.type "StopIteration") then pure none else throw (Value.ref e)) Q E s') (fun e' s' => wpAny (model prog w) A (do if ← isInstance e' (.type "StopIteration") then pure none else throw e') Q E s') { s with heap := g } := by
    rintro g e kz kk ⟨oe, f1, f2⟩
    have ez : e ≠ z := fun y => by subst y; rw [kz] at f1; cases f1; injection f2 with z2; revert z2; decide
    refine wpAny_setField_rec kz (by simp) fun g' _ s' => ?_
    refine wpAny_bind (wpAny_isInstance (T := "StopIteration") (b := true) ⟨oe, s'.extBut _ _ ez f1, f2⟩ isSubtype_stop ?_)
    exact wpAny_pure (q g' fun c o c1 c2 c3 c4 y => s'.extBut _ _ c1 (kk c o c1 c2 c3 c4 y))
  refine wpAny_bind (wpAny_bind (wpAny_onRaise ?_)); show wpAny _ _ (Builtin.SmallTypes.nextOf (.ref i1) >>= _) _ _ _
  cases hx : xs[i]? with
  | none =>
    refine wpAny_bind (nextT_end hh (h1.extBut s1.extBut D.cz) (ha.extBut s1.extBut haz.1) hx fun g2 e s2 he => ?_)
    exact fin g2 e (s2 _ _ D.cz.symm k1) (fun c o c1 _ c3 _ y => s2 _ _ c3 (s1.extBut _ _ c1 y)) he
  | some x =>
    have hy : ys[i]? = none := by rcases hend with h | h; rw [hx] at h; cases h; exact h
    refine wpAny_bind (nextT_item (h1.extBut s1.extBut D.cz) (ha.extBut s1.extBut haz.1) hx fun g2 j2 s2 => wpAny_pure ?_)
    have t2 : IsPair g2 TO p0 p1 := s2.extBut _ _ D.bc (s1.extBut _ _ D.bz hto)
    refine wpAny_bind (wpAny_seqItems t2 rfl (wpAny_bind (pairSet t2 fun g3 t3 s3 => ?_)))
    refine wpAny_bind (wpAny_letGo (wpAny_pure ?_))
    refine wpAny_bind (wpAny_bind (wpAny_onRaise ?_)); show wpAny _ _ (Builtin.SmallTypes.nextOf (.ref i2) >>= _) _ _ _
    have e3 : ∀ c o, c ≠ z → c ≠ i1 → c ≠ TO → s.heap.get? c = some o → g3.get? c = some o := fun c o c1 c2 c3 e => s3.extBut _ _ c3 (s2.extBut _ _ c2 (s1.extBut _ _ c1 e))
    have h23 : g3.IsTupleIter i2 b i := let ⟨o, ho, r⟩ := h2; ⟨o, e3 _ _ D.dz D.cd.symm D.bd.symm ho, r⟩
    have hb3 : g3.IsTuple b ys := let ⟨o, ho, r⟩ := hb; ⟨o, e3 _ _ hbz.1 bi1 hbz.2 ho, r⟩
    refine wpAny_bind (nextT_end hh h23 hb3 hy fun g4 e s4 he => ?_)
    exact fin g4 e (s4 _ _ D.dz.symm (s3.extBut _ _ D.bz.symm (s2.extBut _ _ D.cz.symm k1))) (fun c o c1 c2 c3 c4 y => s4 _ _ c4 (e3 c o c1 c3 c2 y)) he

abbrev zT1 (h : Heap) (l1 : Addr) : Heap := h.push { cls := .type "tuple_iterator", data := .fields #[.ref l1, .int 0 0] }
abbrev zT2 (h : Heap) (l1 l2 : Addr) : Heap := (zT1 h l1).push { cls := .type "tuple_iterator", data := .fields #[.ref l2, .int 0 0] }
abbrev zT3 (h : Heap) (l1 l2 : Addr) : Heap := (zT2 h l1 l2).push { cls := .type "tuple", data := .seq #[.ref h.objs.size, .ref (zT1 h l1).objs.size] }
abbrev zT4 (h : Heap) (l1 l2 : Addr) : Heap := (zT3 h l1 l2).push { cls := .type "tuple", data := .seq #[.none, .none] }
abbrev zT5 (h : Heap) (l1 l2 : Addr) : Heap := (zT4 h l1 l2).push { cls := .type "zip", data := .fields #[.none, .bool false, .bool false, .ref (zT2 h l1 l2).objs.size, .ref (zT3 h l1 l2).objs.size] }
theorem zip_newT (l1 l2 : Addr) (xs ys : Array Value) :
    Meets (Builtin.«zip.__new__» ⟨[.type "zip", .ref l1, .ref l2], []⟩) (fun _ R s => s.heap.IsTuple l1 xs ∧ s.heap.IsTuple l2 ys ∧ R (.ok (.ret (.ref (zT4 s.heap l1 l2).objs.size))) { s with heap := zT5 s.heap l1 l2 }) :=
  .of_wp fun prog w A R s h => by
    obtain ⟨hp, g, d, tk, os⟩ := s; obtain ⟨hl1, hl2, h⟩ := h
    have hsub := sub_zip
    have hL1 : Heap.IsTuple (Shared.heap ⟨hp, g, d, tk, os⟩) l1 xs := hl1
    have hL2 : Heap.IsTuple (Shared.heap ⟨hp.push { cls := .type "tuple_iterator", data := .fields #[.ref l1, .int 0 0] }, g, d, tk, os⟩) l2 ys := Heap.IsTuple.push hl2 _
    wp_walk using wpAny_pyIter_tuple hL1, wpAny_pyIter_tuple hL2
    exact ⟨_, rfl, h⟩
theorem call_zipT {l1 l2 : Addr} {Q : Value → Shared → Prop} (hl1 : s.heap.IsTuple l1 xs) (hl2 : s.heap.IsTuple l2 ys)
    (h : ∀ h', ZipT h' (s.heap.objs.size + 4) (s.heap.objs.size + 2) (s.heap.objs.size + 3) s.heap.objs.size (s.heap.objs.size + 1) l1 l2 0 → (∀ c o, s.heap.get? c = some o → h'.get? c = some o) → Q (.ref (s.heap.objs.size + 4)) { s with heap := h' }) :
    wpAny (model prog w) A (call (.type "zip") [.ref l1, .ref l2]) Q E s := by
  refine callType_new F.called_zip (by decide) (F.typeCall_zip_2 _ _) (F.newCall_zip_2 _ _) (fun obj => F.args_object_init_3 obj _ _) F.entry_zip_new (zip_newT l1 l2 xs ys) ⟨hl1, hl2, ?_⟩
  have z1 : (zT1 s.heap l1).objs.size = s.heap.objs.size + 1 := Heap.size_push ..
  have z2 : (zT2 s.heap l1 l2).objs.size = s.heap.objs.size + 2 := by rw [Heap.size_push, z1]
  have z3 : (zT3 s.heap l1 l2).objs.size = s.heap.objs.size + 3 := by rw [Heap.size_push, z2]
  have z4 : (zT4 s.heap l1 l2).objs.size = s.heap.objs.size + 4 := by rw [Heap.size_push, z3]
  have p1 : ∀ {g : Heap} {c o u}, g.get? c = some o → (g.push u).get? c = some o := fun e => Heap.get?_push_of_some _ e
  have g5 : (zT5 s.heap l1 l2).get? (zT4 s.heap l1 l2).objs.size = some _ := Heap.get?_push_size _ rfl
  have g4 : (zT5 s.heap l1 l2).get? (zT3 s.heap l1 l2).objs.size = some _ := p1 (Heap.get?_push_size _ rfl)
  have g3 : (zT5 s.heap l1 l2).get? (zT2 s.heap l1 l2).objs.size = some _ := p1 (p1 (Heap.get?_push_size _ rfl))
  have g2 : (zT5 s.heap l1 l2).get? (zT1 s.heap l1).objs.size = some _ := p1 (p1 (p1 (Heap.get?_push_size _ rfl)))
  have g1 : (zT5 s.heap l1 l2).get? s.heap.objs.size = some _ := p1 (p1 (p1 (p1 (Heap.get?_push_size _ rfl))))
  show _ ∧ _
  rw [z2, z3, z4] at g5
  rw [z1, z2] at g3
  rw [z3] at g4
  rw [z1] at g2
  rw [z4]
  exact ⟨⟨_, g5, rfl⟩, h _ ⟨g5, g3, ⟨_, _, g4⟩, ⟨_, g1, rfl, rfl⟩, ⟨_, g2, rfl, rfl⟩⟩ fun c o x => p1 (p1 (p1 (p1 (p1 x))))⟩
end

def Itz (K : PySem.W.Frag) (a b : Addr) : It :=
  ⟨fun i H => ∃ xs ys x y, SqT K H a xs ∧ SqT K H b ys ∧ xs[i]? = some x ∧ ys[i]? = some y, fun i H v H' => ∃ t x y, H t = none ∧ v = .ref t ∧ H' = upd H t (.tup [x, y]) ∧ ∀ xs ys, SqT K H a xs → SqT K H b ys → xs[i]? = some x ∧ ys[i]? = some y,
    fun i H => ∃ xs ys, SqT K H a xs ∧ SqT K H b ys ∧ (xs[i]? = none ∨ ys[i]? = none)⟩
theorem zipNe_of {z TI TO i1 i2 : Addr} {h : Heap} {a b : Addr} {i : Nat} (S : ZipT h z TI TO i1 i2 a b i) (h1 : TI ≠ TO) (h2 : i1 ≠ i2) : ZipNe z TI TO i1 i2 := by
  obtain ⟨hz, hti, ⟨p0, p1, hto⟩, ⟨o1, e1, c1, d1⟩, ⟨o2, e2, c2, d2⟩⟩ := S
  refine ⟨fun e => ?_, fun e => ?_, fun e => ?_, fun e => ?_, h1, fun e => ?_, fun e => ?_, fun e => ?_, fun e => ?_, h2⟩
  · have q := (show h.get? TI = _ from hti); rw [e, show h.get? z = _ from hz] at q; injection q with q; injection q with q1; injection q1 with q2; revert q2; decide
  · have q := (show h.get? TO = _ from hto); rw [e, show h.get? z = _ from hz] at q; injection q with q; injection q with q1; injection q1 with q2; revert q2; decide
  · rw [e, hz] at e1; cases e1; injection c1 with q2; revert q2; decide
  · rw [e, hz] at e2; cases e2; injection c2 with q2; revert q2; decide
  · rw [← e, hti] at e1; cases e1; injection c1 with q2; revert q2; decide
  · rw [← e, hti] at e2; cases e2; injection c2 with q2; revert q2; decide
  · rw [← e, hto] at e1; cases e1; injection c1 with q2; revert q2; decide
  · rw [← e, hto] at e2; cases e2; injection c2 with q2; revert q2; decide
theorem SqT.fpNe {X : Cx} {pins : List (Addr × Obj)} {σ : St} {H : Hp} {s : Shared} {t c : Addr} {zs : List V} (I : Inv X pins σ H s) (hq : SqT X.K H t zs) (f : FpOk X pins H c) : t ≠ c := by
  rintro rfl
  rcases hq with (h | ⟨o, h⟩) | h
  · rw [f.1] at h; cases h
  · rw [f.1] at h; cases h
  · obtain ⟨o, _, _, hl, _⟩ := h
    have e := I.ok.mod.kin _ _ hl
    rcases f.2.2.2.1 with z | z
    · exact I.ok.noex _ _ e z
    · exact absurd (Nat.lt_of_lt_of_le (Heap.lt_size e) (Nat.le_trans I.ok.bsz z)) (Nat.lt_irrefl _)
theorem turn_zipT {P : Program} {w : World} {K : PySem.W.Frag} {els : List Expr} {kx} {tp : Pos} (a b z TI TO i1 i2 : Addr) (h1 : TI ≠ TO) (h2 : i1 ≠ i2) : Turn P w K (.Tuple els kx tp) (Itz K a b) [z, TI, TO, i1, i2] z (fun i h => ZipT h z TI TO i1 i2 a b i) where
  mem := by simp
  obj := fun i h st c hc => by
    obtain ⟨hz, hti, ⟨p0, p1, hto⟩, ⟨o1, e1, c1, d1⟩, ⟨o2, e2, c2, d2⟩⟩ := st
    simp only [List.mem_cons, List.not_mem_nil, or_false] at hc
    rcases hc with rfl | rfl | rfl | rfl | rfl
    · exact ⟨_, hz, fun v q => by cases q⟩
    · exact ⟨_, hti, fun v q => by cases q⟩
    · exact ⟨_, hto, fun v q => by cases q⟩
    · exact ⟨_, e1, fun v q => by rw [d1] at q; cases q⟩
    · exact ⟨_, e2, fun v q => by rw [d2] at q; cases q⟩
  keep := fun i h h' st k => by
    obtain ⟨hz, hti, ⟨p0, p1, hto⟩, ⟨o1, e1, r1⟩, ⟨o2, e2, r2⟩⟩ := st
    exact ⟨k _ (by simp) _ hz, k _ (by simp) _ hti, ⟨p0, p1, k _ (by simp) _ hto⟩, ⟨o1, k _ (by simp) _ e1, r1⟩, ⟨o2, k _ (by simp) _ e2, r2⟩⟩
  item := by
    intro X hP hw hK hc i pins s σ H E I hf st hg
    subst hP hw hK
    obtain ⟨xs, ys, x, y, hqa, hqb, hx, hy⟩ := hg
    obtain ⟨its, rv, p, _⟩ := I.tuple hqa
    obtain ⟨jts, rw', p', _⟩ := I.tuple hqb
    obtain ⟨u, hu, ru⟩ := rv.get hx
    obtain ⟨v, hv, rvv⟩ := rw'.get hy
    have D := zipNe_of st h1 h2
    obtain ⟨hz, hti, ⟨p0, p1, hto⟩, hi1, hi2⟩ := id st
    have apart : ∀ {t : Addr} {zs : List V}, SqT X.K H t zs → t ≠ z ∧ t ≠ TO := fun hq => ⟨SqT.fpNe I hq (hf z (by simp)), SqT.fpNe I hq (hf TO (by simp))⟩
    refine zipT_item D st p p' (apart hqa) (apart hqb) (by simpa using hu) (by simpa using hv) fun g k1 k2 k3 k4 k5 k6 k7 => ?_
    refine ⟨_, rfl, wpAny_letOwnedTupleGo_zip k1 fun g2 l1 s2 => ?_⟩
    have hne0 : s.heap.objs.size ≠ z := Nat.ne_of_gt (Heap.lt_size hz)
    have keep : ∀ c o, c ∉ [z, TI, TO, i1, i2] → s.heap.get? c = some o → g2.get? c = some o := fun c o hc e => s2.extBut _ _ (fun q => hc (by simp [q])) (k7 c o (fun q => hc (by simp [q])) (fun q => hc (by simp [q])) (fun q => hc (by simp [q])) (fun q => hc (by simp [q])) e)
    refine ⟨.ref s.heap.objs.size, _, I.turnedT (h' := g2) (t' := s.toks) (xs := [x, y]) hf keep (.cons ru (.cons rvv .nil)) ⟨_, s2.extBut _ _ hne0 k6, rfl, ⟨_, rfl⟩, rfl, rfl⟩ (by show 2 ≤ sizeLine; decide), rfl,
      ⟨_, x, y, I.hok.fresh (Nat.le_refl _), rfl, rfl, fun as bs ha hb => ⟨by rw [I.tuple_inj ha hqa]; exact hx, by rw [I.tuple_inj hb hqb]; exact hy⟩⟩, ⟨l1, s2.extBut _ _ D.az k2, ⟨_, _, s2.extBut _ _ D.bz k3⟩, k4.extBut s2.extBut D.cz, k5.extBut s2.extBut D.dz⟩, fun c hc => ?_⟩
    have : c < s.heap.objs.size := by
      obtain ⟨o1, e1, _⟩ := hi1
      obtain ⟨o2, e2, _⟩ := hi2
      simp only [List.mem_cons, List.not_mem_nil, or_false] at hc
      rcases hc with rfl | rfl | rfl | rfl | rfl
      · exact Heap.lt_size hz
      · exact Heap.lt_size hti
      · exact Heap.lt_size hto
      · exact Heap.lt_size e1
      · exact Heap.lt_size e2
    rw [upd_ne (Nat.ne_of_lt this)]
    exact (hf c hc).1
  done := by
    intro X hP hw hK hc i pins s σ H E I hf st hg
    subst hP hw hK
    obtain ⟨xs, ys, hqa, hqb, hx⟩ := hg
    obtain ⟨its, rv, p, _⟩ := I.tuple hqa
    obtain ⟨jts, rw', p', _⟩ := I.tuple hqb
    have D := zipNe_of st h1 h2
    have apart : ∀ {t : Addr} {zs : List V}, SqT X.K H t zs → t ≠ z ∧ t ≠ TO := fun hq => ⟨SqT.fpNe I hq (hf z (by simp)), SqT.fpNe I hq (hf TO (by simp))⟩
    refine zipT_end (I.ok.hd hc) D st p p' (apart hqa) (apart hqb) (hx.elim (fun q => .inl (by simpa using rv.none_of q)) fun q => .inr (by simpa using rw'.none_of q)) fun g k => ⟨rfl, ?_⟩
    exact I.turnedN (t' := s.toks) hf fun c o hc e => k c o (fun q => hc (by simp [q])) (fun q => hc (by simp [q])) (fun q => hc (by simp [q])) (fun q => hc (by simp [q])) e
  self := fun _ _ _ _ _ st h => wpAny_pyIter_zip st.z h
section
variable {X : Cx}
def iZip (K : PySem.W.Frag) (ta : TA) : TI := fun σ H R => ta σ H fun vs H1 => ∃ a b, vs = [.ref a, .ref b] ∧ (∃ xs, SqT K H1 a xs) ∧ (∃ ys, SqT K H1 b ys) ∧ R (Itz K a b) H1
theorem pi_zipT {els : List Expr} {kx} {tp : Pos} {l l' : Expr} {ta : TA} {p pos : Pos} (hg : Gl X "zip") (hm : X.mg "zip" = none) (ha : PA X [l, l'] ta) (hs : starEach [l, l'] X.env = [(false, eval l X.env), (false, eval l' X.env)] := by rfl) (hs2 : starEach [l'] X.env = [(false, eval l' X.env)] := by rfl) :
    PI X (.Tuple els kx tp) (.Call (.Name "zip" p) [l, l'] [] pos) (iZip X.K ta) := by
  intro pins s σ H R I h
  refine Call_ (ld_blt I hg hm boot_zip (PyProof.Rows.callWith_type1 (thn (ha pos pins s σ H _ I h) fun us s1 ⟨vs, H1, I1, r1, q1⟩ => ?_) (by rw [hs, hs2]) (by rw [hs2]; rfl)))
  obtain ⟨a, b, rfl, ⟨xs, hqa⟩, ⟨ys, hqb⟩, q⟩ := q1
  obtain ⟨u, v, rfl, ru, rv⟩ := vals2 r1
  cases (show u = Value.ref a from ru)
  cases (show v = Value.ref b from rv)
  obtain ⟨its, _, p1, _⟩ := I1.tuple hqa
  obtain ⟨jts, _, p2, _⟩ := I1.tuple hqb
  refine call_zipT (show s1.heap.IsTuple a its.toArray from p1) (show s1.heap.IsTuple b jts.toArray from p2) fun h' S hk => wpAny_pyIter_zip S.z ?_
  have I2 : Inv X pins σ H1 { s1 with heap := h' } := I1.kept (t' := s1.toks) hk
  refine ⟨_, _, _, _, H1, rfl, I2, turn_zipT a b _ _ _ _ _ (Nat.ne_of_lt (Nat.lt_succ_self _)) (Nat.ne_of_lt (Nat.lt_succ_self _)), S, fun c hc => ?_, q⟩
  have : s1.heap.objs.size ≤ c := by
    simp only [List.mem_cons, List.not_mem_nil, or_false] at hc
    rcases hc with rfl | rfl | rfl | rfl | rfl <;> first | exact Nat.le_refl _ | exact Nat.le_add_right _ _ | exact Nat.le_succ _ | exact Nat.le_succ_of_le (Nat.le_add_right _ _)
  exact I1.fpOk this (I1.hok.fresh this)
end
end L2


namespace L2
open PySem PySem.Spec PyProof.Rows

theorem fm_congr {α β : Type} {f g : α → Option β} : ∀ {l : List α}, (∀ x ∈ l, f x = g x) → l.filterMap f = l.filterMap g
  | [], _ => rfl
  | a :: l, h => by rw [List.filterMap_cons, List.filterMap_cons, h a List.mem_cons_self, fm_congr fun x hx => h x (List.mem_cons_of_mem _ hx)]
theorem rev_pick (its : List Value) : (List.range its.length).filterMap (fun (k : Nat) => its.toArray[its.length - 1 - k]?) = its.reverse := by
  apply List.ext_getElem?
  intro i
  have e : (List.range its.length).filterMap (fun (k : Nat) => its.toArray[its.length - 1 - k]?) = (List.range its.length).map fun k => its.getD (its.length - 1 - k) .none := by
    rw [← List.filterMap_eq_map]
    apply fm_congr
    intro k hk
    have hk' := List.mem_range.mp hk
    have h1 : its.length - 1 - k < its.length := by omega
    simp [h1]
  rw [e, List.getElem?_map]
  by_cases h : i < its.length
  · rw [List.getElem?_range h, List.getElem?_reverse h]
    have h1 : its.length - 1 - i < its.length := by omega
    simp [h1]
  · rw [List.getElem?_eq_none (by simpa using h), List.getElem?_eq_none (by simpa using h)]
    rfl
theorem pick_rev (its : List Value) : slicePick its.toArray none none (some (-1)) = its.reverse.toArray := by
  have hb : sliceBounds none none (some (-1)) its.length = ((its.length : Int) - 1, -1, -1) := by
    unfold sliceBounds; simp
  have hr : ∀ n : Nat, sliceRange ((n : Int) - 1) (-1) (-1) = (List.range n).map fun k => n - 1 - k := by
    intro n
    unfold sliceRange
    have e1 : (if (-1 : Int) > 0 then (if (n : Int) - 1 < -1 then (-1 - ((n : Int) - 1) + -1 - 1) / -1 else 0) else if (n : Int) - 1 > -1 then ((n : Int) - 1 - -1 - -1 - 1) / - -1 else 0).toNat = n := by
      rw [if_neg (by decide)]
      by_cases h : (n : Int) - 1 > -1
      · rw [if_pos h]
        have : ((n : Int) - 1 - -1 - -1 - 1) / - -1 = n := by
          rw [show (- -1 : Int) = 1 by decide, Int.ediv_one]; omega
        rw [this]; rfl
      · rw [if_neg h]; omega
    dsimp only
    rw [e1]
    apply List.map_congr_left
    intro k hk
    have := List.mem_range.mp hk
    omega
  unfold slicePick
  rw [List.size_toArray, hb]
  show (List.filterMap _ (sliceRange ((its.length : Int) - 1) (-1) (-1))).toArray = _
  rw [hr, List.filterMap_map]
  congr 1
  exact rev_pick its
section
variable {X : Cx} {e : Expr} {te : TE} {p2 pos : Pos}
def RvR (X : Cx) (r : V → Hp → VK → Prop) : Prop :=
  ∀ (pins : List (Addr × Obj)) (s : Shared) (σ : St) (H : Hp) (x : V) (v vs : Value) (sl : Addr) (Q : VK), Inv X pins σ H s → RelV x v → s.heap.IsSliceOf sl .none .none vs → IsPart vs (some (-1)) → r x H Q →
    ∃ T id, typeLookup (.type T) "__getitem__" = pure (some (.builtin id)) ∧ s.TypeIs v T ∧ wpAny (model X.prog X.w) X.A (getItem v (.ref sl)) (EP X pins σ Q) X.xe s
theorem pe_rev {r : V → Hp → VK → Prop} {j : Nat} {p3 p4 : Pos} (hr : RvR X r) (he : PE X e te) : PE X (.Subscript e (.Slice none none (some (.UnaryOp .USub (.Constant (.int 1) j p3) p4)) p2) pos) (tUn r te) := by
  intro pins s σ H Q I h
  have hst : PO X (some (.UnaryOp .USub (.Constant (.int 1) j p3) p4)) (tPart (tUn (rU fun i => .int (-i)) (tC (.int 1)))) := po_some (pe_un un_neg pe_int)
  refine Subscript_ (thn (he pins s σ H _ I h) fun v s1 ⟨x, H1, I1, r1, q1⟩ => ?_)
  refine wpAny_Slice (thn (po_none pins s1 σ H1 (fun o H' => o = none ∧ r x H' Q) I1 ⟨rfl, q1⟩) fun vl s2 ⟨l, H2, I2, pl, el, q2⟩ => thn (po_none pins s2 σ H2 (fun o H' => o = none ∧ r x H' Q) I2 ⟨rfl, q2⟩) fun vu s3 ⟨u, H3, I3, pu, eu, q3⟩ => ?_)
  subst el eu
  refine thn (hst pins s3 σ H3 (fun o H' => o = some (-1) ∧ r x H' Q) I3 ⟨1, rfl, -1, rfl, rfl, q3⟩) fun vs s4 ⟨o, H4, I4, ps, eo, q4⟩ => ?_
  subst eo
  cases pl
  cases pu
  have I5 : Inv X pins σ H4 { s4 with heap := s4.heap.push { cls := .type "slice", data := .fields #[.none, .none, vs] } } := I4.kept (t' := s4.toks) fun b ob q => Heap.get?_push_of_some _ q
  obtain ⟨T, id, hT, ht, hg⟩ := hr pins { s4 with heap := s4.heap.push { cls := .type "slice", data := .fields #[.none, .none, vs] } } σ H4 x v vs s4.heap.objs.size Q I5 r1 (Heap.IsSliceOf.new ..) ps q4
  show wpAny (model X.prog X.w) X.A (subscriptTail e (.Slice none none (some (.UnaryOp .USub (.Constant (.int 1) j p3) p4)) p2) v (.ref s4.heap.objs.size)) (EP X pins σ Q) X.xe { s4 with heap := s4.heap.push { cls := .type "slice", data := .fields #[.none, .none, vs] } }
  exact tail_any (ops := [v, .ref s4.heap.objs.size]) ht hT hg (by with_unfolding_all rfl)

def rRvL (K : PySem.W.Frag) : V → Hp → VK → Prop := fun x H Q => ∃ a xs, x = .ref a ∧ SqL K H a xs ∧ ∀ p, H p = none → Q (.ref p) (upd H p (.lst xs.reverse))
theorem rv_list : RvR X (rRvL X.K) := by
  intro pins s σ H x v vs sl Q I rx hs ps h
  obtain ⟨a, xs, rfl, hx, q⟩ := h
  cases rx
  obtain ⟨its, r, ht, hz⟩ := I.list hx
  have hlen := r.length
  refine ⟨"list", _, slot_list_getitem.lookup, ht.isList.typeIs, ?_⟩
  refine wpAny_getItem_list_slice ht.isList hs .none .none ps (by simp) ?_ (by rw [List.size_toArray] <;> omega)
  rw [pick_rev]
  refine ⟨.ref s.heap.objs.size, _, I.laid (t' := s.toks) (o := .lst xs.reverse) (fun b ob q => Heap.get?_push_of_some _ q) (Nat.le_refl _) ?_, rfl, q _ (I.hok.fresh (Nat.le_refl _))⟩
  exact ⟨by rw [List.length_reverse]; exact hz, _, 0, r.reverse, Heap.get?_push_size _ rfl⟩

theorem getItem_tuple_rev {prog : Program} {w : World} {A : Around} {E : Value → Shared → Prop} {s : Shared} {t sl : Addr} {its : List Value} {vs : Value} {Q : Value → Shared → Prop} (ht : IsTup s.heap t its.toArray) (hs : s.heap.IsSliceOf sl .none .none vs) (ps : IsPart vs (some (-1)))
    (h : Q (.ref s.heap.objs.size) { s with heap := s.heap.push { cls := .type "tuple", data := .seq its.reverse.toArray } }) (hsz : its.length ≤ sizeLine) : wpAny (model prog w) A (getItem (.ref t) (.ref sl)) Q E s := by
  have htake : sizeOk (.seq its.reverse.toArray) := by
    show its.reverse.toArray.size ≤ sizeLine
    rw [List.size_toArray, List.length_reverse]; exact hsz
  obtain ⟨os, hos, hcs, hds⟩ := id hs
  have hTs : s.TypeIs (.ref sl) "slice" := ⟨os, hos, hcs⟩
  unfold getItem
  try with_reducible refine wpAny_holding ?_
  first | refine wpAny_bind (wpAny_pure ?_) | skip
  refine wpAny_bind (wpAny_sequenceKey ht.typeIs (by decide) ?_)
  refine wpAny_bind (wpAny_callSpecial?_slot (name := Str.ofString "__getitem__") ht.typeIs PyProof.Rows.slot_tuple_getitem
    (wpAny_call_entry PyProof.Rows.slot_tuple_getitem ht.typeIs entry_tuple_getitem ?_ (args_tuple_getitem _ _)))
  show wpAny _ _ (Builtin.Tuple.tupleItemsOf (.ref t) >>= _) _ _ s
  refine wpAny_bind (tupleItemsOf_ ht ?_)
  refine wpAny_bind (wpAny_typeOf hTs ?_)
  rw [if_pos (by decide)]
  have hap : ∀ {Q' : Int × Int × Nat → Shared → Prop}, Q' ((its.length : Int) - 1, -1, its.length) s → wpAny (model prog w) A.in1 (Builtin.Slice.sliceApplied (.ref sl) (pure ((its.toArray.size : Nat) : Int))) Q' E s := fun {Q'} q => by
    unfold Builtin.Slice.sliceApplied Builtin.Slice.sliceFields
    refine wpAny_bind (wpAny_bind (wpAny_field hos hds (x := .none) rfl (wpAny_bind (wpAny_field hos hds (x := .none) rfl (wpAny_bind (wpAny_field hos hds (x := vs) rfl (wpAny_pure ?_)))))))
    refine wpAny_bind (HT.slicePart_ ps ?_)
    show wpAny _ _ (if ((-1 : Int) == 0) = true then _ else _) _ _ s
    rw [if_neg (by decide)]
    refine wpAny_bind (slicePart_none (wpAny_bind (slicePart_none (wpAny_bind (wpAny_pure ?_)))))
    have e1 : Builtin.Slice.sliceAdjust none none (-1) ((its.toArray.size : Nat) : Int) = ((its.length : Int) - 1, -1) := by
      unfold Builtin.Slice.sliceAdjust; simp
    have e2 : Builtin.Slice.slicePlaces ((its.length : Int) - 1) (-1) (-1) = its.length := by
      unfold Builtin.Slice.slicePlaces
      rw [if_neg (by decide)]
      by_cases h : (its.length : Int) - 1 > -1
      · rw [if_pos h, show (- -1 : Int) = 1 by decide, Int.ediv_one]; omega
      · rw [if_neg h]; omega
    show wpAny _ _ (match Builtin.Slice.sliceAdjust none none (-1) ((its.toArray.size : Nat) : Int) with | (lo, hi) => pure (lo, (-1 : Int), Builtin.Slice.slicePlaces lo hi (-1))) _ _ s
    rw [e1]
    show wpAny _ _ (pure ((its.length : Int) - 1, (-1 : Int), Builtin.Slice.slicePlaces ((its.length : Int) - 1) (-1) (-1))) _ _ s
    rw [e2]
    exact wpAny_pure q
  refine wpAny_bind (hap ?_)
  show wpAny _ _ (if ((its.length : Int) - 1 == 0 && (-1 : Int) == 1 && its.length == its.toArray.size) = true then _ else _) _ _ s
  rw [if_neg (by simp)]
  have e3 : (List.filterMap (fun (k : Nat) => its.toArray[((its.length : Int) - 1 + (k : Int) * -1).toNat]?) (List.range its.length)) = its.reverse := by
    rw [← rev_pick its]
    apply fm_congr
    intro k hk
    have := List.mem_range.mp hk
    have e : ((its.length : Int) - 1 + (k : Int) * -1).toNat = its.length - 1 - k := by omega
    rw [e]
  rw [e3]
  first
    | exact wpAny_bind (m := Builtin.Tuple.tupleExact _) (wpAny_newObj_type (wpAny_pure ⟨_, rfl, wpAny_pure h⟩) htake)
    | exact wpAny_bind (m := Builtin.Tuple.tupleExact _) (wpAny_newObj_type (wpAny_bind (wpAny_pure (wpAny_pure ⟨_, rfl, wpAny_pure h⟩))) htake)
    | exact wpAny_bind (wpAny_bind (m := Builtin.Tuple.tupleExact _) (wpAny_newObj_type (wpAny_pure (wpAny_pure ⟨_, rfl, wpAny_pure h⟩)) htake))
    | exact wpAny_bind (wpAny_bind (m := Builtin.Tuple.tupleExact _) (wpAny_newObj_type (wpAny_pure ⟨_, rfl, wpAny_pure h⟩) htake))
def rRvT (K : PySem.W.Frag) : V → Hp → VK → Prop := fun x H Q => ∃ a xs, x = .ref a ∧ SqT K H a xs ∧ ∀ p, H p = none → Q (.ref p) (upd H p (.tup xs.reverse))
theorem rv_tup : RvR X (rRvT X.K) := by
  intro pins s σ H x v vs sl Q I rx hs ps h
  obtain ⟨a, xs, rfl, hx, q⟩ := h
  cases rx
  obtain ⟨its, r, ht, hz⟩ := I.tuple hx
  have hlen := r.length
  refine ⟨"tuple", _, PyProof.Rows.slot_tuple_getitem.lookup, ht.typeIs, ?_⟩
  refine getItem_tuple_rev ht hs ps ?_ (by omega)
  refine ⟨.ref s.heap.objs.size, _, I.laid (t' := s.toks) (o := .tup xs.reverse) (fun b ob q => Heap.get?_push_of_some _ q) (Nat.le_refl _) ?_, rfl, q _ (I.hok.fresh (Nat.le_refl _))⟩
  exact ⟨by rw [List.length_reverse]; exact hz, _, r.reverse, PTup.new⟩
end
end L2


namespace L2
open PySem PySem.Spec PyProof.Rows
section
variable {X : Cx}
def rRange1 : List V → Hp → VK → Prop := fun xs H Q => ∃ j : Int, xs = [.int j] ∧ ∀ p, H p = none → Q (.ref p) (upd H p (.rng 0 j))
theorem call_range1 : CallR X (.type "range") rRange1 := by
  intro pins s σ H xs us Q I rs h
  obtain ⟨j, rfl, q⟩ := h
  obtain ⟨u, rfl, t, rfl⟩ := vals1 rs
  refine call_range_1 ⟨.ref s.heap.objs.size, _, I.laid (o := .rng 0 j) (fun b ob q => Heap.get?_push_of_some _ q) (Nat.le_refl _) ?_, rfl, q _ (I.hok.fresh (Nat.le_refl _))⟩
  exact ⟨_, _, _, Heap.get?_push_size _ rfl⟩
def rListRng : List V → Hp → VK → Prop := fun xs H Q => ∃ (a : Addr) (j : Int), xs = [.ref a] ∧ H a = some (.rng 0 j) ∧ 0 ≤ j ∧ j ≤ 1000 ∧ ∀ p, H p = none → Q (.ref p) (upd H p (.lst (rangeV 0 j.toNat)))
theorem call_list_rng (hc : X.calm = true) : CallR X (.type "list") rListRng := by
  intro pins s σ H xs us Q I rs h
  obtain ⟨a, j, rfl, ha, h0, h1, q⟩ := h
  obtain ⟨u, rfl, ru⟩ := vals1 rs
  cases (show u = Value.ref a from ru)
  obtain ⟨t, u, v, ho⟩ := (show ObjOk X.prog X.w H s.heap a (.rng 0 j) from I.hok a _ ha)
  have hh : X.A.handled = none := I.ok.hd hc
  have hsz : Builtin.Range.rangeSize 0 j 1 = ((j.toNat : Nat) : Int) := by rw [rangeSize_one]; split <;> omega
  refine call_list_range hh ho (small_one (by omega) (by omega) (by omega) (by omega)) hsz (by omega) fun h' tk acc c hk hS hi => ?_
  obtain ⟨i1, i2⟩ := hi
  refine ⟨.ref s.heap.objs.size, _, I.laid (t' := tk) (o := .lst (rangeV 0 j.toNat)) hk (Nat.le_refl _) ?_, rfl, q _ (I.hok.fresh (Nat.le_refl _))⟩
  refine ⟨by rw [rangeV_len]; exact Nat.le_trans (by omega : j.toNat ≤ 1000) (by decide), acc.toList, c, ?_, by simpa using hS⟩
  have key : ∀ (n : Nat) (l : List Value) (k : Int), l.length = n → (∀ (i : Nat) v, l[i]? = some v → ∃ t, v = Value.int (k + (i : Int)) t) → Vals ((List.range n).map fun (i : Nat) => V.int (k + (i : Int))) l := by
    intro n
    induction n with
    | zero => intro l k hl _; cases l with
      | nil => exact .nil
      | cons _ _ => cases hl
    | succ n ih =>
      intro l k hl hv
      cases l with
      | nil => cases hl
      | cons x r =>
        rw [List.range_succ_eq_map, List.map_cons, List.map_map]
        refine .cons ?_ ?_
        · obtain ⟨t, e⟩ := hv 0 x rfl
          exact ⟨t, e⟩
        · have := ih r (k + 1) (by simpa using hl) (fun i v e => by
            obtain ⟨t, e'⟩ := hv (i + 1) v (by simpa using e)
            exact ⟨t, by rw [e']; congr 1; push_cast; omega⟩)
          have e : ((fun (i : Nat) => V.int (k + (i : Int))) ∘ Nat.succ) = fun (i : Nat) => V.int (k + 1 + (i : Int)) := by
            funext i
            show V.int (k + ((i + 1 : Nat) : Int)) = _
            congr 1; push_cast; omega
          rw [e]
          exact this
  refine key _ _ 0 (by simpa using i1) fun i v e => ?_
  obtain ⟨t, e'⟩ := i2 i v (by simpa using e)
  exact ⟨t, by rw [e']; congr 1; omega⟩

def rCatTT (K : PySem.W.Frag) : R2 := fun x y H Q => ∃ a b xs ys, x = .ref a ∧ y = .ref b ∧ SqT K H a xs ∧ SqT K H b ys ∧ xs.length + ys.length ≤ sizeLine ∧
  ∀ p H', Same H H' → SqT K H' p (xs ++ ys) → (H' p = H p ∨ H' p = some (.tup (xs ++ ys))) → Q (.ref p) H'
end
end L2


namespace L2
open PySem PySem.Spec PyProof.Rows

def cscopeB (sc : Scope) (N : List Str) (scope : Scope) (N' : List Str) (n : Nat) (ix : List Nat) : Bool :=
  scope.kind == .function && scope.names.all (fun y => y.2 != .cell) && scope.names.all (fun y => y.2 != .local || scope.names.lookup y.1 == some .local) &&
  scope.names.all (fun y => y.2 != .free || (sc.names.lookup y.1 == some .cell || sc.names.lookup y.1 == some .free)) && scope.names.all (fun y => y.2 != .free || scope.names.lookup y.1 != some .local) &&
  N'.length == n + ix.length && (List.range ix.length).all fun j => match ix[j]?, N'[n + j]? with
    | some i, some x => N[i]? == some x && scope.names.contains (x, .free)
    | _, _ => false
theorem CompScope.of {X : Cx} {sc : Scope} {N : List Str} {scope : Scope} {N' : List Str} {n : Nat} {ix : List Nat} (h : cscopeB sc N scope N' n ix = true) (hs : X.env.scope = sc) (hN : X.N = N) : CompScope X scope N' n ix := by
  unfold cscopeB at h
  simp only [Bool.and_eq_true, List.all_eq_true] at h
  obtain ⟨⟨⟨⟨⟨⟨h1, h2⟩, h3⟩, h4⟩, h5⟩, h6⟩, h7⟩ := h
  subst hs hN
  refine ⟨eq_of_beq h1, fun y hy => by simpa using h2 y hy, fun y hy hl => ?_, fun y hy hf => ?_, fun y hy hl => ?_, eq_of_beq h6, fun j i e => ?_⟩
  · have := h3 y hy
    rw [hl] at this
    simpa using this
  · have := h4 y hy
    rw [hf] at this
    simpa using this
  · have := h5 _ hy
    rw [hl] at this
    simp at this
  · have hj : j < ix.length := (List.getElem?_eq_some_iff.mp e).1
    have := h7 j (List.mem_range.mpr hj)
    rw [e] at this
    cases hx : N'[n + j]? with
    | none => rw [hx] at this; simp at this
    | some x =>
      rw [hx] at this
      simp only [Bool.and_eq_true] at this
      exact ⟨x, rfl, eq_of_beq this.1, by simpa using this.2⟩

structure Cal (P : Program) (w : World) (K : PySem.W.Frag) (mg : Str → Option Value) (base : Heap) (k : Nat) (x : Str) (ps : List Str) (sp : Sp) : Prop where
  ex : ∃ f fd, FnOk P w K mg base CX0 k f fd ps sp ∧ mg x = some (.ref f) ∧ PySem.W.keepIn K (.ref f) = true ∧ Binds K fd ps []
section
variable {X : Cx} {k : Nat} {ps : List Str} {sp : Sp} {x : Str} {p pos : Pos} {e : Expr} {es : List Expr} {t : TA}
theorem pe_cal (C : Cal X.prog X.w X.K X.mg X.base k x ps sp) (hr : Room k X.A) (hg : Gl X x) (ha : PA X (e :: es) t) (hdb : (x == ("__debug__" : Str)) = false := by decide) (he : starEach (e :: es) X.env = (false, eval e X.env) :: starEach es X.env := by rfl)
    (hpl : (backTo pos (starEach es X.env)).any (·.1) = false := by rfl) : PE X (.Call (.Name x p) (e :: es) [] pos) (fun σ H Q => t σ H fun vs H1 => sp vs H1 Q E0) := by
  obtain ⟨f, fd, F, hm, hk, hb⟩ := C.ex
  exact (pe_call F hr hg hm hk hb .nil pass0 ha hdb he hpl).mono fun σ H Q q => by
    have e : (fun (vs : List V) (H1 : Hp) => sp (vs ++ []) H1 Q E0) = fun vs H1 => sp vs H1 Q E0 := by funext vs H1; rw [List.append_nil]
    show t σ H fun vs H1 => sp (vs ++ []) H1 Q E0
    rw [e]
    exact q
end
structure Top (mg : Str → Option Value) : Prop where
  n_len : mg "len" = none
  n_tuple : mg "tuple" = none
  n_list : mg "list" = none
  n_range : mg "range" = none
  n_int : mg "int" = none
  n_bool : mg "bool" = none
  n_isinstance : mg "isinstance" = none
  n_all : mg "all" = none
  n_zip : mg "zip" = none
  n_enumerate : mg "enumerate" = none
  n_min : mg "min" = none
  n_sum : mg "sum" = none
  n_max : mg "max" = none
  n_abs : mg "abs" = none
  n_sorted : mg "sorted" = none
end L2


namespace L2
open PySem PySem.Spec PyProof.Rows
section
variable {X : Cx}
def rCat2 : R2 := fun x y H Q => ∃ a b xs ys, x = .ref a ∧ y = .ref b ∧ H a = some (.tup xs) ∧ H b = some (.tup ys) ∧ xs.length + ys.length ≤ sizeLine ∧ ∀ p H', Same H H' → H' p = some (.tup (xs ++ ys)) → Q (.ref p) H'
theorem op_cat2 : OpR X (binaryOp .Add) rCat2 := by
  intro pins s σ H x y v u Q I rx ry h
  obtain ⟨a, b, xs, ys, rfl, rfl, ha, hb, hz, q⟩ := h
  have ha' : SqT X.K H a xs := SqT.of ha
  have hb' : SqT X.K H b ys := SqT.of hb
  by_cases hx : xs = []
  · subst hx
    cases rx
    cases ry
    obtain ⟨its, r1, p1, _⟩ := I.tuple ha'
    obtain ⟨its2, r2, p2, _⟩ := I.tuple hb'
    cases r1
    obtain ⟨⟨cls, dd, data, sl⟩, ho, hc, n, hd⟩ := id p1
    obtain ⟨⟨cls2, dd2, data2, sl2⟩, ho2, hc2, n2, hd2⟩ := id p2
    simp only at hc hd hc2 hd2
    subst hc hd hc2 hd2
    exact concat_meets ⟨_, ho, rfl⟩ ⟨_, ho2, rfl⟩ noFill_tuple_add seq_tuple_add PySem.F.slot_tuple_add PySem.F.entry_tuple_add (PySem.F.args_tuple_add_2 _ _)
      (tuple_addW0 a b #[] its2.toArray n n2 dd dd2 sl sl2 rfl) ⟨ho, ho2, ⟨.ref b, H, I, rfl, q b H (Same.refl H) hb⟩⟩
  · refine op_catT pins s σ H _ _ v u Q I rx ry ⟨a, b, xs, ys, rfl, rfl, ha', hb', hx, hz, fun hy => ?_, fun _ p hp => ?_⟩
    · subst hy
      exact q a H (Same.refl H) (by rw [List.append_nil]; exact ha)
    · exact q p _ (same_upd hp) upd_same
end
def spU (f : List Int → List Int) : Sp := fun vs H Q _ => ∃ (a : Addr) (ns : List Int), vs = [.ref a] ∧ H a = some (.tup (ns.map V.int)) ∧ ns.length ≤ 1000 ∧ ∀ p H', Same H H' → H' p = some (.tup ((f ns).map V.int)) → Q (.ref p) H'
def spUI (f : List Int → Int → List Int) : Sp := fun vs H Q _ => ∃ (a : Addr) (ns : List Int) (k : Int), vs = [.ref a, .int k] ∧ H a = some (.tup (ns.map V.int)) ∧ ns.length ≤ 1000 ∧ ∀ p H', Same H H' → H' p = some (.tup ((f ns k).map V.int)) → Q (.ref p) H'
def spB (f : List Int → List Int → List Int) : Sp := fun vs H Q _ => ∃ (a b : Addr) (ns ms : List Int), vs = [.ref a, .ref b] ∧ H a = some (.tup (ns.map V.int)) ∧ H b = some (.tup (ms.map V.int)) ∧ ns.length ≤ 500 ∧ ms.length ≤ 500 ∧
  ∀ p H', Same H H' → H' p = some (.tup ((f ns ms).map V.int)) → Q (.ref p) H'
theorem small1 {n : Nat} (h : n ≤ 1000) : n < sizeLine := Nat.lt_of_le_of_lt h (by decide)
theorem mapI_len (ns : List Int) : (ns.map V.int).length = ns.length := List.length_map ..
theorem map_of_ints {f : V → V} {g : Int → Int} (h : ∀ n, f (.int n) = .int (g n)) (ns : List Int) : (ns.map V.int).map f = (ns.map g).map V.int := by
  rw [List.map_map, List.map_map]
  apply List.map_congr_left
  intro n _
  exact h n
theorem filter_true {α : Type} (l : List α) : l.filter (fun _ => true) = l := by simp
end L2


namespace L2
open PySem PySem.Spec PyProof.Rows
def Hand (H : Hp) (p q : Addr) : Prop := ∃ (ns : List Int) (seed : Int), H p = some (.lst [.ref q, .int seed]) ∧ H q = some (.lst (ns.map V.int)) ∧ (∀ n ∈ ns, 0 ≤ n) ∧ ns.length ≤ 63
def Keep (p q : Addr) (H H' : Hp) : Prop := ∀ b o, H b = some o → b ≠ p → b ≠ q → H' b = some o
theorem Keep.refl (p q : Addr) (H : Hp) : Keep p q H H := fun _ _ h _ _ => h
theorem Keep.trans {p q : Addr} {H H1 H2 : Hp} (a : Keep p q H H1) (b : Keep p q H1 H2) : Keep p q H H2 := fun c o h h1 h2 => b c o (a c o h h1 h2) h1 h2
theorem Same.keep {p q : Addr} {H H' : Hp} (s : Same H H') : Keep p q H H' := fun b o h _ _ => s b o h
theorem Hand.same {p q : Addr} {H H' : Hp} (h : Hand H p q) (s : Same H H') : Hand H' p q := by
  obtain ⟨ns, seed, h1, h2, h3, h4⟩ := h
  exact ⟨ns, seed, s _ _ h1, s _ _ h2, h3, h4⟩
theorem Hand.ne {p q : Addr} {H : Hp} (h : Hand H p q) : p ≠ q := by
  obtain ⟨ns, seed, h1, h2, _⟩ := h
  refine ne_of h1 h2 fun z => ?_
  injection z with z
  cases ns with
  | nil => cases z
  | cons a r => injection z with z _; cases z
theorem Hand.tup_ne {p q : Addr} {H : Hp} (h : Hand H p q) {a : Addr} {xs : List V} (ha : H a = some (.tup xs)) : a ≠ p ∧ a ≠ q := by
  obtain ⟨ns, seed, h1, h2, _⟩ := h
  exact ⟨ne_of ha h1 (by intro z; cases z), ne_of ha h2 (by intro z; cases z)⟩
theorem Keep.tup {p q : Addr} {H H' : Hp} (k : Keep p q H H') (h : Hand H p q) {a : Addr} {xs : List V} (ha : H a = some (.tup xs)) : H' a = some (.tup xs) := k a _ ha (h.tup_ne ha).1 (h.tup_ne ha).2
theorem Keep.free {p q : Addr} {H H' : Hp} (k : Keep p q H H') (h : Hand H p q) {l : Addr} (hl : H' l = none) (h' : Hand H' p q) : H l = none := by
  cases e : H l with
  | none => rfl
  | some o =>
    obtain ⟨_, _, h1, h2, _⟩ := h'
    have := k l o e (fun z => by subst z; rw [h1] at hl; cases hl) (fun z => by subst z; rw [h2] at hl; cases hl)
    rw [hl] at this; cases this

def spHand (K : PySem.W.Frag) : Sp := fun vs H Q _ => ∃ (a : Addr) (ns : List Int), vs = [.ref a] ∧ SqL K H a (ns.map V.int) ∧ ns.length ≤ 63 ∧ ∀ p q H', Same H H' → Hand H' p q → H p = none → H q = none → Q (.ref p) H'
def spPick : Sp := fun vs H Q _ => ∃ (p q : Addr) (m : Int), vs = [.ref p, .int m] ∧ 0 < m ∧ m < 1073741824 ∧ Hand H p q ∧ ∀ d H', 0 ≤ d → d < m → Hand H' p q → Keep p q H H' → Q (.int d) H'
def spSize : Sp := fun vs H Q _ => ∃ (p q : Addr) (m : Int), vs = [.ref p, .int m] ∧ 9 ≤ m ∧ m < 1000 ∧ Hand H p q ∧ ∀ d H', 0 ≤ d → d ≤ m → Hand H' p q → Keep p q H H' → Q (.int d) H'
def num0 (n : Nat) : List Int := (List.range n).map fun (i : Nat) => (i : Int)
def spAny : Sp := fun vs H Q _ => ∃ (p q : Addr) (m : Nat), vs = [.ref p, .int m] ∧ m ≤ 500 ∧ Hand H p q ∧ ∀ (l : Addr) (ys : List Int) (H' : Hp), ys.Perm (num0 m) → H l = none → H' l = some (.lst (ys.map V.int)) → Hand H' p q → Keep p q H H' → Q (.ref l) H'
def spOrder : Sp := fun vs H Q _ => ∃ (p q : Addr) (m : Nat), vs = [.ref p, .int m] ∧ m ≤ 500 ∧ Hand H p q ∧ ∀ (l : Addr) (ys : List Int) (H' : Hp), ys.Perm (num0 m) → H' l = some (.tup (ys.map V.int)) → Hand H' p q → Keep p q H H' → Q (.ref l) H'
theorem upd_hand {p q l : Addr} {H : Hp} {o : HO} (h : Hand H p q) (hl : H l = none) : Hand (upd H l o) p q := h.same (same_upd hl)
theorem lset_hand {p q l : Addr} {H : Hp} {o u : HO} (h : Hand H p q) (hl : H l = some u) (hp : l ≠ p) (hq : l ≠ q) : Hand (upd H l o) p q := by
  obtain ⟨ns, seed, h1, h2, h3, h4⟩ := h
  exact ⟨ns, seed, by rw [upd_ne (Ne.symm hp)]; exact h1, by rw [upd_ne (Ne.symm hq)]; exact h2, h3, h4⟩
end L2


namespace L2
open PySem PySem.Spec PyProof.Rows
theorem PS.mono {X : Cx} {st : Stmt} {t t' : TS} (h : PS X st t) (m : ∀ D σ H, t' D σ H → t D σ H) : PS X st t' := fun pins s σ H D I q => h pins s σ H D I (m D σ H q)
theorem rangeV_num0 (n : Nat) : rangeV 0 n = (num0 n).map V.int := by
  unfold rangeV num0
  rw [List.map_map]
  apply List.map_congr_left
  intro i _
  show V.int (0 + (i : Int)) = V.int (i : Int)
  rw [Int.zero_add]
theorem num0_mem {n : Nat} {x : Int} (h : x ∈ num0 n) : 0 ≤ x ∧ x < n := by
  unfold num0 at h
  obtain ⟨i, hi, rfl⟩ := List.mem_map.mp h
  have := List.mem_range.mp hi
  omega
theorem num0_split (c m : Nat) (h : c ≤ m) : num0 m = num0 c ++ (num0 (m - c)).map fun x => (c : Int) + x := by
  unfold num0
  apply List.ext_getElem?
  intro i
  by_cases hi : i < c
  · rw [List.getElem?_append_left (by simpa using hi)]
    simp [hi, (by omega : i < m)]
  · rw [List.getElem?_append_right (by simpa using hi)]
    simp only [List.length_map, List.length_range, List.map_map, List.getElem?_map]
    by_cases hm : i < m
    · rw [List.getElem?_range hm, List.getElem?_range (by omega : i - c < m - c)]
      simp
      omega
    · rw [List.getElem?_eq_none (by simpa using hm), List.getElem?_eq_none (by simp; omega)]
      rfl
theorem set_swap_perm : ∀ (ys : List Int) (i j : Nat) (a b : Int), ys[i]? = some a → ys[j]? = some b → ((ys.set i b).set j a).Perm ys := by
  intro ys i j a b hi hj
  obtain ⟨h1, e1⟩ := List.getElem?_eq_some_iff.mp hi
  obtain ⟨h2, e2⟩ := List.getElem?_eq_some_iff.mp hj
  subst e1 e2
  exact List.set_set_perm h1 h2
theorem round_perm {row ys : List Int} {m : Nat} (hr : row.Perm (num0 m)) (hl : ys.length = m) (h : ∀ (k : Nat) (a : Int), row[k]? = some a → ∀ b, row[(k + 1) % m]? = some b → ys[a.toNat]? = some b) : ys.Perm (num0 m) := by
  have hrl : row.length = m := by rw [hr.length_eq]; simp [num0]
  have e1 : ys = (num0 m).map fun a => ys.getD a.toNat 0 := by
    apply List.ext_getElem?
    intro i
    unfold num0
    rw [List.map_map, List.getElem?_map]
    by_cases hi : i < m
    · rw [List.getElem?_range hi, List.getElem?_eq_getElem (by omega)]
      simp [hl, hi]
    · rw [List.getElem?_eq_none (by omega), List.getElem?_eq_none (by simpa using hi)]
      rfl
  have e2 : (row.map fun a => ys.getD a.toNat 0) = row.drop 1 ++ row.take 1 := by
    apply List.ext_getElem?
    intro i
    rw [List.getElem?_map]
    by_cases hi : i < m
    · rw [List.getElem?_eq_getElem (by omega : i < row.length)]
      have hn : (i + 1) % m < row.length := by rw [hrl]; exact Nat.mod_lt _ (by omega)
      have := h i row[i] (List.getElem?_eq_getElem (by omega)) _ (List.getElem?_eq_getElem hn)
      show some (ys.getD _ 0) = _
      rw [List.getD_eq_getElem?_getD, this]
      by_cases hlast : i + 1 = m
      · have e : (i + 1) % m = 0 := by rw [hlast, Nat.mod_self]
        rw [List.getElem?_append_right (by simp; omega)]
        simp only [e]
        rw [List.getElem?_take]
        simp [hrl, (by omega : i - (m - 1) = 0)]
      · have e : (i + 1) % m = i + 1 := Nat.mod_eq_of_lt (by omega)
        rw [List.getElem?_append_left (by simp; omega), List.getElem?_drop]
        simp only [e]
        rw [Nat.add_comm 1 i, List.getElem?_eq_getElem (by omega : i + 1 < row.length)]
        rfl
    · rw [List.getElem?_eq_none (by omega), List.getElem?_eq_none (by simp; omega)]
      rfl
  have e3 : (row.map fun a => ys.getD a.toNat 0).Perm row := by
    rw [e2]
    refine List.perm_append_comm.trans ?_
    rw [List.take_append_drop]
  rw [e1]
  exact ((hr.map _).symm.trans e3).trans hr
end L2


namespace L2
open PySem PySem.Spec PyProof.Rows
theorem pg_pair {X : Cx} {i j : Nat} {x y : Str} {px py pt : Pos} {kt : Nat} (hc : X.calm = true) (hN : X.N.Nodup) (hi : X.N[i]? = some x) (hj : X.N[j]? = some y) (hx : Loc X.env.scope x) (hy : Loc X.env.scope y) (fx : X.fn x = true ∨ X.env.scope.names.lookup x = some .local) (fy : X.fn y = true ∨ X.env.scope.names.lookup y = some .local) :
    PG X (.Tuple [.Name x px, .Name y py] kt pt) (gTup X.K 2 (gCons (gName i) (gCons (gName j) gNil))) := pg_tup hc (pgs_cons (pg_name hN hi hx fx) (pgs_cons (pg_name hN hj hy fy) pgs_nil))
theorem pg_pairK {X : Cx} (K : PySem.W.Frag) {i j : Nat} {x y : Str} {px py pt : Pos} {kt : Nat} (hK : X.K = K) (hc : X.calm = true) (hN : X.N.Nodup) (hi : X.N[i]? = some x) (hj : X.N[j]? = some y) (hx : Loc X.env.scope x) (hy : Loc X.env.scope y) (fx : X.fn x = true ∨ X.env.scope.names.lookup x = some .local) (fy : X.fn y = true ∨ X.env.scope.names.lookup y = some .local) :
    PG X (.Tuple [.Name x px, .Name y py] kt pt) (gTup K 2 (gCons (gName i) (gCons (gName j) gNil))) := hK ▸ pg_tup hc (pgs_cons (pg_name hN hi hx fx) (pgs_cons (pg_name hN hj hy fy) pgs_nil))
theorem ix_tupK {X : Cx} (K : PySem.W.Frag) (hK : X.K = K) : IxR X (rIxT K) := hK ▸ ix_tup
def Alike (H : Hp) : Nat → V → V → Prop
  | 0, x, y => ∃ a : Int, x = .int a ∧ y = .int a
  | n + 1, x, y => (∃ a : Int, x = .int a ∧ y = .int a) ∨ ∃ a b xs ys, x = .ref a ∧ y = .ref b ∧ H a = some (.tup xs) ∧ H b = some (.tup ys) ∧ xs.length ≤ 1000 ∧ Paired (Alike H n) xs ys
def spSame (n : Nat) : Sp := fun vs H Q _ => ∃ x y, vs = [x, y] ∧ Alike H n x y ∧ ∀ H', Same H H' → Q (.bl true) H'

end L2


namespace L2
open PySem PySem.Spec PyProof.Rows
theorem tab_map (ys : List Int) (h : Int → Int) : (num0 ys.length).map (fun k => h (ys.getD k.toNat 0)) = ys.map h := by
  apply List.ext_getElem?
  intro i
  unfold num0
  rw [List.map_map, List.getElem?_map, List.getElem?_map]
  by_cases hi : i < ys.length
  · rw [List.getElem?_range hi, List.getElem?_eq_getElem hi]
    simp [hi]
  · rw [List.getElem?_eq_none (by simpa using hi), List.getElem?_eq_none (by omega)]
    rfl
theorem at_getD {ys : List Int} {i : Int} (h0 : 0 ≤ i) (h1 : i < ys.length) : atI (ys.map V.int) i = some (.int (ys.getD i.toNat 0)) := by
  have hlt : i.toNat < ys.length := by omega
  have e : ((i.toNat : Nat) : Int) = i := by omega
  have := atI_nat (xs := ys.map V.int) (j := i.toNat) (v := .int (ys.getD i.toNat 0)) (by rw [List.getElem?_map, List.getD_eq_getElem?_getD, List.getElem?_eq_getElem hlt]; rfl)
  rwa [e] at this
end L2


namespace L2
open PySem PySem.Spec PyProof.Rows
structure Def (K : PySem.W.Frag) (x : Str) (st : Stmt) : Prop where
  ex : ∃ (f : Addr) (oc : Value) (od an : Option Addr) (kV doc pm cdv ct : Value) (osl : Array (Option Value)), PySem.W.nsIn K mainGlobals x = some (some (.ref f)) ∧
    K.lookup f = some ⟨oc, od, .func (PySem.W.fnOf x x (defArgs st) (defBody st) (defScope st) .none kV doc pm an cdv ct), osl⟩ ∧ PySem.W.codeIn K cdv x = true ∧ PySem.W.keepIn K (.ref f) = true
section
variable {K : PySem.W.Frag} {h : Heap} {mg : Str → Option Value} {x : Str} {st : Stmt}
theorem Def.of {f : Addr} {oc : Value} {od an : Option Addr} {kV doc pm cdv ct : Value} {osl : Array (Option Value)} (a : PySem.W.nsIn K mainGlobals x = some (some (.ref f)))
    (l : K.lookup f = some ⟨oc, od, .func (PySem.W.fnOf x x (defArgs st) (defBody st) (defScope st) .none kV doc pm an cdv ct), osl⟩) (c : PySem.W.codeIn K cdv x = true) (k : PySem.W.keepIn K (.ref f) = true) : Def K x st :=
  ⟨f, oc, od, an, kV, doc, pm, cdv, ct, osl, a, l, c, k⟩
theorem Def.fn (D : Def K x st) (X : K.In h) (G : h.Ns mainGlobals mg) : ∃ f fd, Fun K x x st f fd ∧ mg x = some (.ref f) := by
  obtain ⟨f, oc, od, an, kV, doc, pm, cdv, ct, osl, a, l, c, k⟩ := D.ex
  exact ⟨f, _, fun_mk (st := st) l c k, PySem.W.mg_of X G a⟩
end
structure TopK (K : PySem.W.Frag) : Prop where
  k_len : PySem.W.nsIn K mainGlobals "len" = some none
  k_tuple : PySem.W.nsIn K mainGlobals "tuple" = some none
  k_list : PySem.W.nsIn K mainGlobals "list" = some none
  k_range : PySem.W.nsIn K mainGlobals "range" = some none
  k_int : PySem.W.nsIn K mainGlobals "int" = some none
  k_bool : PySem.W.nsIn K mainGlobals "bool" = some none
  k_isinstance : PySem.W.nsIn K mainGlobals "isinstance" = some none
  k_all : PySem.W.nsIn K mainGlobals "all" = some none
  k_zip : PySem.W.nsIn K mainGlobals "zip" = some none
  k_enumerate : PySem.W.nsIn K mainGlobals "enumerate" = some none
  k_min : PySem.W.nsIn K mainGlobals "min" = some none
  k_sum : PySem.W.nsIn K mainGlobals "sum" = some none
  k_max : PySem.W.nsIn K mainGlobals "max" = some none
  k_abs : PySem.W.nsIn K mainGlobals "abs" = some none
  k_sorted : PySem.W.nsIn K mainGlobals "sorted" = some none
theorem TopK.top {K : PySem.W.Frag} {h : Heap} {mg : Str → Option Value} (T : TopK K) (X : K.In h) (G : h.Ns mainGlobals mg) : Top mg :=
  ⟨PySem.W.mg_none_of X G T.k_len, PySem.W.mg_none_of X G T.k_tuple, PySem.W.mg_none_of X G T.k_list, PySem.W.mg_none_of X G T.k_range, PySem.W.mg_none_of X G T.k_int, PySem.W.mg_none_of X G T.k_bool, PySem.W.mg_none_of X G T.k_isinstance,
   PySem.W.mg_none_of X G T.k_all, PySem.W.mg_none_of X G T.k_zip, PySem.W.mg_none_of X G T.k_enumerate, PySem.W.mg_none_of X G T.k_min, PySem.W.mg_none_of X G T.k_sum, PySem.W.mg_none_of X G T.k_max, PySem.W.mg_none_of X G T.k_abs, PySem.W.mg_none_of X G T.k_sorted⟩
end L2


namespace L2
open PySem PySem.Spec PyProof.Rows
open Sem (wp)
open AutoSeq1 (wpAny_loadPart')
section
variable {prog : Program} {w : World} {A : Around} {E : Value → Shared → Prop} {s : Shared}
end
section
variable {X : Cx}
def tBMT (r : V → List V → Hp → VK → Prop) (to : TE) (t : TA) : TE := fun σ H Q => to σ H fun x H1 => (∃ a xs, x = .ref a ∧ H1 a = some (.tup xs)) ∧ t σ H1 fun xs H2 => r x xs H2 Q
def rTIndex : V → List V → Hp → VK → Prop := fun x vs H Q => ∃ (a : Addr) (ns : List Int) (n : Int), x = .ref a ∧ vs = [.int n] ∧ H a = some (.tup (ns.map V.int)) ∧ n ∈ ns ∧ Q (.int (ns.idxOf n)) H
end
end L2


namespace L2
open PySem PySem.Spec PyProof.Rows
open Sem (wp)
open AutoSeq1 (wpAny_loadPart')
section
variable {prog : Program} {w : World} {A : Around} {E : Value → Shared → Prop} {s : Shared}
end
section
variable {X : Cx} {pos : Pos}
def gLst (K : PySem.W.Frag) (n : Nat) (t : TGs) : TG := fun v σ H Q => ∃ a xs, v = .ref a ∧ SqL K H a xs ∧ xs.length = n ∧ t xs σ H Q
end
section
variable {prog : Program} {w : World} {A : Around} {E : Value → Shared → Prop} {s : Shared}
end
section
variable {X : Cx}
def rTupRng : List V → Hp → VK → Prop := fun xs H Q => ∃ (a : Addr) (j : Int), xs = [.ref a] ∧ H a = some (.rng 0 j) ∧ 0 ≤ j ∧ j ≤ 1000 ∧ ∀ p, H p = none → Q (.ref p) (upd H p (.tup (rangeV 0 j.toNat)))
end
end L2


namespace L2
open PySem PySem.Spec PyProof.Rows
def atO (ns : List Int) (x : Int) : Int := ns.getD x.toNat 0
def invO (ns : List Int) : List Int := (num0 ns.length).map fun x => ((ns.idxOf x : Nat) : Int)
def compO (ns ms : List Int) : List Int := ms.map (atO ns)
def Ord (m : Nat) (ns : List Int) : Prop := ns.Perm (num0 m)
theorem num0_len' (n : Nat) : (num0 n).length = n := by simp [num0]
theorem num0_nodup' (n : Nat) : (num0 n).Nodup := by
  unfold num0
  refine List.Pairwise.map _ (fun a b (h : a ≠ b) => ?_) (List.nodup_range (n := n))
  show (a : Int) ≠ (b : Int)
  omega
theorem mem_num0 {n : Nat} {x : Int} : x ∈ num0 n ↔ 0 ≤ x ∧ x < n := by
  refine ⟨num0_mem, fun ⟨h0, h1⟩ => ?_⟩
  unfold num0
  exact List.mem_map.mpr ⟨x.toNat, List.mem_range.mpr (by omega), by omega⟩
theorem num0_get {n i : Nat} (h : i < n) : (num0 n)[i]? = some (i : Int) := by simp [num0, h]
section
variable {m : Nat} {ns ms ks : List Int} {x : Int}
theorem Ord.len (h : Ord m ns) : ns.length = m := by rw [List.Perm.length_eq h, num0_len']
theorem Ord.nodup (h : Ord m ns) : ns.Nodup := h.symm.nodup (num0_nodup' m)
theorem Ord.mem (h : Ord m ns) : x ∈ ns ↔ 0 ≤ x ∧ x < m := by rw [List.Perm.mem_iff h, mem_num0]
theorem Ord.rng (h : Ord m ns) : ∀ y ∈ ns, 0 ≤ y ∧ y < m := fun _ hy => h.mem.mp hy
theorem atO_get {i : Nat} (h : i < ns.length) : atO ns (i : Int) = ns[i] := by
  unfold atO
  rw [Int.toNat_natCast, List.getD_eq_getElem?_getD, List.getElem?_eq_getElem h]
  rfl
theorem atO_mem (h0 : 0 ≤ x) (h1 : x < ns.length) : atO ns x ∈ ns := by
  unfold atO
  rw [List.getD_eq_getElem?_getD, List.getElem?_eq_getElem (by omega)]
  exact List.getElem_mem _
theorem tab_self (ys : List Int) : (num0 ys.length).map (atO ys) = ys := by
  have e := tab_map ys fun x => x
  rw [List.map_id'] at e
  exact e
theorem comp_id (h : ns.length = m) : compO ns (num0 m) = ns := by
  subst h
  exact tab_self ns
theorem atO_num0 (h0 : 0 ≤ x) (h1 : x < m) : atO (num0 m) x = x := by
  unfold atO
  rw [List.getD_eq_getElem?_getD, num0_get (by omega)]
  show ((x.toNat : Nat) : Int) = x
  omega
theorem id_comp (h : ∀ y ∈ ns, 0 ≤ y ∧ y < m) : compO (num0 m) ns = ns := by
  unfold compO
  conv => rhs; rw [← List.map_id ns]
  exact List.map_congr_left fun y hy => atO_num0 (h y hy).1 (h y hy).2
theorem atO_comp (h0 : 0 ≤ x) (h1 : x < ms.length) : atO (compO ns ms) x = atO ns (atO ms x) := by
  show (compO ns ms).getD x.toNat 0 = atO ns (ms.getD x.toNat 0)
  unfold compO
  have hlt : x.toNat < ms.length := by omega
  rw [List.getD_eq_getElem?_getD, List.getElem?_map, List.getD_eq_getElem?_getD, List.getElem?_eq_getElem hlt]
  rfl
theorem comp_assoc (h : ∀ y ∈ ks, 0 ≤ y ∧ y < ms.length) : compO (compO ns ms) ks = compO ns (compO ms ks) := by
  show ks.map (atO (compO ns ms)) = (ks.map (atO ms)).map (atO ns)
  rw [List.map_map]
  exact List.map_congr_left fun y hy => atO_comp (h y hy).1 (h y hy).2
theorem Ord.comp (h : Ord m ns) (h' : Ord m ms) : Ord m (compO ns ms) := by
  have e : (ms.map (atO ns)).Perm ((num0 m).map (atO ns)) := List.Perm.map _ h'
  have e2 : (num0 m).map (atO ns) = ns := by rw [← h.len]; exact tab_self ns
  rw [e2] at e
  exact e.trans h
theorem inv_len : (invO ns).length = ns.length := by unfold invO; rw [List.length_map, num0_len']
theorem atO_inv (h : Ord m ns) (h0 : 0 ≤ x) (h1 : x < m) : atO (invO ns) x = (ns.idxOf x : Nat) := by
  unfold atO invO
  rw [h.len, List.getD_eq_getElem?_getD, List.getElem?_map, num0_get (by omega : x.toNat < m)]
  show ((ns.idxOf ((x.toNat : Nat) : Int) : Nat) : Int) = _
  rw [show ((x.toNat : Nat) : Int) = x by omega]
theorem inv_comp' (h : Ord m ns) : compO (invO ns) ns = num0 m := by
  apply List.ext_getElem?
  intro i
  unfold compO
  rw [List.getElem?_map]
  by_cases hi : i < m
  · have hi' : i < ns.length := by rw [h.len]; exact hi
    rw [num0_get hi, List.getElem?_eq_getElem hi']
    show some (atO (invO ns) ns[i]) = _
    have := h.rng _ (List.getElem_mem hi')
    rw [atO_inv h this.1 this.2, List.Nodup.idxOf_getElem h.nodup i hi']
  · rw [List.getElem?_eq_none (by rw [h.len]; omega), List.getElem?_eq_none (by rw [num0_len']; omega)]
    rfl
theorem comp_inv (h : Ord m ns) : compO ns (invO ns) = num0 m := by
  unfold compO invO
  rw [List.map_map, h.len]
  conv => rhs; rw [← List.map_id (num0 m)]
  refine List.map_congr_left fun x hx => ?_
  have hmem : x ∈ ns := h.mem.mpr (mem_num0.mp hx)
  have hlt := List.idxOf_lt_length_of_mem hmem
  show atO ns ((ns.idxOf x : Nat) : Int) = x
  rw [atO_get hlt, List.getElem_idxOf hlt]
theorem Ord.inv (h : Ord m ns) : Ord m (invO ns) := by
  have e : (ns.map (atO (invO ns))).Perm ((num0 m).map (atO (invO ns))) := List.Perm.map _ h
  have e2 : (num0 m).map (atO (invO ns)) = invO ns := by rw [← h.len, ← inv_len]; exact tab_self _
  have e3 : ns.map (atO (invO ns)) = num0 m := inv_comp' h
  rw [e2, e3] at e
  exact e.symm
theorem inv_unique (hx : Ord m ns) (hy : Ord m ms) (e : compO ns ms = num0 m) : ns = invO ms := by
  have a1 : compO (compO ns ms) (invO ms) = compO ns (compO ms (invO ms)) := comp_assoc (by rw [hy.len]; exact hy.inv.rng)
  rw [e, comp_inv hy, id_comp hy.inv.rng, comp_id hx.len] at a1
  exact a1.symm
theorem inv_inv (h : Ord m ns) : invO (invO ns) = ns := (inv_unique h h.inv (comp_inv h)).symm
end
theorem for_enum {K : PySem.W.Frag} {a : Addr} {xs : List V} {g : TG} {tb : TS} {D : Ends} {σ : L2.St} {H : Hp} (Pv : Nat → L2.St → Hp → Prop) (h0 : Pv 0 σ H) (hl : ∀ i σ H, i ≤ xs.length → Pv i σ H → SqT K H a xs)
    (hs : ∀ i x t σ H, xs[i]? = some x → Pv i σ H → H t = none → g (.ref t) σ (upd H t (.tup [.int i, x])) fun σ2 H2 => tb { D with nx := Pv (i + 1), ct := Pv (i + 1), bk := D.nx } σ2 H2) (hd : ∀ σ H, Pv xs.length σ H → D.nx σ H) :
    ∃ W : Nat → Nat → L2.St → Hp → Prop, (∃ m, W 0 m σ H) ∧ ∀ i m σ H, W i m σ H →
      ((Ite K a).stop i H ∧ D.nx σ H) ∨ ((Ite K a).go i H ∧ ∃ N : L2.St → Hp → Prop, (∀ σ' H', N σ' H' → ∃ m', m' < m ∧ W (i + 1) m' σ' H') ∧ ∀ x H', (Ite K a).yld i H x H' → g x σ H' fun σ2 H2 => tb { D with nx := N, ct := N, bk := D.nx } σ2 H2) := by
  refine ⟨fun i m σ H => m = xs.length - i ∧ i ≤ xs.length ∧ Pv i σ H, ⟨xs.length, by simp, Nat.zero_le _, h0⟩, ?_⟩
  rintro i m σ H ⟨rfl, hi, p⟩
  have q := hl i σ H hi p
  by_cases hlt : i < xs.length
  · refine .inr ⟨⟨xs, xs[i], q, by simp [hlt]⟩, Pv (i + 1), fun σ' H' p' => ⟨xs.length - (i + 1), by omega, rfl, hlt, p'⟩, fun x H' y => ?_⟩
    obtain ⟨t, x', ht, rfl, rfl, y⟩ := y
    exact hs i x' t σ _ (y xs q) p ht
  · have e : i = xs.length := by omega
    subst e
    exact .inl ⟨⟨xs, q, rfl⟩, hd σ H p⟩
def spUndone : Sp := fun vs H Q _ => ∃ (a : Addr) (ns : List Int) (m : Nat), vs = [.ref a] ∧ H a = some (.tup (ns.map V.int)) ∧ Ord m ns ∧ m ≤ 500 ∧ ∀ p H', Same H H' → H' p = some (.tup ((invO ns).map V.int)) → Q (.ref p) H'
def spAfter : Sp := fun vs H Q _ => ∃ (a b : Addr) (ns ms : List Int), vs = [.ref a, .ref b] ∧ H a = some (.tup (ns.map V.int)) ∧ H b = some (.tup (ms.map V.int)) ∧ ns.length ≤ 500 ∧ ms.length ≤ 500 ∧ (∀ y ∈ ms, 0 ≤ y ∧ y < ns.length) ∧
  ∀ p H', Same H H' → H' p = some (.tup ((compO ns ms).map V.int)) → Q (.ref p) H'
theorem rep_one {α : Type} (x : α) (n : Nat) : (List.replicate n [x]).flatten = List.replicate n x := by
  induction n with
  | zero => rfl
  | succ n ih => rw [List.replicate_succ, List.flatten_cons, ih]; rfl
theorem ixN_of {ys : List Int} {i : Int} (h0 : 0 ≤ i) (h1 : i < ys.length) : ixN (ys.map V.int).length i = some i.toNat := by
  unfold ixN
  rw [mapI_len, if_pos h0, if_pos (by omega)]
theorem inv_of_places {m : Nat} {ns ys : List Int} (h : Ord m ns) (hl : ys.length = m) (hp : ∀ (j : Nat) x, ns[j]? = some x → ys[x.toNat]? = some (j : Int)) : ys = invO ns := by
  apply List.ext_getElem?
  intro i
  by_cases hi : i < m
  · have hm : ((i : Nat) : Int) ∈ ns := h.mem.mpr ⟨by omega, by omega⟩
    have hlt := List.idxOf_lt_length_of_mem hm
    have := hp (ns.idxOf (i : Int)) i (by rw [List.getElem?_eq_getElem hlt, List.getElem_idxOf hlt])
    rw [Int.toNat_natCast] at this
    rw [this]
    unfold invO
    rw [h.len, List.getElem?_map, num0_get hi]
    rfl
  · rw [List.getElem?_eq_none (by omega), List.getElem?_eq_none (by rw [inv_len, h.len]; omega)]
end L2


namespace L2
open PySem PySem.Spec PyProof.Rows
def itO (ns : List Int) (x : Int) : Nat → Int
  | 0 => x
  | k + 1 => atO ns (itO ns x k)
def orbO (ns : List Int) (x : Int) (k : Nat) : List Int := (List.range k).map (itO ns x)
structure IsRound (ns : List Int) (x : Int) (row : List Int) : Prop where
  ex : ∃ k, row = orbO ns x (k + 1) ∧ itO ns x (k + 1) = x
  nd : row.Nodup
theorem orb_len (ns : List Int) (x : Int) (k : Nat) : (orbO ns x k).length = k := by simp [orbO]
theorem orb_succ (ns : List Int) (x : Int) (k : Nat) : orbO ns x (k + 1) = orbO ns x k ++ [itO ns x k] := by simp [orbO, List.range_succ]
theorem mem_orb {ns : List Int} {x y : Int} {k : Nat} : y ∈ orbO ns x k ↔ ∃ j, j < k ∧ itO ns x j = y := by
  unfold orbO
  rw [List.mem_map]
  constructor
  · rintro ⟨j, hj, e⟩; exact ⟨j, List.mem_range.mp hj, e⟩
  · rintro ⟨j, hj, e⟩; exact ⟨j, List.mem_range.mpr hj, e⟩
theorem orb_get {ns : List Int} {x : Int} {k j : Nat} (h : j < k) : (orbO ns x k)[j]? = some (itO ns x j) := by simp [orbO, h]
theorem it_add (ns : List Int) (x : Int) (j : Nat) : ∀ k, itO ns x (j + k) = itO ns (itO ns x j) k
  | 0 => rfl
  | k + 1 => by show atO ns (itO ns x (j + k)) = atO ns _; rw [it_add ns x j k]
theorem len_le {α : Type} [DecidableEq α] : ∀ {l L : List α}, l.Nodup → (∀ y ∈ l, y ∈ L) → l.length ≤ L.length
  | [], _, _, _ => Nat.zero_le _
  | a :: t, L, h, s => by
    have ha := s a (by simp)
    have hn := List.nodup_cons.mp h
    have h1 : t.length ≤ (L.erase a).length := len_le hn.2 fun y hy => by
      have hne : y ≠ a := fun e => hn.1 (e ▸ hy)
      exact (List.mem_erase_of_ne hne).mpr (s y (by simp [hy]))
    have h2 := List.length_erase_of_mem ha
    have h3 : 0 < L.length := List.length_pos_of_mem ha
    simp only [List.length_cons]
    omega
section
variable {m : Nat} {ns : List Int} {x y : Int}
theorem it_rng (h : Ord m ns) (h0 : 0 ≤ x ∧ x < m) : ∀ k, 0 ≤ itO ns x k ∧ itO ns x k < m
  | 0 => h0
  | k + 1 => h.rng _ (atO_mem (it_rng h h0 k).1 (by rw [h.len]; exact (it_rng h h0 k).2))
theorem atO_inj (h : Ord m ns) (hx : 0 ≤ x ∧ x < m) (hy : 0 ≤ y ∧ y < m) (e : atO ns x = atO ns y) : x = y := by
  have ln := h.len
  have q : ∀ {z : Int}, 0 ≤ z ∧ z < m → atO (invO ns) (atO ns z) = z := fun {z} hz => by
    have this : atO (compO (invO ns) ns) z = atO (num0 m) z := congrArg (fun l => atO l z) (inv_comp' h)
    rw [atO_comp hz.1 (by rw [ln]; exact hz.2), atO_num0 hz.1 hz.2] at this
    exact this
  rw [← q hx, ← q hy, e]
theorem orb_more (h : Ord m ns) (hx : 0 ≤ x ∧ x < m) {k : Nat} (nd : (orbO ns x (k + 1)).Nodup) (hne : itO ns x (k + 1) ≠ x) : (orbO ns x (k + 2)).Nodup := by
  rw [orb_succ]
  refine List.nodup_append.mpr ⟨nd, by simp, ?_⟩
  intro a ha b hb e
  rw [List.mem_singleton] at hb
  subst hb
  obtain ⟨j, hj, e1⟩ := mem_orb.mp ha
  cases j with
  | zero => exact hne (e.symm.trans e1.symm)
  | succ j =>
    have e2 : itO ns x j = itO ns x k := atO_inj h (it_rng h hx j) (it_rng h hx k) (e1.trans e)
    have g1 : (orbO ns x (k + 1))[j]? = some (itO ns x j) := orb_get (by omega)
    have g2 : (orbO ns x (k + 1))[k]? = some (itO ns x k) := orb_get (by omega)
    rw [e2] at g1
    obtain ⟨l1, g1⟩ := List.getElem?_eq_some_iff.mp g1
    obtain ⟨l2, g2⟩ := List.getElem?_eq_some_iff.mp g2
    have q1 := List.Nodup.idxOf_getElem nd j l1
    have q2 := List.Nodup.idxOf_getElem nd k l2
    rw [g1] at q1
    rw [g2] at q2
    omega
theorem orb_bound (h : Ord m ns) (hx : 0 ≤ x ∧ x < m) {k : Nat} (nd : (orbO ns x k).Nodup) : k ≤ m := by
  have := len_le (L := num0 m) nd fun y hy => by
    obtain ⟨j, _, rfl⟩ := mem_orb.mp hy
    exact mem_num0.mpr (it_rng h hx j)
  rwa [orb_len, num0_len'] at this
theorem round_at (h : Ord m ns) (hx : 0 ≤ x ∧ x < m) : ∀ (n k : Nat), m - k = n → (orbO ns x (k + 1)).Nodup → ∃ row, IsRound ns x row
  | n, k, e, nd => by
    by_cases hk : itO ns x (k + 1) = x
    · exact ⟨_, ⟨k, rfl, hk⟩, nd⟩
    · have nd2 := orb_more h hx nd hk
      have b := orb_bound h hx nd2
      cases n with
      | zero => omega
      | succ n => exact round_at h hx n (k + 1) (by omega) nd2
theorem round_ex (h : Ord m ns) (hx : 0 ≤ x ∧ x < m) : ∃ row, IsRound ns x row := round_at h hx m 0 rfl (by simp [orbO])
theorem round_one {r r' : List Int} (a : IsRound ns x r) (b : IsRound ns x r') : r = r' := by
  obtain ⟨⟨k, rfl, hk⟩, nd⟩ := a
  obtain ⟨⟨k', rfl, hk'⟩, nd'⟩ := b
  have key : ∀ {k k' : Nat}, itO ns x (k + 1) = x → (orbO ns x (k' + 1)).Nodup → ¬ k < k' := fun {k k'} hk nd hlt => by
    have g1 : (orbO ns x (k' + 1))[0]? = some (itO ns x 0) := orb_get (by omega)
    have g2 : (orbO ns x (k' + 1))[k + 1]? = some (itO ns x (k + 1)) := orb_get (by omega)
    rw [hk] at g2
    obtain ⟨l1, g1⟩ := List.getElem?_eq_some_iff.mp g1
    obtain ⟨l2, g2⟩ := List.getElem?_eq_some_iff.mp g2
    have q1 := List.Nodup.idxOf_getElem nd 0 l1
    have q2 := List.Nodup.idxOf_getElem nd (k + 1) l2
    rw [g1] at q1
    rw [g2] at q2
    have e : itO ns x 0 = x := rfl
    rw [e] at q1
    omega
  have := key hk nd'
  have := key hk' nd
  have e : k = k' := by omega
  rw [e]
open Classical in
noncomputable def rowO (ns : List Int) (x : Int) : List Int := if h : ∃ row, IsRound ns x row then choose h else []
theorem row_is (h : Ord m ns) (hx : 0 ≤ x ∧ x < m) : IsRound ns x (rowO ns x) := by
  unfold rowO
  rw [dif_pos (round_ex h hx)]
  exact Classical.choose_spec _
theorem row_eq (h : Ord m ns) (hx : 0 ≤ x ∧ x < m) {r : List Int} (a : IsRound ns x r) : r = rowO ns x := round_one a (row_is h hx)
noncomputable def stepO (ns : List Int) (acc : List (List Int)) (f : Int) : List (List Int) := if f ∈ acc.flatten then acc else acc ++ [rowO ns f]
noncomputable def walkO (ns fs : List Int) : List (List Int) := fs.foldl (stepO ns) []
noncomputable def roundsO (ns : List Int) : List (List Int) := walkO ns (num0 ns.length)
theorem walk_snoc (ns fs : List Int) (f : Int) : walkO ns (fs ++ [f]) = stepO ns (walkO ns fs) f := by simp [walkO, List.foldl_append]
theorem row_len (h : Ord m ns) (hx : 0 ≤ x ∧ x < m) : 1 ≤ (rowO ns x).length ∧ (rowO ns x).length ≤ m := by
  obtain ⟨⟨k, e, _⟩, nd⟩ := row_is h hx
  rw [e] at nd
  rw [e, orb_len]
  exact ⟨by omega, orb_bound h hx nd⟩
theorem row_mem (h : Ord m ns) (hx : 0 ≤ x ∧ x < m) : ∀ y ∈ rowO ns x, 0 ≤ y ∧ y < m := fun y hy => by
  obtain ⟨⟨k, e, _⟩, nd⟩ := row_is h hx
  rw [e] at hy
  obtain ⟨j, _, rfl⟩ := mem_orb.mp hy
  exact it_rng h hx j
structure MetO (ns : List Int) (m : Nat) (rows : List (List Int)) : Prop where
  nd : rows.flatten.Nodup
  rng : ∀ y ∈ rows.flatten, 0 ≤ y ∧ y < m
  clo : ∀ y ∈ rows.flatten, atO ns y ∈ rows.flatten
  row : ∀ r ∈ rows, ∃ f : Int, 0 ≤ f ∧ f < m ∧ r = rowO ns f
theorem MetO.it {rows : List (List Int)} (M : MetO ns m rows) (hy : y ∈ rows.flatten) : ∀ k, itO ns y k ∈ rows.flatten
  | 0 => hy
  | k + 1 => M.clo _ (M.it hy k)
theorem MetO.step (h : Ord m ns) {rows : List (List Int)} (M : MetO ns m rows) {f : Int} (hf : 0 ≤ f ∧ f < m) : MetO ns m (stepO ns rows f) := by
  unfold stepO
  split
  · exact M
  · rename_i hn
    obtain ⟨⟨k, e, hk⟩, nd⟩ := row_is h hf
    have e1 : (rows ++ [rowO ns f]).flatten = rows.flatten ++ rowO ns f := by simp
    refine ⟨?_, ?_, ?_, ?_⟩
    · rw [e1]
      refine List.nodup_append.mpr ⟨M.nd, nd, fun a ha b hb eab => hn ?_⟩
      subst eab
      rw [e] at hb
      obtain ⟨j, hj, rfl⟩ := mem_orb.mp hb
      have := M.it ha (k + 1 - j)
      rw [← it_add, show j + (k + 1 - j) = k + 1 by omega, hk] at this
      exact this
    · rw [e1]
      intro y hy
      rcases List.mem_append.mp hy with hy | hy
      · exact M.rng y hy
      · exact row_mem h hf y hy
    · rw [e1]
      intro y hy
      rcases List.mem_append.mp hy with hy | hy
      · exact List.mem_append_left _ (M.clo y hy)
      · refine List.mem_append_right _ ?_
        rw [e] at hy ⊢
        obtain ⟨j, hj, rfl⟩ := mem_orb.mp hy
        by_cases hlast : j = k
        · subst hlast
          exact mem_orb.mpr ⟨0, by omega, hk.symm⟩
        · exact mem_orb.mpr ⟨j + 1, by omega, rfl⟩
    · intro r hr
      rcases List.mem_append.mp hr with hr | hr
      · exact M.row r hr
      · exact ⟨f, hf.1, hf.2, List.mem_singleton.mp hr⟩
theorem met_nil : MetO ns m [] := ⟨by simp, by simp, by simp, by simp⟩
theorem met_walk (h : Ord m ns) : ∀ (fs : List Int), (∀ f ∈ fs, 0 ≤ f ∧ f < m) → ∀ {acc : List (List Int)}, MetO ns m acc → MetO ns m (fs.foldl (stepO ns) acc)
  | [], _, _, M => M
  | f :: fs, hf, _, M => met_walk h fs (fun g hg => hf g (by simp [hg])) (M.step h (hf f (by simp)))
theorem MetO.lens (h : Ord m ns) {rows : List (List Int)} (M : MetO ns m rows) : rows.flatten.length ≤ m ∧ rows.length ≤ m ∧ ∀ r ∈ rows, 1 ≤ r.length ∧ r.length ≤ m := by
  have h1 : rows.flatten.length ≤ m := by
    have := len_le (L := num0 m) M.nd fun y hy => mem_num0.mpr (M.rng y hy)
    rwa [num0_len'] at this
  have h3 : ∀ r ∈ rows, 1 ≤ r.length ∧ r.length ≤ m := fun r hr => by
    obtain ⟨f, f0, f1, rfl⟩ := M.row r hr
    exact row_len h ⟨f0, f1⟩
  have h2 : ∀ {rows : List (List Int)}, (∀ r ∈ rows, 1 ≤ r.length ∧ r.length ≤ m) → rows.length ≤ rows.flatten.length := fun {rows} => by
    induction rows with
    | nil => intro _; simp
    | cons r t ih =>
      intro h
      have := h r (by simp)
      have := ih fun r hr => h r (by simp [hr])
      simp only [List.length_cons, List.flatten_cons, List.length_append]
      omega
  exact ⟨h1, Nat.le_trans (h2 h3) h1, h3⟩
theorem walk_has (h : Ord m ns) : ∀ (fs : List Int), (∀ f ∈ fs, 0 ≤ f ∧ f < m) → ∀ (acc : List (List Int)) y, (y ∈ acc.flatten ∨ y ∈ fs) → y ∈ (fs.foldl (stepO ns) acc).flatten
  | [], _, acc, y, hy => by
    rcases hy with hy | hy
    · exact hy
    · cases hy
  | f :: fs, hf, acc, y, hy => by
    refine walk_has h fs (fun g hg => hf g (by simp [hg])) (stepO ns acc f) y ?_
    have grow : ∀ z, z ∈ acc.flatten → z ∈ (stepO ns acc f).flatten := fun z hz => by
      unfold stepO
      split
      · exact hz
      · simp only [List.flatten_append]; exact List.mem_append_left _ hz
    rcases hy with hy | hy
    · exact .inl (grow y hy)
    · rcases List.mem_cons.mp hy with rfl | hy
      · left
        unfold stepO
        split
        · assumption
        · obtain ⟨⟨k, e, _⟩, _⟩ := row_is h (hf y (by simp))
          simp only [List.flatten_append]
          refine List.mem_append_right _ ?_
          simp only [List.flatten_cons, List.flatten_nil, List.append_nil]
          rw [e]
          exact mem_orb.mpr ⟨0, by omega, rfl⟩
      · exact .inr hy
theorem perm_of_nd {l L : List Int} (hl : l.Nodup) (hL : L.Nodup) (e : ∀ y, y ∈ l ↔ y ∈ L) : l.Perm L := (List.perm_ext_iff_of_nodup hl hL).mpr e
theorem rounds_perm (h : Ord m ns) : (roundsO ns).flatten.Perm (num0 m) := by
  unfold roundsO walkO
  rw [h.len]
  have M := met_walk h (num0 m) (fun f hf => num0_mem hf) met_nil
  exact perm_of_nd M.nd (num0_nodup' m) fun y => ⟨fun hy => mem_num0.mpr (M.rng y hy), fun hy => walk_has h (num0 m) (fun f hf => num0_mem hf) [] y (.inr hy)⟩
def flipO (r : List Int) : List Int := r.take 1 ++ (r.drop 1).reverse
theorem flip_perm (r : List Int) : (flipO r).Perm r := by
  unfold flipO
  conv => rhs; rw [← List.take_append_drop 1 r]
  exact List.Perm.append_left _ (List.reverse_perm _)
theorem inv_at (h : Ord m ns) (hx : 0 ≤ x ∧ x < m) : atO (invO ns) (atO ns x) = x := by
  have this : atO (compO (invO ns) ns) x = atO (num0 m) x := congrArg (fun l => atO l x) (inv_comp' h)
  rw [atO_comp hx.1 (by rw [h.len]; exact hx.2), atO_num0 hx.1 hx.2] at this
  exact this
theorem inv_it (h : Ord m ns) (hx : 0 ≤ x ∧ x < m) {k : Nat} (hk : itO ns x k = x) : ∀ j, j ≤ k → itO (invO ns) x j = itO ns x (k - j)
  | 0, _ => hk.symm
  | j + 1, hj => by
    show atO (invO ns) (itO (invO ns) x j) = _
    rw [inv_it h hx hk j (by omega), show k - j = (k - (j + 1)) + 1 by omega]
    exact inv_at h (it_rng h hx _)
theorem inv_row (h : Ord m ns) (hx : 0 ≤ x ∧ x < m) : rowO (invO ns) x = flipO (rowO ns x) := by
  have R := row_is h hx
  obtain ⟨⟨k, e, hk⟩, nd⟩ := id R
  refine (row_eq h.inv hx ⟨⟨k, ?_, ?_⟩, ?_⟩).symm
  · rw [e]
    apply List.ext_getElem?
    intro j
    unfold flipO
    by_cases hj : j < k + 1
    · rw [orb_get hj, inv_it h hx hk j (by omega)]
      cases j with
      | zero =>
        rw [List.getElem?_append_left (by simp [orb_len]), List.getElem?_take]
        simp only [Nat.zero_lt_one, if_true]
        rw [orb_get (by omega), Nat.sub_zero, hk]
        rfl
      | succ j =>
        rw [List.getElem?_append_right (by simp [orb_len])]
        have l1 : ((orbO ns x (k + 1)).take 1).length = 1 := by simp [orb_len]
        have l2 : ((orbO ns x (k + 1)).drop 1).length = k := by simp [orb_len]
        rw [l1, List.getElem?_reverse (by omega), l2, List.getElem?_drop, orb_get (by omega)]
        congr 2
        omega
    · rw [List.getElem?_eq_none (by simp [orb_len]; omega), List.getElem?_eq_none (by simp [orb_len]; omega)]
  · rw [inv_it h hx hk (k + 1) (Nat.le_refl _), Nat.sub_self]
    rfl
  · exact (flip_perm _).symm.nodup nd
theorem flat_flip : ∀ (rows : List (List Int)), ((rows.map flipO).flatten).Perm rows.flatten
  | [] => List.Perm.refl _
  | r :: t => by
    simp only [List.map_cons, List.flatten_cons]
    exact (flip_perm r).append (flat_flip t)
theorem inv_walk (h : Ord m ns) : ∀ (fs : List Int), (∀ f ∈ fs, 0 ≤ f ∧ f < m) → ∀ (acc : List (List Int)), fs.foldl (stepO (invO ns)) (acc.map flipO) = (fs.foldl (stepO ns) acc).map flipO
  | [], _, _ => rfl
  | f :: fs, hf, acc => by
    have e : stepO (invO ns) (acc.map flipO) f = (stepO ns acc f).map flipO := by
      unfold stepO
      rw [inv_row h (hf f (by simp))]
      by_cases hm : f ∈ acc.flatten
      · rw [if_pos ((flat_flip acc).mem_iff.mpr hm), if_pos hm]
      · rw [if_neg fun z => hm ((flat_flip acc).mem_iff.mp z), if_neg hm, List.map_append]
        rfl
    show fs.foldl (stepO (invO ns)) (stepO (invO ns) (acc.map flipO) f) = _
    rw [e]
    exact inv_walk h fs (fun g hg => hf g (by simp [hg])) _
theorem rounds_inv (h : Ord m ns) : roundsO (invO ns) = (roundsO ns).map flipO := by
  unfold roundsO walkO
  rw [inv_len, h.len]
  exact inv_walk h (num0 m) (fun f hf => num0_mem hf) []
end
end L2


namespace L2
open PySem PySem.Spec PyProof.Rows
section
variable {X : Cx}
def rExtendT : V → List V → Hp → VK → Prop := fun x vs H Q => ∃ l b xs zs, x = .ref l ∧ vs = [.ref b] ∧ H l = some (.lst xs) ∧ H b = some (.tup zs) ∧ xs.length + zs.length ≤ sizeLine ∧ Q .non (upd H l (.lst (xs ++ zs)))
def rSorted : List V → Hp → VK → Prop := fun xs H Q => ∃ (l : Addr) (ns : List Int), xs = [.ref l] ∧ H l = some (.lst (ns.map V.int)) ∧ ns.length < 64 ∧
  ∀ p (ns' : List Int), ns'.Perm ns → ns'.Pairwise (· ≤ ·) → H p = none → Q (.ref p) (upd H p (.lst (ns'.map V.int)))
end
section
variable {prog : Program} {w : World} {A : Around} {E : Value → Shared → Prop} {s : Shared}
theorem getItem_tuple_whole {t sl : Addr} {items : Array Value} {vl vu : Value} {lo hi : Option Int} {Q : Value → Shared → Prop} (ht : IsTup s.heap t items) (hs : s.heap.IsSliceOf sl vl vu .none) (pl : IsPart vl lo) (pu : IsPart vu hi)
    (hw : HT.sIx items.size 0 lo = 0 ∧ HT.sIx items.size items.size hi = items.size) (h : Q (.ref t) s) : wpAny (model prog w) A (getItem (.ref t) (.ref sl)) Q E s := by
  obtain ⟨os, hos, hcs, hds⟩ := id hs
  have hTs : s.TypeIs (.ref sl) "slice" := ⟨os, hos, hcs⟩
  unfold getItem
  try with_reducible refine wpAny_holding ?_
  first | refine wpAny_bind (wpAny_pure ?_) | skip
  refine wpAny_bind (wpAny_sequenceKey ht.typeIs (by decide) ?_)
  refine wpAny_bind (wpAny_callSpecial?_slot (name := Str.ofString "__getitem__") ht.typeIs PyProof.Rows.slot_tuple_getitem
    (wpAny_call_entry PyProof.Rows.slot_tuple_getitem ht.typeIs entry_tuple_getitem ?_ (args_tuple_getitem _ _)))
  show wpAny _ _ (Builtin.Tuple.tupleItemsOf (.ref t) >>= _) _ _ s
  refine wpAny_bind (tupleItemsOf_ ht ?_)
  refine wpAny_bind (wpAny_typeOf hTs ?_)
  rw [if_pos (by decide)]
  refine wpAny_bind (HT.sliceApplied_gen hs pl pu ?_)
  show wpAny _ _ (if (((HT.sIx items.size 0 lo : Nat) : Int) == 0 && (1 : Int) == 1 && (HT.sIx items.size items.size hi - HT.sIx items.size 0 lo) == items.size) = true then _ else _) _ _ s
  rw [if_pos (by rw [hw.1, hw.2]; simp)]
  unfold Builtin.Tuple.tupleIsExact
  refine wpAny_bind (wpAny_bind (wpAny_typeOf ht.typeIs (wpAny_pure ?_)))
  rw [if_pos (by decide)]
  refine wpAny_bind (wpAny_rule ?_)
  exact wpAny_pure ⟨_, rfl, wpAny_pure h⟩
end
section
variable {X : Cx} {e : Expr} {te : TE} {p2 pos : Pos}
def rRv0 : V → Hp → VK → Prop := fun x H Q => ∃ a xs, x = .ref a ∧ H a = some (.tup xs) ∧ 1 ≤ xs.length ∧ ∀ p, H p = none → Q (.ref p) (upd H p (.tup (xs.drop 1).reverse))
def rTake1 : V → Option Int → Option Int → Hp → VK → Prop := fun x lo hi H Q => ∃ a xs, x = .ref a ∧ lo = none ∧ hi = some 1 ∧ H a = some (.tup xs) ∧ 1 ≤ xs.length ∧ ∀ p H', Same H H' → H' p = some (.tup (xs.take 1)) → Q (.ref p) H'
end
end L2


namespace L2
open PySem PySem.Spec PyProof.Rows
abbrev RowsAt (H : Hp) (zs : List Addr) (rows : List (List Int)) : Prop := Paired (fun (z : Addr) (r : List Int) => H z = some (.tup (r.map V.int))) zs rows
theorem RowsAt.sameT {H H' : Hp} {zs : List Addr} {rows : List (List Int)} (h : RowsAt H zs rows) (s : SameT H H') : RowsAt H' zs rows := Paired.mapP h fun _ _ q => s _ _ q
theorem RowsAt.same {H H' : Hp} {zs : List Addr} {rows : List (List Int)} (h : RowsAt H zs rows) (s : Same H H') : RowsAt H' zs rows := h.sameT s.t
structure Bits (bs : List Bool) (m : Nat) (S : List Int) : Prop where
  len : bs.length = m
  bit : ∀ i, i < m → bs[i]? = some (decide ((i : Int) ∈ S))
theorem bits0 (m : Nat) : Bits (List.replicate m false) m [] := ⟨by simp, fun i hi => by simp [hi]⟩
theorem Bits.set {bs : List Bool} {m : Nat} {S : List Int} {y : Int} (B : Bits bs m S) (h0 : 0 ≤ y) (h1 : y < m) : Bits (bs.set y.toNat true) m (S ++ [y]) := by
  refine ⟨by rw [List.length_set]; exact B.len, fun i hi => ?_⟩
  have hl := B.len
  by_cases e : i = y.toNat
  · subst e
    rw [List.getElem?_set_self (by omega)]
    have : ((y.toNat : Nat) : Int) = y := by omega
    rw [this]
    simp
  · rw [List.getElem?_set_ne (Ne.symm e), B.bit i hi]
    have hne : ((i : Nat) : Int) ≠ y := by omega
    simp [hne]
def spRoundFrom : Sp := fun vs H Q _ => ∃ (a : Addr) (ns : List Int) (m : Nat) (x : Int), vs = [.ref a, .int x] ∧ H a = some (.tup (ns.map V.int)) ∧ Ord m ns ∧ m ≤ 500 ∧ 0 ≤ x ∧ x < m ∧ ∀ p H', Same H H' → H' p = some (.tup ((rowO ns x).map V.int)) → Q (.ref p) H'
def spRoundsMet : Sp := fun vs H Q _ => ∃ (a l : Addr) (ns fs : List Int) (m : Nat), vs = [.ref a, .ref l] ∧ H a = some (.tup (ns.map V.int)) ∧ H l = some (.lst (fs.map V.int)) ∧ Ord m ns ∧ m ≤ 500 ∧ (∀ f ∈ fs, 0 ≤ f ∧ f < m) ∧
  ∀ p zs H', Same H H' → H' p = some (.lst (zs.map V.ref)) → RowsAt H' zs (walkO ns fs) → Q (.ref p) H'
def spRounds : Sp := fun vs H Q _ => ∃ (a : Addr) (ns : List Int) (m : Nat), vs = [.ref a] ∧ H a = some (.tup (ns.map V.int)) ∧ Ord m ns ∧ m ≤ 500 ∧ ∀ p zs H', Same H H' → H' p = some (.tup (zs.map V.ref)) → RowsAt H' zs (roundsO ns) → Q (.ref p) H'
theorem mapR_len (zs : List Addr) : (zs.map V.ref).length = zs.length := List.length_map ..
end L2


namespace L2
open PySem PySem.Spec PyProof.Rows
inductive Ents (P : Params) : List DictEntry → List (Str × Addr) → Prop
  | nil : Ents P [] []
  | cons {x : Str} {t : Tok} {f : Addr} {es : List DictEntry} {kvs : List (Str × Addr)} : Ents P es kvs → Ents P (⟨PyData.keyHash P x, .str x t, .ref f⟩ :: es) ((x, f) :: kvs)
structure GDict (K : PySem.W.Frag) (P : Params) (C : Addr) (kvs : List (Str × Addr)) : Prop where
  ex : ∃ es n, K.lookup C = some { cls := .type "dict", data := .dict es n } ∧ Ents P es.toList kvs
  nd : (kvs.map (·.1)).Nodup
theorem Ents.keys {prog : Program} {w : World} : ∀ {es : List DictEntry} {kvs : List (Str × Addr)}, Ents w.params es kvs → ∀ e ∈ es, ∃ k, (PySem.strKind prog w).is k e.key = true ∧ e.hash = (PySem.strKind prog w).hash k
  | _, _, .nil, _, h => by cases h
  | _, _, .cons (x := x) t, e, h => by
    rcases List.mem_cons.mp h with rfl | h
    · exact ⟨x, by simp [PySem.strKind, Value.isStrOf], rfl⟩
    · exact Ents.keys t e h
theorem Ents.pairs {prog : Program} {w : World} : ∀ {es : List DictEntry} {kvs : List (Str × Addr)}, Ents w.params es kvs → Pairs (PySem.strKind prog w) es (kvs.map fun kv => (kv.1, Value.ref kv.2))
  | _, _, .nil => .nil
  | _, _, .cons t => .cons (by simp [PySem.strKind, Value.isStrOf]) rfl (Ents.pairs t)
theorem value_lookup : ∀ (kvs : List (Str × Addr)) (x : Str), valueAt (kvs.map fun kv => (kv.1, Value.ref kv.2)) x = (kvs.lookup x).map Value.ref
  | [], _ => rfl
  | (y, f) :: t, x => by
    have ih := value_lookup t x
    unfold valueAt at ih ⊢
    rw [List.map_cons, List.find?_cons, List.lookup_cons]
    by_cases h : y = x
    · subst h
      simp
    · have h2 : (x == y) = false := beq_eq_false_iff_ne.mpr fun z => h z.symm
      simp only [decide_eq_false h, h2]
      exact ih
section
variable {X : Cx}
def rGd (K : PySem.W.Frag) (P : Params) : R2 := fun x y H Q => ∃ C kvs z f, x = .ref C ∧ y = .str z ∧ GDict K P C kvs ∧ kvs.lookup z = some f ∧ Q (.ref f) H
theorem ix_gd : IxR X (rGd X.K X.w.params) := by
  intro value slice pins s σ H x y v u Q I rx ry h hs
  obtain ⟨C, kvs, z, f, rfl, rfl, ⟨⟨es, n, hk, en⟩, nd⟩, hl, q⟩ := h
  cases rx
  obtain ⟨t, rfl⟩ := ry
  have hg := I.kIn C _ hk
  have hD : s.heap.DictOf (PySem.strKind X.prog X.w) C (kvs.map fun kv => (kv.1, Value.ref kv.2)) :=
    ⟨_, es, n, hg, ⟨rfl, rfl, rfl⟩, rfl, fun e he => en.keys e (by simpa using he), en.pairs, by rw [List.map_map]; exact nd⟩
  have fin : EP X pins σ Q (.ref f) { s with toks := s.toks + 1 } := ⟨.ref f, H, I.tok _, rfl, q⟩
  exact subscriptTail_builtinR (x := .ref f) hD.typeIs PySem.F.slot_dict_getitem.lookup
    (wpAny_getItem_of (k := z) (knd := PySem.strKind X.prog X.w) (Q := fun r s' => r = .ref f ∧ EP X pins σ Q r s') (by simp [PySem.strKind, Value.isStrOf]) hD.mapOf (by rw [value_lookup, hl]; rfl) ⟨rfl, fin⟩) hs
end
structure CalF (P : Program) (w : World) (K : PySem.W.Frag) (mg : Str → Option Value) (base : Heap) (k : Nat) (f : Addr) (ps : List Str) (sp : Sp) : Prop where
  ex : ∃ fd, FnOk P w K mg base CX0 k f fd ps sp ∧ PySem.W.keepIn K (.ref f) = true ∧ Binds K fd ps []
section
variable {X : Cx} {k : Nat} {x : Str} {p pos : Pos} {e : Expr} {es : List Expr} {t : TA} {tf : TE}
def tCallV (P : Program) (w : World) (K : PySem.W.Frag) (mg : Str → Option Value) (base : Heap) (k : Nat) (tf : TE) (t : TA) : TE := fun σ H Q => tf σ H fun v H1 => ∃ f ps sp, v = .ref f ∧ CalF P w K mg base k f ps sp ∧ t σ H1 fun vs H2 => sp vs H2 Q E0
theorem pe_callV (hf : PE X (.Name x p) tf) (hr : Room k X.A) (ha : PA X (e :: es) t) (he : starEach (e :: es) X.env = (false, eval e X.env) :: starEach es X.env := by rfl)
    (hpl : (backTo pos (starEach es X.env)).any (·.1) = false := by rfl) : PE X (.Call (.Name x p) (e :: es) [] pos) (tCallV X.prog X.w X.K X.mg X.base k tf t) := by
  intro pins s σ H Q I h
  refine wpAny_Call_Name_kw (thn (hf pins s σ H _ I h) fun v s1 ⟨y, H1, I1, r1, f, ps, sp, ey, ⟨fd, F, hk, hb⟩, q1⟩ => ?_)
  subst ey
  cases (show v = Value.ref f from r1)
  refine PySem.W.callWith_K (h₀ := X.base) I1.ok.mod.kin hk (thn (ha pos pins s1 σ H1 _ I1 q1) fun us s2 ⟨vs, H2, I2, r2, q2⟩ => ⟨I2.kIn, ?_⟩) he hpl
  exact run_fn F hr hb .nil pass0 I2 r2 (by rw [List.append_nil]; exact q2)
def rSumL : List V → Hp → VK → Prop := fun xs H Q => ∃ (l : Addr) (ns : List Int), xs = [.ref l] ∧ H l = some (.lst (ns.map V.int)) ∧ Q (.int ns.sum) H
theorem call_sumL (hc : X.calm = true) : CallR X (.builtin "sum") rSumL := by
  intro pins s σ H xs us Q I rs h
  obtain ⟨l, ns, rfl, hH, q⟩ := h
  obtain ⟨u, rfl, ru⟩ := vals1 rs
  cases (show u = Value.ref l from ru)
  obtain ⟨z, its, n, r, hl, e⟩ := I.lstM hH
  have hI := intsAre_of r
  obtain ⟨xs, hxs⟩ := hI.allInts.items
  have hnum : (numsOf its.toArray.toList) = ns := hI.numsOf
  refine sum_intListG (xs := xs) (I.ok.hd hc) (by rw [← hxs]; exact ⟨_, e, rfl, n, rfl⟩) fun h' tk t' hk => ?_
  have hs : preSum (numAt xs) xs.size = ns.sum := by
    rw [preSum_eq, List.take_of_length_le (by simp)]
    rw [← nums_intItems, ← hxs, hnum]
  rw [hs]
  exact ⟨.int ns.sum, H, I.kept (t' := tk) hk, ⟨_, rfl⟩, q⟩
end
end L2


namespace L2
open PySem PySem.Spec PyProof.Rows
abbrev lc2 (elt tg iter : Expr) (ifs : List Expr) (tg2 iter2 : Expr) (ifs2 : List Expr) (scope : Scope) (pos : Pos) : Expr := .ListComp elt [⟨tg, iter, ifs, 0⟩, ⟨tg2, iter2, ifs2, 0⟩] scope pos
theorem compTurn_in (elt tg iter : Expr) (ifs : List Expr) (tg2 iter2 : Expr) (ifs2 : List Expr) (scope : Scope) (pos : Pos) (it acc : Value) (env : Env) :
    compTurn (lc2 elt tg iter ifs tg2 iter2 ifs2 scope pos) 1 it acc env = (do
      standAt iter2.pos
      match ← pyNext it with
      | none => pure (.done .next)
      | some v =>
        letOwnedTupleGo tg2 it v
        assign tg2 env v
        let mut ok := true
        for c in ifs2 do
          if ok then ok ← isTrue c env (eval c env)
        if ok then
          (do let _ ← call (.builtin "list.append") [acc, ← eval elt env])
        again (.compLoop (lc2 elt tg iter ifs tg2 iter2 ifs2 scope pos) 1 it acc env)) := by rfl
theorem compTurn_out (elt tg iter : Expr) (ifs : List Expr) (tg2 iter2 : Expr) (ifs2 : List Expr) (scope : Scope) (pos : Pos) (it acc : Value) (env : Env) :
    compTurn (lc2 elt tg iter ifs tg2 iter2 ifs2 scope pos) 0 it acc env = (do
      standAt iter.pos
      match ← pyNext it with
      | none => pure (.done .next)
      | some v =>
        letOwnedTupleGo tg it v
        assign tg env v
        let mut ok := true
        for c in ifs do
          if ok then ok ← isTrue c env (eval c env)
        if ok then
          let x ← eval iter2 env
          standAt iter2.pos
          let x ← foldedSetIterable iter2 env x
          let _ ← runOwn (.compStart (lc2 elt tg iter ifs tg2 iter2 ifs2 scope pos) 1 (← holding [x] (pyIter x)) acc env) env
        again (.compLoop (lc2 elt tg iter ifs tg2 iter2 ifs2 scope pos) 0 it acc env)) := by rfl
section
variable {prog : Program} {w : World} {A : Around} {R : Result → Shared → Prop} {s : Shared} {elt tg iter tg2 iter2 : Expr} {ifs ifs2 : List Expr} {scope : Scope} {pos : Pos} {it acc : Value} {env : Env}
theorem compLoop_in (I : Nat → Shared → Prop)
    (turn : ∀ n s, I n s → wpAny (model prog w) A (pyNext it) (fun r s₁ => match r with
      | none => R (.ok .next) s₁
      | some v => wpAny (model prog w) A (letOwnedTupleGo tg2 it v) (fun _ s₂ => wpAny (model prog w) A (assign tg2 env v) (fun _ s₃ =>
          wpAny (model prog w) A (forIn ifs2 true fun c r => if r = true then do let ok ← isTrue c env (eval c env); pure (ForInStep.yield ok) else pure (ForInStep.yield r)) (fun ok s₄ =>
            if ok = true then wpAny (model prog w) A (eval elt env) (fun x s₅ =>
              wpAny (model prog w) A (call (.builtin "list.append") [acc, x]) (fun _ s₆ => ∃ m, m < n ∧ I m s₆) (fun _ _ => False) s₅) (fun _ _ => False) s₄
            else ∃ m, m < n ∧ I m s₄) (fun _ _ => False) s₃) (fun _ _ => False) s₂) (fun _ _ => False) s₁) (fun _ _ => False) s)
    (n : Nat) (h : I n s) :
    codeAny (model prog w) A (.compLoop (lc2 elt tg iter ifs tg2 iter2 ifs2 scope pos) 1 it acc env) R s := by
  refine codeAny_loop rfl I (fun n s hI => ?_) n h
  show wpAny _ A ((compTurn (lc2 elt tg iter ifs tg2 iter2 ifs2 scope pos) 1 it acc env).onRaise (fun x => do noteFrame x env; theTreesLotGoes x)) _ _ s
  refine wpAny_noted (wpAny_noRaise ?_)
  rw [compTurn_in]
  refine wpAny_bind (wpAny_standAt (wpAny_bind (thn (turn n s hI) fun r s₁ h₁ => ?_)))
  cases r with
  | none => exact wpAny_pure h₁
  | some v =>
    refine wpAny_bind (thn h₁ fun _ s₂ h₂ => wpAny_bind (thn h₂ fun _ s₃ h₃ => wpAny_bind (thn h₃ fun ok s₄ h₄ => ?_)))
    cases ok with
    | false => exact wpAny_pure ⟨rfl, h₄⟩
    | true => exact wpAny_bind (wpAny_bind (thn h₄ fun x s₅ h₅ => wpAny_bind (thn h₅ fun _ s₆ h₆ => wpAny_pure (wpAny_pure ⟨rfl, h₆⟩))))
theorem compLoop_out (hs2 : ∀ x, foldedSetIterable iter2 env x = pure x) (I : Nat → Shared → Prop)
    (turn : ∀ n s, I n s → wpAny (model prog w) A (pyNext it) (fun r s₁ => match r with
      | none => R (.ok .next) s₁
      | some v => wpAny (model prog w) A (letOwnedTupleGo tg it v) (fun _ s₂ => wpAny (model prog w) A (assign tg env v) (fun _ s₃ =>
          wpAny (model prog w) A (forIn ifs true fun c r => if r = true then do let ok ← isTrue c env (eval c env); pure (ForInStep.yield ok) else pure (ForInStep.yield r)) (fun ok s₄ =>
            if ok = true then wpAny (model prog w) A (eval iter2 env) (fun x s₅ => wpAny (model prog w) A (pyIter x) (fun it2 s₆ =>
              codeAny (model prog w) A (.compStart (lc2 elt tg iter ifs tg2 iter2 ifs2 scope pos) 1 it2 acc env) (fun r s₇ => r = .ok .next ∧ ∃ m, m < n ∧ I m s₇) s₆) (fun _ _ => False) s₅) (fun _ _ => False) s₄
            else ∃ m, m < n ∧ I m s₄) (fun _ _ => False) s₃) (fun _ _ => False) s₂) (fun _ _ => False) s₁) (fun _ _ => False) s)
    (n : Nat) (h : I n s) :
    codeAny (model prog w) A (.compLoop (lc2 elt tg iter ifs tg2 iter2 ifs2 scope pos) 0 it acc env) R s := by
  refine codeAny_loop rfl I (fun n s hI => ?_) n h
  show wpAny _ A ((compTurn (lc2 elt tg iter ifs tg2 iter2 ifs2 scope pos) 0 it acc env).onRaise (fun x => do noteFrame x env; theTreesLotGoes x)) _ _ s
  refine wpAny_noted (wpAny_noRaise ?_)
  rw [compTurn_out]
  refine wpAny_bind (wpAny_standAt (wpAny_bind (thn (turn n s hI) fun r s₁ h₁ => ?_)))
  cases r with
  | none => exact wpAny_pure h₁
  | some v =>
    refine wpAny_bind (thn h₁ fun _ s₂ h₂ => wpAny_bind (thn h₂ fun _ s₃ h₃ => wpAny_bind (thn h₃ fun ok s₄ h₄ => ?_)))
    cases ok with
    | false => exact wpAny_pure ⟨rfl, h₄⟩
    | true =>
      refine wpAny_bind (thn h₄ fun x s₅ h₅ => wpAny_bind (wpAny_standAt (wpAny_bind (wpAny_of_eq (hs2 x) (wpAny_bind (wpAny_holding (thn h₅ fun it2 s₆ h₆ => ?_)))))))
      refine wpAny_bind (wpAny_runOwn (codeAny_mono h₆ fun r s₇ hr => ?_))
      obtain ⟨rfl, hr⟩ := hr
      exact wpAny_pure ⟨rfl, hr⟩
theorem codeAny_compStart_in
    (h0 : codeAny (model prog w) A (.compLoop (lc2 elt tg iter ifs tg2 iter2 ifs2 scope pos) 1 it acc env) R s)
    (h : wpAny (model prog w) A (pyIter it) (fun it' s' => codeAny (model prog w) A (.compLoop (lc2 elt tg iter ifs tg2 iter2 ifs2 scope pos) 1 it' acc env) R s')
      (notedBy (model prog w) A env fun x s' => R (.error x) s') s) :
    codeAny (model prog w) A (.compStart (lc2 elt tg iter ifs tg2 iter2 ifs2 scope pos) 1 it acc env) R s := by
  refine codeAny_of_tree ?_
  show wpAny _ _ ((compStart (lc2 elt tg iter ifs tg2 iter2 ifs2 scope pos) 1 it acc env).onRaise (fun x => do noteFrame x env; standAt theWindowsPlace)) _ _ s
  refine wpAny_notedAt ?_
  unfold compStart
  show wpAny _ _ (ask >>= _) _ _ s
  refine wpAny_bind (wpAny_askSetting (wpAny_ite ?_))
  split
  · first
      | exact wpAny_bind (wpAny_pure (wpAny_pure (And.intro rfl h0)))
      | exact wpAny_pure (And.intro rfl h0)
  · refine wpAny_bind (wpAny_rule (wpAny_bind (wpAny_standAt (wpAny_bind (wpAny_mono h (fun it' s' h' => wpAny_pure (And.intro rfl h')) fun _ _ e => e)))))
end
end L2


namespace L2
open PySem PySem.Spec PyProof.Rows
def InW (J : It) (H1 : Hp) (g : TG) (tt : TT) (te : TE) (acc : Addr) (σ : St) (Kt : Hp → Prop) : Prop :=
  ∃ V : Nat → Nat → Hp → Prop, (∃ m, V 0 m H1) ∧ ∀ i m H, V i m H →
    (J.stop i H ∧ Kt H) ∨ (J.go i H ∧ ∀ x H', J.yld i H x H' → g x σ H' fun σ2 H2 => Wk σ σ2 ∧ tt σ2 H2 fun b H3 =>
      if b = true then te σ2 H3 fun v H4 => ∃ ys, H4 acc = some (.lst ys) ∧ ys.length < sizeLine ∧ ∃ m', m' < m ∧ V (i + 1) m' (upd H4 acc (.lst (ys ++ [v])))
      else ∃ m', m' < m ∧ V (i + 1) m' H3)
def LcW2 (J : It) (H1 : Hp) (g : TG) (tt : TT) (wi2 : TI) (g2 : TG) (tt2 : TT) (te : TE) (n : Nat) (ix : List Nat) (σ : St) (Q : VK) : Prop := ∀ acc, H1 acc = none →
  ∃ W : Nat → Nat → Hp → Prop, (∃ m, W 0 m (upd H1 acc (.lst []))) ∧ ∀ i m H, W i m H →
    (J.stop i H ∧ Q (.ref acc) H) ∨ (J.go i H ∧ ∀ x H', J.yld i H x H' → g x (compSt n ix σ) H' fun σ2 H2 => Wk (compSt n ix σ) σ2 ∧ tt σ2 H2 fun b H3 =>
      if b = true then wi2 σ2 H3 fun J2 H4 => InW J2 H4 g2 tt2 te acc σ2 fun H5 => ∃ m', m' < m ∧ W (i + 1) m' H5
      else ∃ m', m' < m ∧ W (i + 1) m' H3)
def tLc2 (wi : TI) (g : TG) (tt : TT) (wi2 : TI) (g2 : TG) (tt2 : TT) (te : TE) (n : Nat) (ix : List Nat) : TE := fun σ H Q => wi σ H fun J H1 => LcW2 J H1 g tt wi2 g2 tt2 te n ix σ Q
section
variable {X : Cx} {elt tg iter tg2 iter2 : Expr} {ifs ifs2 : List Expr} {scope : Scope} {pos : Pos} {wi wi2 : TI} {g g2 : TG} {tt tt2 : TT} {te : TE} {N' : List Str} {n : Nat} {ix : List Nat}
theorem lc_core2 {pins : List (Addr × Obj)} {σ : St} {H2 : Hp} {s2 : Shared} {cl : List (Str × Addr)} {it : Addr} {fp : List Addr} {tn : Nat → Heap → Prop} {J : It} {Q : VK} {R : Value → Addr → Result → Shared → Prop}
    (hc : X.calm = true) (S : CompScope X scope N' n ix)
    (hY : ∀ s₂ H₂ cl C fp, PG (X.comp s₂ H₂ N' scope cl C fp) tg g ∧ PTs (X.comp s₂ H₂ N' scope cl C fp) ifs tt ∧ PI (X.comp s₂ H₂ N' scope cl C fp) tg2 iter2 wi2 ∧ PG (X.comp s₂ H₂ N' scope cl C fp) tg2 g2 ∧ PTs (X.comp s₂ H₂ N' scope cl C fp) ifs2 tt2 ∧
      PE (X.comp s₂ H₂ N' scope cl C fp) elt te)
    (hs2 : ∀ env x, foldedSetIterable iter2 env x = pure x)
    (I2 : Inv X pins σ H2 s2) (hcl1 : ∀ x c, cl.lookup x = some c → X.env.cells.lookup x = some c) (hcl2 : ∀ y ∈ scope.names, y.2 = .free → cl.lookup y.1 = X.env.cells.lookup y.1)
    (T : Turn X.prog X.w X.K tg J fp it tn) (st2 : tn 0 s2.heap) (f2 : ∀ b ∈ fp, FpOk X pins H2 b)
    (hW : LcW2 J H2 g tt wi2 g2 tt2 te n ix σ Q)
    (hR : ∀ acc C s' H' m, s'.heap.Ns C m → Inv X pins σ H' s' → H' C = none → C ≠ X.env.locals → (C ∈ X.ex ∨ X.s₀.heap.objs.size ≤ C) → (∀ x c, X.env.cells.lookup x = some c → c ≠ C) → (∀ p ∈ X.pn ++ pins, p.1 ≠ C) → C ∉ X.fs → Q (.ref acc) H' → R (.ref acc) C (.ok .next) s') :
    wpAny (model X.prog X.w) X.A (newList []) (fun acc s₃ => wpAny (model X.prog X.w) X.A (newFunctionEnv scope X.env.globals cl [] X.env.qual none .none (some X.env)) (fun cenv s₄ =>
      codeAny (model X.prog X.w) X.A (.compStart (lc2 elt tg iter ifs tg2 iter2 ifs2 scope pos) 0 (.ref it) acc { cenv with scope := relabel scope X.env }) (R acc cenv.locals) s₄) X.xe s₃) X.xe s2 := by
  refine wpAny_newObj_type (wpAny_newFunctionEnv S.nocell (by intro y hy; simp at hy) (fun h₁ hns₁ hsb₁ => ?_) S.kind)
  dsimp only at hns₁ hsb₁ ⊢
  generalize hH2 : s2.heap.push { cls := .type "list", dict := none, data := .seq ([] : List Value).toArray } = G at hns₁ hsb₁ ⊢
  have hC : G.objs.size = s2.heap.objs.size + 1 := by rw [← hH2, Heap.size_push]
  have hlt : ∀ b ∈ fp, b < s2.heap.objs.size := fun b hb => by
    obtain ⟨o, e, _⟩ := T.obj _ _ st2 b hb
    exact Heap.lt_size e
  have old : ∀ b o, s2.heap.get? b = some o → h₁.get? b = some o := fun b o e => hsb₁.extBut b o (by rw [hC]; exact Nat.ne_of_lt (Nat.lt_succ_of_lt (Heap.lt_size e))) (Heap.get?_push_of_some _ (hH2 ▸ Heap.get?_push_of_some _ e))
  have hacc : h₁.get? s2.heap.objs.size = some { cls := .type "list", dict := none, data := .seq ([] : List Value).toArray } := hsb₁.extBut _ _ (by rw [hC]; exact Nat.ne_of_lt (Nat.lt_succ_self _)) (Heap.get?_push_of_some _ (hH2 ▸ Heap.get?_push_size _ rfl))
  obtain ⟨W, ⟨m0, w0⟩, turn⟩ := hW s2.heap.objs.size (I2.hok.fresh (Nat.le_refl _))
  obtain ⟨hYg, hYt, hYi, hYg2, hYt2, hYe⟩ := hY s2 H2 cl G.objs.size fp
  have fpY : ∀ {H' : Hp}, (∀ b ∈ fp, H' b = none) → ∀ b ∈ fp, FpOk (X.comp s2 H2 N' scope cl G.objs.size fp) [] H' b := fun {H'} hn b hb => by
    obtain ⟨_, q1, q2, q3, q4, q5⟩ := f2 b hb
    refine ⟨hn b hb, ?_, fun z => ?_, .inl hb, fun x c e => q4 x c (hcl1 x c e), fun p hp => absurd (show p ∈ ([] : List (Addr × Obj)) from hp) (by simp)⟩
    · show b ≠ G.objs.size
      rw [hC]
      exact Nat.ne_of_lt (Nat.lt_succ_of_lt (hlt b hb))
    · rcases List.mem_cons.mp (I2.stkSub b z) with y | y
      · exact q1 y
      · exact q2 y
  have loop : ∀ s₃ : Shared, s₃ = { s2 with heap := h₁, toks := s2.toks + ([] : List (Str × Value)).length } →
      codeAny (model X.prog X.w) X.A (.compLoop (lc2 elt tg iter ifs tg2 iter2 ifs2 scope pos) 0 (.ref it) (.ref s2.heap.objs.size) (compEnvC scope cl G.objs.size X.env)) (R (.ref s2.heap.objs.size) G.objs.size) s₃ := by
    rintro s₃ rfl
    have I4 := inv_comp (tk := s2.toks + ([] : List (Str × Value)).length) I2 S hcl1 hcl2 f2 hlt (Nat.le_refl _) (by rw [hC]; exact Nat.le_succ _) (by rw [hC]; exact Nat.ne_of_gt (Nat.lt_succ_self _)) old hacc hns₁
    refine compLoop_out (fun x => hs2 _ x) (fun n' s' => ∃ i H', Inv (X.comp s2 H2 N' scope cl G.objs.size fp) [] (compSt n ix σ) H' s' ∧ tn i s'.heap ∧ (∀ b ∈ fp, H' b = none) ∧ W i n' H') ?_ m0
      ⟨0, _, I4, T.keep _ _ _ st2 fun b hb o e => old b o e, fun b hb => ?_, w0⟩
    · rintro n' s3 ⟨i, H3, I3, st3, fr3, w3⟩
      rcases turn i n' H3 w3 with ⟨stop, q⟩ | ⟨go, step⟩
      · refine thn (T.done (X.comp s2 H2 N' scope cl G.objs.size fp) rfl rfl rfl hc i [] s3 _ H3 _ I3 (fpY fr3) st3 stop) fun r s4 ⟨hr, I5⟩ => ?_
        subst hr
        obtain ⟨mC, hnC, _⟩ := I5.loc
        have IX : Inv X pins σ H3 s4 := I2.call' I5.os I5.base I5.hok I5.bare fun b hb => by
          obtain ⟨_, q1, q2, q3, q4, q5⟩ := f2 b hb
          exact ⟨q3, q1, q4, q5⟩
        refine hR _ _ s4 H3 mC hnC IX I5.free ?_ (.inr ?_) (fun x c e z => ?_) (fun p hp z => ?_) (I2.nofs (by rw [hC]; exact Nat.le_succ _)) q
        · rw [hC]
          exact Nat.ne_of_gt (Nat.lt_succ_of_lt I2.lt)
        · rw [hC]
          exact Nat.le_succ_of_le I2.sz
        · obtain ⟨v, q⟩ := I2.cell x c e
          rw [hC] at z
          exact absurd z (Nat.ne_of_lt (Nat.lt_succ_of_lt q.lt))
        · rw [hC] at z
          exact absurd z (Nat.ne_of_lt (Nat.lt_succ_of_lt (Heap.lt_size (I2.pin p hp).1)))
      · refine thn (T.item (X.comp s2 H2 N' scope cl G.objs.size fp) rfl rfl rfl hc i [] s3 _ H3 _ I3 (fpY fr3) st3 go) fun r s4 ⟨u, hr, h4⟩ => ?_
        subst hr
        refine thn h4 fun _ s5 ⟨x, H5, I5, r5, y5, st5, fr5⟩ => ?_
        have I5' := I5.pinned (fpY fr5) (T.obj _ _ st5)
        refine thn (hYg _ s5 _ H5 x u _ I5' r5 (step x H5 y5)) fun _ s6 ⟨σ6, H6, I6, wk, q6⟩ => ?_
        have back : ∀ {H' : Hp} {s' : Shared}, Inv (X.comp s2 H2 N' scope cl G.objs.size fp) ([] ++ pinsAt fp s5.heap) σ6 H' s' →
            Inv (X.comp s2 H2 N' scope cl G.objs.size fp) [] (compSt n ix σ) H' s' ∧ tn (i + 1) s'.heap ∧ ∀ b ∈ fp, H' b = none := fun {H' s'} I7 => by
          refine ⟨I7.unpinned.weak wk.1 wk.2, T.keep _ _ _ st5 fun b hb o e => (I7.pin (b, o) (List.mem_append_right _ (List.mem_append_right _ (mem_pinsAt hb e)))).1, fun b hb => ?_⟩
          obtain ⟨o, e, d⟩ := T.obj _ _ st5 b hb
          exact (I7.pin (b, o) (List.mem_append_right _ (List.mem_append_right _ (mem_pinsAt hb e)))).2.1
        refine thn (hYt _ s6 σ6 H6 _ I6 q6) fun ok s7 ⟨H7, I7, q7⟩ => ?_
        cases ok with
        | false =>
          rw [if_neg Bool.false_ne_true] at q7 ⊢
          obtain ⟨m', hm, w7⟩ := q7
          obtain ⟨b1, b2, b3⟩ := back I7
          exact ⟨m', hm, i + 1, H7, b1, b2, b3, w7⟩
        | true =>
          rw [if_pos rfl] at q7 ⊢
          refine thn (hYi _ s7 σ6 H7 _ I7 q7) fun xv s8 h8 => thn h8 fun itv s9 h9 => ?_
          obtain ⟨it2, fp2, tn2, J2, H9, rfl, I9, T2, st9, f9, V, ⟨m1, v0⟩, turn2⟩ := h9
          have stat2 : ∀ {H' : Hp}, (∀ b ∈ fp2, H' b = none) → ∀ b ∈ fp2, FpOk (X.comp s2 H2 N' scope cl G.objs.size fp) ([] ++ pinsAt fp s5.heap) H' b := fun hn b hb => ⟨hn b hb, (f9 b hb).2⟩
          have loop2 : codeAny (model X.prog X.w) X.A (.compLoop (lc2 elt tg iter ifs tg2 iter2 ifs2 scope pos) 1 (.ref it2) (.ref s2.heap.objs.size) (compEnvC scope cl G.objs.size X.env))
              (fun r s₇ => r = .ok .next ∧ ∃ m, m < n' ∧ ∃ i H', Inv (X.comp s2 H2 N' scope cl G.objs.size fp) [] (compSt n ix σ) H' s₇ ∧ tn i s₇.heap ∧ (∀ b ∈ fp, H' b = none) ∧ W i m H') s9 := by
            refine compLoop_in (fun n'' s' => ∃ j H', Inv (X.comp s2 H2 N' scope cl G.objs.size fp) ([] ++ pinsAt fp s5.heap) σ6 H' s' ∧ tn2 j s'.heap ∧ (∀ b ∈ fp2, H' b = none) ∧ V j n'' H') ?_ m1 ⟨0, H9, I9, st9, fun b hb => (f9 b hb).1, v0⟩
            rintro n'' s10 ⟨j, H10, I10, st10, fr10, v10⟩
            rcases turn2 j n'' H10 v10 with ⟨stop2, q10⟩ | ⟨go2, step2⟩
            · refine thn (T2.done (X.comp s2 H2 N' scope cl G.objs.size fp) rfl rfl rfl hc j _ s10 _ H10 _ I10 (stat2 fr10) st10 stop2) fun r s11 ⟨hr, I11⟩ => ?_
              subst hr
              obtain ⟨m', hm, w10⟩ := q10
              obtain ⟨b1, b2, b3⟩ := back I11
              exact ⟨rfl, m', hm, i + 1, H10, b1, b2, b3, w10⟩
            · refine thn (T2.item (X.comp s2 H2 N' scope cl G.objs.size fp) rfl rfl rfl hc j _ s10 _ H10 _ I10 (stat2 fr10) st10 go2) fun r s11 ⟨u2, hr, h11⟩ => ?_
              subst hr
              refine thn h11 fun _ s12 ⟨y, H12, I12, r12, y12, st12, fr12⟩ => ?_
              have I12' := I12.pinned (stat2 fr12) (T2.obj _ _ st12)
              refine thn (hYg2 _ s12 _ H12 y u2 _ I12' r12 (step2 y H12 y12)) fun _ s13 ⟨σ13, H13, I13, wk2, q13⟩ => ?_
              have back2 : ∀ {H' : Hp} {s' : Shared}, Inv (X.comp s2 H2 N' scope cl G.objs.size fp) (([] ++ pinsAt fp s5.heap) ++ pinsAt fp2 s12.heap) σ13 H' s' →
                  Inv (X.comp s2 H2 N' scope cl G.objs.size fp) ([] ++ pinsAt fp s5.heap) σ6 H' s' ∧ tn2 (j + 1) s'.heap ∧ ∀ b ∈ fp2, H' b = none := fun {H' s'} I7 => by
                refine ⟨I7.unpinned.weak wk2.1 wk2.2, T2.keep _ _ _ st12 fun b hb o e => (I7.pin (b, o) (List.mem_append_right _ (List.mem_append_right _ (mem_pinsAt hb e)))).1, fun b hb => ?_⟩
                obtain ⟨o, e, d⟩ := T2.obj _ _ st12 b hb
                exact (I7.pin (b, o) (List.mem_append_right _ (List.mem_append_right _ (mem_pinsAt hb e)))).2.1
              refine thn (hYt2 _ s13 σ13 H13 _ I13 q13) fun ok2 s14 ⟨H14, I14, q14⟩ => ?_
              cases ok2 with
              | false =>
                rw [if_neg Bool.false_ne_true] at q14 ⊢
                obtain ⟨m', hm, v14⟩ := q14
                obtain ⟨b1, b2, b3⟩ := back2 I14
                exact ⟨m', hm, j + 1, H14, b1, b2, b3, v14⟩
              | true =>
                rw [if_pos rfl] at q14 ⊢
                refine thn (hYe _ s14 σ13 H14 _ I14 q14) fun xv s15 ⟨v15, H15, I15, r15, ys, ha, hz, m', hm, w15⟩ => ?_
                refine thn (mt_append _ s15 σ13 H15 (.ref s2.heap.objs.size) [v15] (.ref s2.heap.objs.size) [xv] (fun _ H' => H' = upd H15 s2.heap.objs.size (.lst (ys ++ [v15]))) I15 rfl (.cons r15 .nil) ⟨_, ys, v15, rfl, rfl, ha, hz, rfl⟩) fun _ s16 ⟨_, H16, I16, _, e16⟩ => ?_
                subst e16
                obtain ⟨b1, b2, b3⟩ := back2 I16
                exact ⟨m', hm, j + 1, _, b1, b2, b3, w15⟩
          exact codeAny_compStart_in loop2 (T2.self _ 0 _ _ _ st9 loop2)
    · rw [upd_ne (Nat.ne_of_lt (hlt b hb))]
      exact (f2 b hb).1
  exact codeAny_compStart_list (loop _ rfl) (T.self _ 0 _ _ _ (T.keep _ _ _ st2 fun b hb o e => old b o e) (loop _ rfl))
theorem pe_lc2 (hc : X.calm = true) (S : CompScope X scope N' n ix) (hi : PI X tg iter wi)
    (hY : ∀ s₂ H₂ cl C fp, PG (X.comp s₂ H₂ N' scope cl C fp) tg g ∧ PTs (X.comp s₂ H₂ N' scope cl C fp) ifs tt ∧ PI (X.comp s₂ H₂ N' scope cl C fp) tg2 iter2 wi2 ∧ PG (X.comp s₂ H₂ N' scope cl C fp) tg2 g2 ∧ PTs (X.comp s₂ H₂ N' scope cl C fp) ifs2 tt2 ∧
      PE (X.comp s₂ H₂ N' scope cl C fp) elt te)
    (hs : ∀ x, foldedSetIterable iter X.env x = pure x := by intro _; rfl) (hs2 : ∀ env x, foldedSetIterable iter2 env x = pure x := by intro _ _; rfl) :
    PE X (.ListComp elt [⟨tg, iter, ifs, 0⟩, ⟨tg2, iter2, ifs2, 0⟩] scope pos) (tLc2 wi g tt wi2 g2 tt2 te n ix) := by
  intro pins s σ H Q I h
  obtain ⟨cl, hcl, hcl1, hcl2⟩ := closure_ok (env := X.env) (scope := scope) fun y hy hf => I.ok.has _ (S.free y hy hf)
  rw [eval_ListComp]
  refine wpAny_comprehension_free (use := none) rfl hs hcl S.kind S.names (thn (hi pins s σ H _ I h) fun v s1 h1 => thn h1 fun itv s2 h2 => ?_)
  obtain ⟨it, fp, tn, J, H2, rfl, I2, T, st2, f2, hW⟩ := h2
  refine lc_core2 (R := fun acc C => compPost (model X.prog X.w) X.A X.xe none (EP X pins σ Q) acc C) hc S hY hs2 I2 hcl1 hcl2 T st2 f2 hW ?_
  intro acc C s' H' m hn IX hf hL h1 h2 h3 h4 q
  exact ⟨m, hn, fun h' sb => ⟨.ref acc, H', IX.turned (t' := s'.toks) (fun b o hb e => sb.extBut b o hb e) hf hL h1 h2 h3, rfl, q⟩⟩
end
end L2


namespace L2
open PySem PySem.Spec PyProof.Rows
def Itel (K : PySem.W.Frag) (a : Addr) : It :=
  ⟨fun i H => ∃ xs x, SqL K H a xs ∧ xs[i]? = some x, fun i H v H' => ∃ t x, H t = none ∧ v = .ref t ∧ H' = upd H t (.tup [.int i, x]) ∧ ∀ xs, SqL K H a xs → xs[i]? = some x, fun i H => ∃ xs, SqL K H a xs ∧ xs.length = i⟩
section
variable {X : Cx}
def iEnumL (K : PySem.W.Frag) (ta : TA) : TI := fun σ H R => ta σ H fun vs H1 => ∃ a, vs = [.ref a] ∧ (∃ xs, SqL K H1 a xs) ∧ R (Itel K a) H1
end
end L2


namespace L2
open PySem PySem.Spec PyProof.Rows
def pairs2 (xs : List V) (ys : V → List V) (p : V → V → Bool) : List (V × V) := xs.flatMap fun x => ((ys x).filter (p x)).map fun y => (x, y)
end L2


namespace L2
open PySem PySem.Spec PyProof.Rows
section
variable {X : Cx}
def rSlA : V → Option Int → Option Int → Hp → VK → Prop := fun x lo hi H Q => ∃ a xs, x = .ref a ∧ H a = some (.tup xs) ∧ ∀ p H', Same H H' → H' p = some (.tup (cutV xs lo hi)) → Q (.ref p) H'
theorem sl_tupA : SlR X rSlA := by
  intro pins s σ H x v vl vu lo hi sl Q I rx hs pl pu h
  obtain ⟨a, xs, rfl, ha, q⟩ := h
  by_cases hw : HT.sIx xs.length 0 lo = 0 ∧ HT.sIx xs.length xs.length hi = xs.length
  · cases rx
    obtain ⟨its, r, ht, hz⟩ := I.tuple (SqT.of (K := X.K) ha)
    have hl : its.toArray.size = xs.length := by rw [List.size_toArray]; exact r.length.symm
    refine ⟨"tuple", _, PyProof.Rows.slot_tuple_getitem.lookup, ht.typeIs, ?_⟩
    refine getItem_tuple_whole ht hs pl pu (by rw [hl]; exact hw) ⟨.ref a, H, I, rfl, q a H (Same.refl H) ?_⟩
    unfold cutV
    rw [hw.1, hw.2, List.drop_zero, Nat.sub_zero, List.take_length]
    exact ha
  · exact sl_tup pins s σ H _ v vl vu lo hi sl Q I rx hs pl pu ⟨a, xs, rfl, SqT.of ha, hw, fun p hp => q p _ (same_upd hp) upd_same⟩
end
section
variable {X : Cx} {elt tg iter tg2 iter2 : Expr} {ifs ifs2 : List Expr} {scope : Scope} {pos : Pos} {wi wi2 : TI} {g g2 : TG} {tt tt2 : TT} {te : TE} {N' : List Str} {n : Nat} {ix : List Nat}
end
end L2


namespace L2
open PySem PySem.Spec PyProof.Rows
def freeO (m : Nat) (b : List Int) : List Int := (num0 m).filter fun x => decide (x ∉ b)
def stepA (m : Nat) (L : List (List Int)) : List (List Int) := L.flatMap fun b => (freeO m b).map fun x => b ++ [x]
def iterA (m : Nat) (L : List (List Int)) : Nat → List (List Int)
  | 0 => L
  | k + 1 => stepA m (iterA m L k)
def allP : Nat → List Int → List (List Int)
  | 0, _ => [[]]
  | n + 1, left => (List.range left.length).flatMap fun k => (allP n (left.take k ++ left.drop (k + 1))).map fun r => left.getD k 0 :: r
def allA (m : Nat) : List (List Int) := iterA m [[]] m
structure Beg (m k : Nat) (b : List Int) : Prop where
  len : b.length = k
  nd : b.Nodup
  rng : ∀ y ∈ b, 0 ≤ y ∧ y < m
  free : (freeO m b).length + k = m
def facD (m : Nat) : Nat → Nat
  | 0 => 1
  | k + 1 => facD m k * (m - k)
end L2


namespace L2
open PySem PySem.Spec PyProof.Rows
end L2
namespace L2
open PySem PySem.Spec PyProof.Rows
theorem neLL {H : Hp} {a b : Addr} {ns ms : List Int} {Q : VK} (ha : H a = some (.lst (ns.map V.int))) (hb : H b = some (.lst (ms.map V.int))) (e : ns = ms) (h : Q (.bl false) H) : rNeD (.ref a) (.ref b) H Q := by
  refine ⟨_, _, .lst ha (IsAll.ints ns), .lst hb (IsAll.ints ms), shaped_lints ns, shaped_lints ms, ?_⟩
  rw [show PyData.eqv (.list (ns.map PyData.int)) (.list (ms.map PyData.int)) = decide (ns = ms) from eqv_ints ns ms, decide_eq_true e]
  exact h
def RFlip (x v : V) (H : Hp) : Prop := ∃ (z z' : Addr) (r : List Int), x = .ref z ∧ H z = some (.tup (r.map V.int)) ∧ v = .ref z' ∧ H z' = some (.tup ((flipO r).map V.int))
end L2


namespace L2
open PySem PySem.Spec PyProof.Rows
section
variable {X : Cx}
def rMaxL : List V → Hp → VK → Prop := fun xs H Q => ∃ (l : Addr) (ns : List Int), xs = [.ref l] ∧ H l = some (.lst (ns.map V.int)) ∧ ns ≠ [] ∧ ∀ M, M ∈ ns → (∀ a ∈ ns, a ≤ M) → Q (.int M) H
def rMaxT : List V → Hp → VK → Prop := fun xs H Q => ∃ (l : Addr) (ns : List Int), xs = [.ref l] ∧ H l = some (.tup (ns.map V.int)) ∧ ns ≠ [] ∧ ∀ M, M ∈ ns → (∀ a ∈ ns, a ≤ M) → Q (.int M) H
end
def enF (p : Nat → V → Bool) (f : Nat → V → V) : Nat → List V → List V
  | _, [] => []
  | i, x :: t => (if p i x then [f i x] else []) ++ enF p f (i + 1) t
theorem enF_append (p : Nat → V → Bool) (f : Nat → V → V) : ∀ (i : Nat) (a b : List V), enF p f i (a ++ b) = enF p f i a ++ enF p f (i + a.length) b
  | _, [], _ => by simp [enF]
  | i, x :: t, b => by
    show (if p i x then [f i x] else []) ++ enF p f (i + 1) (t ++ b) = _
    rw [enF_append p f (i + 1) t b]
    simp only [enF, List.append_assoc, List.length_cons]
    rw [show i + 1 + t.length = i + (t.length + 1) by omega]
theorem enF_len (p : Nat → V → Bool) (f : Nat → V → V) : ∀ (i : Nat) (a : List V), (enF p f i a).length ≤ a.length
  | _, [] => Nat.le_refl _
  | i, x :: t => by
    have := enF_len p f (i + 1) t
    simp only [enF, List.length_append, List.length_cons]
    split <;> simp <;> omega
theorem lc_enum {K : PySem.W.Frag} {a : Addr} {xs : List V} {tt : TT} {te : TE} {ix : List Nat} {σ : L2.St} {H1 : Hp} {Q : VK} (Fx : ∀ {H}, Same H1 H → SqT K H a xs) (small : xs.length ≤ 1000) (p : Nat → V → Bool) (f : Nat → V → V)
    (ht : ∀ (i : Nat) x, xs[i]? = some x → ∀ H, Same H1 H → ∀ Q' : Bool → Hp → Prop, Q' (p i x) H → tt (some (.int i) :: some x :: ix.map fun i => σ.getD i none) H Q')
    (he : ∀ (i : Nat) x, xs[i]? = some x → p i x = true → ∀ H, Same H1 H → ∀ Q' : VK, Q' (f i x) H → te (some (.int i) :: some x :: ix.map fun i => σ.getD i none) H Q')
    (fin : ∀ acc H', H1 acc = none → Same H1 H' → H' acc = some (.lst (enF p f 0 xs)) → Q (.ref acc) H') :
    LcW (Ite K a) H1 (gTup K 2 (gCons (gName 0) (gCons (gName 1) gNil))) tt te 2 ix σ Q := by
  intro acc ha
  refine ⟨fun i m H => m = xs.length - i ∧ i ≤ xs.length ∧ Same H1 H ∧ H acc = some (.lst (enF p f 0 (xs.take i))), ⟨xs.length, by simp, Nat.zero_le _, same_upd ha, upd_same⟩, ?_⟩
  rintro i m H ⟨rfl, hi, sm, hacc⟩
  by_cases hlt : i < xs.length
  · refine .inr ⟨⟨xs, xs[i], Fx sm, List.getElem?_eq_getElem hlt⟩, fun v H' y => ?_⟩
    obtain ⟨t, x, hn, rfl, rfl, hv⟩ := y
    have e1 := hv xs (Fx sm)
    have htk : enF p f 0 (xs.take (i + 1)) = enF p f 0 (xs.take i) ++ (if p i x then [f i x] else []) := by
      have hl : (xs.take i).length = i := by rw [List.length_take]; omega
      rw [List.take_succ, e1, enF_append, hl]
      simp [enF]
    refine ⟨t, _, rfl, SqT.of upd_same, rfl, _, _, rfl, x, _, rfl, rfl, ⟨rfl, fun j v e => ?_⟩, ?_⟩
    · match j, e with
      | 0, e => cases e
      | 1, e => cases e
      | j + 2, e => exact e
    · have sm2 := sm.trans (same_upd (o := .tup [.int i, x]) hn)
      have hacc2 : (upd H t (.tup [.int i, x])) acc = some (.lst (enF p f 0 (xs.take i))) := same_upd hn _ _ hacc
      refine ht i x e1 _ sm2 _ ?_
      cases hp : p i x with
      | false =>
        rw [if_neg Bool.false_ne_true]
        refine ⟨xs.length - (i + 1), by omega, rfl, hlt, sm2, ?_⟩
        rw [htk, hp, if_neg Bool.false_ne_true, List.append_nil]
        exact hacc2
      | true =>
        rw [if_pos rfl]
        refine he i x e1 hp _ sm2 _ ⟨_, hacc2, small1 (Nat.le_trans (enF_len _ _ _ _) (by rw [List.length_take]; omega)), xs.length - (i + 1), by omega, rfl, hlt, same_updR sm2 ha, ?_⟩
        rw [upd_same, htk, hp, if_pos rfl]
  · have e : i = xs.length := by omega
    subst e
    rw [List.take_length] at hacc
    exact .inl ⟨⟨xs, Fx sm, rfl⟩, fin acc H ha sm hacc⟩
theorem lc_zip {K : PySem.W.Frag} {a b : Addr} {xs ys : List V} {tt : TT} {te : TE} {ix : List Nat} {σ : L2.St} {H1 : Hp} {Q : VK} (Fx : ∀ {H}, Same H1 H → SqT K H a xs) (Fy : ∀ {H}, Same H1 H → SqT K H b ys) (small : (xs.zip ys).length ≤ 1000) (p : V × V → Bool) (f : V × V → V)
    (ht : ∀ xy ∈ xs.zip ys, ∀ H, Same H1 H → ∀ Q' : Bool → Hp → Prop, Q' (p xy) H → tt (some xy.1 :: some xy.2 :: ix.map fun i => σ.getD i none) H Q')
    (he : ∀ xy ∈ xs.zip ys, p xy = true → ∀ H, Same H1 H → ∀ Q' : VK, Q' (f xy) H → te (some xy.1 :: some xy.2 :: ix.map fun i => σ.getD i none) H Q')
    (fin : ∀ acc H', H1 acc = none → Same H1 H' → H' acc = some (.lst (((xs.zip ys).filter p).map f)) → Q (.ref acc) H') :
    LcW (Itz K a b) H1 (gTup K 2 (gCons (gName 0) (gCons (gName 1) gNil))) tt te 2 ix σ Q := by
  intro acc ha
  refine ⟨fun i m H => m = (xs.zip ys).length - i ∧ i ≤ (xs.zip ys).length ∧ Same H1 H ∧ H acc = some (.lst ((((xs.zip ys).take i).filter p).map f)), ⟨(xs.zip ys).length, by simp, Nat.zero_le _, same_upd ha, upd_same⟩, ?_⟩
  rintro i m H ⟨rfl, hi, sm, hacc⟩
  by_cases hlt : i < (xs.zip ys).length
  · have hl2 : i < xs.length ∧ i < ys.length := by rw [List.length_zip] at hlt; omega
    refine .inr ⟨⟨xs, ys, xs[i], ys[i], Fx sm, Fy sm, List.getElem?_eq_getElem hl2.1, List.getElem?_eq_getElem hl2.2⟩, fun v H' y => ?_⟩
    obtain ⟨t, x, y, hn, rfl, rfl, hv⟩ := y
    obtain ⟨e1, e2⟩ := hv xs ys (Fx sm) (Fy sm)
    have ez : (xs.zip ys)[i]? = some (x, y) := by rw [List.getElem?_zip_eq_some]; exact ⟨e1, e2⟩
    have hmem : (x, y) ∈ xs.zip ys := List.mem_of_getElem? ez
    have htk : (xs.zip ys).take (i + 1) = (xs.zip ys).take i ++ [(x, y)] := by rw [List.take_succ, ez]; rfl
    refine ⟨t, _, rfl, SqT.of upd_same, rfl, x, _, rfl, y, _, rfl, rfl, ⟨rfl, fun j v e => ?_⟩, ?_⟩
    · match j, e with
      | 0, e => cases e
      | 1, e => cases e
      | j + 2, e => exact e
    · have sm2 := sm.trans (same_upd (o := .tup [x, y]) hn)
      have hacc2 := same_upd (o := .tup [x, y]) hn _ _ hacc
      refine ht (x, y) hmem _ sm2 _ ?_
      cases hp : p (x, y) with
      | false =>
        rw [if_neg Bool.false_ne_true]
        refine ⟨(xs.zip ys).length - (i + 1), by omega, rfl, hlt, sm2, ?_⟩
        rw [htk, List.filter_append]
        simpa [hp] using hacc2
      | true =>
        rw [if_pos rfl]
        refine he (x, y) hmem hp _ sm2 _ ⟨_, hacc2, small1 ?_, (xs.zip ys).length - (i + 1), by omega, rfl, hlt, same_updR sm2 ha, ?_⟩
        · rw [List.length_map]
          refine Nat.le_trans (List.length_filter_le _ _) ?_
          rw [List.length_take]
          omega
        · rw [upd_same, htk, List.filter_append, List.map_append]
          simp [hp]
  · have e : i = (xs.zip ys).length := by omega
    subst e
    rw [List.take_length] at hacc
    refine .inl ⟨⟨xs, ys, Fx sm, Fy sm, ?_⟩, fin acc H ha sm hacc⟩
    rw [List.length_zip]
    rcases Nat.le_total xs.length ys.length with h | h
    · exact .inl (List.getElem?_eq_none (by omega))
    · exact .inr (List.getElem?_eq_none (by omega))
end L2


namespace L2
open PySem PySem.Spec PyProof.Rows
def en2 (ys : Nat → V → List V) (p : Nat → V → V → Bool) (c : V) : Nat → List V → List V
  | _, [] => []
  | i, x :: t => ((ys i x).filter (p i x)).map (fun _ => c) ++ en2 ys p c (i + 1) t
theorem en2_append (ys : Nat → V → List V) (p : Nat → V → V → Bool) (c : V) : ∀ (i : Nat) (a b : List V), en2 ys p c i (a ++ b) = en2 ys p c i a ++ en2 ys p c (i + a.length) b
  | _, [], _ => by simp [en2]
  | i, x :: t, b => by
    show ((ys i x).filter (p i x)).map (fun _ => c) ++ en2 ys p c (i + 1) (t ++ b) = _
    rw [en2_append ys p c (i + 1) t b]
    simp only [en2, List.append_assoc, List.length_cons]
    rw [show i + 1 + t.length = i + (t.length + 1) by omega]
theorem lc2_enum {K : PySem.W.Frag} {a : Addr} {xs : List V} {wi2 : TI} {tt2 : TT} {te : TE} {ix : List Nat} {σ : L2.St} {H1 : Hp} {Q : VK} (Fx : ∀ {H}, Same H1 H → SqT K H a xs) (ys : Nat → V → List V) (p : Nat → V → V → Bool) (c : V)
    (small : (en2 ys p c 0 xs).length < sizeLine)
    (hin : ∀ (i : Nat) x, xs[i]? = some x → ∀ H, Same H1 H → ∀ Rr : It → Hp → Prop, (∀ J2 Ok2 H', Same H H' → Yields J2 Ok2 (ys i x) → (∀ G, SameT H' G → Same H1 G → Ok2 G) → Rr J2 H') → wi2 (some (.int i) :: some x :: none :: ix.map fun i => σ.getD i none) H Rr)
    (ht : ∀ (i : Nat) x, xs[i]? = some x → ∀ y ∈ ys i x, ∀ H, Same H1 H → ∀ Q' : Bool → Hp → Prop, Q' (p i x y) H → tt2 (some (.int i) :: some x :: some y :: ix.map fun i => σ.getD i none) H Q')
    (he : ∀ (i : Nat) x, xs[i]? = some x → ∀ y ∈ ys i x, ∀ H, Same H1 H → ∀ Q' : VK, Q' c H → te (some (.int i) :: some x :: some y :: ix.map fun i => σ.getD i none) H Q')
    (fin : ∀ acc H', H1 acc = none → Same H1 H' → H' acc = some (.lst (en2 ys p c 0 xs)) → Q (.ref acc) H') :
    LcW2 (Ite K a) H1 (gTup K 2 (gCons (gName 0) (gCons (gName 1) gNil))) tNoTest wi2 (gName 2) tt2 te 3 ix σ Q := by
  intro acc ha
  refine ⟨fun i m H => m = xs.length - i ∧ i ≤ xs.length ∧ Same H1 H ∧ H acc = some (.lst (en2 ys p c 0 (xs.take i))), ⟨xs.length, by simp, Nat.zero_le _, same_upd ha, upd_same⟩, ?_⟩
  rintro i m H ⟨rfl, hi, sm, hacc⟩
  by_cases hlt : i < xs.length
  · refine .inr ⟨⟨xs, xs[i], Fx sm, List.getElem?_eq_getElem hlt⟩, fun v H' y => ?_⟩
    obtain ⟨t, x, hn, rfl, rfl, hv⟩ := y
    have e1 := hv xs (Fx sm)
    have htk : en2 ys p c 0 (xs.take (i + 1)) = en2 ys p c 0 (xs.take i) ++ ((ys i x).filter (p i x)).map fun _ => c := by
      have hl : (xs.take i).length = i := by rw [List.length_take]; omega
      rw [List.take_succ, e1, en2_append, hl]
      simp [en2]
    have hle : (en2 ys p c 0 (xs.take (i + 1))).length ≤ (en2 ys p c 0 xs).length := by
      conv => rhs; rw [← List.take_append_drop (i + 1) xs, en2_append, List.length_append]
      omega
    refine ⟨t, _, rfl, SqT.of upd_same, rfl, _, _, rfl, x, _, rfl, rfl, ⟨rfl, fun j v e => ?_⟩, ?_⟩
    · match j, e with
      | 0, e => cases e
      | 1, e => cases e
      | j + 2, e => exact e
    · unfold tNoTest
      dsimp only
      rw [if_pos rfl]
      have sm2 := sm.trans (same_upd (o := .tup [.int i, x]) hn)
      have hacc2 : (upd H t (.tup [.int i, x])) acc = some (.lst (en2 ys p c 0 (xs.take i))) := same_upd hn _ _ hacc
      refine hin i x e1 _ sm2 _ fun J2 Ok2 H4 s4 Y2 hok2 => ?_
      refine ⟨fun j m2 G => m2 = (ys i x).length - j ∧ j ≤ (ys i x).length ∧ SameT H4 G ∧ Same H1 G ∧ G acc = some (.lst (en2 ys p c 0 (xs.take i) ++ (((ys i x).take j).filter (p i x)).map fun _ => c)),
        ⟨(ys i x).length, by simp, Nat.zero_le _, fun _ _ e => e, sm2.trans s4, by simpa using s4 _ _ hacc2⟩, ?_⟩
      rintro j m2 G ⟨rfl, hj, st, sm5, hus⟩
      have o2 := hok2 G st sm5
      by_cases hjl : j < (ys i x).length
      · refine .inr ⟨Y2.go j _ o2 hjl, fun y G' yy => ?_⟩
        obtain ⟨rfl, hy⟩ := Y2.yld j _ y G' o2 hjl yy
        have hymem : y ∈ ys i x := List.mem_of_getElem? hy
        have htk2 : (ys i x).take (j + 1) = (ys i x).take j ++ [y] := by rw [List.take_succ, hy]; rfl
        refine ⟨⟨rfl, fun k v e => ?_⟩, ?_⟩
        · match k, e with
          | 0, e => exact e
          | 1, e => exact e
          | 2, e => cases e
          | k + 3, e => exact e
        · refine ht i x e1 y hymem _ sm5 _ ?_
          cases hp : p i x y with
          | false =>
            rw [if_neg Bool.false_ne_true]
            refine ⟨(ys i x).length - (j + 1), by omega, rfl, hjl, st, sm5, ?_⟩
            rw [htk2, List.filter_append]
            simpa [hp] using hus
          | true =>
            rw [if_pos rfl]
            refine he i x e1 y hymem _ sm5 _ ⟨_, hus, ?_, (ys i x).length - (j + 1), by omega, rfl, hjl, st.trans (sameT_lst hus), same_updR sm5 ha, ?_⟩
            · have e2 : (((ys i x).take j).filter (p i x)).length ≤ ((ys i x).filter (p i x)).length := by
                conv => rhs; rw [← List.take_append_drop j (ys i x), List.filter_append, List.length_append]
                omega
              have e3 : 0 < (((ys i x).drop j).filter (p i x)).length := List.length_pos_iff_exists_mem.mpr ⟨y, List.mem_filter.mpr ⟨by rw [List.drop_eq_getElem_cons hjl]; rw [(List.getElem?_eq_some_iff.mp hy).2]; simp, hp⟩⟩
              have e4 : ((ys i x).filter (p i x)).length = (((ys i x).take j).filter (p i x)).length + (((ys i x).drop j).filter (p i x)).length := by
                conv => lhs; rw [← List.take_append_drop j (ys i x), List.filter_append, List.length_append]
              rw [htk, List.length_append, List.length_map] at hle
              rw [List.length_append, List.length_map]
              omega
            · rw [upd_same, htk2, List.filter_append, List.map_append, ← List.append_assoc]
              simp [hp]
      · have e : j = (ys i x).length := by omega
        subst e
        refine .inl ⟨Y2.stop _ o2, xs.length - (i + 1), by omega, rfl, hlt, sm5, ?_⟩
        rw [List.take_length] at hus
        rw [htk]
        exact hus
  · have e : i = xs.length := by omega
    subst e
    rw [List.take_length] at hacc
    exact .inl ⟨⟨xs, Fx sm, rfl⟩, fin acc H ha sm hacc⟩
end L2


namespace L2
open PySem PySem.Spec PyProof.Rows
def sumR (n : Nat) (g : Nat → Int) : Int := ((List.range n).map g).sum
theorem sumR_succ (n : Nat) (g : Nat → Int) : sumR (n + 1) g = sumR n g + g n := by simp [sumR, List.range_succ]
theorem sumR_num0 (n : Nat) (g : Int → Int) : ((num0 n).map g).sum = sumR n fun k => g k := by
  unfold sumR num0
  rw [List.map_map]
  rfl
theorem sumR_congr {n : Nat} {f g : Nat → Int} (h : ∀ k, k < n → f k = g k) : sumR n f = sumR n g := by
  unfold sumR
  congr 1
  exact List.map_congr_left fun k hk => h k (List.mem_range.mp hk)
theorem ones_sum (n : Nat) : (List.replicate n (1 : Int)).sum = n := by
  induction n with
  | zero => rfl
  | succ n ih => rw [List.replicate_succ, List.sum_cons, ih]; push_cast; omega
def staysO (ns : List Int) : Int := sumR ns.length fun k => if atO ns k = k then 1 else 0
def risesO (ns : List Int) : Int := sumR (ns.length - 1) fun k => if atO ns k < atO ns (k + 1 : Nat) then 1 else 0
def highsO (ns : List Int) : Int := sumR ns.length fun k => if (ns.take (k + 1)).all (fun a => decide (a ≤ atO ns k)) then 1 else 0
def crossedO (ns : List Int) : Int := sumR ns.length fun k => (((ns.take k).filter fun a => decide (atO ns k < a)).length : Int)
def patO (L : List Int) (x : Int) : List Int := if L.countP (fun a => decide (a < x)) = L.length then L ++ [x] else L.set (L.countP fun a => decide (a < x)) x
def patsO (ns : List Int) : List Int := ns.foldl patO []
def longestO (ns : List Int) : Int := (patsO ns).length
def qN (q : Nat → Int → Bool) : Nat → V → Bool := fun i v => match v with | .int n => q i n | _ => false
def qZ (q : Int → Int → Bool) : V × V → Bool := fun xy => match xy with | (.int a, .int b) => q a b | _ => false
def qC : Nat → V → V → Bool := fun _ x y => match x, y with | .int a, .int b => decide (a < b) | _, _ => false
theorem enF_ones (q : Nat → Int → Bool) : ∀ (k : Nat) (ns : List Int), enF (qN q) (fun _ _ => .int 1) k (ns.map V.int) = (List.replicate ((List.range ns.length).countP fun j => q (k + j) (ns.getD j 0)) (1 : Int)).map V.int
  | _, [] => rfl
  | k, x :: t => by
    show (if q k x then [V.int 1] else []) ++ enF _ _ (k + 1) (t.map V.int) = _
    rw [enF_ones q (k + 1) t, List.length_cons, List.range_succ_eq_map, List.countP_cons, List.countP_map]
    have e : (List.range t.length).countP ((fun j => q (k + j) ((x :: t).getD j 0)) ∘ Nat.succ) = (List.range t.length).countP fun j => q (k + 1 + j) (t.getD j 0) := by
      apply List.countP_congr
      intro j _
      show (q (k + (j + 1)) ((x :: t).getD (j + 1) 0) = true) ↔ _
      rw [show k + (j + 1) = k + 1 + j by omega]
      simp
    rw [e]
    cases h : q k x with
    | true => simp [h, List.replicate_succ]
    | false => simp [h]
theorem countP_sumR (n : Nat) (q : Nat → Bool) : (((List.range n).countP q : Nat) : Int) = sumR n fun k => if q k then 1 else 0 := by
  induction n with
  | zero => rfl
  | succ n ih =>
    rw [sumR_succ, List.range_succ, List.countP_append, ← ih]
    cases h : q n <;> simp [h]
theorem zip_ones (q : Int → Int → Bool) : ∀ ns : List Int, ((((ns.map V.int).zip ((ns.drop 1).map V.int)).filter (qZ q)).map fun _ => V.int 1) =
    (List.replicate ((List.range (ns.length - 1)).countP fun j => q (ns.getD j 0) (ns.getD (j + 1) 0)) (1 : Int)).map V.int
  | [] => rfl
  | [x] => by simp
  | x :: y :: t => by
    have ih := zip_ones q (y :: t)
    simp only [List.drop_succ_cons, List.drop_zero, List.map_cons, List.zip_cons_cons] at ih ⊢
    have el : (x :: y :: t).length - 1 = ((y :: t).length - 1) + 1 := by simp
    rw [el, List.range_succ_eq_map, List.countP_cons, List.countP_map, List.filter_cons]
    have e : (List.range ((y :: t).length - 1)).countP ((fun j => q ((x :: y :: t).getD j 0) ((x :: y :: t).getD (j + 1) 0)) ∘ Nat.succ) = (List.range ((y :: t).length - 1)).countP fun j => q ((y :: t).getD j 0) ((y :: t).getD (j + 1) 0) := by
      apply List.countP_congr
      intro j _
      rfl
    rw [e]
    have e0 : q ((x :: y :: t).getD 0 0) ((x :: y :: t).getD (0 + 1) 0) = q x y := rfl
    rw [e0]
    have ez : qZ q (V.int x, V.int y) = q x y := rfl
    rw [ez]
    cases h : q x y with
    | true =>
      simp only [h, if_true, List.map_cons, List.replicate_succ]
      rw [ih]
    | false =>
      simp only [h, Bool.false_eq_true, if_false, Nat.add_zero]
      exact ih
theorem getD_atO (ns : List Int) (j : Nat) : ns.getD j 0 = atO ns (j : Int) := by unfold atO; rw [Int.toNat_natCast]
theorem count_lt {x : Int} : ∀ {L : List Int}, L.Pairwise (· < ·) → ∀ (j : Nat) a, L[j]? = some a → (a < x ↔ j < L.countP fun b => decide (b < x))
  | [], _, _, _, h => by simp at h
  | b :: t, pw, j, a, h => by
    obtain ⟨p1, p2⟩ := List.pairwise_cons.mp pw
    rw [List.countP_cons]
    by_cases hb : b < x
    · simp only [decide_eq_true hb, if_true]
      cases j with
      | zero =>
        have e : b = a := by simpa using h
        subst e
        exact ⟨fun _ => by omega, fun _ => hb⟩
      | succ j =>
        have := count_lt (x := x) p2 j a (by simpa using h)
        rw [this]
        omega
    · have h0 : t.countP (fun b => decide (b < x)) = 0 := List.countP_eq_zero.mpr fun c hc => by
        have := p1 c hc
        simp
        omega
      simp only [decide_eq_false hb, Bool.false_eq_true, if_false, h0]
      refine ⟨fun hax => ?_, fun h => by omega⟩
      cases j with
      | zero =>
        have e : b = a := by simpa using h
        subst e
        exact absurd hax hb
      | succ j =>
        have hm : a ∈ t := List.mem_of_getElem? (i := j) (by simpa using h)
        have := p1 a hm
        omega
structure Heaps (ns : List Int) (L : List Int) (es : List Int) : Prop where
  inc : L.Pairwise (· < ·)
  len : es.length = ns.length
  up : ∀ (j : Nat) a, L[j]? = some a → ∃ k : Nat, ns[k]? = some a ∧ es[k]? = some ((j : Int) + 1)
  dn : ∀ (k : Nat) e, es[k]? = some e → ∃ (j : Nat) (a b : Int), e = (j : Int) + 1 ∧ L[j]? = some a ∧ ns[k]? = some b ∧ a ≤ b
theorem heaps0 : Heaps [] [] [] := ⟨by simp, rfl, fun j a h => by simp at h, fun k e h => by simp at h⟩
theorem pw_get {L : List Int} (h : L.Pairwise (· < ·)) {i j : Nat} {a b : Int} (hij : i < j) (hi : L[i]? = some a) (hj : L[j]? = some b) : a < b := by
  obtain ⟨l1, e1⟩ := List.getElem?_eq_some_iff.mp hi
  obtain ⟨l2, e2⟩ := List.getElem?_eq_some_iff.mp hj
  have := List.pairwise_iff_getElem.mp h i j l1 l2 hij
  omega
theorem Heaps.step {ns L es : List Int} (Z : Heaps ns L es) (x : Int) : Heaps (ns ++ [x]) (patO L x) (es ++ [1 + ((L.countP fun a => decide (a < x) : Nat) : Int)]) := by
  have ln := Z.len
  have keepN : ∀ {k : Nat} {b : Int}, ns[k]? = some b → (ns ++ [x])[k]? = some b := fun {k b} h => by
    have := (List.getElem?_eq_some_iff.mp h).1
    rw [List.getElem?_append_left this]; exact h
  have keepE : ∀ {k : Nat} {b : Int}, es[k]? = some b → (es ++ [1 + ((L.countP fun a => decide (a < x) : Nat) : Int)])[k]? = some b := fun {k b} h => by
    have := (List.getElem?_eq_some_iff.mp h).1
    rw [List.getElem?_append_left this]; exact h
  have newN : (ns ++ [x])[ns.length]? = some x := by simp
  have newE : (es ++ [1 + ((L.countP fun a => decide (a < x) : Nat) : Int)])[ns.length]? = some (((L.countP fun a => decide (a < x) : Nat) : Int) + 1) := by
    rw [← ln]
    simp
    omega
  have dnE : ∀ (k : Nat) e, (es ++ [1 + ((L.countP fun a => decide (a < x) : Nat) : Int)])[k]? = some e → es[k]? = some e ∨ (k = ns.length ∧ e = ((L.countP fun a => decide (a < x) : Nat) : Int) + 1) := fun k e h => by
    by_cases hk : k < es.length
    · rw [List.getElem?_append_left hk] at h
      exact .inl h
    · have hk2 : k = es.length := by
        have := (List.getElem?_eq_some_iff.mp h).1
        rw [List.length_append] at this
        simp at this
        omega
      subst hk2
      right
      refine ⟨ln, ?_⟩
      simp at h
      omega
  unfold patO
  by_cases hc : L.countP (fun a => decide (a < x)) = L.length
  · rw [if_pos hc]
    have all : ∀ a ∈ L, a < x := fun a ha => by simpa using List.countP_eq_length.mp hc a ha
    refine ⟨?_, by simp [ln], fun j a h => ?_, fun k e h => ?_⟩
    · refine List.pairwise_append.mpr ⟨Z.inc, by simp, fun a ha b hb => ?_⟩
      rw [List.mem_singleton.mp hb]
      exact all a ha
    · by_cases hj : j < L.length
      · rw [List.getElem?_append_left hj] at h
        obtain ⟨k, h1, h2⟩ := Z.up j a h
        exact ⟨k, keepN h1, keepE h2⟩
      · have hj2 : j = L.length := by
          have := (List.getElem?_eq_some_iff.mp h).1
          rw [List.length_append] at this
          simp at this
          omega
        subst hj2
        have e : x = a := by simpa using h
        subst e
        exact ⟨ns.length, newN, by rw [newE, hc]⟩
    · rcases dnE k e h with h | ⟨rfl, rfl⟩
      · obtain ⟨j, a, b, e1, e2, e3, e4⟩ := Z.dn k e h
        have := (List.getElem?_eq_some_iff.mp e2).1
        exact ⟨j, a, b, e1, by rw [List.getElem?_append_left this]; exact e2, keepN e3, e4⟩
      · exact ⟨L.length, x, x, by rw [hc], by simp, newN, Int.le_refl _⟩
  · rw [if_neg hc]
    have hlt : L.countP (fun a => decide (a < x)) < L.length := by
      have := List.countP_le_length (p := fun a => decide (a < x)) (l := L)
      omega
    have hge : x ≤ L[L.countP fun a => decide (a < x)] := by
      have h1 := count_lt (x := x) Z.inc _ _ (List.getElem?_eq_getElem hlt)
      have h2 : ¬ L[L.countP fun a => decide (a < x)] < x := fun z => Nat.lt_irrefl _ (h1.mp z)
      omega
    have gset : ∀ (j : Nat) a, (L.set (L.countP fun a => decide (a < x)) x)[j]? = some a → (j = L.countP (fun a => decide (a < x)) ∧ a = x) ∨ (j ≠ L.countP (fun a => decide (a < x)) ∧ L[j]? = some a) := fun j a h => by
      by_cases hj : j = L.countP fun a => decide (a < x)
      · rw [← hj, List.getElem?_set_self (by omega)] at h
        exact .inl ⟨hj, (Option.some.inj h).symm⟩
      · rw [List.getElem?_set_ne (Ne.symm hj)] at h
        exact .inr ⟨hj, h⟩
    refine ⟨List.pairwise_iff_getElem.mpr fun i j hi hj hij => ?_, by simp [ln], fun j a h => ?_, fun k e h => ?_⟩
    · have gi := gset i _ (List.getElem?_eq_getElem hi)
      have gj := gset j _ (List.getElem?_eq_getElem hj)
      rcases gi with ⟨i1, i2⟩ | ⟨i1, i2⟩ <;> rcases gj with ⟨j1, j2⟩ | ⟨j1, j2⟩
      · omega
      · rw [i2]
        have := pw_get Z.inc (i := L.countP fun a => decide (a < x)) (j := j) (by omega) (List.getElem?_eq_getElem hlt) j2
        omega
      · rw [j2]
        exact (count_lt (x := x) Z.inc i _ i2).mpr (by omega)
      · exact pw_get Z.inc hij i2 j2
    · rcases gset j a h with ⟨rfl, rfl⟩ | ⟨_, h⟩
      · exact ⟨ns.length, newN, newE⟩
      · obtain ⟨k, h1, h2⟩ := Z.up j a h
        exact ⟨k, keepN h1, keepE h2⟩
    · rcases dnE k e h with h | ⟨rfl, rfl⟩
      · obtain ⟨j, a, b, e1, e2, e3, e4⟩ := Z.dn k e h
        by_cases hj : j = L.countP fun a => decide (a < x)
        · refine ⟨j, x, b, e1, by rw [← hj, List.getElem?_set_self (by omega)], keepN e3, ?_⟩
          have ea : L[L.countP fun a => decide (a < x)] = a := by
            rw [hj, List.getElem?_eq_getElem hlt] at e2
            exact Option.some.inj e2
          omega
        · exact ⟨j, a, b, e1, by rw [List.getElem?_set_ne (Ne.symm hj)]; exact e2, keepN e3, e4⟩
      · exact ⟨_, x, x, rfl, by rw [List.getElem?_set_self (by omega)], newN, Int.le_refl _⟩
theorem pats_snoc (ns : List Int) (x : Int) : patsO (ns ++ [x]) = patO (patsO ns) x := by simp [patsO, List.foldl_append]
theorem pat_len (L : List Int) (x : Int) : (patO L x).length ≤ L.length + 1 := by
  unfold patO
  split <;> simp
end L2


namespace L2
open PySem PySem.Spec PyProof.Rows
def Cx.compZ (X : Cx) (s₂ : Shared) (H₂ : Hp) (N' : List Str) (scope : Scope) (cl : List (Str × Addr)) (C : Addr) (fp : List Addr) (z : Str) (Z : Addr) : Cx :=
  { X with N := N', s₀ := s₂, H₀ := H₂, env := compEnvC scope ((z, Z) :: cl) C X.env, outer := X.stack, stack := X.stack, ex := fp, fn := fun x => x == z, pn := [], xe := fun _ _ => False }
structure CompScopeZ (X : Cx) (scope : Scope) (N' : List Str) (n : Nat) (ix : List Nat) (z : Str) : Prop where
  kind : scope.kind = .function
  onecell : ∀ y ∈ scope.names, y.2 = .cell → y.1 = z
  nz : ∀ y : Str, (y, NameKind.free) ∈ scope.names → y ≠ z
  cf : ∀ (a : Addr) (cl : List (Str × Addr)), cellsFrom a scope.names cl = (z, a) :: cl
  pc : ∀ h : Heap, pushCells h scope.names = h.push { cls := .type "cell", data := .cell none }
  names : ∀ y ∈ scope.names, y.2 = .local → scope.names.lookup y.1 = some .local
  free : ∀ y ∈ scope.names, y.2 = .free → X.env.scope.names.lookup y.1 = some .cell ∨ X.env.scope.names.lookup y.1 = some .free
  nodup : ∀ y : Str, (y, NameKind.free) ∈ scope.names → scope.names.lookup y = some .local → False
  len : N'.length = n + ix.length
  at_ : ∀ (j i : Nat), ix[j]? = some i → ∃ x, N'[n + j]? = some x ∧ X.N[i]? = some x ∧ (x, NameKind.free) ∈ scope.names
section
variable {X : Cx} {pins : List (Addr × Obj)} {σ : St} {H : Hp} {s : Shared}
end
section
variable {X : Cx} {elt tg iter : Expr} {ifs : List Expr} {scope : Scope} {pos : Pos} {wi : TI} {g : TG} {tt : TT} {te : TE} {N' : List Str} {n : Nat} {ix : List Nat}
end
end L2


namespace L2
open PySem PySem.Spec PyProof.Rows
mutual
inductive IsK (K : PySem.W.Frag) (H : Hp) : V → PyData → Prop
  | non : IsK K H .non .none
  | bl (b : Bool) : IsK K H (.bl b) (.bool b)
  | int (i : Int) : IsK K H (.int i) (.int i)
  | str (x : Str) : IsK K H (.str x) (.str x)
  | tup {a : Addr} {vs : List V} {ds : List PyData} : SqT K H a vs → IsAllK K H vs ds → IsK K H (.ref a) (.tuple ds)
  | lst {a : Addr} {vs : List V} {ds : List PyData} : H a = some (.lst vs) → IsAllK K H vs ds → IsK K H (.ref a) (.list ds)
inductive IsAllK (K : PySem.W.Frag) (H : Hp) : List V → List PyData → Prop
  | nil : IsAllK K H [] []
  | cons {v : V} {vs : List V} {d : PyData} {ds : List PyData} : IsK K H v d → IsAllK K H vs ds → IsAllK K H (v :: vs) (d :: ds)
end

section
variable {X : Cx} {pins : List (Addr × Obj)} {σ : St} {H : Hp} {s : Shared}
mutual
theorem Inv.readsK (I : Inv X pins σ H s) : ∀ {v : V} {d : PyData} {u : Value}, IsK X.K H v d → RelV v u → ∃ as, Reads s.heap u d as
  | _, _, _, .non, r => by cases (show _ = Value.none from r); exact ⟨_, .none⟩
  | _, _, _, .bl b, r => by cases (show _ = Value.bool b from r); exact ⟨_, .bool b⟩
  | _, _, _, .int i, r => by obtain ⟨t, rfl⟩ := r; exact ⟨_, .int i t⟩
  | _, _, _, .str x, r => by obtain ⟨t, rfl⟩ := r; exact ⟨_, .str x t⟩
  | _, _, _, .tup (a := a) (vs := vs) h al, r => by
    cases (show _ = Value.ref a from r)
    obtain ⟨its, rv, ⟨o, ho, hc, n, hd⟩, _⟩ := I.tuple h
    obtain ⟨as, q⟩ := Inv.readsAllK I al rv
    exact ⟨as, .tuple ho hc hd (by simpa using q)⟩
  | _, _, _, .lst (a := a) (vs := vs) h al, r => by
    cases (show _ = Value.ref a from r)
    obtain ⟨_, its, n, rv, ho⟩ := (show ObjOk X.prog X.w H s.heap a (.lst vs) from I.hok a _ h)
    obtain ⟨as, q⟩ := Inv.readsAllK I al rv
    exact ⟨_, .list ho rfl rfl (by simpa using q)⟩
theorem Inv.readsAllK (I : Inv X pins σ H s) : ∀ {vs : List V} {ds : List PyData} {us : List Value}, IsAllK X.K H vs ds → Vals vs us → ∃ as, ReadsAll s.heap us ds as
  | _, _, _, .nil, .nil => ⟨_, .nil⟩
  | _, _, _, .cons h al, .cons r rs => by
    obtain ⟨as, q⟩ := Inv.readsK I h r
    obtain ⟨bs, q'⟩ := Inv.readsAllK I al rs
    exact ⟨_, .cons q q'⟩
end

def rEqK (K : PySem.W.Frag) : R2 := fun x y H Q => ∃ d e, IsK K H x d ∧ IsK K H y e ∧ SeqAt.shaped d = true ∧ SeqAt.shaped e = true ∧ Q (.bl (PyData.eqv d e)) H
def rNeK (K : PySem.W.Frag) : R2 := fun x y H Q => ∃ d e, IsK K H x d ∧ IsK K H y e ∧ SeqAt.shaped d = true ∧ SeqAt.shaped e = true ∧ Q (.bl (!PyData.eqv d e)) H
end


def rIsiA (K : PySem.W.Frag) : List V → Hp → VK → Prop := fun xs H Q => ∃ x T t b, xs = [x, .ty T] ∧ (TyOf K H x t ∨ ∃ a ys, x = .ref a ∧ SqT K H a ys ∧ t = .type "tuple") ∧ PySem.W.kitOne K t (.type T) = some b ∧ Q (.bl b) H
abbrev RowsK (K : PySem.W.Frag) (H : Hp) (zs : List Addr) (rows : List (List Int)) : Prop := Paired (fun (z : Addr) (r : List Int) => SqT K H z (r.map V.int)) zs rows
def AlikeK (K : PySem.W.Frag) (H : Hp) : Nat → V → V → Prop
  | 0, x, y => ∃ a : Int, x = .int a ∧ y = .int a
  | n + 1, x, y => (∃ a : Int, x = .int a ∧ y = .int a) ∨ ∃ a b xs ys, x = .ref a ∧ y = .ref b ∧ SqT K H a xs ∧ SqT K H b ys ∧ xs.length ≤ 1000 ∧ Paired (AlikeK K H n) xs ys
def spSameK (K : PySem.W.Frag) (n : Nat) : Sp := fun vs H Q _ => ∃ x y, vs = [x, y] ∧ AlikeK K H n x y ∧ ∀ H', Same H H' → Q (.bl true) H'
end L2


namespace L2
open PySem PySem.Spec PyProof.Rows
def Pot (H : Hp) (p q : Addr) : Prop := ∃ (ns : List Int) (seed turn : Int), H p = some (.lst [.ref q, .int seed, .int turn]) ∧ H q = some (.lst (ns.map V.int)) ∧ (∀ n ∈ ns, 0 ≤ n) ∧ ns.length ≤ 63
def spPot (K : PySem.W.Frag) : Sp := fun vs H Q _ => ∃ (a : Addr) (ns : List Int), vs = [.ref a] ∧ SqL K H a (ns.map V.int) ∧ ns.length ≤ 63 ∧ ∀ p q H', Same H H' → Pot H' p q → H p = none → H q = none → Q (.ref p) H'
def spTake : Sp := fun vs H Q _ => ∃ (p q : Addr) (m : Int), vs = [.ref p, .int m] ∧ 0 < m ∧ m < 1073741824 ∧ Pot H p q ∧ ∀ d H', 0 ≤ d → d < m → Pot H' p q → Keep p q H H' → Q (.int d) H'
end L2
namespace L2
open PySem PySem.Spec PyProof.Rows
def atZ (ns : List Int) (k : Int) : Int := if k < 0 then 0 else ns.getD k.toNat 0
def spNumAt (K : PySem.W.Frag) : Sp := fun vs H Q _ => ∃ (a : Addr) (ns : List Int) (k : Int), vs = [.ref a, .int k] ∧ SqT K H a (ns.map V.int) ∧ Q (.int (atZ ns k)) H
end L2
namespace L2
open PySem PySem.Spec PyProof.Rows
def roundsRow (m : Nat) (ns : List Int) : List Int := (num0 (m + 1)).map fun k => atZ ns (k - 1) + ((m : Int) - 1) * atZ ns k
def staysRow (m : Nat) (ns : List Int) : List Int := (num0 (m + 1)).map fun k => atZ ns (k - 1) + ((m : Int) - 1 - k) * atZ ns k + (k + 1) * atZ ns (k + 1)
def risesRow (m : Nat) (ns : List Int) : List Int := (num0 m).map fun k => (k + 1) * atZ ns k + ((m : Int) - k) * atZ ns (k - 1)
def spRow (K : PySem.W.Frag) (B : Nat) (g : Nat → List Int → List Int) : Sp := fun vs H Q _ => ∃ (m : Nat) (a : Addr) (ns : List Int), vs = [.int m, .ref a] ∧ 1 ≤ m ∧ m ≤ B ∧ SqT K H a (ns.map V.int) ∧ ns.length ≤ 1000 ∧ ∀ p H', Same H H' → H' p = some (.tup ((g m ns).map V.int)) → Q (.ref p) H'
end L2
namespace L2
open PySem PySem.Spec PyProof.Rows
section
variable {X : Cx}
def rSlK (K : PySem.W.Frag) : V → Option Int → Option Int → Hp → VK → Prop := fun x lo hi H Q => ∃ a xs, x = .ref a ∧ SqT K H a xs ∧ ∀ p H', Same H H' → SqT K H' p (cutV xs lo hi) → Q (.ref p) H'
def rSumT (K : PySem.W.Frag) : List V → Hp → VK → Prop := fun xs H Q => ∃ (l : Addr) (ns : List Int), xs = [.ref l] ∧ SqT K H l (ns.map V.int) ∧ Q (.int ns.sum) H
end
def win (ns : List Int) (lo : Int) (n : Nat) : Int := ((List.range n).map fun (i : Nat) => atZ ns (lo + (i : Int))).sum
end L2
namespace L2
open PySem PySem.Spec PyProof.Rows
def crossedRow (m : Nat) (ns : List Int) : List Int := (num0 (m * (m - 1) / 2 + 1)).map fun k => win ns (k - (m : Int) + 1) m
end L2
namespace L2
open PySem PySem.Spec PyProof.Rows
def kinds5 : List Str := ["rounds", "stays", "rises", "highs", "crossed"]
def rowOf (kind : Str) (m : Nat) (ns : List Int) : List Int :=
  if kind = "crossed" then crossedRow m ns else if kind = "rises" then risesRow m ns else if kind = "stays" then staysRow m ns else roundsRow m ns
def bOf (kind : Str) : Nat := if kind = "crossed" then 24 else 60
def spNext (K : PySem.W.Frag) : Sp := fun vs H Q _ => ∃ (kind : Str) (m : Nat) (a : Addr) (ns : List Int), vs = [.str kind, .int m, .ref a] ∧ kind ∈ kinds5 ∧ 1 ≤ m ∧ m ≤ bOf kind ∧ SqT K H a (ns.map V.int) ∧ ns.length ≤ 1000 ∧ ∀ p H', Same H H' → H' p = some (.tup ((rowOf kind m ns).map V.int)) → Q (.ref p) H'
def rowZ (kind : Str) : Nat → List Int
  | 0 => [1]
  | n + 1 => rowOf kind (n + 1) (rowZ kind n)
def rowsZ (kind : Str) (n : Nat) : List (List Int) := (List.range (n + 1)).map (rowZ kind)
def spSteps (K : PySem.W.Frag) : Sp := fun vs H Q _ => ∃ (kind : Str) (m : Nat), vs = [.str kind, .int m] ∧ kind ∈ kinds5 ∧ m ≤ bOf kind ∧ ∀ p zs H', Same H H' → H' p = some (.tup (zs.map V.ref)) → RowsK K H' zs (rowsZ kind m) → Q (.ref p) H'
def spTold (K : PySem.W.Frag) : Sp := fun vs H Q _ => ∃ (kind : Str) (m : Nat), vs = [.str kind, .int m] ∧ kind ∈ kinds5 ∧ m ≤ bOf kind ∧ ∀ p H', Same H H' → SqT K H' p ((rowZ kind m).map V.int) → Q (.ref p) H'
end L2
namespace L2
end L2
namespace L2
open PySem PySem.Spec PyProof.Rows
def wideZ (n : Nat) (ns : List Int) : List Int := List.replicate (n + 1) 0 ++ ns ++ List.replicate (n * (n + 1) + 2) 0
end L2
namespace L2
open PySem PySem.Spec PyProof.Rows
end L2
namespace L2
open PySem PySem.Spec PyProof.Rows
theorem GDict.of {K : PySem.W.Frag} {P : Params} {C : Addr} {kvs : List (Str × Addr)} {es : Array DictEntry} {n : Nat} (l : K.lookup C = some { cls := .type "dict", data := .dict es n }) (en : Ents P es.toList kvs) (nd : (kvs.map (·.1)).Nodup) : GDict K P C kvs := ⟨⟨es, n, l, en⟩, nd⟩
theorem CalF.of {P : Program} {w : World} {K : PySem.W.Frag} {mg : Str → Option Value} {base : Heap} {k k' : Nat} {x : Str} {f : Addr} {ps : List Str} {sp : Sp} (C : Cal P w K mg base k x ps sp) (h : mg x = some (.ref f)) (hk : k ≤ k') : CalF P w K mg base k' f ps sp := by
  obtain ⟨f', fd, F, hm, kp, hb⟩ := C.ex
  rw [h] at hm
  cases hm
  exact ⟨fd, F.mono hk, kp, hb⟩
end L2


namespace L2
open PySem PySem.Spec PyProof.Rows
def sumI (l : List Int) (f : Int → Int) : Int := (l.map f).sum
theorem sumI_nil (f : Int → Int) : sumI [] f = 0 := rfl
theorem sumI_cons (a : Int) (l : List Int) (f : Int → Int) : sumI (a :: l) f = f a + sumI l f := by simp [sumI]
theorem sumI_app (l l' : List Int) (f : Int → Int) : sumI (l ++ l') f = sumI l f + sumI l' f := by simp [sumI]
theorem sumI_perm {l l' : List Int} (h : l.Perm l') (f : Int → Int) : sumI l f = sumI l' f := by
  induction h with
  | nil => rfl
  | cons a _ ih => rw [sumI_cons, sumI_cons, ih]
  | swap a b t => rw [sumI_cons, sumI_cons, sumI_cons, sumI_cons]; omega
  | trans _ _ i1 i2 => rw [i1, i2]
theorem sumI_map (l : List Int) (g f : Int → Int) : sumI (l.map g) f = sumI l fun x => f (g x) := by
  unfold sumI
  rw [List.map_map]
  rfl
theorem sumI_congr {l : List Int} {f g : Int → Int} (h : ∀ x ∈ l, f x = g x) : sumI l f = sumI l g := by
  unfold sumI
  rw [List.map_congr_left h]
theorem sumI_add (l : List Int) (f g : Int → Int) : (sumI l fun x => f x + g x) = sumI l f + sumI l g := by
  induction l with
  | nil => rfl
  | cons a t ih => rw [sumI_cons, sumI_cons, sumI_cons, ih]; omega
theorem sumI_const (l : List Int) (c : Int) : (sumI l fun _ => c) = l.length * c := by
  induction l with
  | nil => simp [sumI]
  | cons a t ih =>
    rw [sumI_cons, ih, List.length_cons, Int.natCast_add, Int.add_mul]
    omega
theorem sumI_swap (l l' : List Int) (F : Int → Int → Int) : (sumI l fun a => sumI l' fun b => F a b) = sumI l' fun b => sumI l fun a => F a b := by
  induction l with
  | nil =>
    rw [sumI_nil]
    have : (sumI l' fun b => sumI [] fun a => F a b) = sumI l' fun _ => 0 := rfl
    rw [this, sumI_const, Int.mul_zero]
  | cons a t ih =>
    rw [sumI_cons, ih, ← sumI_add]
    exact sumI_congr fun b _ => (sumI_cons a t fun a => F a b).symm
theorem sumI_num0 (n : Nat) (f : Int → Int) : sumI (num0 n) f = sumR n fun k => f k := sumR_num0 n f
theorem sumR_split (a b : Nat) (f : Nat → Int) : sumR (a + b) f = sumR a f + sumR b fun k => f (a + k) := by
  induction b with
  | zero => simp [sumR]
  | succ b ih => rw [← Nat.add_assoc, sumR_succ, sumR_succ, ih]; omega
theorem sumR_addF (n : Nat) (f g : Nat → Int) : (sumR n fun k => f k + g k) = sumR n f + sumR n g := by
  induction n with
  | zero => rfl
  | succ n ih => rw [sumR_succ, sumR_succ, sumR_succ, ih]; omega
theorem sumR_one (n : Nat) : (sumR n fun _ => 1) = n := by
  induction n with
  | zero => rfl
  | succ n ih => rw [sumR_succ, ih]; omega
theorem sumR_zero (n : Nat) : (sumR n fun _ => 0) = 0 := by
  induction n with
  | zero => rfl
  | succ n ih => rw [sumR_succ, ih]; omega
theorem num0_rev (n : Nat) : (num0 n).map (fun k => (n : Int) - 1 - k) = (num0 n).reverse := by
  apply List.ext_getElem
  · simp
  · intro i h1 h2
    have hl : i < n := by simpa [num0] using h2
    simp [num0, List.getElem_reverse]
    omega
theorem sumR_rev (n : Nat) (f : Nat → Int) : sumR n f = sumR n fun k => f (n - 1 - k) := by
  have h1 := sumI_num0 n fun k => f k.toNat
  have h2 := sumI_num0 n fun k => f (n - 1 - k.toNat)
  rw [show (sumR n fun k => f ((k : Int)).toNat) = sumR n f from rfl] at h1
  rw [show (sumR n fun k => f (n - 1 - ((k : Int)).toNat)) = sumR n fun k => f (n - 1 - k) from rfl] at h2
  rw [← h1, ← h2, ← sumI_perm (List.reverse_perm (num0 n)), ← num0_rev, sumI_map]
  refine sumI_congr fun k hk => ?_
  have := mem_num0.mp hk
  rw [show ((n : Int) - 1 - k).toNat = n - 1 - k.toNat by omega]
theorem num0_app (a b : Nat) : num0 (a + b) = num0 a ++ (num0 b).map fun k => (a : Int) + k := by
  unfold num0
  rw [List.range_add, List.map_append, List.map_map, List.map_map]
  congr 1
theorem low_sum (q : Nat → Prop) [DecidablePred q] : ∀ (n j : Nat), j ≤ n → (sumR n fun k => if (k : Int) < (j : Int) ∧ q k then 1 else 0) = sumR j fun k => if q k then 1 else 0
  | 0, j, h => by rw [show j = 0 by omega]; rfl
  | n + 1, j, h => by
    by_cases e : j = n + 1
    · subst e
      refine sumR_congr fun k hk => ?_
      by_cases c : q k
      · rw [if_pos ⟨by omega, c⟩, if_pos c]
      · rw [if_neg fun z => c z.2, if_neg c]
    · rw [sumR_succ, low_sum q n j (by omega), if_neg fun z => by omega]
      omega
def sqC (n : Nat) (f : Int → Int) : Int := sumI (num0 n) fun a => sumI (num0 n) fun b => if a < b ∧ f b < f a then 1 else 0
theorem takes_cnt (ns : List Int) (b : Int) : ∀ j, j ≤ ns.length → (((ns.take j).filter fun a => decide (b < a)).length : Int) = sumR j fun k => if b < atO ns (k : Int) then 1 else 0
  | 0, _ => by simp [sumR]
  | j + 1, h => by
    rw [sumR_succ, ← takes_cnt ns b j (by omega), List.take_succ, List.getElem?_eq_getElem (by omega), List.filter_append, List.length_append, atO_get (by omega)]
    show ((_ + (List.filter (fun a => decide (b < a)) [ns[j]]).length : Nat) : Int) = _
    rw [List.filter_cons]
    by_cases c : b < ns[j]
    · rw [if_pos (decide_eq_true c), if_pos c]; simp
    · rw [if_neg (by simpa using c), if_neg c]; simp
theorem crossed_sq (ns : List Int) : crossedO ns = sqC ns.length (atO ns) := by
  unfold crossedO sqC
  rw [sumI_swap, sumI_num0]
  refine sumR_congr fun j hj => ?_
  rw [takes_cnt ns _ j (by omega), sumI_num0]
  exact (low_sum (fun k => atO ns (j : Int) < atO ns (k : Int)) ns.length j (by omega)).symm
theorem tri_sum (n : Nat) : 2 * (sumI (num0 n) fun a => sumI (num0 n) fun b => if a < b then 1 else 0) = (n : Int) * (n - 1) := by
  rw [sumI_swap, sumI_num0]
  have e : (sumR n fun j => sumI (num0 n) fun a => if a < (j : Int) then 1 else 0) = sumR n fun j => (j : Int) := sumR_congr fun j hj => by
    rw [sumI_num0]
    have := low_sum (fun _ => True) n j (by omega)
    simp only [and_true, if_true] at this
    rw [this, sumR_one]
  rw [e]
  clear e
  induction n with
  | zero => rfl
  | succ n ih =>
    rw [sumR_succ, Int.mul_add, ih]
    have : ((n + 1 : Nat) : Int) * (((n + 1 : Nat) : Int) - 1) = (n : Int) * (n - 1) + 2 * n := by
      rw [Int.natCast_add, Int.natCast_one, Int.add_sub_cancel, Int.add_mul, Int.mul_sub]
      omega
    omega
theorem reidx {m : Nat} {ns : List Int} (h : Ord m ns) (f : Int → Int) : sumI (num0 m) f = sumI (num0 m) fun x => f (atO ns x) := by
  rw [← sumI_map (num0 m) (atO ns) f]
  have e : (num0 m).map (atO ns) = ns := by
    have := tab_self ns
    rwa [h.len] at this
  rw [e]
  exact (sumI_perm h f).symm
theorem crossed_inv {m : Nat} {ns : List Int} (h : Ord m ns) : crossedO (invO ns) = crossedO ns := by
  rw [crossed_sq, crossed_sq, inv_len, h.len]
  unfold sqC
  rw [reidx h, sumI_swap]
  rw [reidx h]
  refine sumI_congr fun x hx => sumI_congr fun y hy => ?_
  have hx := mem_num0.mp hx
  have hy := mem_num0.mp hy
  rw [inv_at h hx, inv_at h hy]
  by_cases c : atO ns y < atO ns x ∧ x < y
  · rw [if_pos c, if_pos ⟨c.2, c.1⟩]
  · rw [if_neg c, if_neg fun z => c ⟨z.2, z.1⟩]
theorem both_sq {n : Nat} {f : Int → Int} (h : ∀ a b : Int, 0 ≤ a ∧ a < n → 0 ≤ b ∧ b < n → f a = f b → a = b) : 2 * (sqC n f + sqC n fun x => -f x) = (n : Int) * (n - 1) := by
  rw [← tri_sum]
  unfold sqC
  rw [← sumI_add]
  congr 1
  refine sumI_congr fun a ha => ?_
  rw [← sumI_add]
  refine sumI_congr fun b hb => ?_
  have ha := mem_num0.mp ha
  have hb := mem_num0.mp hb
  have := h a b ha hb
  dsimp only
  by_cases c : a < b
  · rw [if_pos c]
    by_cases d : f b < f a
    · rw [if_pos ⟨c, d⟩, if_neg fun z => by omega]; rfl
    · rw [if_neg fun z => d z.2, if_pos ⟨c, by
        have : f a ≠ f b := fun e => by have := this e; omega
        omega⟩]; rfl
  · rw [if_neg c, if_neg fun z => c z.1, if_neg fun z => c z.1]; rfl
end L2


namespace L2
open PySem PySem.Spec PyProof.Rows
def tnO (ns : List Int) : List Int := ns.map fun x => ((ns.length : Int) - 1) - x
def liO (ns : List Int) (by' : Int) : List Int := ns.map fun x => x + by'
def bsO (a b : List Int) : List Int := a ++ liO b a.length
def abO (a b : List Int) : List Int := liO a b.length ++ b
theorem sumI_0 {l : List Int} {f : Int → Int} (h : ∀ x ∈ l, f x = 0) : sumI l f = 0 := by
  rw [sumI_congr h, sumI_const, Int.mul_zero]
theorem sumR_1 (f : Nat → Int) : sumR 1 f = f 0 := by simp [sumR]
theorem atO_map {ns : List Int} {f : Int → Int} {x : Int} (h0 : 0 ≤ x) (h1 : x < ns.length) : atO (ns.map f) x = f (atO ns x) := by
  obtain ⟨k, rfl⟩ : ∃ k : Nat, x = (k : Int) := ⟨x.toNat, by omega⟩
  rw [atO_get (by rw [List.length_map]; omega), atO_get (by omega), List.getElem_map]
theorem atO_left {a b : List Int} {x : Int} (h0 : 0 ≤ x) (h1 : x < a.length) : atO (a ++ b) x = atO a x := by
  obtain ⟨k, rfl⟩ : ∃ k : Nat, x = (k : Int) := ⟨x.toNat, by omega⟩
  rw [atO_get (by rw [List.length_append]; omega), atO_get (by omega), List.getElem_append_left]
theorem atO_right {a b : List Int} {x : Int} (h0 : 0 ≤ x) (h1 : x < b.length) : atO (a ++ b) (a.length + x) = atO b x := by
  obtain ⟨k, rfl⟩ : ∃ k : Nat, x = (k : Int) := ⟨x.toNat, by omega⟩
  rw [show (a.length : Int) + (k : Int) = ((a.length + k : Nat) : Int) by omega, atO_get (by rw [List.length_append]; omega), atO_get (by omega), List.getElem_append_right (by omega)]
  congr 1
  omega
theorem atO_rev {ns : List Int} {x : Int} (h0 : 0 ≤ x) (h1 : x < ns.length) : atO ns.reverse x = atO ns ((ns.length : Int) - 1 - x) := by
  obtain ⟨k, rfl⟩ : ∃ k : Nat, x = (k : Int) := ⟨x.toNat, by omega⟩
  rw [show (ns.length : Int) - 1 - (k : Int) = ((ns.length - 1 - k : Nat) : Int) by omega, atO_get (by rw [List.length_reverse]; omega), atO_get (by omega), List.getElem_reverse]
theorem sqC_congr {n : Nat} {f g : Int → Int} (h : ∀ a b : Int, 0 ≤ a ∧ a < n → 0 ≤ b ∧ b < n → (f b < f a ↔ g b < g a)) : sqC n f = sqC n g := by
  unfold sqC
  refine sumI_congr fun a ha => sumI_congr fun b hb => ?_
  have := h a b (mem_num0.mp ha) (mem_num0.mp hb)
  by_cases c : a < b ∧ f b < f a
  · rw [if_pos c, if_pos ⟨c.1, this.mp c.2⟩]
  · rw [if_neg c, if_neg fun z => c ⟨z.1, this.mpr z.2⟩]
theorem inj_of {m : Nat} {ns : List Int} (h : Ord m ns) : ∀ a b : Int, 0 ≤ a ∧ a < m → 0 ≤ b ∧ b < m → atO ns a = atO ns b → a = b := fun _ _ ha hb e => atO_inj h ha hb e
theorem crossed_turned {m : Nat} {ns : List Int} (h : Ord m ns) : 2 * (crossedO (tnO ns) + crossedO ns) = (m : Int) * (m - 1) := by
  have ln := h.len
  rw [← both_sq (inj_of h), crossed_sq, crossed_sq, ln, show (tnO ns).length = m by unfold tnO; rw [List.length_map, ln], Int.add_comm (sqC m (atO (tnO ns)))]
  congr 2
  refine sqC_congr fun a b ha hb => ?_
  unfold tnO
  rw [atO_map ha.1 (by omega), atO_map hb.1 (by omega)]
  omega
theorem rix (n : Nat) (f : Int → Int) : sumI (num0 n) f = sumI (num0 n) fun k => f ((n : Int) - 1 - k) := by
  rw [← sumI_map (num0 n) (fun k => (n : Int) - 1 - k) f, num0_rev]
  exact (sumI_perm (List.reverse_perm _) f).symm
theorem crossed_mirrored {m : Nat} {ns : List Int} (h : Ord m ns) : 2 * (crossedO ns.reverse + crossedO ns) = (m : Int) * (m - 1) := by
  have ln := h.len
  rw [← both_sq (inj_of h), crossed_sq, crossed_sq, ln, List.length_reverse, ln, Int.add_comm (sqC m (atO ns.reverse))]
  congr 2
  unfold sqC
  rw [rix, sumI_swap, rix]
  refine sumI_congr fun a ha => sumI_congr fun b hb => ?_
  have ha := mem_num0.mp ha
  have hb := mem_num0.mp hb
  rw [atO_rev (by omega) (by omega), atO_rev (by omega) (by omega), ln]
  rw [show (m : Int) - 1 - ((m : Int) - 1 - a) = a by omega, show (m : Int) - 1 - ((m : Int) - 1 - b) = b by omega]
  by_cases c : a < b ∧ -atO ns b < -atO ns a
  · rw [if_pos c, if_pos ⟨by omega, by omega⟩]
  · rw [if_neg c, if_neg fun z => c ⟨by omega, by omega⟩]
theorem sqC_app (n m : Nat) (f : Int → Int) : sqC (n + m) f = sqC n f + (sumI (num0 n) fun a => sumI (num0 m) fun b => if f (n + b) < f a then 1 else 0) + sqC m fun x => f (n + x) := by
  unfold sqC
  rw [num0_app, sumI_app, sumI_map]
  have e1 : (sumI (num0 n) fun a => sumI (num0 n ++ (num0 m).map fun k => (n : Int) + k) fun b => if a < b ∧ f b < f a then 1 else 0) = (sumI (num0 n) fun a => sumI (num0 n) fun b => if a < b ∧ f b < f a then 1 else 0) + sumI (num0 n) fun a => sumI (num0 m) fun b => if f (n + b) < f a then 1 else 0 := by
    rw [← sumI_add]
    refine sumI_congr fun a ha => ?_
    have ha := mem_num0.mp ha
    rw [sumI_app, sumI_map]
    congr 1
    refine sumI_congr fun b hb => ?_
    have hb := mem_num0.mp hb
    by_cases c : f (n + b) < f a
    · rw [if_pos c, if_pos ⟨by omega, c⟩]
    · rw [if_neg c, if_neg fun z => c z.2]
  rw [e1]
  congr 1
  refine sumI_congr fun a ha => ?_
  have ha := mem_num0.mp ha
  rw [sumI_app, sumI_map]
  have e2 : (sumI (num0 n) fun b => if (n : Int) + a < b ∧ f b < f (n + a) then 1 else 0) = 0 := by
    refine sumI_0 fun b hb => ?_
    have hb := mem_num0.mp hb
    exact if_neg fun z => by omega
  rw [e2, Int.zero_add]
  refine sumI_congr fun b hb => ?_
  by_cases c : a < b ∧ f (n + b) < f (n + a)
  · rw [if_pos c, if_pos ⟨by omega, c.2⟩]
  · rw [if_neg c, if_neg fun z => c ⟨by omega, z.2⟩]
theorem li_len (b : List Int) (k : Int) : (liO b k).length = b.length := List.length_map ..
theorem crossed_beside {n m : Nat} {a b : List Int} (ha : Ord n a) (hb : Ord m b) : crossedO (bsO a b) = crossedO a + crossedO b := by
  have la := ha.len
  have lb := hb.len
  rw [crossed_sq, crossed_sq, crossed_sq]
  unfold bsO
  rw [List.length_append, li_len, sqC_app, la, lb]
  have e1 : sqC n (atO (a ++ liO b n)) = sqC n (atO a) := sqC_congr fun x y hx hy => by
    rw [atO_left hx.1 (by omega), atO_left hy.1 (by omega)]
  have e2 : (sqC m fun x => atO (a ++ liO b n) (n + x)) = sqC m (atO b) := sqC_congr fun x y hx hy => by
    have h1 := atO_right (a := a) (b := liO b n) hx.1 (by rw [li_len]; omega)
    have h2 := atO_right (a := a) (b := liO b n) hy.1 (by rw [li_len]; omega)
    rw [la] at h1 h2
    rw [h1, h2]
    unfold liO
    rw [atO_map hx.1 (by omega), atO_map hy.1 (by omega)]
    omega
  have e3 : (sumI (num0 n) fun x => sumI (num0 m) fun y => if atO (a ++ liO b n) (n + y) < atO (a ++ liO b n) x then 1 else 0) = 0 := by
    refine sumI_0 fun x hx => ?_
    refine sumI_0 fun y hy => ?_
    have hx := mem_num0.mp hx
    have hy := mem_num0.mp hy
    have h2 := atO_right (a := a) (b := liO b n) hy.1 (by rw [li_len]; omega)
    rw [la] at h2
    rw [h2, atO_left hx.1 (by omega)]
    unfold liO
    rw [atO_map hy.1 (by omega)]
    have r1 := ha.rng _ (atO_mem hx.1 (by omega))
    have r2 := hb.rng _ (atO_mem hy.1 (by omega))
    exact if_neg fun z => by omega
  rw [e1, e2, e3]
  omega
theorem crossed_above {n m : Nat} {a b : List Int} (ha : Ord n a) (hb : Ord m b) : crossedO (abO a b) = crossedO a + crossedO b + n * m := by
  have la := ha.len
  have lb := hb.len
  have ll := li_len a m
  rw [crossed_sq, crossed_sq, crossed_sq]
  unfold abO
  rw [List.length_append, li_len, sqC_app, la, lb]
  have e1 : sqC n (atO (liO a m ++ b)) = sqC n (atO a) := sqC_congr fun x y hx hy => by
    rw [atO_left hx.1 (by omega), atO_left hy.1 (by omega)]
    unfold liO
    rw [atO_map hx.1 (by omega), atO_map hy.1 (by omega)]
    omega
  have rt : ∀ {y : Int}, 0 ≤ y ∧ y < m → atO (liO a m ++ b) (n + y) = atO b y := fun {y} hy => by
    have h2 := atO_right (a := liO a m) (b := b) hy.1 (by omega)
    rwa [ll, la] at h2
  have e2 : (sqC m fun x => atO (liO a m ++ b) (n + x)) = sqC m (atO b) := sqC_congr fun x y hx hy => by
    rw [rt hx, rt hy]
  have e3 : (sumI (num0 n) fun x => sumI (num0 m) fun y => if atO (liO a m ++ b) (n + y) < atO (liO a m ++ b) x then 1 else 0) = n * m := by
    have : (sumI (num0 n) fun x => sumI (num0 m) fun y => if atO (liO a m ++ b) (n + y) < atO (liO a m ++ b) x then 1 else 0) = sumI (num0 n) fun _ => (m : Int) := by
      refine sumI_congr fun x hx => ?_
      have hx := mem_num0.mp hx
      have : (sumI (num0 m) fun y => if atO (liO a m ++ b) (n + y) < atO (liO a m ++ b) x then 1 else 0) = sumI (num0 m) fun _ => 1 := by
        refine sumI_congr fun y hy => ?_
        have hy := mem_num0.mp hy
        rw [rt hy, atO_left hx.1 (by omega)]
        unfold liO
        rw [atO_map hx.1 (by omega)]
        have r1 := ha.rng _ (atO_mem hx.1 (by omega))
        have r2 := hb.rng _ (atO_mem hy.1 (by omega))
        exact if_pos (by omega)
      rw [this, sumI_const, num0_len', Int.mul_one]
    rw [this, sumI_const, num0_len']
  rw [e1, e2, e3]
  omega
theorem stays_inv {m : Nat} {ns : List Int} (h : Ord m ns) : staysO (invO ns) = staysO ns := by
  unfold staysO
  rw [inv_len, h.len]
  refine sumR_congr fun k hk => ?_
  have hk' : 0 ≤ (k : Int) ∧ (k : Int) < m := by omega
  by_cases c : atO ns k = k
  · have := inv_at h hk'
    rw [c] at this
    rw [if_pos c, if_pos this]
  · rw [if_neg c, if_neg fun z => c ?_]
    have := inv_at h.inv hk'
    rw [inv_inv h, z] at this
    exact this
theorem stays_beside {n m : Nat} {a b : List Int} (ha : Ord n a) (hb : Ord m b) : staysO (bsO a b) = staysO a + staysO b := by
  have la := ha.len
  have lb := hb.len
  unfold staysO bsO
  rw [List.length_append, li_len, la, lb, sumR_split]
  congr 1
  · refine sumR_congr fun k hk => ?_
    rw [atO_left (by omega) (by omega)]
  · refine sumR_congr fun k hk => ?_
    have h2 := atO_right (a := a) (b := liO b n) (x := (k : Int)) (by omega) (by rw [li_len]; omega)
    rw [la] at h2
    rw [show ((n + k : Nat) : Int) = (n : Int) + k by omega, h2]
    unfold liO
    rw [atO_map (by omega) (by omega)]
    by_cases c : atO b k = k
    · rw [if_pos c, if_pos (by omega)]
    · rw [if_neg c, if_neg (by omega)]
theorem stays_list {m : Nat} {ns : List Int} (h : ns.length = m) : staysO ns = sumI (num0 m) fun k => if atO ns k = k then 1 else 0 := by
  unfold staysO
  rw [sumI_num0, h]
theorem stays_around {m : Nat} {ns ar : List Int} (h : Ord m ns) (ha : Ord m ar) : staysO (compO (compO ar ns) (invO ar)) = staysO ns := by
  have l1 := (Ord.comp (Ord.comp ha h) ha.inv).len
  rw [stays_list l1, stays_list h.len, reidx ha]
  refine sumI_congr fun x hx => ?_
  have hx := mem_num0.mp hx
  have hax := ha.rng _ (atO_mem hx.1 (by have := ha.len; omega))
  have hnx := h.rng _ (atO_mem hx.1 (by have := h.len; omega))
  rw [atO_comp hax.1 (by rw [inv_len, ha.len]; omega), inv_at ha hx, atO_comp hx.1 (by have := h.len; omega)]
  by_cases c : atO ns x = x
  · rw [if_pos c, c, if_pos rfl]
  · rw [if_neg c, if_neg fun z => c (atO_inj ha hnx hx z)]
theorem rises_turned {m : Nat} {ns : List Int} (h : Ord m ns) : risesO (tnO ns) + risesO ns = ((m - 1 : Nat) : Int) := by
  have ln := h.len
  unfold risesO
  rw [show (tnO ns).length = m by unfold tnO; rw [List.length_map, ln], ln, ← sumR_addF, ← sumR_one (m - 1)]
  refine sumR_congr fun k hk => ?_
  unfold tnO
  rw [atO_map (by omega) (by omega), atO_map (by omega) (by omega)]
  have : atO ns (k : Int) ≠ atO ns ((k + 1 : Nat) : Int) := fun e => by
    have := atO_inj h (by omega) (by omega) e
    omega
  by_cases c : atO ns (k : Int) < atO ns ((k + 1 : Nat) : Int)
  · rw [if_pos c, if_neg (by omega)]; rfl
  · rw [if_neg c, if_pos (by omega)]; rfl
theorem rises_mirrored {m : Nat} {ns : List Int} (h : Ord m ns) : risesO ns.reverse + risesO ns = ((m - 1 : Nat) : Int) := by
  have ln := h.len
  unfold risesO
  rw [List.length_reverse, ln, sumR_rev, ← sumR_addF, ← sumR_one (m - 1)]
  refine sumR_congr fun k hk => ?_
  rw [atO_rev (by omega) (by omega), atO_rev (by omega) (by omega), ln]
  rw [show (m : Int) - 1 - ((m - 1 - 1 - k : Nat) : Int) = ((k + 1 : Nat) : Int) by omega, show (m : Int) - 1 - ((m - 1 - 1 - k + 1 : Nat) : Int) = (k : Int) by omega]
  have : atO ns (k : Int) ≠ atO ns ((k + 1 : Nat) : Int) := fun e => by
    have := atO_inj h (by omega) (by omega) e
    omega
  by_cases c : atO ns (k : Int) < atO ns ((k + 1 : Nat) : Int)
  · rw [if_pos c, if_neg (by omega)]; rfl
  · rw [if_neg c, if_pos (by omega)]; rfl
theorem rises_li (a : List Int) (k : Int) : risesO (liO a k) = risesO a := by
  unfold risesO
  rw [li_len]
  refine sumR_congr fun j hj => ?_
  unfold liO
  rw [atO_map (by omega) (by omega), atO_map (by omega) (by omega)]
  by_cases c : atO a (j : Int) < atO a ((j + 1 : Nat) : Int)
  · rw [if_pos c, if_pos (by omega)]
  · rw [if_neg c, if_neg (by omega)]
theorem rises_app {a b : List Int} (ha : a ≠ []) (hb : b ≠ []) : risesO (a ++ b) = risesO a + (if atO a ((a.length : Int) - 1) < atO b 0 then 1 else 0) + risesO b := by
  have la := List.length_pos_iff.mpr ha
  have lb := List.length_pos_iff.mpr hb
  unfold risesO
  rw [List.length_append, show a.length + b.length - 1 = (a.length - 1) + (1 + (b.length - 1)) by omega, sumR_split, sumR_split, ← Int.add_assoc]
  congr 1
  · congr 1
    · refine sumR_congr fun k hk => ?_
      rw [atO_left (by omega) (by omega), atO_left (by omega) (by omega)]
    · have h2 := atO_right (a := a) (b := b) (x := 0) (by omega) (by omega)
      rw [sumR_1, show a.length - 1 + 0 = a.length - 1 by omega, atO_left (by omega) (by omega), show ((a.length - 1 + 1 : Nat) : Int) = (a.length : Int) + 0 by omega, h2, show ((a.length - 1 : Nat) : Int) = (a.length : Int) - 1 by omega]
  · refine sumR_congr fun k hk => ?_
    have h1 := atO_right (a := a) (b := b) (x := (k : Int)) (by omega) (by omega)
    have h2 := atO_right (a := a) (b := b) (x := ((k + 1 : Nat) : Int)) (by omega) (by omega)
    rw [show ((a.length - 1 + (1 + k) : Nat) : Int) = (a.length : Int) + (k : Int) by omega, show ((a.length - 1 + (1 + k) + 1 : Nat) : Int) = (a.length : Int) + ((k + 1 : Nat) : Int) by omega, h1, h2]
end L2


namespace L2
open PySem PySem.Spec PyProof.Rows
theorem all_li {l : List Int} {k v : Int} : (liO l k).all (fun a => decide (a ≤ v + k)) = l.all fun a => decide (a ≤ v) := by
  unfold liO
  rw [List.all_map]
  congr 1
  funext a
  show decide (a + k ≤ v + k) = _
  by_cases c : a ≤ v
  · rw [decide_eq_true c, decide_eq_true (by omega)]
  · rw [decide_eq_false c, decide_eq_false (by omega)]
theorem li_take (l : List Int) (k : Int) (j : Nat) : (liO l k).take j = liO (l.take j) k := by
  unfold liO
  rw [List.map_take]
theorem highs_li (a : List Int) (k : Int) : highsO (liO a k) = highsO a := by
  unfold highsO
  rw [li_len]
  refine sumR_congr fun j hj => ?_
  rw [li_take, show atO (liO a k) (j : Int) = atO a (j : Int) + k by unfold liO; rw [atO_map (by omega) (by omega)], all_li]
theorem highs_beside {n m : Nat} {a b : List Int} (ha : Ord n a) (hb : Ord m b) : highsO (bsO a b) = highsO a + highsO b := by
  have la := ha.len
  have lb := hb.len
  rw [← highs_li b n]
  unfold highsO bsO
  rw [List.length_append, li_len, la, lb, li_len, lb, sumR_split]
  congr 1
  · refine sumR_congr fun k hk => ?_
    rw [atO_left (by omega) (by omega), List.take_append_of_le_length (by omega)]
  · refine sumR_congr fun k hk => ?_
    have h2 := atO_right (a := a) (b := liO b n) (x := (k : Int)) (by omega) (by rw [li_len]; omega)
    rw [la] at h2
    rw [show ((n + k : Nat) : Int) = (n : Int) + k by omega, h2, List.take_append, List.take_of_length_le (by omega), show n + k + 1 - a.length = k + 1 by omega, List.all_append]
    have : (a.all fun x => decide (x ≤ atO (liO b n) (k : Int))) = true := by
      rw [List.all_eq_true]
      intro x hx
      have := ha.rng x hx
      refine decide_eq_true ?_
      unfold liO
      rw [atO_map (by omega) (by omega)]
      have r2 := hb.rng _ (atO_mem (x := (k : Int)) (by omega) (by omega))
      omega
    rw [this, Bool.true_and]
theorem highs_above {n m : Nat} {a b : List Int} (ha : Ord n a) (hb : Ord m b) (hn : 0 < n) : highsO (abO a b) = highsO a := by
  have la := ha.len
  have lb := hb.len
  have ll := li_len a m
  rw [← highs_li a m]
  unfold highsO abO
  rw [List.length_append, lb, ll, la, sumR_split]
  have e : (sumR m fun k => if ((liO a m ++ b).take (n + k + 1)).all (fun x => decide (x ≤ atO (liO a m ++ b) ((n + k : Nat) : Int))) then 1 else 0) = 0 := by
    refine (sumR_congr (g := fun _ => 0) fun k hk => ?_).trans (sumR_zero m)
    have h2 := atO_right (a := liO a m) (b := b) (x := (k : Int)) (by omega) (by omega)
    rw [ll, la] at h2
    rw [show ((n + k : Nat) : Int) = (n : Int) + k by omega, h2, List.take_append, List.take_of_length_le (by omega)]
    refine if_neg fun z => ?_
    rw [List.all_append, Bool.and_eq_true, List.all_eq_true] at z
    have r1 := ha.rng _ (atO_mem (x := 0) (by omega) (by omega))
    have r2 := hb.rng _ (atO_mem (x := (k : Int)) (by omega) (by omega))
    have := of_decide_eq_true (z.1 (atO a 0 + m) (List.mem_map.mpr ⟨_, atO_mem (x := 0) (by omega) (by omega), rfl⟩))
    omega
  rw [e, Int.add_zero]
  refine sumR_congr fun k hk => ?_
  rw [atO_left (by omega) (by omega), List.take_append_of_le_length (by omega)]
theorem count_li (L : List Int) (x k : Int) : (liO L k).countP (fun a => decide (a < x + k)) = L.countP fun a => decide (a < x) := by
  unfold liO
  rw [List.countP_map]
  congr 1
  funext a
  show decide (a + k < x + k) = _
  by_cases c : a < x
  · rw [decide_eq_true c, decide_eq_true (by omega)]
  · rw [decide_eq_false c, decide_eq_false (by omega)]
theorem pat_beside {A L : List Int} {x k : Int} (h : ∀ a ∈ A, a < x + k) : patO (A ++ liO L k) (x + k) = A ++ liO (patO L x) k := by
  have cA : A.countP (fun a => decide (a < x + k)) = A.length := List.countP_eq_length.mpr fun a ha => decide_eq_true (h a ha)
  unfold patO
  rw [List.countP_append, cA, count_li, List.length_append, li_len]
  by_cases c : L.countP (fun a => decide (a < x)) = L.length
  · rw [if_pos (by omega), if_pos c, List.append_assoc]
    unfold liO
    rw [List.map_append]
    rfl
  · rw [if_neg (by omega), if_neg c, List.set_append_right _ _ (by omega), show A.length + L.countP (fun a => decide (a < x)) - A.length = L.countP (fun a => decide (a < x)) by omega]
    unfold liO
    rw [List.map_set]
theorem pats_beside {A : List Int} {k : Int} : ∀ (b : List Int), (∀ x ∈ b, ∀ a ∈ A, a < x + k) → ∀ L, (liO b k).foldl patO (A ++ liO L k) = A ++ liO (b.foldl patO L) k
  | [], _, L => rfl
  | x :: b, h, L => by
    show (liO b k).foldl patO (patO (A ++ liO L k) (x + k)) = _
    rw [pat_beside (h x List.mem_cons_self), pats_beside b fun y hy => h y (List.mem_cons_of_mem _ hy)]
    rfl
theorem pat_mem {L : List Int} {x y : Int} (h : y ∈ patO L x) : y ∈ L ∨ y = x := by
  unfold patO at h
  split at h
  · rcases List.mem_append.mp h with h | h
    · exact .inl h
    · exact .inr (List.mem_singleton.mp h)
  · rcases List.mem_or_eq_of_mem_set h with h | h
    · exact .inl h
    · exact .inr h
theorem pats_mem : ∀ (b L : List Int) {y : Int}, y ∈ b.foldl patO L → y ∈ L ∨ y ∈ b
  | [], _, _, h => .inl h
  | x :: b, L, y, h => by
    rcases pats_mem b (patO L x) h with h | h
    · rcases pat_mem h with h | rfl
      · exact .inl h
      · exact .inr List.mem_cons_self
    · exact .inr (List.mem_cons_of_mem _ h)
theorem longest_beside {n m : Nat} {a b : List Int} (ha : Ord n a) (hb : Ord m b) : longestO (bsO a b) = longestO a + longestO b := by
  unfold longestO patsO bsO
  rw [List.foldl_append]
  have := pats_beside (A := a.foldl patO []) (k := (a.length : Int)) b (fun x hx y hy => by
    rcases pats_mem a [] hy with h | h
    · cases h
    · have := ha.rng y h
      have := hb.rng x hx
      have := ha.len
      omega) []
  rw [show (a.foldl patO []) ++ liO [] (a.length : Int) = a.foldl patO [] from List.append_nil _] at this
  rw [this, List.length_append, li_len]
  omega
theorem pat_above {A L : List Int} {x : Int} (h : ∀ a ∈ A, x ≤ a) : patO (L ++ A.drop L.length) x = patO L x ++ A.drop (patO L x).length := by
  have cA : (A.drop L.length).countP (fun a => decide (a < x)) = 0 := List.countP_eq_zero.mpr fun a ha => by
    have := h a (List.mem_of_mem_drop ha)
    simp
    omega
  have hc : L.countP (fun a => decide (a < x)) ≤ L.length := List.countP_le_length
  unfold patO
  rw [List.countP_append, cA, Nat.add_zero, List.length_append, List.length_drop]
  by_cases c : L.countP (fun a => decide (a < x)) = L.length
  · rw [if_pos c]
    by_cases d : A.length ≤ L.length
    · rw [if_pos (by omega), List.drop_eq_nil_of_le d, List.append_nil, List.drop_eq_nil_of_le (by simp; omega), List.append_nil]
    · rw [if_neg (by omega), c, List.set_append_right _ _ (Nat.le_refl _), Nat.sub_self, List.length_append, List.length_singleton, List.append_assoc]
      congr 1
      rw [List.drop_eq_getElem_cons (by omega)]
      rfl
  · rw [if_neg (by omega), if_neg c, List.set_append_left _ _ (by omega), List.length_set]
theorem pats_above {A : List Int} : ∀ (b : List Int), (∀ x ∈ b, ∀ a ∈ A, x ≤ a) → ∀ L, b.foldl patO (L ++ A.drop L.length) = b.foldl patO L ++ A.drop (b.foldl patO L).length
  | [], _, L => rfl
  | x :: b, h, L => by
    show b.foldl patO (patO (L ++ A.drop L.length) x) = _
    rw [pat_above (h x List.mem_cons_self), pats_above b fun y hy => h y (List.mem_cons_of_mem _ hy)]
    rfl
theorem pats_li (a : List Int) (k : Int) : (liO a k).foldl patO [] = liO (a.foldl patO []) k := by
  have := pats_beside (A := []) (k := k) a (fun _ _ _ h => by cases h) []
  simpa [liO] using this
theorem longest_above {n m : Nat} {a b : List Int} (ha : Ord n a) (hb : Ord m b) : longestO (abO a b) = if longestO b > longestO a then longestO b else longestO a := by
  unfold longestO patsO abO
  rw [List.foldl_append, pats_li]
  have := pats_above (A := liO (a.foldl patO []) (b.length : Int)) b (fun x hx y hy => by
    unfold liO at hy
    obtain ⟨z, hz, rfl⟩ := List.mem_map.mp hy
    rcases pats_mem a [] hz with h | h
    · cases h
    · have := ha.rng z h
      have := hb.rng x hx
      have := hb.len
      omega) []
  rw [show [] ++ (liO (a.foldl patO []) (b.length : Int)).drop ([] : List Int).length = liO (a.foldl patO []) (b.length : Int) from rfl] at this
  rw [this, List.length_append, List.length_drop, li_len]
  split
  · omega
  · omega
end L2


namespace L2
open PySem PySem.Spec PyProof.Rows
def Chn (ns ks : List Int) : Prop := ks.Pairwise (fun a b => b < a ∧ atO ns b < atO ns a) ∧ ∀ k ∈ ks, 0 ≤ k ∧ k < ns.length
structure Pat (ns L : List Int) : Prop where
  inc : L.Pairwise (· < ·)
  up : ∀ (j : Nat) a, L[j]? = some a → ∃ k ks, Chn ns (k :: ks) ∧ ks.length = j ∧ atO ns k = a
  dn : ∀ k ks, Chn ns (k :: ks) → ∃ a, L[ks.length]? = some a ∧ a ≤ atO ns k
theorem pw_mem {α : Type} {R S : α → α → Prop} : ∀ {l : List α}, l.Pairwise R → (∀ a ∈ l, ∀ b ∈ l, R a b → S a b) → l.Pairwise S
  | [], _, _ => .nil
  | a :: t, h, f => by
    rw [List.pairwise_cons] at h ⊢
    exact ⟨fun b hb => f a List.mem_cons_self b (List.mem_cons_of_mem _ hb) (h.1 b hb), pw_mem h.2 fun x hx y hy => f x (List.mem_cons_of_mem _ hx) y (List.mem_cons_of_mem _ hy)⟩
theorem Chn.more {ns ks : List Int} (x : Int) (h : Chn ns ks) : Chn (ns ++ [x]) ks := by
  refine ⟨pw_mem h.1 fun a ha b hb r => ?_, fun k hk => ?_⟩
  · have h1 := h.2 a ha
    have h2 := h.2 b hb
    rw [atO_left h1.1 h1.2, atO_left h2.1 h2.2]
    exact r
  · have := h.2 k hk
    rw [List.length_append]
    simp
    omega
theorem Chn.less {ns ks : List Int} {x : Int} (h : Chn (ns ++ [x]) ks) (hk : ∀ k ∈ ks, k < ns.length) : Chn ns ks := by
  refine ⟨pw_mem h.1 fun a ha b hb r => ?_, fun k k1 => ⟨(h.2 k k1).1, hk k k1⟩⟩
  rw [atO_left (h.2 a ha).1 (hk a ha), atO_left (h.2 b hb).1 (hk b hb)] at r
  exact r
theorem pat_get (L : List Int) (x : Int) (j : Nat) : (patO L x)[j]? = if j = L.countP (fun a => decide (a < x)) then some x else L[j]? := by
  have hc : L.countP (fun a => decide (a < x)) ≤ L.length := List.countP_le_length
  unfold patO
  by_cases c : L.countP (fun a => decide (a < x)) = L.length
  · rw [if_pos c, c]
    by_cases d : j = L.length
    · rw [if_pos d, d, List.getElem?_append_right (Nat.le_refl _), Nat.sub_self]
      rfl
    · rw [if_neg d]
      by_cases e : j < L.length
      · rw [List.getElem?_append_left e]
      · rw [List.getElem?_eq_none (by simp; omega), List.getElem?_eq_none (by omega)]
  · rw [if_neg c]
    by_cases d : j = L.countP (fun a => decide (a < x))
    · rw [if_pos d, d, List.getElem?_set_self (by omega)]
    · rw [if_neg d, List.getElem?_set_ne (Ne.symm d)]
theorem snoc_ind {P : List Int → Prop} (h0 : P []) (hs : ∀ l x, P l → P (l ++ [x])) (l : List Int) : P l := by
  have : ∀ r : List Int, P r.reverse := by
    intro r
    induction r with
    | nil => exact h0
    | cons a t ih => rw [List.reverse_cons]; exact hs _ _ ih
  have := this l.reverse
  rwa [List.reverse_reverse] at this
theorem heaps_ex (ns : List Int) : ∃ es, Heaps ns (patsO ns) es := by
  refine snoc_ind (P := fun ns => ∃ es, Heaps ns (patsO ns) es) ⟨[], heaps0⟩ (fun ns x ih => ?_) ns
  · obtain ⟨es, Z⟩ := ih
    exact ⟨_, pats_snoc ns x ▸ Z.step x⟩
theorem atO_end (ns : List Int) (x : Int) : atO (ns ++ [x]) (ns.length : Int) = x := by
  have := atO_right (a := ns) (b := [x]) (x := 0) (by decide) (by simp)
  rw [Int.add_zero] at this
  rw [this]
  rfl
theorem Pat.step {ns L : List Int} (Z : Pat ns L) (x : Int) (hi : (patO L x).Pairwise (· < ·)) : Pat (ns ++ [x]) (patO L x) := by
  have hc : L.countP (fun a => decide (a < x)) ≤ L.length := List.countP_le_length
  have cl := fun (j : Nat) (a : Int) => count_lt (x := x) Z.inc j a
  refine ⟨hi, fun j a hj => ?_, fun k ks hk => ?_⟩
  · rw [pat_get] at hj
    generalize L.countP (fun a => decide (a < x)) = c at hj hc cl
    by_cases d : j = c
    · rw [if_pos d] at hj
      injection hj with hj
      subst hj
      cases j with
      | zero =>
        refine ⟨ns.length, [], ⟨List.pairwise_singleton _ _, fun k hk => ?_⟩, rfl, atO_end _ _⟩
        rw [List.mem_singleton.mp hk, List.length_append]
        simp
        omega
      | succ j =>
        have hl : j < L.length := by omega
        have hb := (cl j L[j] (List.getElem?_eq_getElem hl)).mpr (by omega)
        obtain ⟨k, ks, h1, h2, h3⟩ := Z.up j L[j] (List.getElem?_eq_getElem hl)
        refine ⟨ns.length, k :: ks, ⟨?_, fun e he => ?_⟩, by rw [List.length_cons, h2], atO_end _ _⟩
        · rw [List.pairwise_cons]
          refine ⟨fun e he => ?_, (h1.more x).1⟩
          have r := h1.2 e he
          rw [atO_end, atO_left r.1 r.2]
          refine ⟨r.2, ?_⟩
          rcases List.mem_cons.mp he with rfl | he
          · omega
          · have := (List.pairwise_cons.mp h1.1).1 e he
            omega
        · rcases List.mem_cons.mp he with rfl | he
          · rw [List.length_append]; simp; omega
          · exact (h1.more x).2 e he
    · rw [if_neg d] at hj
      obtain ⟨k, ks, h1, h2, h3⟩ := Z.up j a hj
      have r := h1.2 k List.mem_cons_self
      exact ⟨k, ks, h1.more x, h2, by rw [atO_left r.1 r.2]; exact h3⟩
  · rw [pat_get]
    generalize L.countP (fun a => decide (a < x)) = c at hc cl
    have rk := hk.2 k List.mem_cons_self
    rw [List.length_append, List.length_singleton] at rk
    have pk := List.pairwise_cons.mp hk.1
    by_cases e : k = ns.length
    · subst e
      rw [atO_end]
      have hks : ∀ q ∈ ks, q < ns.length := fun q hq => (pk.1 q hq).1
      by_cases d : ks.length = c
      · exact ⟨x, if_pos d, Int.le_refl _⟩
      · rw [if_neg d]
        cases ks with
        | nil =>
          have h0 : 0 < c := by
            have : ¬ (0 = c) := d
            omega
          have hl : 0 < L.length := by omega
          exact ⟨L[0], List.getElem?_eq_getElem hl, Int.le_of_lt ((cl 0 L[0] (List.getElem?_eq_getElem hl)).mpr h0)⟩
        | cons k2 ks2 =>
          have hch : Chn ns (k2 :: ks2) := Chn.less ⟨pk.2, fun q hq => hk.2 q (List.mem_cons_of_mem _ hq)⟩ hks
          obtain ⟨a, g1, g2⟩ := Z.dn k2 ks2 hch
          have r2 := hch.2 k2 List.mem_cons_self
          have lt := (pk.1 k2 List.mem_cons_self).2
          rw [atO_end, atO_left r2.1 r2.2] at lt
          have h1 := (cl _ a g1).mp (by omega)
          rw [List.length_cons] at d ⊢
          have hl : ks2.length + 1 < L.length := by omega
          exact ⟨L[ks2.length + 1], List.getElem?_eq_getElem hl, Int.le_of_lt ((cl _ _ (List.getElem?_eq_getElem hl)).mpr (by omega))⟩
    · have hall : ∀ q ∈ k :: ks, q < ns.length := fun q hq => by
        rcases List.mem_cons.mp hq with rfl | hq
        · omega
        · have := (pk.1 q hq).1
          omega
      have hch := hk.less hall
      obtain ⟨a, g1, g2⟩ := Z.dn k ks hch
      rw [atO_left rk.1 (hall k List.mem_cons_self)]
      by_cases d : ks.length = c
      · refine ⟨x, if_pos d, ?_⟩
        have := (cl _ a g1)
        have : ¬ a < x := fun z => by have := this.mp z; omega
        omega
      · exact ⟨a, by rw [if_neg d]; exact g1, g2⟩
theorem pat_all (ns : List Int) : Pat ns (patsO ns) := by
  refine snoc_ind (P := fun ns => Pat ns (patsO ns)) ?_ (fun ns x ih => ?_) ns
  · exact ⟨.nil, fun j a h => by simp [patsO] at h, fun k ks h => by have := h.2 k List.mem_cons_self; simp at this; omega⟩
  · have := ih.step x (by
      obtain ⟨es, Z⟩ := heaps_ex (ns ++ [x])
      rw [← pats_snoc]
      exact Z.inc)
    rw [← pats_snoc] at this
    exact this
theorem chn_le {ns ks : List Int} (h : Chn ns ks) : (ks.length : Int) ≤ longestO ns := by
  unfold longestO
  cases ks with
  | nil => simp
  | cons k ks =>
    obtain ⟨a, g, _⟩ := (pat_all ns).dn k ks h
    have := (List.getElem?_eq_some_iff.mp g).1
    rw [List.length_cons]
    omega
theorem chn_ex (ns : List Int) : ∃ ks, Chn ns ks ∧ (ks.length : Int) = longestO ns := by
  unfold longestO
  by_cases h : (patsO ns).length = 0
  · exact ⟨[], ⟨.nil, fun _ h => by cases h⟩, by rw [h]; rfl⟩
  · have hl : (patsO ns).length - 1 < (patsO ns).length := by omega
    obtain ⟨k, ks, h1, h2, _⟩ := (pat_all ns).up _ _ (List.getElem?_eq_getElem hl)
    exact ⟨k :: ks, h1, by rw [List.length_cons, h2]; omega⟩
theorem inv_le {m : Nat} {ns : List Int} (h : Ord m ns) : longestO ns ≤ longestO (invO ns) := by
  obtain ⟨ks, h1, h2⟩ := chn_ex ns
  rw [← h2, ← List.length_map (as := ks) (atO ns)]
  have ln := h.len
  refine chn_le ⟨?_, fun k hk => ?_⟩
  · rw [List.pairwise_map]
    refine pw_mem h1.1 fun a ha b hb r => ?_
    have r1 := h1.2 a ha
    have r2 := h1.2 b hb
    rw [inv_at h (by omega), inv_at h (by omega)]
    exact ⟨r.2, r.1⟩
  · obtain ⟨q, hq, rfl⟩ := List.mem_map.mp hk
    have r1 := h1.2 q hq
    rw [inv_len, ln]
    exact h.rng _ (atO_mem r1.1 r1.2)
theorem longest_inv {m : Nat} {ns : List Int} (h : Ord m ns) : longestO (invO ns) = longestO ns := by
  have h1 := inv_le h
  have h2 := inv_le h.inv
  rw [inv_inv h] at h2
  omega
end L2


namespace L2
open PySem PySem.Spec PyProof.Rows
theorem row_orbR {ns : List Int} {m : Nat} {x : Int} (h : Ord m ns) (hx : 0 ≤ x ∧ x < m) : ∃ k, rowO ns x = orbO ns x (k + 1) ∧ itO ns x (k + 1) = x ∧ (orbO ns x (k + 1)).Nodup := by
  obtain ⟨⟨k, e, hk⟩, nd⟩ := row_is h hx
  exact ⟨k, e, hk, e ▸ nd⟩
theorem it_rowR {ns : List Int} {m : Nat} {x : Int} (h : Ord m ns) (hx : 0 ≤ x ∧ x < m) : ∀ n, itO ns x n ∈ rowO ns x := by
  obtain ⟨q, er, hq, nd⟩ := row_orbR h hx
  intro n
  rw [er]
  induction n using Nat.strongRecOn with
  | ind n ih =>
    by_cases c : n < q + 1
    · exact mem_orb.mpr ⟨n, c, rfl⟩
    · have e : itO ns x n = itO ns x (n - (q + 1)) := by
        conv => lhs; rw [show n = (q + 1) + (n - (q + 1)) by omega, it_add, hq]
      rw [e]
      exact ih _ (by omega)
theorem row_subR {ns : List Int} {m : Nat} {x k : Int} (h : Ord m ns) (hx : 0 ≤ x ∧ x < m) (hk : k ∈ rowO ns x) : ∀ y, y ∈ rowO ns k ↔ y ∈ rowO ns x := by
  have hkr := row_mem h hx k hk
  obtain ⟨q, er, hq, nd⟩ := row_orbR h hx
  rw [er] at hk
  obtain ⟨j, hj, rfl⟩ := mem_orb.mp hk
  intro y
  constructor
  · intro hy
    obtain ⟨q2, er2, _, _⟩ := row_orbR h hkr
    rw [er2] at hy
    obtain ⟨i, _, rfl⟩ := mem_orb.mp hy
    rw [← it_add]
    exact it_rowR h hx _
  · intro hy
    rw [er] at hy
    obtain ⟨i, _, rfl⟩ := mem_orb.mp hy
    have e : itO ns x i = itO ns (itO ns x j) ((q + 1 - j) + i) := by
      rw [← it_add, show j + (q + 1 - j + i) = (q + 1) + i by omega, it_add, hq]
    rw [e]
    exact it_rowR h hkr _
theorem one_maxR {r : List Int} (nd : r.Nodup) (hne : r ≠ []) : (r.filter fun k => r.all fun y => decide (y ≤ k)).length = 1 := by
  obtain ⟨M, hM, hall⟩ : ∃ M ∈ r, ∀ y ∈ r, y ≤ M := by
    clear nd
    induction r with
    | nil => exact absurd rfl hne
    | cons a t ih =>
      cases t with
      | nil => exact ⟨a, by simp, by simp⟩
      | cons b t =>
        obtain ⟨M, hM, hall⟩ := ih (by simp)
        by_cases c : a ≤ M
        · exact ⟨M, List.mem_cons_of_mem _ hM, fun y hy => by
            rcases List.mem_cons.mp hy with rfl | hy
            · exact c
            · exact hall y hy⟩
        · exact ⟨a, by simp, fun y hy => by
            rcases List.mem_cons.mp hy with rfl | hy
            · exact Int.le_refl _
            · have := hall y hy; omega⟩
  have e : (r.filter fun k => r.all fun y => decide (y ≤ k)) = r.filter fun k => decide (k = M) := by
    refine List.filter_congr fun k hk => ?_
    by_cases c : k = M
    · subst c
      rw [decide_eq_true rfl, List.all_eq_true]
      exact fun y hy => decide_eq_true (hall y hy)
    · rw [decide_eq_false c, List.all_eq_false]
      refine ⟨M, hM, fun z => c ?_⟩
      have := of_decide_eq_true z
      have := hall k hk
      omega
  rw [e]
  have e2 : (r.filter fun k => decide (k = M)).length = r.count M := by
    rw [List.count_eq_countP, List.countP_eq_length_filter]
    congr 1
  rw [e2]
  have c1 := (List.nodup_iff_count.mp nd) M
  have c2 := List.count_pos_iff.mpr hM
  omega
theorem rows_key {ns : List Int} {m : Nat} (h : Ord m ns) : ∀ rows : List (List Int), (∀ r ∈ rows, ∃ f : Int, 0 ≤ f ∧ f < m ∧ r = rowO ns f) → (rows.flatten.filter fun k => (rowO ns k).all fun y => decide (y ≤ k)).length = rows.length := by
  intro rows
  induction rows with
  | nil => intro _; rfl
  | cons r t ih =>
    intro hr
    rw [List.flatten_cons, List.filter_append, List.length_append, ih (fun r hr' => hr r (List.mem_cons_of_mem _ hr'))]
    obtain ⟨f, f0, f1, rfl⟩ := hr r (by simp)
    have e : ((rowO ns f).filter fun k => (rowO ns k).all fun y => decide (y ≤ k)) = (rowO ns f).filter fun k => (rowO ns f).all fun y => decide (y ≤ k) := by
      refine List.filter_congr fun k hk => ?_
      have hs := row_subR h ⟨f0, f1⟩ hk
      apply Bool.eq_iff_iff.mpr
      rw [List.all_eq_true, List.all_eq_true]
      exact ⟨fun a y hy => a y ((hs y).mpr hy), fun a y hy => a y ((hs y).mp hy)⟩
    rw [e, one_maxR (row_is h ⟨f0, f1⟩).nd (fun z => by have := (row_len h ⟨f0, f1⟩).1; rw [z] at this; simp at this), List.length_cons]
    omega
theorem met_rounds {ns : List Int} {m : Nat} (h : Ord m ns) : MetO ns m (roundsO ns) := by
  unfold roundsO walkO
  rw [h.len]
  exact met_walk h (num0 m) (fun f hf => num0_mem hf) met_nil
theorem rows_num {ns : List Int} {m : Nat} (h : Ord m ns) {rows : List (List Int)} (hr : ∀ r ∈ rows, ∃ f : Int, 0 ≤ f ∧ f < m ∧ r = rowO ns f) (hp : rows.flatten.Perm (num0 m)) : rows.length = (roundsO ns).length := by
  rw [← rows_key h rows hr, ← rows_key h _ (met_rounds h).row, List.Perm.length_eq (hp.filter _), List.Perm.length_eq ((rounds_perm h).filter _)]
theorem it_map {ns ns' : List Int} {m : Nat} {g : Int → Int} {x : Int} (h : Ord m ns) (hx : 0 ≤ x ∧ x < m) (hg : ∀ y : Int, 0 ≤ y ∧ y < m → atO ns' (g y) = g (atO ns y)) : ∀ j, itO ns' (g x) j = g (itO ns x j)
  | 0 => rfl
  | j + 1 => by
    show atO ns' (itO ns' (g x) j) = g (atO ns (itO ns x j))
    rw [it_map h hx hg j, hg _ (it_rng h hx j)]
theorem row_map {ns ns' : List Int} {m m' : Nat} {g : Int → Int} {x : Int} (h : Ord m ns) (h' : Ord m' ns') (hx : 0 ≤ x ∧ x < m) (hg : ∀ y : Int, 0 ≤ y ∧ y < m → atO ns' (g y) = g (atO ns y)) (hr : ∀ y : Int, 0 ≤ y ∧ y < m → 0 ≤ g y ∧ g y < m')
    (inj : ∀ y z : Int, 0 ≤ y ∧ y < m → 0 ≤ z ∧ z < m → g y = g z → y = z) : (rowO ns x).map g = rowO ns' (g x) := by
  obtain ⟨⟨k, e, hk⟩, nd⟩ := row_is h hx
  refine row_eq h' (hr x hx) ⟨⟨k, ?_, ?_⟩, ?_⟩
  · rw [e]
    unfold orbO
    rw [List.map_map]
    refine List.map_congr_left fun j _ => ?_
    exact (it_map h hx hg j).symm
  · rw [it_map h hx hg, hk]
  · have rm := row_mem h hx
    refine List.Pairwise.map _ (fun a b (r : a ≠ b ∧ a ∈ rowO ns x ∧ b ∈ rowO ns x) e => r.1 (inj a b (rm a r.2.1) (rm b r.2.2) e)) (pw_mem nd fun a ha b hb r => ⟨r, ha, hb⟩)
theorem flat_map {α β : Type} (g : α → β) : ∀ rows : List (List α), (rows.map fun r => r.map g).flatten = rows.flatten.map g
  | [] => rfl
  | r :: t => by rw [List.map_cons, List.flatten_cons, List.flatten_cons, List.map_append, flat_map g t]
theorem rounds_around {m : Nat} {ns ar : List Int} (h : Ord m ns) (ha : Ord m ar) : (roundsO (compO (compO ar ns) (invO ar))).length = (roundsO ns).length := by
  have h' := Ord.comp (Ord.comp ha h) ha.inv
  have ln := h.len
  have la := ha.len
  have hg : ∀ y : Int, 0 ≤ y ∧ y < m → atO (compO (compO ar ns) (invO ar)) (atO ar y) = atO ar (atO ns y) := fun y hy => by
    have hay := ha.rng _ (atO_mem hy.1 (by omega))
    rw [atO_comp hay.1 (by rw [inv_len, la]; omega), inv_at ha hy, atO_comp hy.1 (by omega)]
  have hr : ∀ y : Int, 0 ≤ y ∧ y < m → 0 ≤ atO ar y ∧ atO ar y < m := fun y hy => ha.rng _ (atO_mem hy.1 (by omega))
  have := rows_num h' (rows := (roundsO ns).map fun r => r.map (atO ar)) (fun r hr' => ?_) ?_
  · rw [← this, List.length_map]
  · obtain ⟨r0, h0, rfl⟩ := List.mem_map.mp hr'
    obtain ⟨f, f0, f1, rfl⟩ := (met_rounds h).row r0 h0
    exact ⟨atO ar f, (hr f ⟨f0, f1⟩).1, (hr f ⟨f0, f1⟩).2, row_map h h' ⟨f0, f1⟩ hg hr (inj_of ha)⟩
  · rw [flat_map]
    refine ((rounds_perm h).map _).trans ?_
    have e := tab_self ar
    rw [la] at e
    rw [e]
    exact ha
theorem Ord.beside {n m : Nat} {a b : List Int} (ha : Ord n a) (hb : Ord m b) : Ord (n + m) (bsO a b) := by
  show (a ++ liO b a.length).Perm (num0 (n + m))
  rw [num0_app, ha.len]
  refine List.Perm.append ha ?_
  unfold liO
  refine (List.Perm.map _ hb).trans ?_
  rw [show (fun x : Int => x + (n : Int)) = fun k => (n : Int) + k from funext fun x => Int.add_comm ..]
theorem Ord.above {n m : Nat} {a b : List Int} (ha : Ord n a) (hb : Ord m b) : Ord (n + m) (abO a b) := by
  show (liO a b.length ++ b).Perm (num0 (n + m))
  rw [Nat.add_comm, num0_app, hb.len]
  refine List.perm_append_comm.trans (List.Perm.append hb ?_)
  unfold liO
  refine (List.Perm.map _ ha).trans ?_
  rw [show (fun x : Int => x + (m : Int)) = fun k => (m : Int) + k from funext fun x => Int.add_comm ..]
theorem rounds_beside {n m : Nat} {a b : List Int} (ha : Ord n a) (hb : Ord m b) : (roundsO (bsO a b)).length = (roundsO a).length + (roundsO b).length := by
  have h' := Ord.beside ha hb
  have la := ha.len
  have lb := hb.len
  have g1 : ∀ y : Int, 0 ≤ y ∧ y < n → atO (bsO a b) (id y) = id (atO a y) := fun y hy => by
    show atO (a ++ liO b a.length) y = atO a y
    exact atO_left hy.1 (by omega)
  have g2 : ∀ y : Int, 0 ≤ y ∧ y < m → atO (bsO a b) ((n : Int) + y) = (n : Int) + atO b y := fun y hy => by
    unfold bsO
    have h2 := atO_right (a := a) (b := liO b n) hy.1 (by rw [li_len]; omega)
    rw [la] at h2 ⊢
    rw [h2]
    unfold liO
    rw [atO_map hy.1 (by omega)]
    omega
  have := rows_num h' (rows := (roundsO a).map (fun r => r.map id) ++ (roundsO b).map fun r => r.map fun y => (n : Int) + y) (fun r hr' => ?_) ?_
  · rw [← this, List.length_append, List.length_map, List.length_map]
  · rcases List.mem_append.mp hr' with hr' | hr'
    · obtain ⟨r0, h0, rfl⟩ := List.mem_map.mp hr'
      obtain ⟨f, f0, f1, rfl⟩ := (met_rounds ha).row r0 h0
      exact ⟨f, f0, by omega, row_map (g := id) ha h' ⟨f0, f1⟩ g1 (fun y hy => ⟨hy.1, by show y < _; omega⟩) fun y z _ _ e => e⟩
    · obtain ⟨r0, h0, rfl⟩ := List.mem_map.mp hr'
      obtain ⟨f, f0, f1, rfl⟩ := (met_rounds hb).row r0 h0
      exact ⟨n + f, by omega, by omega, row_map (g := fun y => (n : Int) + y) hb h' ⟨f0, f1⟩ g2 (fun y hy => ⟨by show 0 ≤ (n : Int) + y; omega, by show (n : Int) + y < _; omega⟩) fun y z _ _ e => by have e : (n : Int) + y = n + z := e; omega⟩
  · rw [List.flatten_append, flat_map, flat_map, List.map_id, num0_app]
    exact List.Perm.append (rounds_perm ha) ((rounds_perm hb).map _)
theorem rounds_invN {m : Nat} {ns : List Int} (h : Ord m ns) : (roundsO (invO ns)).length = (roundsO ns).length := by
  rw [rounds_inv h, List.length_map]
end L2


namespace K07
open PySem PySem.Spec PyProof.Rows L2
def top (i : Nat) : Stmt := PySem.Challenge.pw_shuffletold_k07_counts_of_what_is_made.main.body.getD i (.Pass ⟨0, 0, 0, 0⟩)
end K07


namespace K07
open PySem PySem.Spec PyProof.Rows L2
abbrev s__law_hand : Stmt := top 22
abbrev s__law_pick : Stmt := top 23
abbrev s__law_size : Stmt := top 24
abbrev s__law_any : Stmt := top 25
abbrev s__law_order : Stmt := top 26
section
variable {P : Program} {w : World} {K : PySem.W.Frag} {mg : Str → Option Value} {base : Heap}
theorem sc__law_hand : FnScope ["_law_script", "_law_seed", "_law_cell"] ["_law_script"] (defScope s__law_hand) := ⟨rfl, rfl, rfl, by decide +kernel, rfl, by decide +kernel, by decide +kernel⟩
theorem ok__law_hand {f : Addr} {fd : FuncData} (F : Fun K "_law_hand" "_law_hand" s__law_hand f fd) : FnOk P w K mg base CX0 1 f fd ["_law_script"] (spHand K) := by
  refine F.ok sc__law_hand (fun vs H Q E h => ?_) (fun cdv A outer s H vs Q E hr h => ?_)
  · obtain ⟨a, ns, rfl, _⟩ := h
    rfl
  · obtain ⟨a, ns, rfl, hS, hl, k⟩ := h
    refine ⟨_, (pss_cons (ps_set (i := 1) sc__law_hand.nd rfl (Or.inl rfl) pe_int)
      (pss_cons (ps_for PassesOwn.never rfl (pi_list (pe_slice sl_list (pv 0) po_none (po_some pe_int))) (pg_name (i := 2) sc__law_hand.nd rfl (Or.inl rfl))
        (pss_one (ps_set (i := 1) sc__law_hand.nd rfl (Or.inl rfl) (pe_op op_mod (pe_op op_add (pe_op op_add (pe_op op_mul (pv 1) pe_int) (pe_op op_mod (pv 2) pe_int)) pe_int) pe_int))))
      (pss_one (ps_ret (pe_lst (pa_cons (pe_lc (N' := ["_law_cell"]) (n := 1) (ix := []) rfl (CompScope.of (sc := defScope s__law_hand) (N := ["_law_script", "_law_seed", "_law_cell"]) (by decide +kernel) rfl rfl) (pi_list (pe_slice sl_list (pv 0) po_none (po_some pe_int))) (fun _ _ _ _ _ => ⟨(pg_name (i := 0) (show (["_law_cell"] : List Str).Nodup by decide +kernel) rfl (Or.inl rfl)), (pts_one (pt_cmpR op_ge (pv 0) (pe_op op_pow pe_int pe_int) (nomark _))), (pv 0)⟩)) (pa_cons (pv 1) pa_nil))))))), ?_⟩
    have hcut : ∃ ms : List Int, cutV (ns.map V.int) none (some 63) = ms.map V.int ∧ ms.length ≤ 63 := by
      refine ⟨(ns.drop (HT.sIx (ns.map V.int).length 0 none)).take (HT.sIx (ns.map V.int).length (ns.map V.int).length (some 63) - HT.sIx (ns.map V.int).length 0 none), ?_, ?_⟩
      · unfold cutV
        rw [List.map_take, List.map_drop]
      · rw [List.length_take, List.length_drop]; omega
    obtain ⟨ms, ecut, hms⟩ := hcut
    refine ⟨_, rfl, 63, rfl, a, _, rfl, hS, fun p hp => ⟨p, rfl, ⟨_, SqL.of upd_same⟩, ?_⟩⟩
    have sS : ∀ {H' : Hp}, Same H H' → SqL K H' a (ns.map V.int) := fun s' => s'.seq hS
    refine for_list (K := K) (a := p) (xs := ms.map V.int) (fun i σ H2 => ∃ (seed : Int) (c : Option V), σ = [some (.ref a), some (.int seed), c] ∧ H2 = upd H p (.lst (ms.map V.int))) ⟨19, none, rfl, by rw [ecut]⟩ (fun i σ H2 _ h => by obtain ⟨_, _, _, rfl⟩ := h; exact SqL.of upd_same) ?_ ?_
    · rintro i y σ H2 hi ⟨seed, c, rfl, rfl⟩
      obtain ⟨z, _, rfl⟩ := List.mem_map.mp (List.mem_of_getElem? hi)
      refine ⟨_, rfl, _, _, rfl, rfl, .inr ⟨by decide, by decide⟩, _, rfl, _, _, rfl, rfl, (by show (0 : Int) < 2305843009213693951; decide), _, _, rfl, rfl, _, _, rfl, rfl, _, _, rfl, rfl, (by show (0 : Int) < 2305843009213693951; decide), ?_⟩
      exact ⟨_, _, rfl, rfl⟩
    · rintro σ H2 ⟨seed, c, rfl, rfl⟩
      refine ⟨_, rfl, 63, rfl, a, _, rfl, sS (same_upd hp), fun p' hp' => ⟨p', rfl, ⟨_, SqL.of upd_same⟩, ?_⟩⟩
      rw [ecut]
      refine lc_pure (yields_list (xs := ms.map V.int)) (small1 (by rw [mapI_len]; omega)) (fun v => match v with | .int n => decide (10 ^ (18 : Int).toNat ≤ n) | _ => false) id (fun H' s' => SqL.of (s' _ _ upd_same)) (fun x hx H' s' Q' q => ?_) (fun x hx _ H' s' Q' q => ?_) fun acc hacc => ?_
      · obtain ⟨n, _, rfl⟩ := List.mem_map.mp hx
        exact ⟨_, rfl, _, _, rfl, rfl, ⟨by decide, by decide, by decide⟩, _, _, rfl, rfl, _, rfl, q⟩
      · exact ⟨_, rfl, q⟩
      · refine ⟨_, rfl, (by show 2 ≤ sizeLine; decide), fun r hr' => ?_⟩
        have nacc : r ≠ acc := fun z => by rw [z, upd_same] at hr'; cases hr'
        have hacc1 : H acc = none := by
          rw [upd_ne (fun z => by rw [z, upd_same] at hacc; cases hacc)] at hacc
          rw [upd_ne (fun z => by rw [z, upd_same] at hacc; cases hacc)] at hacc
          exact hacc
        have hr1 : H r = none := by
          rw [upd_ne nacc] at hr'
          rw [upd_ne (fun z => by rw [z, upd_same] at hr'; cases hr')] at hr'
          rw [upd_ne (fun z => by rw [z, upd_same] at hr'; cases hr')] at hr'
          exact hr'
        refine k r acc _ ?_ ?_ hr1 hacc1
        · exact (((same_upd hp).trans (same_upd hp')).trans (same_upd hacc)).trans (same_upd hr')
        · refine ⟨(ms.filter fun n => decide (10 ^ (18 : Int).toNat ≤ n)), seed, upd_same, ?_, fun n hn => ?_, ?_⟩
          · rw [upd_ne (Ne.symm nacc), upd_same, List.map_id, List.filter_map]
            rfl
          · have := (List.mem_filter.mp hn).2
            have := of_decide_eq_true this
            have e : (10 : Int) ^ (18 : Int).toNat = 1000000000000000000 := by decide
            omega
          · exact Nat.le_trans (List.length_filter_le _ _) hms
end
end K07


namespace K07
open PySem PySem.Spec PyProof.Rows L2
section
variable {P : Program} {w : World} {K : PySem.W.Frag} {mg : Str → Option Value} {base : Heap}
theorem sc__law_pick : FnScope ["_law_hand_here", "_law_many", "_law_digit", "_law_mixed"] ["_law_hand_here", "_law_many"] (defScope s__law_pick) := ⟨rfl, rfl, rfl, by decide +kernel, rfl, by decide +kernel, by decide +kernel⟩
theorem ixN_nat {n j : Nat} (h : j < n) : ixN n (j : Int) = some j := by
  unfold ixN
  rw [if_pos (by omega), if_pos (by omega)]
  rfl
theorem neNil {H : Hp} {q e : Addr} {ns : List Int} {Q : VK} (hq : H q = some (.lst (ns.map V.int))) (he : H e = none) (h : Q (.bl (!ns.isEmpty)) (upd H e (.lst []))) : rNeD (.ref q) (.ref e) (upd H e (.lst [])) Q := by
  refine ⟨_, _, .lst (by rw [upd_ne (ne_of_none hq he)]; exact hq) (IsAll.ints ns), .lst upd_same .nil, shaped_lints ns, shaped_lints [], ?_⟩
  have e1 : PyData.eqv (.list (ns.map PyData.int)) (.list []) = ns.isEmpty := by
    show PyData.eqvAll (ns.map PyData.int) [] = _
    cases ns with
    | nil => simp [PyData.eqvAll]
    | cons a r => simp [PyData.eqvAll]
  rw [e1]
  exact h
theorem ok__law_pick {f : Addr} {fd : FuncData} (F : Fun K "_law_pick" "_law_pick" s__law_pick f fd) : FnOk P w K mg base CX0 1 f fd ["_law_hand_here", "_law_many"] spPick := by
  refine F.ok sc__law_pick (fun vs H Q E h => ?_) (fun cdv A outer s H vs Q E hr h => ?_)
  · obtain ⟨p, q, m, rfl, _⟩ := h
    rfl
  · obtain ⟨p, q, m, rfl, hm0, hm1, hh, k⟩ := h
    have hu : _ := hr.units
    refine ⟨_, (pss_cons (ps_while PassesOwn.never (PW.pt (pw_and (pt_cmpR (op_neD hu) (pe_ix ix_list (pv 0) pe_int (fun _ _ => rfl)) (pe_lst pa_nil) (nomark _)) (pw_and1 (pt_cmpR op_eq (pe_ix ix_list (pe_ix ix_list (pv 0) pe_int (fun _ _ => rfl)) pe_int (fun _ _ => rfl)) pe_int (nomark _)))))
        (pss_one (ps_expr (pe_bm PySem.F.plainAttrs_list PySem.F.slot_list_pop PySem.F.type_list_pop mt_popAt (pe_ix ix_list (pv 0) pe_int (fun _ _ => rfl)) (pa_cons pe_int pa_nil)))))
      (pss_cons (ps_if (pt_cmpR (op_neD hu) (pe_ix ix_list (pv 0) pe_int (fun _ _ => rfl)) (pe_lst pa_nil) (nomark _))
        (pss_cons (ps_set (i := 2) sc__law_pick.nd rfl (Or.inl rfl) (pe_op op_mod (pe_ix ix_list (pe_ix ix_list (pv 0) pe_int (fun _ _ => rfl)) pe_int (fun _ _ => rfl)) (pv 1)))
        (pss_cons (ps_asg (pe_op op_fdiv (pe_ix ix_list (pe_ix ix_list (pv 0) pe_int (fun _ _ => rfl)) pe_int (fun _ _ => rfl)) (pv 1)) (pg_sub (pe_ix ix_list (pv 0) pe_int (fun _ _ => rfl)) pe_int set_list))
        (pss_one (ps_ret (pv 2)))))
        pss_nil)
      (pss_cons (ps_asg (pe_op op_mod (pe_op op_add (pe_op op_mul (pe_ix ix_list (pv 0) pe_int (fun _ _ => rfl)) pe_int) pe_int) pe_int) (pg_sub (pv 0) pe_int set_list))
      (pss_cons (ps_set (i := 3) sc__law_pick.nd rfl (Or.inl rfl) (pe_op op_fdiv (pe_ix ix_list (pv 0) pe_int (fun _ _ => rfl)) pe_int))
      (pss_one (ps_ret (pe_op op_mod (pe_op op_fdiv (pe_op op_mod (pe_op op_mul (pv 3) (pe_op op_add (pe_op op_mod (pv 3) pe_int) pe_int)) pe_int) pe_int) (pv 1)))))))), ?_⟩
    refine ⟨fun n σ H1 => ∃ (ns : List Int) (seed : Int), n = ns.length ∧ σ = [some (.ref p), some (.int m), none, none] ∧ H1 p = some (.lst [.ref q, .int seed]) ∧ H1 q = some (.lst (ns.map V.int)) ∧ (∀ n ∈ ns, 0 ≤ n) ∧ ns.length ≤ 63 ∧ Keep p q H H1, ?_, ?_⟩
    · obtain ⟨ns, seed, h1, h2, h3, h4⟩ := hh
      exact ⟨_, ns, seed, rfl, rfl, h1, h2, h3, h4, Keep.refl _ _ _⟩
    rintro n σ H1 ⟨ns, seed, rfl, rfl, hp, hq, hn, hlen, kp⟩
    -- hand[0] != []
    refine ⟨_, rfl, p, _, 0, _, rfl, rfl, SqL.of hp, atI_nat (j := 0) rfl, Nat.zero_le _, fun e he => neNil hq he ⟨_, rfl, ?_⟩⟩
    have hnpq : p ≠ q := Hand.ne ⟨ns, seed, hp, hq, hn, hlen⟩
    have hp1 : (upd H1 e (.lst [])) p = some (.lst [.ref q, .int seed]) := by rw [upd_ne (ne_of_none hp he)]; exact hp
    have hq1 : (upd H1 e (.lst [])) q = some (.lst (ns.map V.int)) := by rw [upd_ne (ne_of_none hq he)]; exact hq
    have kp1 : Keep p q H (upd H1 e (.lst [])) := kp.trans (same_upd he).keep
    cases ns with
    | nil =>
      refine iteF ?_
      refine iteF ?_
      refine ⟨_, rfl, p, _, 0, _, rfl, rfl, SqL.of hp1, atI_nat (j := 0) rfl, Nat.zero_le _, fun e' he' => neNil hq1 he' ⟨_, rfl, ?_⟩⟩
      have hp3 : (upd (upd H1 e (.lst [])) e' (.lst [])) p = some (.lst [.ref q, .int seed]) := by rw [upd_ne (ne_of_none hp1 he')]; exact hp1
      have hq3 : (upd (upd H1 e (.lst [])) e' (.lst [])) q = some (.lst (([] : List Int).map V.int)) := by rw [upd_ne (ne_of_none hq1 he')]; exact hq1
      have kp3 : Keep p q H (upd (upd H1 e (.lst [])) e' (.lst [])) := kp1.trans (same_upd he').keep
      refine iteF ?_
      refine ⟨_, rfl, p, _, 1, _, rfl, rfl, SqL.of hp3, atI_nat (j := 1) rfl, _, _, rfl, rfl, .inr ⟨by decide, by decide⟩, _, _, rfl, rfl, _, _, rfl, rfl, (by show (0 : Int) < 2305843009213693951; decide), _, rfl, p, _, 1, 1, rfl, rfl, hp3, rfl, ?_⟩
      refine ⟨_, rfl, p, _, 1, _, rfl, rfl, SqL.of upd_same, atI_nat (j := 1) rfl, _, _, rfl, rfl, ⟨by decide, by decide⟩, ?_⟩
      refine ⟨_, rfl, _, rfl, _, _, rfl, rfl, (by show (0 : Int) < 8191; decide), _, _, rfl, rfl, _, _, rfl, rfl, .inr ?_, _, _, rfl, rfl, (by show (0 : Int) < 2305843009213693921; decide), _, _, rfl, rfl, ⟨by decide, by decide⟩, _, rfl, _, _, rfl, rfl, hm0, ?_⟩
      · have h1 := Int.emod_nonneg ((seed * 3935559000370003 + 2691343689449507) % 2305843009213693951 / 65537) (by decide : (8191 : Int) ≠ 0)
        have h2 := Int.emod_lt_of_pos ((seed * 3935559000370003 + 2691343689449507) % 2305843009213693951 / 65537) (by decide : (0 : Int) < 8191)
        exact ⟨by omega, by omega⟩
      · refine k _ _ (Int.emod_nonneg _ (by omega)) (Int.emod_lt_of_pos _ hm0) ⟨[], _, upd_same, by rw [upd_ne (Ne.symm hnpq)]; exact hq3, hn, by simp⟩ ?_
        exact kp3.trans fun b o hb h1 _ => by rw [upd_ne h1]; exact hb
    | cons x r =>
      refine iteT ?_
      refine ⟨_, rfl, p, _, 0, _, rfl, rfl, SqL.of hp1, atI_nat (j := 0) rfl, q, _, 0, _, rfl, rfl, SqL.of hq1, atI_nat (j := 0) rfl, rfl, _, rfl, ?_⟩
      refine ite2 (fun hz => ?_) (fun hz => ?_)
      · refine ⟨fun σ' H' => ∃ (ns : List Int) (seed : Int), ns.length < (x :: r).length ∧ σ' = [some (.ref p), some (.int m), none, none] ∧ H' p = some (.lst [.ref q, .int seed]) ∧ H' q = some (.lst (ns.map V.int)) ∧ (∀ n ∈ ns, 0 ≤ n) ∧ ns.length ≤ 63 ∧ Keep p q H H', ?_, ?_⟩
        · rintro σ' H' ⟨ns', seed', hlt, h1, h2, h3, h4, h5, h6⟩
          exact ⟨_, hlt, ns', seed', rfl, h1, h2, h3, h4, h5, h6⟩
        · refine ⟨_, rfl, p, _, 0, _, rfl, rfl, SqL.of hp1, atI_nat (j := 0) rfl, .inl ⟨rfl, _, SqL.of hq1⟩, q, _, 0, 0, _, rfl, rfl, hq1, by decide, by decide, (by simp [seqIndex?]), rfl, ?_⟩
          refine ⟨r, seed, by simp, rfl, by rw [upd_ne hnpq]; exact hp1, by rw [upd_same]; rfl, fun y hy => hn y (List.mem_cons_of_mem _ hy), by have : (x :: r).length = r.length + 1 := rfl; omega, ?_⟩
          exact kp1.trans fun b o hb _ h2 => by rw [upd_ne h2]; exact hb
      · refine ⟨_, rfl, p, _, 0, _, rfl, rfl, SqL.of hp1, atI_nat (j := 0) rfl, Nat.zero_le _, fun e' he' => neNil hq1 he' ⟨_, rfl, ?_⟩⟩
        have hp3 : (upd (upd H1 e (.lst [])) e' (.lst [])) p = some (.lst [.ref q, .int seed]) := by rw [upd_ne (ne_of_none hp1 he')]; exact hp1
        have hq3 : (upd (upd H1 e (.lst [])) e' (.lst [])) q = some (.lst ((x :: r).map V.int)) := by rw [upd_ne (ne_of_none hq1 he')]; exact hq1
        have kp3 : Keep p q H (upd (upd H1 e (.lst [])) e' (.lst [])) := kp1.trans (same_upd he').keep
        refine iteT ?_
        have hx0 : 0 ≤ x := hn x List.mem_cons_self
        refine ⟨_, rfl, p, _, 0, _, rfl, rfl, SqL.of hp3, atI_nat (j := 0) rfl, q, _, 0, _, rfl, rfl, SqL.of hq3, atI_nat (j := 0) rfl, _, rfl, _, _, rfl, rfl, hm0, ?_⟩
        refine ⟨_, rfl, p, _, 0, _, rfl, rfl, SqL.of hp3, atI_nat (j := 0) rfl, q, _, 0, _, rfl, rfl, SqL.of hq3, atI_nat (j := 0) rfl, _, rfl, _, _, rfl, rfl, ⟨hm0, hm1⟩, _, rfl, p, _, 0, _, rfl, rfl, SqL.of hp3, atI_nat (j := 0) rfl, q, _, 0, 0, rfl, rfl, hq3, ixN_nat (j := 0) (by simp), ?_⟩
        refine ⟨_, rfl, ?_⟩
        refine k _ _ (Int.emod_nonneg _ (by omega)) (Int.emod_lt_of_pos _ hm0) ⟨(x / m) :: r, seed, by rw [upd_ne hnpq]; exact hp3, by rw [upd_same]; rfl, fun y hy => ?_, by simpa using hlen⟩ ?_
        · rcases List.mem_cons.mp hy with rfl | hy
          · exact Int.ediv_nonneg hx0 (by omega)
          · exact hn y (List.mem_cons_of_mem _ hy)
        · exact kp3.trans fun b o hb _ h2 => by rw [upd_ne h2]; exact hb
end
end K07


namespace K07
open PySem PySem.Spec PyProof.Rows L2
section
variable {P : Program} {w : World} {K : PySem.W.Frag} {mg : Str → Option Value} {base : Heap}
theorem sc__law_size : FnScope ["_law_hand_here", "_law_most"] ["_law_hand_here", "_law_most"] (defScope s__law_size) := ⟨rfl, rfl, rfl, by decide +kernel, rfl, by decide +kernel, by decide +kernel⟩
theorem ok__law_size {f : Addr} {fd : FuncData} (F : Fun K "_law_size" "_law_size" s__law_size f fd) (C_law_pick : Cal P w K mg base 1 "_law_pick" ["_law_hand_here", "_law_many"] spPick) : FnOk P w K mg base CX0 2 f fd ["_law_hand_here", "_law_most"] spSize := by
  refine F.ok sc__law_size (fun vs H Q E h => ?_) (fun cdv A outer s H vs Q E hr h => ?_)
  · obtain ⟨p, q, m, rfl, _⟩ := h
    rfl
  · obtain ⟨p, q, m, rfl, hm0, hm1, hh, k⟩ := h
    refine ⟨_, (pss_cons (ps_if (pt_cmpR op_eq (pe_cal C_law_pick (hr.mono (by decide)) rfl (pa_cons (pv 0) (pa_cons pe_int pa_nil))) pe_int (nomark _))
        (pss_one (ps_ret (pe_op op_sub (pv 1) (pe_cal C_law_pick (hr.mono (by decide)) rfl (pa_cons (pv 0) (pa_cons pe_int pa_nil))))))
        pss_nil)
      (pss_one (ps_ret (pe_cal C_law_pick (hr.mono (by decide)) rfl (pa_cons (pv 0) (pa_cons pe_int pa_nil)))))), ?_⟩
    refine ⟨_, rfl, p, q, 8, rfl, by decide, by decide, hh, fun d H1 h0 h1 hh1 k1 => ⟨rfl, _, rfl, ?_⟩⟩
    refine ite2 (fun _ => ?_) (fun _ => ?_)
    · refine ⟨_, rfl, _, rfl, p, q, 6, rfl, by decide, by decide, hh1, fun d' H2 h0' h1' hh2 k2 => ⟨_, _, rfl, rfl, ?_⟩⟩
      exact k _ _ (by omega) (by omega) hh2 (k1.trans k2)
    · refine ⟨_, rfl, p, q, 10, rfl, by decide, by decide, hh1, fun d' H2 h0' h1' hh2 k2 => ?_⟩
      exact k _ _ h0' (by omega) hh2 (k1.trans k2)
theorem perm_insert {ys : List Int} {k : Nat} (h : ys.Perm (num0 k)) (i : Nat) : (ys.take i ++ (k : Int) :: ys.drop i).Perm (num0 (k + 1)) := by
  have e : num0 (k + 1) = num0 k ++ [(k : Int)] := by
    unfold num0
    rw [List.range_succ, List.map_append]
    rfl
  rw [e]
  refine List.perm_middle.trans ?_
  rw [List.take_append_drop]
  refine (List.Perm.cons _ h).trans ?_
  exact (List.perm_append_singleton _ _).symm
theorem num0_len (n : Nat) : (num0 n).length = n := by simp [num0]
theorem sc__law_any : FnScope ["_law_hand_here", "_law_many", "_law_order_here", "_law_k"] ["_law_hand_here", "_law_many"] (defScope s__law_any) := ⟨rfl, rfl, rfl, by decide +kernel, rfl, by decide +kernel, by decide +kernel⟩
theorem ok__law_any {f : Addr} {fd : FuncData} (F : Fun K "_law_any" "_law_any" s__law_any f fd) (T : Top mg) (C_law_pick : Cal P w K mg base 1 "_law_pick" ["_law_hand_here", "_law_many"] spPick) : FnOk P w K mg base CX0 2 f fd ["_law_hand_here", "_law_many"] spAny := by
  refine F.ok sc__law_any (fun vs H Q E h => ?_) (fun cdv A outer s H vs Q E hr h => ?_)
  · obtain ⟨p, q, m, rfl, _⟩ := h
    rfl
  · obtain ⟨p, q, m, rfl, hm, hh, k⟩ := h
    refine ⟨_, (pss_cons (ps_set (i := 2) sc__law_any.nd rfl (Or.inl rfl) (pe_lst pa_nil))
      (pss_cons (ps_for PassesOwn.never rfl (pi_range1 rfl T.n_range (pa_cons (pv 1) pa_nil)) (pg_name (i := 3) sc__law_any.nd rfl (Or.inl rfl))
        (pss_one (ps_expr (pe_bm PySem.F.plainAttrs_list PySem.F.slot_list_insert PySem.F.type_list_insert mt_insert (pv 2) (pa_cons (pe_cal C_law_pick (hr.mono (by decide)) rfl (pa_cons (pv 0) (pa_cons (pe_op op_add (pv 3) pe_int) pa_nil))) (pa_cons (pv 3) pa_nil))))))
      (pss_one (ps_ret (pv 2))))), ?_⟩
    refine ⟨Nat.zero_le _, fun l hl => ?_⟩
    refine ⟨_, rfl, (m : Int), rfl, by omega, by omega, ?_⟩
    have hlp : l ≠ p ∧ l ≠ q := by
      obtain ⟨_, _, h1, h2, _⟩ := hh
      exact ⟨Ne.symm (ne_of_none h1 hl), Ne.symm (ne_of_none h2 hl)⟩
    refine for_range (n := (m : Int).toNat) (fun i σ H2 => ∃ (ys : List Int) (c : Option V), σ = [some (.ref p), some (.int m), some (.ref l), c] ∧ ys.Perm (num0 i) ∧ H2 l = some (.lst (ys.map V.int)) ∧ Hand H2 p q ∧ Keep p q H H2) ⟨[], none, rfl, List.Perm.refl _, upd_same, upd_hand hh hl, (same_upd hl).keep⟩ ?_ ?_
    · rintro i σ H2 hi ⟨ys, c, rfl, hp, hl2, hh2, k2⟩
      have hi' : i < m := by omega
      have hlen : ys.length = i := by rw [hp.length_eq, num0_len]
      refine ⟨_, rfl, .inl ⟨rfl, _, SqL.of hl2⟩, _, rfl, _, rfl, _, _, rfl, rfl, p, q, _, rfl, by omega, by omega, hh2, fun d H3 h0 h1 hh3 k3 => ?_⟩
      have hl3 : H3 l = some (.lst (ys.map V.int)) := k3 _ _ hl2 hlp.1 hlp.2
      refine ⟨_, rfl, l, _, d, _, rfl, rfl, hl3, h0, by rw [mapI_len]; omega, small1 (by rw [mapI_len]; omega), ?_⟩
      refine ⟨ys.take d.toNat ++ (i : Int) :: ys.drop d.toNat, _, rfl, perm_insert hp _, ?_, lset_hand hh3 hl3 hlp.1 hlp.2, fun b o hb h1 h2 => by rw [upd_ne (ne_of_none hb hl)]; exact (k2.trans k3) b o hb h1 h2⟩
      rw [upd_same, List.map_append, List.map_cons, List.map_take, List.map_drop, Int.zero_add]
    · rintro σ H2 ⟨ys, c, rfl, hp, hl2, hh2, k2⟩
      refine ⟨_, rfl, k l ys H2 ?_ hl hl2 hh2 k2⟩
      simpa using hp
end
end K07


namespace K07
open PySem PySem.Spec PyProof.Rows L2
def OrdM (H0 : Hp) (p q : Addr) (m : Nat) (σ : L2.St) (H : Hp) : Prop := ∃ (way : Int) (l : Addr) (ys : List Int) (c4 c5 c6 c7 c8 c9 c10 : Option V), σ = [some (.ref p), some (.int m), some (.int way), some (.ref l), c4, c5, c6, c7, c8, c9, c10] ∧ ys.Perm (num0 m) ∧ H l = some (.lst (ys.map V.int)) ∧ H0 l = none ∧ Hand H p q ∧ Keep p q H0 H
def tM (H0 : Hp) (p q : Addr) (m : Nat) : TS := fun D σ H => OrdM H0 p q m σ H ∧ ∀ σ' H', OrdM H0 p q m σ' H' → D.nx σ' H'
theorem num0_nodup (n : Nat) : (num0 n).Nodup := by
  unfold num0
  refine List.Pairwise.map _ (fun a b (h : a ≠ b) => ?_) (List.nodup_range (n := n))
  show (a : Int) ≠ (b : Int)
  omega
theorem getI {ys : List Int} {i : Int} {n : Nat} (hl : ys.length = n) (h0 : 0 ≤ i) (h1 : i < n) : ∃ a, ys[i.toNat]? = some a ∧ atI (ys.map V.int) i = some (.int a) ∧ ixN (ys.map V.int).length i = some i.toNat := by
  have hlt : i.toNat < ys.length := by omega
  refine ⟨ys[i.toNat], List.getElem?_eq_getElem hlt, ?_, ?_⟩
  · have e : ((i.toNat : Nat) : Int) = i := by omega
    have := atI_nat (xs := ys.map V.int) (j := i.toNat) (v := .int ys[i.toNat]) (by rw [List.getElem?_map, List.getElem?_eq_getElem hlt]; rfl)
    rwa [e] at this
  · unfold ixN
    rw [mapI_len, if_pos h0, if_pos (by omega)]
section
variable {P : Program} {w : World} {K : PySem.W.Frag} {mg : Str → Option Value} {base : Heap}
theorem sc__law_order : FnScope ["_law_hand_here", "_law_many", "_law_way", "_law_order_here", "_law_turn", "_law_one", "_law_other", "_law_here", "_law_row", "_law_k", "_law_cut"] ["_law_hand_here", "_law_many"] (defScope s__law_order) := ⟨rfl, rfl, rfl, by decide +kernel, rfl, by decide +kernel, by decide +kernel⟩
set_option maxHeartbeats 4000000 in
theorem ok__law_order {f : Addr} {fd : FuncData} (F : Fun K "_law_order" "_law_order" s__law_order f fd) (T : Top mg) (C_law_pick : Cal P w K mg base 1 "_law_pick" ["_law_hand_here", "_law_many"] spPick) (C_law_any : Cal P w K mg base 2 "_law_any" ["_law_hand_here", "_law_many"] spAny) : FnOk P w K mg base CX0 3 f fd ["_law_hand_here", "_law_many"] spOrder := by
  refine F.ok sc__law_order (fun vs H Q E h => ?_) (fun cdv A outer s H vs Q E hr h => ?_)
  · obtain ⟨p, q, m, rfl, _⟩ := h
    rfl
  · obtain ⟨p, q, m, rfl, hm, hh, k⟩ := h
    have lne : ∀ {l : Addr}, H l = none → l ≠ p ∧ l ≠ q := fun {l} hl => by
      obtain ⟨_, _, h1, h2, _⟩ := hh
      exact ⟨Ne.symm (ne_of_none h1 hl), Ne.symm (ne_of_none h2 hl)⟩
    refine ⟨_, (pss_cons (ps_set (i := 2) sc__law_order.nd rfl (Or.inl rfl) (pe_cal C_law_pick (hr.mono (by decide)) rfl (pa_cons (pv 0) (pa_cons pe_int pa_nil))))
      (pss_cons (ps_set (i := 3) sc__law_order.nd rfl (Or.inl rfl) (pe_callTy (call_list_rng rfl) (by rfl) T.n_list boot_list (pa_cons (pe_callTy call_range1 (by rfl) T.n_range boot_range (pa_cons (pv 1) pa_nil)) pa_nil)))
      (pss_cons (PS.mono (t' := tM H p q m) (ps_if (pt_cmpR op_lt (pv 2) pe_int (nomark _))
        (pss_one (ps_set (i := 3) sc__law_order.nd rfl (Or.inl rfl) (pe_cal C_law_any (hr.mono (by decide)) rfl (pa_cons (pv 0) (pa_cons (pv 1) pa_nil)))))
        pss_nil) ?w1)
      (pss_cons (PS.mono (t' := tM H p q m) (ps_if (pt_cmpR op_eq (pv 2) pe_int (nomark _))
        (pss_one (ps_for PassesOwn.never rfl (pi_range1 rfl T.n_range (pa_cons (pe_op op_mul (pe_cal C_law_pick (hr.mono (by decide)) rfl (pa_cons (pv 0) (pa_cons pe_int pa_nil))) (pe_callTy call_int1 (by rfl) T.n_int boot_int (pa_cons (pe_cmpR op_gt (pv 1) pe_int (nomark _)) pa_nil))) pa_nil)) (pg_name (i := 4) sc__law_order.nd rfl (Or.inl rfl))
          (pss_cons (ps_par (i := 5) (j := 6) rfl sc__law_order.nd rfl rfl (by decide) rfl rfl (pa_cons (pe_cal C_law_pick (hr.mono (by decide)) rfl (pa_cons (pv 0) (pa_cons (pv 1) pa_nil))) (pa_cons (pe_cal C_law_pick (hr.mono (by decide)) rfl (pa_cons (pv 0) (pa_cons (pv 1) pa_nil))) pa_nil)) rfl)
          (pss_cons (ps_set (i := 7) sc__law_order.nd rfl (Or.inl rfl) (pe_ix ix_list (pv 3) (pv 5) (fun _ _ => rfl)))
          (pss_cons (ps_asg (pe_ix ix_list (pv 3) (pv 6) (fun _ _ => rfl)) (pg_sub (pv 3) (pv 5) set_list))
          (pss_one (ps_asg (pv 7) (pg_sub (pv 3) (pv 6) set_list))))))))
        pss_nil) ?w2)
      (pss_cons (PS.mono (t' := tM H p q m) (ps_if (pt_cmpR op_eq (pv 2) pe_int (nomark _))
        (pss_one (ps_set (i := 3) sc__law_order.nd rfl (Or.inl rfl) (pe_rev rv_list (pv 3))))
        pss_nil) ?w3)
      (pss_cons (PS.mono (t' := tM H p q m) (ps_if (pt_cmpR op_eq (pv 2) pe_int (nomark _))
        (pss_cons (ps_set (i := 8) sc__law_order.nd rfl (Or.inl rfl) (pe_cal C_law_any (hr.mono (by decide)) rfl (pa_cons (pv 0) (pa_cons (pv 1) pa_nil))))
        (pss_one (ps_for PassesOwn.never rfl (pi_range1 rfl T.n_range (pa_cons (pv 1) pa_nil)) (pg_name (i := 9) sc__law_order.nd rfl (Or.inl rfl))
          (pss_one (ps_asg (pe_ix ix_list (pv 8) (pe_op op_mod (pe_op op_add (pv 9) pe_int) (pv 1)) (fun _ _ => rfl)) (pg_sub (pv 3) (pe_ix ix_list (pv 8) (pv 9) (fun _ _ => rfl)) set_list))))))
        pss_nil) ?w4)
      (pss_cons (PS.mono (t' := tM H p q m) (ps_if (pt_cmpR op_eq (pv 2) pe_int (nomark _))
        (pss_cons (ps_set (i := 10) sc__law_order.nd rfl (Or.inr rfl) (pe_cal C_law_pick (hr.mono (by decide)) rfl (pa_cons (pv 0) (pa_cons (pe_op op_add (pv 1) pe_int) pa_nil))))
        (pss_one (ps_set (i := 3) sc__law_order.nd rfl (Or.inl rfl) (pe_op op_cat (pe_cal C_law_any (hr.mono (by decide)) rfl (pa_cons (pv 0) (pa_cons (pv 10) pa_nil))) (pe_lc (N' := ["_law_number", "_law_cut"]) (n := 1) (ix := [10]) rfl (CompScope.of (sc := defScope s__law_order) (N := ["_law_hand_here", "_law_many", "_law_way", "_law_order_here", "_law_turn", "_law_one", "_law_other", "_law_here", "_law_row", "_law_k", "_law_cut"]) (by decide +kernel) rfl rfl) (pi_list (pe_cal C_law_any (hr.mono (by decide)) rfl (pa_cons (pv 0) (pa_cons (pe_op op_sub (pv 1) (pv 10)) pa_nil)))) (fun _ _ _ _ _ => ⟨(pg_name (i := 0) (show (["_law_number", "_law_cut"] : List Str).Nodup by decide +kernel) rfl (Or.inl rfl)), pts_nil, (pe_op op_add (pv 1) (pv 0))⟩))))))
        pss_nil) ?w5)
      (pss_one (ps_ret (pe_callTy call_tuple_of (by rfl) T.n_tuple boot_tuple (pa_cons (pv 3) pa_nil))))))))))), ?fin⟩
    case w1 =>
      rintro D σ H1 ⟨⟨way, l, ys, c4, c5, c6, c7, c8, c9, c10, rfl, hp, hl, hl0, hh1, k1⟩, nx⟩
      refine ⟨_, rfl, _, _, rfl, rfl, _, rfl, ite2 (fun _ => ?_) (fun _ => nx _ _ ⟨way, l, ys, c4, c5, c6, c7, c8, c9, c10, rfl, hp, hl, hl0, hh1, k1⟩)⟩
      refine ⟨_, rfl, _, rfl, p, q, m, rfl, hm, hh1, fun l' ys' H2 hp' hn hl' hh2 k2 => nx _ _ ⟨way, l', ys', c4, c5, c6, c7, c8, c9, c10, rfl, hp', hl', k1.free hh hn hh1, hh2, k1.trans k2⟩⟩
    case w2 =>
      rintro D σ H1 ⟨⟨way, l, ys, c4, c5, c6, c7, c8, c9, c10, rfl, hp, hl, hl0, hh1, k1⟩, nx⟩
      refine ⟨_, rfl, rfl, _, rfl, ite2 (fun _ => ?_) (fun _ => nx _ _ ⟨way, l, ys, c4, c5, c6, c7, c8, c9, c10, rfl, hp, hl, hl0, hh1, k1⟩)⟩
      refine ⟨_, rfl, p, q, 4, rfl, by decide, by decide, hh1, fun d H2 h0 h1 hh2 k2 => ?_⟩
      refine ⟨_, rfl, _, _, rfl, rfl, .inr ⟨_, rfl, _, _, rfl, rfl, .inl ⟨by omega, by omega⟩, ?_⟩⟩
      have hj : ∃ n : Nat, d * (if decide ((1 : Int) < m) = true then 1 else 0) = (n : Int) ∧ n ≤ 4 ∧ (n ≠ 0 → 1 < m) := by
        by_cases h : (1 : Int) < m
        · rw [if_pos (by simpa using h)]
          exact ⟨d.toNat, by omega, by omega, fun _ => by omega⟩
        · rw [if_neg (by simpa using h)]
          exact ⟨0, by omega, by omega, fun z => absurd rfl z⟩
      obtain ⟨n, en, hn4, hn0⟩ := hj
      refine ⟨_, rfl, by rw [en]; omega, by rw [en]; omega, ?_⟩
      rw [en]
      have hlp := lne hl0
      refine for_range (n := (n : Int).toNat) (fun i σ H3 => OrdM H p q m σ H3) ⟨way, l, ys, c4, c5, c6, c7, c8, c9, c10, rfl, hp, k2 _ _ hl hlp.1 hlp.2, hl0, hh2, k1.trans k2⟩ ?_ (fun σ H3 h3 => nx _ _ h3)
      rintro i σ H3 hi ⟨way, l, ys, c4, c5, c6, c7, c8, c9, c10, rfl, hp, hl, hl0, hh3, k3⟩
      have hm1 : 1 < m := hn0 (by omega)
      have hlp := lne hl0
      have hlen : ys.length = m := by rw [hp.length_eq, num0_len]
      refine ⟨_, rfl, _, rfl, p, q, m, rfl, by omega, by omega, hh3, fun d1 H4 a0 a1 hh4 k4 => ⟨_, rfl, _, rfl, p, q, m, rfl, by omega, by omega, hh4, fun d2 H5 b0 b1 hh5 k5 => ⟨_, _, rfl, ?_⟩⟩⟩
      have hl5 : H5 l = some (.lst (ys.map V.int)) := k5 _ _ (k4 _ _ hl hlp.1 hlp.2) hlp.1 hlp.2
      obtain ⟨x1, g1, g2, g3⟩ := getI hlen a0 a1
      obtain ⟨x2, f1, f2, f3⟩ := getI hlen b0 b1
      refine ⟨_, rfl, _, rfl, l, _, _, _, rfl, rfl, SqL.of hl5, g2, ?_⟩
      refine ⟨_, rfl, _, rfl, l, _, _, _, rfl, rfl, SqL.of hl5, f2, _, rfl, _, rfl, l, _, _, _, rfl, rfl, hl5, g3, ?_⟩
      refine ⟨_, rfl, _, rfl, _, rfl, l, _, _, d2.toNat, rfl, rfl, upd_same, ?_, ?_⟩
      · rw [List.length_set]; exact f3
      · refine ⟨way, l, (ys.set d1.toNat x2).set d2.toNat x1, _, _, _, _, c8, c9, c10, rfl, (set_swap_perm ys _ _ _ _ g1 f1).trans hp, ?_, hl0, ?_, ?_⟩
        · rw [upd_same, List.map_set, List.map_set]
        · exact lset_hand (lset_hand hh5 hl5 hlp.1 hlp.2) upd_same hlp.1 hlp.2
        · exact fun b o hb h1 h2 => by rw [upd_ne (ne_of_none hb hl0), upd_ne (ne_of_none hb hl0)]; exact ((k3.trans k4).trans k5) b o hb h1 h2
    case w3 =>
      rintro D σ H1 ⟨⟨way, l, ys, c4, c5, c6, c7, c8, c9, c10, rfl, hp, hl, hl0, hh1, k1⟩, nx⟩
      refine ⟨_, rfl, rfl, _, rfl, ite2 (fun _ => ?_) (fun _ => nx _ _ ⟨way, l, ys, c4, c5, c6, c7, c8, c9, c10, rfl, hp, hl, hl0, hh1, k1⟩)⟩
      refine ⟨_, rfl, l, _, rfl, SqL.of hl, fun l' hl' => nx _ _ ⟨way, l', ys.reverse, c4, c5, c6, c7, c8, c9, c10, rfl, (List.reverse_perm ys).trans hp, by rw [upd_same, List.map_reverse], k1.free hh hl' hh1, upd_hand hh1 hl', k1.trans (same_upd hl').keep⟩⟩
    case w4 =>
      rintro D σ H1 ⟨⟨way, l, ys, c4, c5, c6, c7, c8, c9, c10, rfl, hp, hl, hl0, hh1, k1⟩, nx⟩
      refine ⟨_, rfl, rfl, _, rfl, ite2 (fun _ => ?_) (fun _ => nx _ _ ⟨way, l, ys, c4, c5, c6, c7, c8, c9, c10, rfl, hp, hl, hl0, hh1, k1⟩)⟩
      refine ⟨_, rfl, _, rfl, p, q, m, rfl, hm, hh1, fun lr row H2 hpr hnr hlr hh2 k2 => ?_⟩
      have hlp := lne hl0
      have hlr0 : H lr = none := k1.free hh hnr hh1
      have hlrp := lne hlr0
      have hne : l ≠ lr := ne_of_none hl hnr
      have hrl : row.length = m := by rw [hpr.length_eq, num0_len]
      have hnd : row.Nodup := hpr.nodup_iff.mpr (num0_nodup m)
      refine ⟨_, rfl, (m : Int), rfl, by omega, by omega, ?_⟩
      refine for_range (n := (m : Int).toNat) (fun i σ H3 => ∃ (zs : List Int) (c9 : Option V), σ = [some (.ref p), some (.int m), some (.int way), some (.ref l), c4, c5, c6, c7, some (.ref lr), c9, c10] ∧ zs.length = m ∧ (∀ (k : Nat) (a : Int), k < i → row[k]? = some a → ∀ b, row[(k + 1) % m]? = some b → zs[a.toNat]? = some b) ∧ H3 l = some (.lst (zs.map V.int)) ∧ H3 lr = some (.lst (row.map V.int)) ∧ Hand H3 p q ∧ Keep p q H H3)
        ⟨ys, c9, rfl, by rw [hp.length_eq, num0_len], fun k a hk => absurd hk (Nat.not_lt_zero _), k2 _ _ hl hlp.1 hlp.2, hlr, hh2, k1.trans k2⟩ ?_ ?_
      · rintro i σ H3 hi ⟨zs, c9, rfl, hzl, hz, hl3, hlr3, hh3, k3⟩
        have hi' : i < m := by omega
        have hmod : ((0 : Int) + (i : Int) + 1) % (m : Int) = (((i + 1) % m : Nat) : Int) := by
          rw [Int.zero_add]; rfl
        obtain ⟨a, ga, ga2, _⟩ := getI (i := (0 : Int) + (i : Int)) hrl (by omega) (by omega)
        obtain ⟨b, gb, gb2, _⟩ := getI (i := ((0 : Int) + (i : Int) + 1) % (m : Int)) hrl (Int.emod_nonneg _ (by omega)) (Int.emod_lt_of_pos _ (by omega))
        have ga' : row[i]? = some a := by have e : ((0 : Int) + (i : Int)).toNat = i := by omega
                                          rw [e] at ga; exact ga
        have gb' : row[(i + 1) % m]? = some b := by rw [hmod] at gb; exact gb
        have ham := num0_mem (hpr.mem_iff.mp (List.mem_of_getElem? ga'))
        obtain ⟨x, _, _, gx⟩ := getI (i := a) hzl ham.1 ham.2
        refine ⟨_, rfl, _, rfl, _, _, rfl, rfl, _, rfl, _, _, rfl, rfl, by omega, lr, _, _, _, rfl, rfl, SqL.of hlr3, gb2, _, rfl, _, rfl, _, rfl, lr, _, _, _, rfl, rfl, SqL.of hlr3, ga2, l, _, _, _, rfl, rfl, hl3, gx, ?_⟩
        refine ⟨zs.set a.toNat b, _, rfl, by rw [List.length_set]; exact hzl, fun k a' hk hka b' hb' => ?_, by rw [upd_same, List.map_set], by rw [upd_ne (Ne.symm hne)]; exact hlr3, lset_hand hh3 hl3 hlp.1 hlp.2, fun c o hc h1 h2 => by rw [upd_ne (ne_of_none hc hl0)]; exact k3 c o hc h1 h2⟩
        by_cases hki : k = i
        · subst hki
          rw [ga'] at hka; cases hka
          rw [gb'] at hb'; cases hb'
          rw [List.getElem?_set_self (by omega)]
        · have hna : a.toNat ≠ a'.toNat := fun z => by
            have ha' := num0_mem (hpr.mem_iff.mp (List.mem_of_getElem? hka))
            have : a = a' := by omega
            subst this
            obtain ⟨u1, u2⟩ := List.getElem?_eq_some_iff.mp ga'
            obtain ⟨v1, v2⟩ := List.getElem?_eq_some_iff.mp hka
            exact hki ((List.getElem_inj hnd).mp (v2.trans u2.symm))
          rw [List.getElem?_set_ne hna]
          exact hz k a' (by omega) hka b' hb'
      · rintro σ H3 ⟨zs, c9, rfl, hzl, hz, hl3, hlr3, hh3, k3⟩
        refine nx _ _ ⟨way, l, zs, c4, c5, c6, c7, _, c9, c10, rfl, round_perm hpr hzl fun k a hka b hb => hz k a ?_ hka b hb, hl3, hl0, hh3, k3⟩
        have := (List.getElem?_eq_some_iff.mp hka).1
        omega
    case w5 =>
      rintro D σ H1 ⟨⟨way, l, ys, c4, c5, c6, c7, c8, c9, c10, rfl, hp, hl, hl0, hh1, k1⟩, nx⟩
      refine ⟨_, rfl, rfl, _, rfl, ite2 (fun _ => ?_) (fun _ => nx _ _ ⟨way, l, ys, c4, c5, c6, c7, c8, c9, c10, rfl, hp, hl, hl0, hh1, k1⟩)⟩
      refine ⟨_, rfl, _, rfl, _, _, rfl, rfl, p, q, _, rfl, by omega, by omega, hh1, fun cut H2 h0 h1 hh2 k2 => ?_⟩
      obtain ⟨c, rfl⟩ : ∃ c : Nat, cut = (c : Int) := ⟨cut.toNat, by omega⟩
      have hc : c ≤ m := by omega
      refine ⟨_, rfl, _, rfl, p, q, c, rfl, by omega, hh2, fun l1 ys1 H3 hp1 hn1 hl1 hh3 k3 => ?_⟩
      have hl10 : H l1 = none := (k1.trans k2).free hh hn1 hh2
      have hl1p := lne hl10
      refine ⟨_, rfl, _, rfl, _, rfl, _, _, rfl, rfl, p, q, m - c, by rw [Int.ofNat_sub hc], by omega, hh3, fun l2 ys2 H4 hp2 hn2 hl2 hh4 k4 => ⟨l2, rfl, ⟨_, SqL.of hl2⟩, ?_⟩⟩
      have hl2len : ys2.length ≤ 1000 := by rw [hp2.length_eq, num0_len]; omega
      refine lc_pure (yields_list (xs := ys2.map V.int)) (small1 (by rw [mapI_len]; exact hl2len)) (fun _ => true) (fun v => match v with | .int i => .int ((c : Int) + i) | v => v) (fun H' s' => SqL.of (s' _ _ hl2)) (fun _ _ _ _ _ q => q) (fun x hx _ H' s' Q' q => ?_) fun acc hacc => ?_
      · obtain ⟨n, _, rfl⟩ := List.mem_map.mp hx
        exact ⟨_, rfl, _, rfl, _, _, rfl, rfl, q⟩
      · have hl14 : H4 l1 = some (.lst (ys1.map V.int)) := k4 _ _ hl1 hl1p.1 hl1p.2
        have hk4 : Keep p q H H4 := ((k1.trans k2).trans k3).trans k4
        rw [filter_true, map_of_ints (g := fun i => (c : Int) + i) fun n => rfl]
        refine ⟨l1, acc, _, _, rfl, rfl, by rw [upd_ne (ne_of_none hl14 hacc)]; exact hl14, upd_same, ?_, fun l' hl' => ?_⟩
        · simp only [List.length_map]
          rw [hp1.length_eq, hp2.length_eq, num0_len, num0_len]
          exact Nat.le_trans (by omega : c + (m - c) ≤ 1000) (by decide)
        · refine nx _ _ ⟨way, l', ys1 ++ ys2.map fun i => (c : Int) + i, c4, c5, c6, c7, c8, c9, _, rfl, ?_, by rw [upd_same, List.map_append], ?_, upd_hand (upd_hand hh4 hacc) hl', (hk4.trans (same_upd hacc).keep).trans (same_upd hl').keep⟩
          · rw [num0_split c m hc]
            exact hp1.append (hp2.map _)
          · exact (hk4.trans (same_upd hacc).keep).free hh hl' (upd_hand hh4 hacc)
    case fin =>
      refine ⟨_, rfl, p, q, 7, rfl, by decide, by decide, hh, fun way H1 h0 h1 hh1 k1 => ?_⟩
      refine ⟨_, rfl, (m : Int), rfl, fun a ha => ⟨a, m, rfl, upd_same, by omega, by omega, fun l hl => ?_⟩⟩
      have ha0 : H a = none := k1.free hh ha hh1
      have hl1 : H1 l = none := by
        rw [upd_ne (fun z => by rw [z, upd_same] at hl; cases hl)] at hl
        exact hl
      refine ⟨⟨way, l, num0 m, none, none, none, none, none, none, none, rfl, List.Perm.refl _, ?_, k1.free hh hl1 hh1, upd_hand (upd_hand hh1 ha) hl, (k1.trans (same_upd ha).keep).trans (same_upd hl).keep⟩, ?_⟩
      · rw [upd_same, rangeV_num0]; rfl
      intro σ1 G1 M1
      refine ⟨M1, fun σ2 G2 M2 => ⟨M2, fun σ3 G3 M3 => ⟨M3, fun σ4 G4 M4 => ⟨M4, fun σ5 G5 M5 => ?_⟩⟩⟩⟩
      obtain ⟨way', l', ys', c4, c5, c6, c7, c8, c9, c10, rfl, hp, hl', hl0, hh5, k5⟩ := M5
      refine ⟨_, rfl, l', _, rfl, .inl ⟨SqL.of hl', fun t ht => k t ys' _ hp upd_same (upd_hand hh5 ht) (k5.trans (same_upd ht).keep)⟩⟩
end
end K07


namespace K07
open PySem PySem.Spec PyProof.Rows L2
abbrev s_rounds_of : Stmt := top 1
abbrev s_rounds_met : Stmt := top 2
abbrev s_round_from : Stmt := top 3
section
variable {P : Program} {w : World} {K : PySem.W.Frag} {mg : Str → Option Value} {base : Heap}
theorem sc_round_from : FnScope ["order", "first", "numbers", "number"] ["order", "first"] (defScope s_round_from) := ⟨rfl, rfl, rfl, by decide +kernel, rfl, by decide +kernel, by decide +kernel⟩
theorem ok_round_from {f : Addr} {fd : FuncData} (F : Fun K "round_from" "round_from" s_round_from f fd) (T : Top mg) : FnOk P w K mg base CX0 1 f fd ["order", "first"] spRoundFrom := by
  refine F.ok sc_round_from (fun vs H Q E h => ?_) (fun cdv A outer s H vs Q E hr h => ?_)
  · obtain ⟨a, ns, m, x, rfl, _⟩ := h
    rfl
  · obtain ⟨a, ns, m, x, rfl, ha, ho, hm, h0, h1, k⟩ := h
    have ln := ho.len
    refine ⟨_, (pss_cons (ps_set (i := 2) sc_round_from.nd rfl (Or.inl rfl) (pe_lst (pa_cons (pv 1) pa_nil)))
      (pss_cons (ps_set (i := 3) sc_round_from.nd rfl (Or.inl rfl) (pe_ix ix_tup (pv 0) (pv 1) (fun _ _ => rfl)))
      (pss_cons (ps_while PassesOwn.never (pt_cmpR op_ne (pv 3) (pv 1) (nomark _))
        (pss_cons (ps_expr (pe_bm PySem.F.plainAttrs_list PySem.F.slot_list_append PySem.F.type_list_append mt_append (pv 2) (pa_cons (pv 3) pa_nil)))
        (pss_one (ps_set (i := 3) sc_round_from.nd rfl (Or.inl rfl) (pe_ix ix_tup (pv 0) (pv 3) (fun _ _ => rfl))))))
      (pss_one (ps_ret (pe_callTy call_tuple_of (by rfl) T.n_tuple boot_tuple (pa_cons (pv 2) pa_nil))))))), ?_⟩
    refine ⟨_, rfl, by show 1 ≤ sizeLine; decide, fun p hp => ?_⟩
    have s1 := same_upd (o := .lst [.int x]) hp
    refine ⟨_, rfl, _, rfl, a, _, x, _, rfl, rfl, SqT.of (s1 _ _ ha), at_getD h0 (by omega), ?_⟩
    refine ⟨fun n σ H1 => ∃ j, n = m - j ∧ σ = [some (.ref a), some (.int x), some (.ref p), some (.int (itO ns x (j + 1)))] ∧ Same H H1 ∧ H1 p = some (.lst ((orbO ns x (j + 1)).map V.int)) ∧ (orbO ns x (j + 1)).Nodup, ⟨m, 0, rfl, rfl, s1, upd_same, by simp [orbO]⟩, ?_⟩
    rintro n σ H1 ⟨j, rfl, rfl, sm, hp1, nd⟩
    have bd := orb_bound ho ⟨h0, h1⟩ nd
    refine ⟨_, rfl, _, rfl, rfl, _, rfl, ite2 (fun hc => ?_) (fun hc => ?_)⟩
    · have hne : itO ns x (j + 1) ≠ x := by simpa using hc
      have nd2 := orb_more ho ⟨h0, h1⟩ nd hne
      have bd2 := orb_bound ho ⟨h0, h1⟩ nd2
      have hrg := it_rng ho ⟨h0, h1⟩ (j + 1)
      refine ⟨_, fun σ' H' h => h, ?_⟩
      refine ⟨_, rfl, .inl ⟨rfl, _, SqL.of hp1⟩, _, rfl, p, _, _, rfl, rfl, hp1, small1 (by rw [mapI_len, orb_len]; omega), ?_⟩
      have sm2 : Same H (upd H1 p (.lst ((orbO ns x (j + 1)).map V.int ++ [.int (itO ns x (j + 1))]))) := same_updR sm hp
      refine ⟨_, rfl, _, rfl, a, _, _, _, rfl, rfl, SqT.of (sm2 _ _ ha), at_getD hrg.1 (by omega), ?_⟩
      refine ⟨m - (j + 1), by omega, j + 1, rfl, rfl, sm2, ?_, nd2⟩
      rw [upd_same, orb_succ ns x (j + 1), List.map_append]
      rfl
    · have he : itO ns x (j + 1) = x := by simpa using hc
      refine ⟨_, rfl, p, _, rfl, .inl ⟨SqL.of hp1, fun l hl => ?_⟩⟩
      have e := row_eq ho ⟨h0, h1⟩ ⟨⟨j, rfl, he⟩, nd⟩
      refine k l _ (sm.trans (same_upd hl)) ?_
      rw [upd_same, e]
theorem sc_rounds_met : FnScope ["order", "firsts", "rounds", "met", "first", "found", "number"] ["order", "firsts"] (defScope s_rounds_met) := ⟨rfl, rfl, rfl, by decide +kernel, rfl, by decide +kernel, by decide +kernel⟩
theorem ok_rounds_met {f : Addr} {fd : FuncData} (F : Fun K "rounds_met" "rounds_met" s_rounds_met f fd) (T : Top mg) (Cround_from : Cal P w K mg base 1 "round_from" ["order", "first"] spRoundFrom) : FnOk P w K mg base CX0 2 f fd ["order", "firsts"] spRoundsMet := by
  refine F.ok sc_rounds_met (fun vs H Q E h => ?_) (fun cdv A outer s H vs Q E hr h => ?_)
  · obtain ⟨a, l, ns, fs, m, rfl, _⟩ := h
    rfl
  · obtain ⟨a, l, ns, fs, m, rfl, ha, hl, ho, hm, hf, k⟩ := h
    have ln := ho.len
    refine ⟨_, (pss_cons (ps_set (i := 2) sc_rounds_met.nd rfl (Or.inl rfl) (pe_lst pa_nil))
      (pss_cons (ps_set (i := 3) sc_rounds_met.nd rfl (Or.inl rfl) (pe_op op_rep (pe_lst (pa_cons pe_bl pa_nil)) (pe_callB call_len_seq (by rfl) T.n_len PySem.boot_len (pa_cons (pv 0) pa_nil))))
      (pss_cons (ps_for PassesOwn.never rfl (pi_list (pv 1)) (pg_name (i := 4) sc_rounds_met.nd rfl (Or.inl rfl))
        (pss_one (ps_if (pt_not (pt_val (pe_ix ix_list (pv 3) (pv 4) (fun _ _ => rfl))))
          (pss_cons (ps_set (i := 5) sc_rounds_met.nd rfl (Or.inl rfl) (pe_cal Cround_from (hr.mono (by decide)) rfl (pa_cons (pv 0) (pa_cons (pv 4) pa_nil))))
          (pss_cons (ps_for PassesOwn.never rfl (pi_tup (pv 5)) (pg_name (i := 6) sc_rounds_met.nd rfl (Or.inl rfl))
            (pss_one (ps_asg pe_bl (pg_sub (pv 3) (pv 6) set_list))))
          (pss_one (ps_expr (pe_bm PySem.F.plainAttrs_list PySem.F.slot_list_append PySem.F.type_list_append mt_append (pv 2) (pa_cons (pv 5) pa_nil))))))
          pss_nil)))
      (pss_one (ps_ret (pv 2)))))), ?_⟩
    refine ⟨Nat.zero_le _, fun p hp => ?_⟩
    have s1 := same_upd (o := .lst []) hp
    refine ⟨by show 1 ≤ sizeLine; decide, fun o1 ho1 => ?_⟩
    have s2 := same_upd (o := .lst [.bl false]) ho1
    refine ⟨_, rfl, a, _, rfl, .inr (SqT.of (s2 _ _ (s1 _ _ ha))), o1, _, _, rfl, rfl, upd_same, by omega, by rw [mapI_len]; omega, ?_, fun q hq => ?_⟩
    · simp only [mapI_len, Int.toNat_natCast, List.length_cons, List.length_nil]
      exact Nat.le_trans (by omega : (0 + 1) * ns.length ≤ 1000) (by decide)
    have s3 := same_upd (o := .lst (List.replicate ((ns.map V.int).length : Int).toNat [V.bl false]).flatten) hq
    have hq0 : H q = none := s1.free (s2.free hq)
    have hpq : p ≠ q := fun z => by
      subst z
      have := s2 _ _ (upd_same (H := H) (a := p) (o := .lst []))
      rw [hq] at this
      cases this
    have hrep : (List.replicate ((ns.map V.int).length : Int).toNat [V.bl false]).flatten = (List.replicate m false).map V.bl := by
      rw [mapI_len, Int.toNat_natCast, rep_one, ln, List.map_replicate]
    refine ⟨_, rfl, l, rfl, ⟨_, SqL.of (s3 _ _ (s2 _ _ (s1 _ _ hl)))⟩, for_list (K := K) (xs := fs.map V.int) (fun i σ H2 => ∃ (zs : List Addr) (bs : List Bool) (c4 c5 c6 : Option V), σ = [some (.ref a), some (.ref l), some (.ref p), some (.ref q), c4, c5, c6] ∧ Same H H2 ∧
      H2 p = some (.lst (zs.map V.ref)) ∧ H2 q = some (.lst (bs.map V.bl)) ∧ RowsAt H2 zs (walkO ns (fs.take i)) ∧ MetO ns m (walkO ns (fs.take i)) ∧ Bits bs m (walkO ns (fs.take i)).flatten) ?_ ?_ ?_ ?_⟩
    · refine ⟨[], List.replicate m false, none, none, none, rfl, (s1.trans s2).trans s3, ?_, by rw [upd_same, hrep], .nil, met_nil, bits0 m⟩
      rw [upd_ne hpq]
      exact s2 _ _ upd_same
    · rintro i σ H2 _ ⟨zs, bs, c4, c5, c6, rfl, sm, _⟩
      exact SqL.of (sm _ _ hl)
    · rintro i x σ H2 hx ⟨zs, bs, c4, c5, c6, rfl, sm, hp2, hq2, R, M, B⟩
      rw [List.getElem?_map] at hx
      obtain ⟨n, hn, rfl⟩ : ∃ n, fs[i]? = some n ∧ V.int n = x := by
        cases e : fs[i]? with
        | none => rw [e] at hx; cases hx
        | some n => rw [e] at hx; exact ⟨n, rfl, Option.some.inj hx⟩
      have hnr := hf n (List.mem_of_getElem? hn)
      have htk : walkO ns (fs.take (i + 1)) = stepO ns (walkO ns (fs.take i)) n := by
        rw [List.take_succ, hn]
        exact walk_snoc ns (fs.take i) n
      have M' := M.step ho hnr
      have lens := M.lens ho
      have hbit := B.bit n.toNat (by omega)
      rw [show ((n.toNat : Nat) : Int) = n by omega] at hbit
      have hat : atI (bs.map V.bl) n = some (.bl (decide (n ∈ (walkO ns (fs.take i)).flatten))) := by
        have := atI_nat (xs := bs.map V.bl) (j := n.toNat) (v := .bl (decide (n ∈ (walkO ns (fs.take i)).flatten))) (by rw [List.getElem?_map, hbit]; rfl)
        rwa [show ((n.toNat : Nat) : Int) = n by omega] at this
      refine ⟨_, rfl, _, rfl, q, _, n, _, rfl, rfl, SqL.of hq2, hat, _, rfl, ite2 (fun hc => ?_) (fun hc => ?_)⟩
      · have hnm : n ∉ (walkO ns (fs.take i)).flatten := by simpa using hc
        have hst : stepO ns (walkO ns (fs.take i)) n = walkO ns (fs.take i) ++ [rowO ns n] := by unfold stepO; rw [if_neg hnm]
        refine ⟨_, rfl, _, rfl, a, ns, m, n, rfl, sm _ _ ha, ho, hm, hnr.1, hnr.2, fun r H3 s3' hr3 => ?_⟩
        have rl := row_len ho hnr
        refine ⟨_, rfl, r, rfl, ⟨_, SqT.of hr3⟩, for_tup (K := K) (xs := (rowO ns n).map V.int) (fun j σ H4 => ∃ (bs : List Bool) (c6 : Option V), σ = [some (.ref a), some (.ref l), some (.ref p), some (.ref q), some (.int n), some (.ref r), c6] ∧ Same H H4 ∧
          H4 p = some (.lst (zs.map V.ref)) ∧ H4 q = some (.lst (bs.map V.bl)) ∧ RowsAt H4 zs (walkO ns (fs.take i)) ∧ H4 r = some (.tup ((rowO ns n).map V.int)) ∧ Bits bs m ((walkO ns (fs.take i)).flatten ++ (rowO ns n).take j)) ?_ ?_ ?_ ?_⟩
        · exact ⟨bs, c6, rfl, sm.trans s3', s3' _ _ hp2, s3' _ _ hq2, R.same s3', hr3, by rw [List.take_zero, List.append_nil]; exact B⟩
        · rintro j σ H4 _ ⟨bs, c6, rfl, _, _, _, _, hr4, _⟩
          exact SqT.of hr4
        · rintro j y σ H4 hy ⟨bs, c6, rfl, sm4, hp4, hq4, R4, hr4, B4⟩
          rw [List.getElem?_map] at hy
          obtain ⟨z, hz, rfl⟩ : ∃ z, (rowO ns n)[j]? = some z ∧ V.int z = y := by
            cases e : (rowO ns n)[j]? with
            | none => rw [e] at hy; cases hy
            | some n => rw [e] at hy; exact ⟨n, rfl, Option.some.inj hy⟩
          have hzr := row_mem ho hnr z (List.mem_of_getElem? hz)
          have hix : ixN (bs.map V.bl).length z = some z.toNat := by
            unfold ixN
            rw [List.length_map, B4.len, if_pos hzr.1, if_pos (by omega)]
          refine ⟨_, rfl, _, rfl, q, _, z, _, rfl, rfl, hq4, hix, ?_⟩
          have st : SameT H4 (upd H4 q (.lst ((bs.map V.bl).set z.toNat (.bl true)))) := sameT_lst hq4
          refine ⟨bs.set z.toNat true, _, rfl, same_updR sm4 hq0, ?_, ?_, R4.sameT st, st _ _ hr4, ?_⟩
          · rw [upd_ne hpq]; exact hp4
          · rw [upd_same, List.map_set]
          · rw [List.take_succ, hz]
            have := B4.set hzr.1 hzr.2
            rwa [List.append_assoc] at this
        · rintro σ H4 ⟨bs, c6, rfl, sm4, hp4, hq4, R4, hr4, B4⟩
          refine ⟨_, rfl, .inl ⟨rfl, _, SqL.of hp4⟩, _, rfl, p, _, _, rfl, rfl, hp4, small1 (by rw [mapR_len, Paired.length R4]; omega), ?_⟩
          have st : SameT H4 (upd H4 p (.lst (zs.map V.ref ++ [.ref r]))) := sameT_lst hp4
          refine ⟨zs ++ [r], bs, _, _, _, rfl, same_updR sm4 hp, by rw [upd_same, List.map_append]; rfl, by rw [upd_ne (Ne.symm hpq)]; exact hq4, ?_, ?_, ?_⟩
          · rw [htk, hst]
            exact Paired.snoc (R4.sameT st) (st _ _ hr4)
          · rw [htk]; exact M'
          · rw [htk, hst]
            rw [mapI_len, List.take_length] at B4
            simpa using B4
      · have hnm : n ∈ (walkO ns (fs.take i)).flatten := by simpa using hc
        have hst : stepO ns (walkO ns (fs.take i)) n = walkO ns (fs.take i) := by unfold stepO; rw [if_pos hnm]
        exact ⟨zs, bs, _, _, _, rfl, sm, hp2, hq2, by rw [htk, hst]; exact R, by rw [htk, hst]; exact M, by rw [htk, hst]; exact B⟩
    · rintro σ H2 ⟨zs, bs, c4, c5, c6, rfl, sm, hp2, hq2, R, M, B⟩
      rw [mapI_len, List.take_length] at R
      exact ⟨_, rfl, k p zs H2 sm hp2 R⟩
theorem sc_rounds_of : FnScope ["order"] ["order"] (defScope s_rounds_of) := ⟨rfl, rfl, rfl, by decide +kernel, rfl, by decide +kernel, by decide +kernel⟩
theorem ok_rounds_of {f : Addr} {fd : FuncData} (F : Fun K "rounds_of" "rounds_of" s_rounds_of f fd) (T : Top mg) (Crounds_met : Cal P w K mg base 2 "rounds_met" ["order", "firsts"] spRoundsMet) : FnOk P w K mg base CX0 3 f fd ["order"] spRounds := by
  refine F.ok sc_rounds_of (fun vs H Q E h => ?_) (fun cdv A outer s H vs Q E hr h => ?_)
  · obtain ⟨a, ns, m, rfl, _⟩ := h
    rfl
  · obtain ⟨a, ns, m, rfl, ha, ho, hm, k⟩ := h
    have ln := ho.len
    refine ⟨_, (pss_one (ps_ret (pe_callTy call_tuple_of (by rfl) T.n_tuple boot_tuple (pa_cons (pe_cal Crounds_met (hr.mono (by decide)) rfl (pa_cons (pv 0) (pa_cons (pe_callTy (call_list_rng rfl) (by rfl) T.n_list boot_list (pa_cons (pe_callTy call_range1 (by rfl) T.n_range boot_range (pa_cons (pe_callB call_len_seq (by rfl) T.n_len PySem.boot_len (pa_cons (pv 0) pa_nil)) pa_nil)) pa_nil)) pa_nil))) pa_nil)))), ?_⟩
    refine ⟨_, rfl, _, rfl, a, _, rfl, .inr (SqT.of ha), _, rfl, fun r hr' => ⟨r, _, rfl, upd_same, by omega, by rw [mapI_len]; omega, fun l hl => ?_⟩⟩
    have s2 := (same_upd (o := .rng 0 ((ns.map V.int).length : Int)) hr').trans (same_upd (o := .lst (rangeV 0 ((ns.map V.int).length : Int).toNat)) hl)
    refine ⟨a, l, ns, num0 ns.length, m, rfl, s2 _ _ ha, by rw [upd_same, mapI_len, Int.toNat_natCast, rangeV_num0], ho, hm, by rw [ln]; exact fun f hf => num0_mem hf, fun p zs H' s' hp R => ?_⟩
    refine ⟨p, _, rfl, .inl ⟨SqL.of hp, fun t ht => ?_⟩⟩
    exact k t zs _ ((s2.trans s').trans (same_upd ht)) upd_same (R.same (same_upd ht))
end
end K07


namespace L2
open PySem PySem.Spec PyProof.Rows
def spCnt (f : List Int → Int) : Sp := fun vs H Q _ => ∃ (a : Addr) (ns : List Int) (m : Nat), vs = [.ref a] ∧ H a = some (.tup (ns.map V.int)) ∧ Ord m ns ∧ m ≤ 60 ∧ ∀ H', Same H H' → Q (.int (f ns)) H'
theorem cut_to {left : List Int} {k : Nat} (hk : k ≤ left.length) : cutV (left.map V.int) none (some (k : Int)) = (left.take k).map V.int := by
  unfold cutV
  rw [HT.sIx_none, HT.sIx_nat, mapI_len, Nat.min_eq_left hk, List.drop_zero, Nat.sub_zero, List.map_take]
theorem cut_tail (ns : List Int) : cutV (ns.map V.int) (some 1) none = (ns.drop 1).map V.int := by
  unfold cutV
  rw [show (1 : Int) = ((1 : Nat) : Int) from rfl, HT.sIx_nat, HT.sIx_none, mapI_len]
  cases ns with
  | nil => rfl
  | cons x t =>
    rw [Nat.min_eq_left (by simp), List.map_drop, List.take_of_length_le (by simp)]
theorem piK_tup {X : Cx} {tg l : Expr} {tl : TE} (K : PySem.W.Frag) (hK : X.K = K) (hl : PE X l tl) : PI X tg l (iTup K tl) := hK ▸ pi_tup hl
theorem en2_ones (ns : List Int) : ∀ (k : Nat) (t : List Int), (∀ (j : Nat), t[j]? = ns[k + j]?) → en2 (fun i _ => (ns.take i).map V.int) qC (.int 1) k (t.map V.int) =
    (List.replicate ((List.range t.length).map fun j => ((ns.take (k + j)).filter fun a => decide (t.getD j 0 < a)).length).sum (1 : Int)).map V.int
  | _, [], _ => rfl
  | k, x :: t, h => by
    show (((ns.take k).map V.int).filter _).map _ ++ en2 _ _ _ (k + 1) (t.map V.int) = _
    rw [en2_ones ns (k + 1) t fun j => by have := h (j + 1); rw [show k + (j + 1) = k + 1 + j by omega] at this; simpa using this]
    rw [List.length_cons, List.range_succ_eq_map, List.map_cons, List.sum_cons, List.map_map]
    have e : (List.range t.length).map ((fun j => ((ns.take (k + j)).filter fun a => decide ((x :: t).getD j 0 < a)).length) ∘ Nat.succ) = (List.range t.length).map fun j => ((ns.take (k + 1 + j)).filter fun a => decide (t.getD j 0 < a)).length := by
      apply List.map_congr_left
      intro j _
      show ((ns.take (k + (j + 1))).filter fun a => decide ((x :: t).getD (j + 1) 0 < a)).length = _
      rw [show k + (j + 1) = k + 1 + j by omega]
      rfl
    rw [e, List.filter_map, List.map_map]
    have e2 : ∀ l : List Int, l.map ((fun _ => V.int 1) ∘ V.int) = (List.replicate l.length (1 : Int)).map V.int := fun l => by
      rw [List.map_replicate, List.eq_replicate_iff]
      exact ⟨by simp, fun b hb => by obtain ⟨c, _, rfl⟩ := List.mem_map.mp hb; rfl⟩
    rw [e2, ← List.map_append, List.replicate_append_replicate]
    rfl
theorem sum_cast (n : Nat) (g : Nat → Nat) : ((((List.range n).map g).sum : Nat) : Int) = sumR n fun k => (g k : Int) := by
  induction n with
  | zero => rfl
  | succ n ih =>
    rw [sumR_succ, ← ih, List.range_succ]
    simp
theorem small_cross {m : Nat} {ns : List Int} (hl : ns.length = m) (hm : m ≤ 60) : ∀ n, n ≤ m → ((List.range n).map fun j => ((ns.take (0 + j)).filter fun a => decide (ns.getD j 0 < a)).length).sum ≤ n * 60 := by
  intro n
  induction n with
  | zero => intro _; simp
  | succ n ih =>
    intro hn
    have h1 := ih (by omega)
    have h2 : ((ns.take (0 + n)).filter fun a => decide (ns.getD n 0 < a)).length ≤ 60 := by
      refine Nat.le_trans (List.length_filter_le _ _) ?_
      rw [List.length_take]
      omega
    rw [List.range_succ, List.map_append, List.sum_append]
    simp only [List.map_cons, List.map_nil, List.sum_cons, List.sum_nil, Nat.add_zero]
    omega
end L2
namespace K07
open PySem PySem.Spec PyProof.Rows L2
abbrev s_rounds_in : Stmt := top 5
abbrev s_stays_in : Stmt := top 6
abbrev s_rises_in : Stmt := top 7
abbrev s_highs_in : Stmt := top 8
abbrev s_crossed_in : Stmt := top 9
abbrev s_longest_in : Stmt := top 10
section
variable {P : Program} {w : World} {K : PySem.W.Frag} {mg : Str → Option Value} {base : Heap}
theorem sc_rounds_in : FnScope ["order"] ["order"] (defScope s_rounds_in) := ⟨rfl, rfl, rfl, by decide +kernel, rfl, by decide +kernel, by decide +kernel⟩
theorem ok_rounds_in {f : Addr} {fd : FuncData} (F : Fun K "rounds_in" "rounds_in" s_rounds_in f fd) (T : Top mg) (Crounds_of : Cal P w K mg base 3 "rounds_of" ["order"] spRounds) : FnOk P w K mg base CX0 4 f fd ["order"] (spCnt fun ns => ((roundsO ns).length : Int)) := by
  refine F.ok sc_rounds_in (fun vs H Q E h => ?_) (fun cdv A outer s H vs Q E hr h => ?_)
  · obtain ⟨a, ns, m, rfl, _⟩ := h
    rfl
  · obtain ⟨a, ns, m, rfl, ha, ho, hm, k⟩ := h
    refine ⟨_, (pss_one (ps_ret (pe_callB call_len_seq (by rfl) T.n_len PySem.boot_len (pa_cons (pe_cal Crounds_of (hr.mono (by decide)) rfl (pa_cons (pv 0) pa_nil)) pa_nil)))), ?_⟩
    refine ⟨_, rfl, a, ns, m, rfl, ha, ho, by omega, fun p zs H' s' hp R => ⟨p, _, rfl, .inr (SqT.of hp), ?_⟩⟩
    rw [mapR_len, Paired.length R]
    exact k H' s'
theorem sc_stays_in : FnScope ["order"] ["order"] (defScope s_stays_in) := ⟨rfl, rfl, rfl, by decide +kernel, rfl, by decide +kernel, by decide +kernel⟩
theorem ok_stays_in {f : Addr} {fd : FuncData} (F : Fun K "stays_in" "stays_in" s_stays_in f fd) (T : Top mg) : FnOk P w K mg base CX0 1 f fd ["order"] (spCnt staysO) := by
  refine F.ok sc_stays_in (fun vs H Q E h => ?_) (fun cdv A outer s H vs Q E hr h => ?_)
  · obtain ⟨a, ns, m, rfl, _⟩ := h
    rfl
  · obtain ⟨a, ns, m, rfl, ha, ho, hm, k⟩ := h
    have ln := ho.len
    refine ⟨_, (pss_one (ps_ret (pe_callB (call_sumL rfl) (by rfl) T.n_sum boot_sum (pa_cons (pe_lc (N' := ["place", "number"]) (n := 2) (ix := []) rfl (CompScope.of (sc := defScope s_stays_in) (N := ["order"]) (by decide +kernel) rfl rfl) (pi_enumT rfl T.n_enumerate (pa_cons (pv 0) pa_nil)) (fun _ _ _ _ _ => ⟨(pg_pairK K (i := 0) (j := 1) rfl rfl (show (["place", "number"] : List Str).Nodup by decide +kernel) rfl rfl (Or.inl rfl) (Or.inl rfl) (Or.inr rfl) (Or.inr rfl)), (pts_one (pt_cmpR op_eq (pv 1) (pv 0) (nomark _))), pe_int⟩)) pa_nil)))), ?_⟩
    refine ⟨_, rfl, a, rfl, ⟨_, SqT.of ha⟩, ?_⟩
    refine lc_enum (xs := ns.map V.int) (fun s' => SqT.of (s' _ _ ha)) (by rw [mapI_len]; omega) (qN fun i n => decide (V.int n = V.int (i : Int))) (fun _ _ => .int 1) (fun i x hx H' s' Q' q => ?_) (fun i x hx _ H' s' Q' q => ?_) fun acc H' hacc s' hl => ?_
    · obtain ⟨n, _, rfl⟩ := List.mem_map.mp (List.mem_of_getElem? hx)
      exact ⟨_, rfl, _, rfl, rfl, _, rfl, q⟩
    · exact q
    · rw [enF_ones fun i n => decide (V.int n = V.int (i : Int))] at hl
      refine ⟨acc, _, rfl, hl, ?_⟩
      rw [ones_sum, countP_sumR]
      have e : (sumR ns.length fun k => if decide (V.int (ns.getD k 0) = V.int ((0 + k : Nat) : Int)) = true then 1 else 0) = staysO ns := sumR_congr fun j _ => by
        rw [getD_atO, Nat.zero_add, dec_int]
        by_cases h : atO ns (j : Int) = j
        · rw [if_pos h, if_pos (by simpa using h)]
        · rw [if_neg h, if_neg (by simpa using h)]
      rw [e]
      exact k H' s'
theorem sc_rises_in : FnScope ["order"] ["order"] (defScope s_rises_in) := ⟨rfl, rfl, rfl, by decide +kernel, rfl, by decide +kernel, by decide +kernel⟩
theorem ok_rises_in {f : Addr} {fd : FuncData} (F : Fun K "rises_in" "rises_in" s_rises_in f fd) (T : Top mg) : FnOk P w K mg base CX0 1 f fd ["order"] (spCnt risesO) := by
  refine F.ok sc_rises_in (fun vs H Q E h => ?_) (fun cdv A outer s H vs Q E hr h => ?_)
  · obtain ⟨a, ns, m, rfl, _⟩ := h
    rfl
  · obtain ⟨a, ns, m, rfl, ha, ho, hm, k⟩ := h
    have ln := ho.len
    refine ⟨_, (pss_one (ps_ret (pe_callB (call_sumL rfl) (by rfl) T.n_sum boot_sum (pa_cons (pe_lc (N' := ["number", "behind"]) (n := 2) (ix := []) rfl (CompScope.of (sc := defScope s_rises_in) (N := ["order"]) (by decide +kernel) rfl rfl) (pi_zipT rfl T.n_zip (pa_cons (pv 0) (pa_cons (pe_slice sl_tupA (pv 0) (po_some pe_int) po_none) pa_nil))) (fun _ _ _ _ _ => ⟨(pg_pairK K (i := 0) (j := 1) rfl rfl (show (["number", "behind"] : List Str).Nodup by decide +kernel) rfl rfl (Or.inl rfl) (Or.inl rfl) (Or.inr rfl) (Or.inr rfl)), (pts_one (pt_cmpR op_lt (pv 0) (pv 1) (nomark _))), pe_int⟩)) pa_nil)))), ?_⟩
    refine ⟨_, rfl, _, rfl, 1, rfl, a, _, rfl, ha, fun b H1 s1 hb => ⟨a, b, rfl, ⟨_, SqT.of (s1 _ _ ha)⟩, ⟨_, SqT.of hb⟩, ?_⟩⟩
    rw [cut_tail] at hb
    refine lc_zip (xs := ns.map V.int) (ys := (ns.drop 1).map V.int) (fun s' => SqT.of (s' _ _ (s1 _ _ ha))) (fun s' => SqT.of (s' _ _ hb)) (by rw [List.length_zip, mapI_len]; omega) (qZ fun a b => decide (a < b)) (fun _ => .int 1) (fun xy hxy H' s' Q' q => ?_) (fun xy hxy _ H' s' Q' q => ?_) fun acc H' hacc s' hl => ?_
    · obtain ⟨x, y⟩ := xy
      obtain ⟨n, _, rfl⟩ := List.mem_map.mp (List.of_mem_zip hxy).1
      obtain ⟨n', _, rfl⟩ := List.mem_map.mp (List.of_mem_zip hxy).2
      exact ⟨_, rfl, _, rfl, _, _, rfl, rfl, _, rfl, q⟩
    · exact q
    · rw [zip_ones fun a b => decide (a < b)] at hl
      refine ⟨acc, _, rfl, hl, ?_⟩
      rw [ones_sum, countP_sumR]
      have e : (sumR (ns.length - 1) fun k => if decide (ns.getD k 0 < ns.getD (k + 1) 0) = true then 1 else 0) = risesO ns := sumR_congr fun j _ => by
        rw [getD_atO, getD_atO]
        by_cases h : atO ns (j : Int) < atO ns ((j + 1 : Nat) : Int)
        · rw [if_pos h, if_pos (by simpa using h)]
        · rw [if_neg h, if_neg (by simpa using h)]
      rw [e]
      exact k H' (s1.trans s')
theorem sc_highs_in : FnScope ["order", "highs", "highest", "number"] ["order"] (defScope s_highs_in) := ⟨rfl, rfl, rfl, by decide +kernel, rfl, by decide +kernel, by decide +kernel⟩
theorem ok_highs_in {f : Addr} {fd : FuncData} (F : Fun K "highs_in" "highs_in" s_highs_in f fd) : FnOk P w K mg base CX0 1 f fd ["order"] (spCnt highsO) := by
  refine F.ok sc_highs_in (fun vs H Q E h => ?_) (fun cdv A outer s H vs Q E hr h => ?_)
  · obtain ⟨a, ns, m, rfl, _⟩ := h
    rfl
  · obtain ⟨a, ns, m, rfl, ha, ho, hm, k⟩ := h
    have ln := ho.len
    refine ⟨_, (pss_cons (ps_set (i := 1) sc_highs_in.nd rfl (Or.inl rfl) pe_int)
      (pss_cons (ps_set (i := 2) sc_highs_in.nd rfl (Or.inl rfl) (pe_un un_neg pe_int))
      (pss_cons (ps_for PassesOwn.never rfl (pi_tup (pv 0)) (pg_name (i := 3) sc_highs_in.nd rfl (Or.inl rfl))
        (pss_one (ps_if (pt_cmpR op_gt (pv 3) (pv 2) (nomark _))
          (pss_cons (ps_aug (i := 1) sc_highs_in.nd rfl (Or.inl rfl) pe_int ip_add)
          (pss_one (ps_set (i := 2) sc_highs_in.nd rfl (Or.inl rfl) (pv 3))))
          pss_nil)))
      (pss_one (ps_ret (pv 1)))))), ?_⟩
    refine ⟨1, rfl, ?_⟩
    refine ⟨_, rfl, a, rfl, ⟨_, SqT.of ha⟩, for_tup (K := K) (xs := ns.map V.int) (fun i σ H2 => ∃ (h : Int) (c3 : Option V), σ = [some (.ref a), some (.int (sumR i fun k => if (ns.take (k + 1)).all (fun a => decide (a ≤ atO ns k)) then 1 else 0)), some (.int h), c3] ∧ H2 = H ∧ (∀ a ∈ ns.take i, a ≤ h) ∧ (h = -1 ∨ h ∈ ns.take i)) ?_ ?_ ?_ ?_⟩
    · exact ⟨-1, none, rfl, rfl, by simp, .inl rfl⟩
    · rintro i σ H2 _ ⟨h, c3, rfl, rfl, _⟩
      exact SqT.of ha
    · rintro i x σ H2 hx ⟨h, c3, rfl, rfl, hle, hin⟩
      rw [List.getElem?_map] at hx
      obtain ⟨n, hn, rfl⟩ : ∃ n, ns[i]? = some n ∧ V.int n = x := by
        cases e : ns[i]? with
        | none => rw [e] at hx; cases hx
        | some n => rw [e] at hx; exact ⟨n, rfl, Option.some.inj hx⟩
      have hnr := ho.rng n (List.mem_of_getElem? hn)
      have hat : atO ns (i : Int) = n := by rw [← getD_atO, List.getD_eq_getElem?_getD, hn]; rfl
      have htk : ns.take (i + 1) = ns.take i ++ [n] := by rw [List.take_succ, hn]; rfl
      have hnew : n ∉ ns.take i := fun z => by
        obtain ⟨j, hj⟩ := List.getElem?_of_mem z
        rw [List.getElem?_take] at hj
        by_cases hji : j < i
        · rw [if_pos hji] at hj
          obtain ⟨l1, e1⟩ := List.getElem?_eq_some_iff.mp hn
          obtain ⟨l2, e2⟩ := List.getElem?_eq_some_iff.mp hj
          have q1 := List.Nodup.idxOf_getElem ho.nodup i l1
          have q2 := List.Nodup.idxOf_getElem ho.nodup j l2
          rw [e1] at q1
          rw [e2] at q2
          omega
        · rw [if_neg hji] at hj
          cases hj
      refine ⟨_, rfl, _, rfl, _, _, rfl, rfl, _, rfl, ite2 (fun hc => ?_) (fun hc => ?_)⟩
      · have hgt : h < n := by simpa using hc
        have e : (ns.take (i + 1)).all (fun a => decide (a ≤ atO ns i)) = true := by
          rw [hat, htk, List.all_eq_true]
          intro a ha'
          rcases List.mem_append.mp ha' with h1 | h1
          · have := hle a h1
            simp
            omega
          · rw [List.mem_singleton.mp h1]; simp
        refine ⟨_, rfl, _, _, rfl, rfl, ?_⟩
        refine ⟨_, rfl, n, some (.int n), ?_, rfl, ?_, .inr (by rw [htk]; simp)⟩
        · rw [sumR_succ, e]
          rfl
        · intro a ha'
          rw [htk] at ha'
          rcases List.mem_append.mp ha' with h1 | h1
          · have := hle a h1
            omega
          · rw [List.mem_singleton.mp h1]; exact Int.le_refl _
      · have hngt : n ≤ h := by simpa using hc
        have hmem : h ∈ ns.take i := by
          rcases hin with h1 | h1
          · omega
          · exact h1
        have hlt : n < h := by
          have : n ≠ h := fun z => hnew (z ▸ hmem)
          omega
        have e : (ns.take (i + 1)).all (fun a => decide (a ≤ atO ns i)) = false := by
          rw [hat, htk, List.all_eq_false]
          exact ⟨h, List.mem_append_left _ hmem, by simp; omega⟩
        refine ⟨h, some (.int n), ?_, rfl, ?_, .inr (by rw [htk]; exact List.mem_append_left _ hmem)⟩
        · rw [sumR_succ, e]
          simp
        · intro a ha'
          rw [htk] at ha'
          rcases List.mem_append.mp ha' with h1 | h1
          · exact hle a h1
          · rw [List.mem_singleton.mp h1]; exact hngt
    · rintro σ H2 ⟨h, c3, rfl, rfl, _⟩
      rw [mapI_len]
      exact ⟨_, rfl, k _ (Same.refl _)⟩
theorem sc_crossed_in : FnScope ["order"] ["order"] (defScope s_crossed_in) := ⟨rfl, rfl, rfl, by decide +kernel, rfl, by decide +kernel, by decide +kernel⟩
theorem ok_crossed_in {f : Addr} {fd : FuncData} (F : Fun K "crossed_in" "crossed_in" s_crossed_in f fd) (T : Top mg) : FnOk P w K mg base CX0 1 f fd ["order"] (spCnt crossedO) := by
  refine F.ok sc_crossed_in (fun vs H Q E h => ?_) (fun cdv A outer s H vs Q E hr h => ?_)
  · obtain ⟨a, ns, m, rfl, _⟩ := h
    rfl
  · obtain ⟨a, ns, m, rfl, ha, ho, hm, k⟩ := h
    have ln := ho.len
    refine ⟨_, (pss_one (ps_ret (pe_callB (call_sumL rfl) (by rfl) T.n_sum boot_sum (pa_cons (pe_lc2 (N' := ["place", "number", "ahead", "order"]) (n := 3) (ix := [0]) rfl (CompScope.of (sc := defScope s_crossed_in) (N := ["order"]) (by decide +kernel) rfl rfl) (pi_enumT rfl T.n_enumerate (pa_cons (pv 0) pa_nil))
      (fun _ _ _ _ _ => ⟨(pg_pairK K (i := 0) (j := 1) rfl rfl (show (["place", "number", "ahead", "order"] : List Str).Nodup by decide +kernel) rfl rfl (Or.inl rfl) (Or.inl rfl) (Or.inr rfl) (Or.inr rfl)), pts_nil, (piK_tup K rfl (pe_slice sl_tupA (pv 3) po_none (po_some (pv 0)))), (pg_name (i := 2) (show (["place", "number", "ahead", "order"] : List Str).Nodup by decide +kernel) rfl (Or.inl rfl)), (pts_one (pt_cmpR op_gt (pv 2) (pv 1) (nomark _))), pe_int⟩)) pa_nil)))), ?_⟩
    refine ⟨_, rfl, a, rfl, ⟨_, SqT.of ha⟩, ?_⟩
    have hen := en2_ones ns 0 ns fun j => by rw [Nat.zero_add]
    refine lc2_enum (xs := ns.map V.int) (fun s' => SqT.of (s' _ _ ha)) (fun i _ => (ns.take i).map V.int) qC (.int 1) ?_ (fun i x hx H' s' Rr q => ?_) (fun i x hx y hy H' s' Q' q => ?_) (fun i x hx y hy H' s' Q' q => ?_) fun acc H' hacc s' hl => ?_
    · rw [hen, mapI_len, List.length_replicate]
      refine Nat.lt_of_le_of_lt (small_cross ln hm ns.length (by omega)) ?_
      rw [ln]
      exact Nat.lt_of_le_of_lt (Nat.mul_le_mul_right 60 hm) (by decide)
    · have hi : i < ns.length := by
        have := (List.getElem?_eq_some_iff.mp hx).1
        rwa [mapI_len] at this
      refine ⟨_, rfl, _, rfl, _, rfl, a, _, rfl, s' _ _ ha, fun b G sG hb => ⟨b, rfl, ⟨_, SqT.of hb⟩, ?_⟩⟩
      rw [cut_to (by omega)] at hb
      exact q _ _ G sG (yields_tup (K := K) (a := b) (xs := (ns.take i).map V.int)) fun G' st _ => SqT.of (st _ _ hb)
    · obtain ⟨n, _, rfl⟩ := List.mem_map.mp (List.mem_of_getElem? hx)
      obtain ⟨n', _, rfl⟩ := List.mem_map.mp hy
      exact ⟨_, rfl, _, rfl, _, _, rfl, rfl, _, rfl, q⟩
    · exact q
    · rw [hen] at hl
      refine ⟨acc, _, rfl, hl, ?_⟩
      rw [ones_sum, sum_cast]
      have e : (sumR ns.length fun j => (((ns.take (0 + j)).filter fun a => decide (ns.getD j 0 < a)).length : Int)) = crossedO ns := sumR_congr fun j _ => by
        rw [getD_atO, Nat.zero_add]
      rw [e]
      exact k H' s'
theorem sc_longest_in : FnScope ["order", "lasts", "number", "at"] ["order"] (defScope s_longest_in) := ⟨rfl, rfl, rfl, by decide +kernel, rfl, by decide +kernel, by decide +kernel⟩
theorem ok_longest_in {f : Addr} {fd : FuncData} (F : Fun K "longest_in" "longest_in" s_longest_in f fd) (T : Top mg) : FnOk P w K mg base CX0 1 f fd ["order"] (spCnt longestO) := by
  refine F.ok sc_longest_in (fun vs H Q E h => ?_) (fun cdv A outer s H vs Q E hr h => ?_)
  · obtain ⟨a, ns, m, rfl, _⟩ := h
    rfl
  · obtain ⟨a, ns, m, rfl, ha, ho, hm, k⟩ := h
    have ln := ho.len
    refine ⟨_, (pss_cons (ps_set (i := 1) sc_longest_in.nd rfl (Or.inl rfl) (pe_lst pa_nil))
      (pss_cons (ps_for PassesOwn.never rfl (pi_tup (pv 0)) (pg_name (i := 2) sc_longest_in.nd rfl (Or.inr rfl))
        (pss_cons (ps_set (i := 3) sc_longest_in.nd rfl (Or.inl rfl) (pe_callB (call_sumL rfl) (by rfl) T.n_sum boot_sum (pa_cons (pe_lc (N' := ["last", "number"]) (n := 1) (ix := [2]) rfl (CompScope.of (sc := defScope s_longest_in) (N := ["order", "lasts", "number", "at"]) (by decide +kernel) rfl rfl) (pi_list (pv 1)) (fun _ _ _ _ _ => ⟨(pg_name (i := 0) (show (["last", "number"] : List Str).Nodup by decide +kernel) rfl (Or.inl rfl)), (pts_one (pt_cmpR op_lt (pv 0) (pv 1) (nomark _))), pe_int⟩)) pa_nil)))
        (pss_one (ps_if (pt_cmpR op_eq (pv 3) (pe_callB call_len_seq (by rfl) T.n_len PySem.boot_len (pa_cons (pv 1) pa_nil)) (nomark _))
          (pss_one (ps_expr (pe_bm PySem.F.plainAttrs_list PySem.F.slot_list_append PySem.F.type_list_append mt_append (pv 1) (pa_cons (pv 2) pa_nil))))
          (pss_one (ps_asg (pv 2) (pg_sub (pv 1) (pv 3) set_list)))))))
      (pss_one (ps_ret (pe_callB call_len_seq (by rfl) T.n_len PySem.boot_len (pa_cons (pv 1) pa_nil)))))), ?_⟩
    refine ⟨Nat.zero_le _, fun l hl => ?_⟩
    have s1 := same_upd (o := .lst []) hl
    refine ⟨_, rfl, a, rfl, ⟨_, SqT.of (s1 _ _ ha)⟩, for_tup (K := K) (xs := ns.map V.int) (fun i σ H2 => ∃ c2 c3 : Option V, σ = [some (.ref a), some (.ref l), c2, c3] ∧ Same H H2 ∧ H2 l = some (.lst ((patsO (ns.take i)).map V.int)) ∧ (patsO (ns.take i)).length ≤ i) ?_ ?_ ?_ ?_⟩
    · exact ⟨none, none, rfl, s1, upd_same, Nat.le_refl _⟩
    · rintro i σ H2 _ ⟨c2, c3, rfl, sm, _⟩
      exact SqT.of (sm _ _ ha)
    · rintro i x σ H2 hx ⟨c2, c3, rfl, sm, hl2, hle⟩
      have hi : i < ns.length := by
        have := (List.getElem?_eq_some_iff.mp hx).1
        rwa [mapI_len] at this
      rw [List.getElem?_map] at hx
      obtain ⟨n, hn, rfl⟩ : ∃ n, ns[i]? = some n ∧ V.int n = x := by
        cases e : ns[i]? with
        | none => rw [e] at hx; cases hx
        | some n => rw [e] at hx; exact ⟨n, rfl, Option.some.inj hx⟩
      have htk : patsO (ns.take (i + 1)) = patO (patsO (ns.take i)) n := by
        rw [List.take_succ, hn]
        exact pats_snoc _ _
      have hpl := pat_len (patsO (ns.take i)) n
      refine ⟨_, rfl, l, rfl, ⟨_, SqL.of hl2⟩, ?_⟩
      refine lc_pure (yields_list (xs := (patsO (ns.take i)).map V.int)) (small1 (by rw [mapI_len]; omega)) (fun v => match v with | .int b => decide (b < n) | _ => false) (fun _ => .int 1) (fun H' s' => SqL.of (s' _ _ hl2)) (fun x hx H' s' Q' q => ?_) (fun x hx _ H' s' Q' q => by exact q) fun acc hacc => ?_
      · obtain ⟨b, _, rfl⟩ := List.mem_map.mp hx
        exact ⟨_, rfl, _, rfl, _, _, rfl, rfl, _, rfl, q⟩
      · have e1 : (((patsO (ns.take i)).map V.int).filter fun v => match v with | .int b => decide (b < n) | _ => false).map (fun _ => V.int 1) = (List.replicate ((patsO (ns.take i)).countP fun b => decide (b < n)) (1 : Int)).map V.int := by
          rw [List.map_replicate, List.eq_replicate_iff]
          refine ⟨?_, fun b hb => by obtain ⟨c, _, rfl⟩ := List.mem_map.mp hb; rfl⟩
          rw [List.length_map, List.filter_map, List.length_map, List.countP_eq_length_filter]
          rfl
        refine ⟨acc, _, rfl, by rw [upd_same, e1], ?_⟩
        rw [ones_sum]
        have s2 := same_upd (o := .lst ((((patsO (ns.take i)).map V.int).filter fun v => match v with | .int b => decide (b < n) | _ => false).map fun _ => V.int 1)) hacc
        have hl3 := s2 _ _ hl2
        refine ⟨_, rfl, _, rfl, l, _, rfl, .inl (SqL.of hl3), rfl, _, rfl, ite2 (fun hc => ?_) (fun hc => ?_)⟩
        · have hc' : (patsO (ns.take i)).countP (fun b => decide (b < n)) = (patsO (ns.take i)).length := by
            rw [mapI_len, dec_int] at hc
            have := eq_of_beq hc
            omega
          refine ⟨_, rfl, .inl ⟨rfl, _, SqL.of hl3⟩, _, rfl, l, _, _, rfl, rfl, hl3, small1 (by rw [mapI_len]; omega), ?_⟩
          refine ⟨_, _, rfl, same_updR (sm.trans s2) hl, ?_, by rw [htk]; omega⟩
          rw [upd_same, htk]
          unfold patO
          rw [if_pos hc', List.map_append]
          rfl
        · have hc' : ¬ (patsO (ns.take i)).countP (fun b => decide (b < n)) = (patsO (ns.take i)).length := fun z => hc (by rw [mapI_len, dec_int, z]; simp)
          have hlt : (patsO (ns.take i)).countP (fun b => decide (b < n)) < (patsO (ns.take i)).length := by
            have := List.countP_le_length (p := fun b => decide (b < n)) (l := patsO (ns.take i))
            omega
          refine ⟨_, rfl, _, rfl, _, rfl, l, _, _, _, rfl, rfl, hl3, ixN_of (by omega) (by omega), ?_⟩
          refine ⟨_, _, rfl, same_updR (sm.trans s2) hl, ?_, by rw [htk]; omega⟩
          rw [upd_same, htk]
          unfold patO
          rw [if_neg hc', Int.toNat_natCast, List.map_set]
    · rintro σ H2 ⟨c2, c3, rfl, sm, hl2, hle⟩
      rw [mapI_len, List.take_length] at hl2
      refine ⟨_, rfl, l, _, rfl, .inl (SqL.of hl2), ?_⟩
      rw [mapI_len]
      exact k H2 sm
end
end K07


namespace L2
open PySem PySem.Spec PyProof.Rows
def kinds6 : List Str := ["rounds", "stays", "rises", "highs", "crossed", "longest"]
noncomputable def countO (kind : Str) (ns : List Int) : Int :=
  if kind = "rounds" then ((roundsO ns).length : Int) else if kind = "stays" then staysO ns else if kind = "rises" then risesO ns else if kind = "highs" then highsO ns else if kind = "crossed" then crossedO ns else longestO ns
noncomputable def spCount : Sp := fun vs H Q _ => ∃ (kind : Str) (a : Addr) (ns : List Int) (m : Nat), vs = [.str kind, .ref a] ∧ kind ∈ kinds6 ∧ H a = some (.tup (ns.map V.int)) ∧ Ord m ns ∧ m ≤ 60 ∧ ∀ H', Same H H' → Q (.int (countO kind ns)) H'
theorem kinds_cases {kind : Str} (h : kind ∈ kinds6) : kind = "rounds" ∨ kind = "stays" ∨ kind = "rises" ∨ kind = "highs" ∨ kind = "crossed" ∨ kind = "longest" := by
  unfold kinds6 at h
  simpa using h
end L2
namespace K07
open PySem PySem.Spec PyProof.Rows L2
abbrev s_count : Stmt := top 12
section
variable {P : Program} {w : World} {K : PySem.W.Frag} {mg : Str → Option Value} {base : Heap}
theorem sc_count : FnScope ["kind", "order", "counter"] ["kind", "order"] (defScope s_count) := ⟨rfl, rfl, rfl, by decide +kernel, rfl, by decide +kernel, by decide +kernel⟩
theorem ok_count {f C f1 f2 f3 f4 f5 f6 : Addr} {fd : FuncData} (F : Fun K "count" "count" s_count f fd) (hC : mg "COUNTERS" = some (.ref C)) (GD : GDict K w.params C [("rounds", f1), ("stays", f2), ("rises", f3), ("highs", f4), ("crossed", f5), ("longest", f6)])
    (c1 : CalF P w K mg base 4 f1 ["order"] (spCnt fun ns => ((roundsO ns).length : Int))) (c2 : CalF P w K mg base 4 f2 ["order"] (spCnt staysO)) (c3 : CalF P w K mg base 4 f3 ["order"] (spCnt risesO)) (c4 : CalF P w K mg base 4 f4 ["order"] (spCnt highsO))
    (c5 : CalF P w K mg base 4 f5 ["order"] (spCnt crossedO)) (c6 : CalF P w K mg base 4 f6 ["order"] (spCnt longestO)) : FnOk P w K mg base CX0 5 f fd ["kind", "order"] spCount := by
  refine F.ok sc_count (fun vs H Q E h => ?_) (fun cdv A outer s H vs Q E hr h => ?_)
  · obtain ⟨kind, a, ns, m, rfl, _⟩ := h
    rfl
  · obtain ⟨kind, a, ns, m, rfl, hk, ha, ho, hm, k⟩ := h
    refine ⟨_, (pss_cons (ps_set (i := 2) sc_count.nd rfl (Or.inl rfl) (pe_ix ix_gd (pe_glob (v := .ref C) rfl hC rfl) (pv 0) (fun _ _ => rfl)))
      (pss_one (ps_ret (pe_callV (k := 4) (pv 2) hr (pa_cons (pv 1) pa_nil))))), ?_⟩
    rcases kinds_cases hk with rfl | rfl | rfl | rfl | rfl | rfl
    · exact ⟨_, rfl, C, _, _, f1, rfl, rfl, GD, rfl, _, rfl, f1, _, _, rfl, c1, _, rfl, a, ns, m, rfl, ha, ho, hm, fun H' s' => k H' s'⟩
    · exact ⟨_, rfl, C, _, _, f2, rfl, rfl, GD, rfl, _, rfl, f2, _, _, rfl, c2, _, rfl, a, ns, m, rfl, ha, ho, hm, fun H' s' => k H' s'⟩
    · exact ⟨_, rfl, C, _, _, f3, rfl, rfl, GD, rfl, _, rfl, f3, _, _, rfl, c3, _, rfl, a, ns, m, rfl, ha, ho, hm, fun H' s' => k H' s'⟩
    · exact ⟨_, rfl, C, _, _, f4, rfl, rfl, GD, rfl, _, rfl, f4, _, _, rfl, c4, _, rfl, a, ns, m, rfl, ha, ho, hm, fun H' s' => k H' s'⟩
    · exact ⟨_, rfl, C, _, _, f5, rfl, rfl, GD, rfl, _, rfl, f5, _, _, rfl, c5, _, rfl, a, ns, m, rfl, ha, ho, hm, fun H' s' => k H' s'⟩
    · exact ⟨_, rfl, C, _, _, f6, rfl, rfl, GD, rfl, _, rfl, f6, _, _, rfl, c6, _, rfl, a, ns, m, rfl, ha, ho, hm, fun H' s' => k H' s'⟩
end
end K07


namespace K07
open PySem PySem.Spec PyProof.Rows L2
abbrev s_undone : Stmt := top 14
abbrev s_after : Stmt := top 15
section
variable {P : Program} {w : World} {K : PySem.W.Frag} {mg : Str → Option Value} {base : Heap}
theorem sc_undone : FnScope ["order", "places", "place", "number"] ["order"] (defScope s_undone) := ⟨rfl, rfl, rfl, by decide +kernel, rfl, by decide +kernel, by decide +kernel⟩
theorem ok_undone {f : Addr} {fd : FuncData} (F : Fun K "undone" "undone" s_undone f fd) (T : Top mg) : FnOk P w K mg base CX0 1 f fd ["order"] spUndone := by
  refine F.ok sc_undone (fun vs H Q E h => ?_) (fun cdv A outer s H vs Q E hr h => ?_)
  · obtain ⟨a, ns, m, rfl, _⟩ := h
    rfl
  · obtain ⟨a, ns, m, rfl, ha, ho, hm, k⟩ := h
    have hln := ho.len
    refine ⟨_, (pss_cons (ps_set (i := 1) sc_undone.nd rfl (Or.inl rfl) (pe_op op_rep (pe_lst (pa_cons pe_int pa_nil)) (pe_callB call_len_seq (by rfl) T.n_len PySem.boot_len (pa_cons (pv 0) pa_nil))))
      (pss_cons (ps_for PassesOwn.never rfl (pi_enumT rfl T.n_enumerate (pa_cons (pv 0) pa_nil)) (pg_pair (i := 2) (j := 3) rfl sc_undone.nd rfl rfl (Or.inl rfl) (Or.inl rfl) (Or.inl rfl) (Or.inl rfl))
        (pss_one (ps_asg (pv 2) (pg_sub (pv 1) (pv 3) set_list))))
      (pss_one (ps_ret (pe_callTy call_tuple_of (by rfl) T.n_tuple boot_tuple (pa_cons (pv 1) pa_nil)))))), ?_⟩
    refine ⟨by show 1 ≤ sizeLine; decide, fun l hl => ?_⟩
    have s1 := same_upd (o := .lst [.int 0]) hl
    refine ⟨_, rfl, a, _, rfl, .inr (SqT.of (s1 _ _ ha)), l, _, _, rfl, rfl, upd_same, by omega, by rw [mapI_len]; omega, ?_, fun p hp => ?_⟩
    · simp only [mapI_len, Int.toNat_natCast, List.length_cons, List.length_nil]
      exact Nat.le_trans (by omega : (0 + 1) * ns.length ≤ 1000) (by decide)
    have s2 := same_upd (o := .lst (List.replicate ((ns.map V.int).length : Int).toNat [V.int 0]).flatten) hp
    have hp0 : H p = none := s1.free hp
    have hrep : (List.replicate ((ns.map V.int).length : Int).toNat [V.int 0]).flatten = (List.replicate m (0 : Int)).map V.int := by
      rw [mapI_len, Int.toNat_natCast, rep_one, hln, List.map_replicate]
    refine ⟨_, rfl, a, rfl, ⟨_, SqT.of (s2 _ _ (s1 _ _ ha))⟩, for_enum (K := K) (xs := ns.map V.int) (fun i σ H2 => ∃ (ys : List Int) (c2 c3 : Option V), σ = [some (.ref a), some (.ref p), c2, c3] ∧ Same H H2 ∧ H2 p = some (.lst (ys.map V.int)) ∧ ys.length = m ∧
      ∀ (j : Nat) x, j < i → ns[j]? = some x → ys[x.toNat]? = some (j : Int)) ?_ ?_ ?_ ?_⟩
    · exact ⟨List.replicate m 0, none, none, rfl, s1.trans s2, by rw [upd_same, hrep], by simp, fun j x hj => absurd hj (Nat.not_lt_zero _)⟩
    · rintro i σ H2 _ ⟨ys, c2, c3, rfl, sm, _⟩
      exact SqT.of (sm _ _ ha)
    · rintro i x t σ H2 hx ⟨ys, c2, c3, rfl, sm, hy, hyl, hj⟩ ht
      rw [List.getElem?_map] at hx
      obtain ⟨n, hn, rfl⟩ : ∃ n, ns[i]? = some n ∧ V.int n = x := by
        cases e : ns[i]? with
        | none => rw [e] at hx; cases hx
        | some n => rw [e] at hx; exact ⟨n, rfl, Option.some.inj hx⟩
      have hr := ho.rng n (List.mem_of_getElem? hn)
      have hy' : (upd H2 t (.tup [.int (i : Int), .int n])) p = some (.lst (ys.map V.int)) := (same_upd ht) _ _ hy
      refine ⟨t, _, rfl, SqT.of upd_same, rfl, _, _, rfl, _, _, rfl, rfl, ?_⟩
      refine ⟨_, rfl, _, rfl, _, rfl, p, _, n, _, rfl, rfl, hy', ixN_of hr.1 (by rw [hyl]; exact hr.2), ?_⟩
      refine ⟨ys.set n.toNat (i : Int), _, _, rfl, same_updR (sm.trans (same_upd ht)) hp0, ?_, by rw [List.length_set]; exact hyl, fun j x hji hjx => ?_⟩
      · rw [upd_same, List.map_set]
      · by_cases e : j = i
        · subst e
          rw [hn] at hjx
          cases hjx
          rw [List.getElem?_set_self (by omega)]
        · have hne : x.toNat ≠ n.toNat := fun z => by
            have hrx := ho.rng x (List.mem_of_getElem? hjx)
            have : x = n := by omega
            subst this
            have h1 : i < ns.length := (List.getElem?_eq_some_iff.mp hn).1
            have h2 : j < ns.length := (List.getElem?_eq_some_iff.mp hjx).1
            have e1 : ns[i] = x := (List.getElem?_eq_some_iff.mp hn).2
            have e2 : ns[j] = x := (List.getElem?_eq_some_iff.mp hjx).2
            have q1 := List.Nodup.idxOf_getElem ho.nodup i h1
            have q2 := List.Nodup.idxOf_getElem ho.nodup j h2
            rw [e1] at q1
            rw [e2] at q2
            exact e (q2.symm.trans q1)
          rw [List.getElem?_set_ne (Ne.symm hne)]
          exact hj j x (by omega) hjx
    · rintro σ H2 ⟨ys, c2, c3, rfl, sm, hy, hyl, hj⟩
      refine ⟨_, rfl, p, _, rfl, .inl ⟨SqL.of hy, fun l hl => ?_⟩⟩
      have e : ys = invO ns := inv_of_places ho hyl fun j x hjx => hj j x (by rw [mapI_len]; exact (List.getElem?_eq_some_iff.mp hjx).1) hjx
      subst e
      exact k l _ (sm.trans (same_upd hl)) upd_same
theorem sc_after : FnScope ["one", "other"] ["one", "other"] (defScope s_after) := ⟨rfl, rfl, rfl, by decide +kernel, rfl, by decide +kernel, by decide +kernel⟩
theorem ok_after {f : Addr} {fd : FuncData} (F : Fun K "after" "after" s_after f fd) (T : Top mg) : FnOk P w K mg base CX0 1 f fd ["one", "other"] spAfter := by
  refine F.ok sc_after (fun vs H Q E h => ?_) (fun cdv A outer s H vs Q E hr h => ?_)
  · obtain ⟨a, b, ns, ms, rfl, _⟩ := h
    rfl
  · obtain ⟨a, b, ns, ms, rfl, ha, hb, l1, l2, hin, k⟩ := h
    refine ⟨_, (pss_one (ps_ret (pe_callTy call_tuple_of (by rfl) T.n_tuple boot_tuple (pa_cons (pe_lc (N' := ["place", "one"]) (n := 1) (ix := [0]) rfl (CompScope.of (sc := defScope s_after) (N := ["one", "other"]) (by decide +kernel) rfl rfl) (pi_tup (pv 1)) (fun _ _ _ _ _ => ⟨(pg_name (i := 0) (show (["place", "one"] : List Str).Nodup by decide +kernel) rfl (Or.inl rfl)), pts_nil, (pe_ix (ix_tupK K rfl) (pv 1) (pv 0) (fun _ _ => rfl))⟩)) pa_nil)))), ?_⟩
    refine ⟨_, rfl, b, rfl, ⟨_, SqT.of hb⟩, ?_⟩
    refine lc_pure (yields_tup (xs := ms.map V.int)) (small1 (by rw [mapI_len]; omega)) (fun _ => true) (fun v => match v with | .int i => .int (atO ns i) | v => v) (fun H' s' => SqT.of (s' _ _ hb)) (fun _ _ _ _ _ q => by exact q) (fun x hx _ H' s' Q' q => ?_) fun acc hacc => ?_
    · obtain ⟨n, hn, rfl⟩ := List.mem_map.mp hx
      exact ⟨_, rfl, _, rfl, a, _, _, _, rfl, rfl, SqT.of (s' _ _ ha), at_getD (hin n hn).1 (hin n hn).2, q⟩
    · refine ⟨acc, _, rfl, .inl ⟨SqL.of upd_same, fun l hl' => ?_⟩⟩
      refine k l _ ?_ ?_
      · exact (same_upd hacc).trans (same_upd hl')
      · rw [upd_same, filter_true, map_of_ints fun n => rfl]
        rfl
end
end K07


namespace K07
open PySem PySem.Spec PyProof.Rows L2
abbrev s_mirrored : Stmt := top 16
abbrev s_turned : Stmt := top 17
abbrev s_beside : Stmt := top 18
abbrev s_above : Stmt := top 19
abbrev s_lifted : Stmt := top 20
section
variable {P : Program} {w : World} {K : PySem.W.Frag} {mg : Str → Option Value} {base : Heap}
theorem sc_mirrored : FnScope ["order"] ["order"] (defScope s_mirrored) := ⟨rfl, rfl, rfl, by decide +kernel, rfl, by decide +kernel, by decide +kernel⟩
theorem ok_mirrored {f : Addr} {fd : FuncData} (F : Fun K "mirrored" "mirrored" s_mirrored f fd) (T : Top mg) : FnOk P w K mg base CX0 1 f fd ["order"] (spU fun ns => ns.reverse) := by
  refine F.ok sc_mirrored (fun vs H Q E h => ?_) (fun cdv A outer s H vs Q E hr h => ?_)
  · obtain ⟨a, ns, rfl, _⟩ := h
    rfl
  · obtain ⟨a, ns, rfl, ha, hl, k⟩ := h
    refine ⟨_, (pss_one (ps_ret (pe_rev rv_tup (pv 0)))), ?_⟩
    refine ⟨_, rfl, a, _, rfl, SqT.of ha, fun p hp => k p _ (same_upd hp) ?_⟩
    rw [upd_same, List.map_reverse]
theorem sc_lifted : FnScope ["order", "by"] ["order", "by"] (defScope s_lifted) := ⟨rfl, rfl, rfl, by decide +kernel, rfl, by decide +kernel, by decide +kernel⟩
theorem ok_lifted {f : Addr} {fd : FuncData} (F : Fun K "lifted" "lifted" s_lifted f fd) (T : Top mg) : FnOk P w K mg base CX0 1 f fd ["order", "by"] (spUI fun ns k => ns.map (· + k)) := by
  refine F.ok sc_lifted (fun vs H Q E h => ?_) (fun cdv A outer s H vs Q E hr h => ?_)
  · obtain ⟨a, ns, k, rfl, _⟩ := h
    rfl
  · obtain ⟨a, ns, b, rfl, ha, hl, k⟩ := h
    refine ⟨_, (pss_one (ps_ret (pe_callTy call_tuple_of (by rfl) T.n_tuple boot_tuple (pa_cons (pe_lc (N' := ["number", "by"]) (n := 1) (ix := [1]) rfl (CompScope.of (sc := defScope s_lifted) (N := ["order", "by"]) (by decide +kernel) rfl rfl) (pi_tup (pv 0)) (fun _ _ _ _ _ => ⟨(pg_name (i := 0) (show (["number", "by"] : List Str).Nodup by decide +kernel) rfl (Or.inl rfl)), pts_nil, (pe_op op_add (pv 0) (pv 1))⟩)) pa_nil)))), ?_⟩
    refine ⟨_, rfl, a, rfl, ⟨_, SqT.of ha⟩, ?_⟩
    refine lc_pure (yields_tup (xs := ns.map V.int)) (small1 (by rw [mapI_len]; exact hl)) (fun _ => true) (fun v => match v with | .int i => .int (i + b) | v => v) (fun H' s' => SqT.of (s' _ _ ha)) (fun _ _ _ _ _ q => by exact q) (fun x hx _ H' s' Q' q => ?_) fun acc hacc => ?_
    · obtain ⟨n, _, rfl⟩ := List.mem_map.mp hx
      exact ⟨_, rfl, _, rfl, _, _, rfl, rfl, q⟩
    · refine ⟨acc, _, rfl, .inl ⟨SqL.of upd_same, fun l hl' => ?_⟩⟩
      refine k l _ ?_ ?_
      · exact (same_upd hacc).trans (same_upd hl')
      · rw [upd_same, filter_true, map_of_ints fun n => rfl]
end
end K07


namespace K07
open PySem PySem.Spec PyProof.Rows L2
section
variable {P : Program} {w : World} {K : PySem.W.Frag} {mg : Str → Option Value} {base : Heap}
theorem sc_turned : FnScope ["order", "greatest"] ["order"] (defScope s_turned) := ⟨rfl, rfl, rfl, by decide +kernel, rfl, by decide +kernel, by decide +kernel⟩
theorem ok_turned {f : Addr} {fd : FuncData} (F : Fun K "turned" "turned" s_turned f fd) (T : Top mg) : FnOk P w K mg base CX0 1 f fd ["order"] (spU fun ns => ns.map (((ns.length : Int) - 1) - ·)) := by
  refine F.ok sc_turned (fun vs H Q E h => ?_) (fun cdv A outer s H vs Q E hr h => ?_)
  · obtain ⟨a, ns, rfl, _⟩ := h
    rfl
  · obtain ⟨a, ns, rfl, ha, hl, k⟩ := h
    refine ⟨_, (pss_cons (ps_set (i := 1) sc_turned.nd rfl (Or.inr rfl) (pe_op op_sub (pe_callB call_len_seq (by rfl) T.n_len PySem.boot_len (pa_cons (pv 0) pa_nil)) pe_int))
      (pss_one (ps_ret (pe_callTy call_tuple_of (by rfl) T.n_tuple boot_tuple (pa_cons (pe_lc (N' := ["number", "greatest"]) (n := 1) (ix := [1]) rfl (CompScope.of (sc := defScope s_turned) (N := ["order", "greatest"]) (by decide +kernel) rfl rfl) (pi_tup (pv 0)) (fun _ _ _ _ _ => ⟨(pg_name (i := 0) (show (["number", "greatest"] : List Str).Nodup by decide +kernel) rfl (Or.inl rfl)), pts_nil, (pe_op op_sub (pv 1) (pv 0))⟩)) pa_nil))))), ?_⟩
    refine ⟨_, rfl, a, _, rfl, .inr (SqT.of ha), _, _, rfl, rfl, _, rfl, a, rfl, ⟨_, SqT.of ha⟩, ?_⟩
    refine lc_pure (yields_tup (xs := ns.map V.int)) (small1 (by rw [mapI_len]; exact hl)) (fun _ => true) (fun v => match v with | .int i => .int (((ns.map V.int).length : Int) - 1 - i) | v => v) (fun H' s' => SqT.of (s' _ _ ha)) (fun _ _ _ _ _ q => q) (fun x hx _ H' s' Q' q => ?_) fun acc hacc => ?_
    · obtain ⟨n, _, rfl⟩ := List.mem_map.mp hx
      exact ⟨_, rfl, _, rfl, _, _, rfl, rfl, q⟩
    · refine ⟨acc, _, rfl, .inl ⟨SqL.of upd_same, fun l hl' => ?_⟩⟩
      refine k l _ ?_ ?_
      · exact (same_upd hacc).trans (same_upd hl')
      · rw [upd_same, filter_true, map_of_ints fun n => rfl, mapI_len]
theorem sc_beside : FnScope ["one", "other"] ["one", "other"] (defScope s_beside) := ⟨rfl, rfl, rfl, by decide +kernel, rfl, by decide +kernel, by decide +kernel⟩
theorem ok_beside {f : Addr} {fd : FuncData} (F : Fun K "beside" "beside" s_beside f fd) (T : Top mg) (Clifted : Cal P w K mg base 1 "lifted" ["order", "by"] (spUI fun ns k => ns.map (· + k))) : FnOk P w K mg base CX0 2 f fd ["one", "other"] (spB fun ns ms => ns ++ ms.map (· + (ns.length : Int))) := by
  refine F.ok sc_beside (fun vs H Q E h => ?_) (fun cdv A outer s H vs Q E hr h => ?_)
  · obtain ⟨a, b, ns, ms, rfl, _⟩ := h
    rfl
  · obtain ⟨a, b, ns, ms, rfl, ha, hb, hl, hl', k⟩ := h
    refine ⟨_, (pss_one (ps_ret (pe_op op_cat2 (pv 0) (pe_cal Clifted (hr.mono (by decide)) rfl (pa_cons (pv 1) (pa_cons (pe_callB call_len_seq (by rfl) T.n_len PySem.boot_len (pa_cons (pv 0) pa_nil)) pa_nil)))))), ?_⟩
    refine ⟨_, rfl, _, rfl, _, rfl, a, _, rfl, .inr (SqT.of ha), b, ms, _, rfl, hb, by omega, fun p H1 s1 h1 => ?_⟩
    refine ⟨a, p, _, _, rfl, rfl, s1 _ _ ha, h1, ?_, fun p' H2 s2 h2 => k p' H2 (s1.trans s2) ?_⟩
    · simp only [List.length_map]
      exact Nat.le_trans (by omega : ns.length + ms.length ≤ 1000) (by decide)
    · rw [h2, List.map_append, mapI_len]
theorem sc_above : FnScope ["one", "other"] ["one", "other"] (defScope s_above) := ⟨rfl, rfl, rfl, by decide +kernel, rfl, by decide +kernel, by decide +kernel⟩
theorem ok_above {f : Addr} {fd : FuncData} (F : Fun K "above" "above" s_above f fd) (T : Top mg) (Clifted : Cal P w K mg base 1 "lifted" ["order", "by"] (spUI fun ns k => ns.map (· + k))) : FnOk P w K mg base CX0 2 f fd ["one", "other"] (spB fun ns ms => ns.map (· + (ms.length : Int)) ++ ms) := by
  refine F.ok sc_above (fun vs H Q E h => ?_) (fun cdv A outer s H vs Q E hr h => ?_)
  · obtain ⟨a, b, ns, ms, rfl, _⟩ := h
    rfl
  · obtain ⟨a, b, ns, ms, rfl, ha, hb, hl, hl', k⟩ := h
    refine ⟨_, (pss_one (ps_ret (pe_op op_cat2 (pe_cal Clifted (hr.mono (by decide)) rfl (pa_cons (pv 0) (pa_cons (pe_callB call_len_seq (by rfl) T.n_len PySem.boot_len (pa_cons (pv 1) pa_nil)) pa_nil))) (pv 1)))), ?_⟩
    refine ⟨_, rfl, _, rfl, b, _, rfl, .inr (SqT.of hb), a, ns, _, rfl, ha, by omega, fun p H1 s1 h1 => ?_⟩
    refine ⟨_, rfl, p, b, _, _, rfl, rfl, h1, s1 _ _ hb, ?_, fun p' H2 s2 h2 => k p' H2 (s1.trans s2) ?_⟩
    · simp only [List.length_map]
      exact Nat.le_trans (by omega : ns.length + ms.length ≤ 1000) (by decide)
    · rw [h2, List.map_append, mapI_len]
end
end K07


namespace L2
open PySem PySem.Spec PyProof.Rows
theorem cO_rounds (ns : List Int) : countO "rounds" ns = ((roundsO ns).length : Int) := by unfold countO; rw [if_pos rfl]
theorem cO_stays (ns : List Int) : countO "stays" ns = staysO ns := by unfold countO; rw [if_neg (by decide), if_pos rfl]
theorem cO_rises (ns : List Int) : countO "rises" ns = risesO ns := by unfold countO; rw [if_neg (by decide), if_neg (by decide), if_pos rfl]
theorem cO_highs (ns : List Int) : countO "highs" ns = highsO ns := by unfold countO; rw [if_neg (by decide), if_neg (by decide), if_neg (by decide), if_pos rfl]
theorem cO_crossed (ns : List Int) : countO "crossed" ns = crossedO ns := by unfold countO; rw [if_neg (by decide), if_neg (by decide), if_neg (by decide), if_neg (by decide), if_pos rfl]
theorem cO_longest (ns : List Int) : countO "longest" ns = longestO ns := by unfold countO; rw [if_neg (by decide), if_neg (by decide), if_neg (by decide), if_neg (by decide), if_neg (by decide)]
def acr (ns ms : List Int) : Int := if ns ≠ [] ∧ ms ≠ [] then 1 else 0
theorem acr_rng (ns ms : List Int) : 0 ≤ acr ns ms ∧ acr ns ms ≤ 1 := by unfold acr; split <;> decide
theorem rises_beside {n m : Nat} {a b : List Int} (ha : Ord n a) (hb : Ord m b) : risesO (bsO a b) = risesO a + risesO b + acr a b := by
  by_cases h1 : a = []
  · subst h1
    have : risesO (bsO [] b) = risesO b := rises_li b 0
    rw [this]
    unfold acr
    rw [if_neg fun z => z.1 rfl]
    show _ = 0 + _ + 0
    omega
  by_cases h2 : b = []
  · subst h2
    have : bsO a [] = a := List.append_nil _
    rw [this]
    unfold acr
    rw [if_neg fun z => z.2 rfl]
    show _ = _ + 0 + 0
    omega
  have la := ha.len
  have lb := hb.len
  have pa := List.length_pos_iff.mpr h1
  have pb := List.length_pos_iff.mpr h2
  have seam : atO a ((a.length : Int) - 1) < atO (liO b a.length) 0 := by
    unfold liO
    rw [atO_map (by decide) (by omega)]
    have r1 := ha.rng _ (atO_mem (x := (a.length : Int) - 1) (by omega) (by omega))
    have r2 := hb.rng _ (atO_mem (x := 0) (by omega) (by omega))
    omega
  unfold bsO
  rw [rises_app h1 (show liO b a.length ≠ [] from fun z => h2 (List.map_eq_nil_iff.mp z)), rises_li, if_pos seam]
  unfold acr
  rw [if_pos ⟨h1, h2⟩]
  omega
theorem rises_above {n m : Nat} {a b : List Int} (ha : Ord n a) (hb : Ord m b) : risesO (abO a b) = risesO a + risesO b := by
  by_cases h1 : a = []
  · subst h1
    show risesO b = 0 + _
    omega
  by_cases h2 : b = []
  · subst h2
    have : abO a [] = liO a 0 := List.append_nil _
    rw [this, rises_li]
    show _ = _ + 0
    omega
  have la := ha.len
  have lb := hb.len
  have pa := List.length_pos_iff.mpr h1
  have pb := List.length_pos_iff.mpr h2
  unfold abO
  rw [rises_app (show liO a b.length ≠ [] from fun z => h1 (List.map_eq_nil_iff.mp z)) h2, rises_li, li_len, if_neg]
  · omega
  · unfold liO
    rw [atO_map (by omega) (by omega)]
    have r1 := ha.rng _ (atO_mem (x := (a.length : Int) - 1) (by omega) (by omega))
    have r2 := hb.rng _ (atO_mem (x := 0) (by omega) (by omega))
    omega
theorem count_beside {n m : Nat} {a b : List Int} {kind : Str} (hk : kind ∈ kinds6) (ha : Ord n a) (hb : Ord m b) : countO kind (bsO a b) = countO kind a + countO kind b + acr a b * (if decide (V.str kind = V.str "rises") = true then 1 else 0) := by
  rcases kinds_cases hk with rfl | rfl | rfl | rfl | rfl | rfl
  · rw [cO_rounds, cO_rounds, cO_rounds, rounds_beside ha hb, if_neg (by decide)]; omega
  · rw [cO_stays, cO_stays, cO_stays, stays_beside ha hb, if_neg (by decide)]; omega
  · rw [cO_rises, cO_rises, cO_rises, rises_beside ha hb, if_pos (by decide)]; omega
  · rw [cO_highs, cO_highs, cO_highs, highs_beside ha hb, if_neg (by decide)]; omega
  · rw [cO_crossed, cO_crossed, cO_crossed, crossed_beside ha hb, if_neg (by decide)]; omega
  · rw [cO_longest, cO_longest, cO_longest, longest_beside ha hb, if_neg (by decide)]; omega
theorem neNil7 {H : Hp} {a e : Addr} {ns : List Int} {Q : VK} (ha : H a = some (.tup (ns.map V.int))) (he : H e = some (.tup [])) (q : Q (.bl (decide (ns ≠ []))) H) : rNeD (.ref a) (.ref e) H Q := by
  refine ⟨_, _, Is.ints ha, .tup he .nil, shaped_tints ns, shaped_tints [], ?_⟩
  have : PyData.eqv (.tuple (ns.map PyData.int)) (.tuple []) = decide (ns = []) := eqv_ints ns []
  rw [this, show (!decide (ns = [])) = decide (ns ≠ []) by cases ns <;> rfl]
  exact q
theorem eqLL {H : Hp} {a b : Addr} {ns ms : List Int} {Q : VK} (ha : H a = some (.lst (ns.map V.int))) (hb : H b = some (.lst (ms.map V.int))) (e : ns = ms) (q : Q (.bl true) H) : rEqD (.ref a) (.ref b) H Q := by
  refine ⟨_, _, .lst ha (IsAll.ints ns), .lst hb (IsAll.ints ms), shaped_lints ns, shaped_lints ms, ?_⟩
  have : PyData.eqv (.list (ns.map PyData.int)) (.list (ms.map PyData.int)) = decide (ns = ms) := eqv_ints ns ms
  rw [this, decide_eq_true e]
  exact q
theorem iteNI {x y : Int} {A B : Prop} (e : x = y) (b : B) : if (!decide (V.int x = V.int y)) = true then A else B := by
  rw [if_neg (by rw [decide_eq_true (by rw [e])]; decide)]
  exact b
def spTwo : Sp := fun vs H Q _ => ∃ (a b : Addr) (ns ms : List Int) (n m : Nat), vs = [.ref a, .ref b] ∧ H a = some (.tup (ns.map V.int)) ∧ H b = some (.tup (ms.map V.int)) ∧ Ord n ns ∧ Ord m ms ∧ n + m ≤ 60 ∧ ∀ H', Same H H' → Q (.bl true) H'
def tAcr : TS := fun D σ G => ∃ (a b : Addr) (ns ms : List Int), σ = [some (.ref a), some (.ref b), none, none, none, none, none, none, none] ∧ G a = some (.tup (ns.map V.int)) ∧ G b = some (.tup (ms.map V.int)) ∧ ∀ G', Same G G' → D.nx [some (.ref a), some (.ref b), some (.int (acr ns ms)), none, none, none, none, none, none] G'
end L2
namespace K07
open PySem PySem.Spec PyProof.Rows L2
abbrev s__law_two_right : Stmt := top 27
section
variable {P : Program} {w : World} {K : PySem.W.Frag} {mg : Str → Option Value} {base : Heap}
theorem sc__law_two_right : FnScope ["_law_one", "_law_other", "_law_across", "_law_kind", "_law_due", "_law_found", "_law_crossed", "_law_rises", "_law_longest"] ["_law_one", "_law_other"] (defScope s__law_two_right) := ⟨rfl, rfl, rfl, by decide +kernel, rfl, by decide +kernel, by decide +kernel⟩
set_option maxHeartbeats 8000000 in
theorem ok__law_two_right {f : Addr} {fd : FuncData} (F : Fun K "_law_two_right" "_law_two_right" s__law_two_right f fd) (T : Top mg) (Ccount : Cal P w K mg base 5 "count" ["kind", "order"] spCount) (Cbeside : Cal P w K mg base 2 "beside" ["one", "other"] (spB fun ns ms => ns ++ ms.map (· + (ns.length : Int)))) (Cabove : Cal P w K mg base 2 "above" ["one", "other"] (spB fun ns ms => ns.map (· + (ms.length : Int)) ++ ms)) : FnOk P w K mg base CX0 6 f fd ["_law_one", "_law_other"] spTwo := by
  refine F.ok sc__law_two_right (fun vs H Q E h => ?_) (fun cdv A outer s H vs Q E hr h => ?_)
  · obtain ⟨a, b, ns, ms, n, m, rfl, _⟩ := h
    rfl
  · obtain ⟨a, b, ns, ms, n, m, rfl, ha, hb, hn, hm, hnm, k⟩ := h
    have hu := hr.units
    refine ⟨_, (pss_cons (PS.mono (t' := tAcr) (ps_set (i := 2) sc__law_two_right.nd rfl (Or.inl rfl) (pe_callTy call_int1 (by rfl) T.n_int boot_int (pa_cons (pe_and (pe_cmpR (op_neD hu) (pv 0) (pe_tup pa_nil) (nomark _)) (pe_one (pe_cmpR (op_neD hu) (pv 1) (pe_tup pa_nil) (nomark _)))) pa_nil))) ?w1)
      (pss_cons (ps_for PassesOwn.never rfl (pi_list (pe_lst (pa_cons pe_str (pa_cons pe_str (pa_cons pe_str (pa_cons pe_str (pa_cons pe_str (pa_cons pe_str pa_nil)))))))) (pg_name (i := 3) sc__law_two_right.nd rfl (Or.inl rfl))
        (pss_cons (ps_set (i := 4) sc__law_two_right.nd rfl (Or.inl rfl) (pe_op op_add (pe_op op_add (pe_cal Ccount (hr.mono (by decide)) rfl (pa_cons (pv 3) (pa_cons (pv 0) pa_nil))) (pe_cal Ccount (hr.mono (by decide)) rfl (pa_cons (pv 3) (pa_cons (pv 1) pa_nil)))) (pe_op op_mul (pv 2) (pe_callTy call_int1 (by rfl) T.n_int boot_int (pa_cons (pe_cmpR op_eq (pv 3) pe_str (nomark _)) pa_nil)))))
        (pss_one (ps_if (pt_cmpR op_ne (pe_cal Ccount (hr.mono (by decide)) rfl (pa_cons (pv 3) (pa_cons (pe_cal Cbeside (hr.mono (by decide)) rfl (pa_cons (pv 0) (pa_cons (pv 1) pa_nil))) pa_nil))) (pv 4) (nomark _))
          (pss_one (ps_ret pe_bl))
          pss_nil))))
      (pss_cons (ps_lcset (i := 5) rfl sc__law_two_right.nd rfl rfl (N' := ["_law_kind", "_law_one", "_law_other"]) (n := 1) (ix := [0, 1]) rfl (CompScope.of (sc := defScope s__law_two_right) (N := ["_law_one", "_law_other", "_law_across", "_law_kind", "_law_due", "_law_found", "_law_crossed", "_law_rises", "_law_longest"]) (by decide +kernel) rfl rfl) (pi_list (pe_lst (pa_cons pe_str (pa_cons pe_str (pa_cons pe_str (pa_cons pe_str pa_nil)))))) (fun _ _ _ _ _ => ⟨(pg_name (i := 0) (show (["_law_kind", "_law_one", "_law_other"] : List Str).Nodup by decide +kernel) rfl (Or.inl rfl)), pts_nil, (pe_cal Ccount (hr.mono (by decide)) rfl (pa_cons (pv 0) (pa_cons (pe_cal Cabove (hr.mono (by decide)) rfl (pa_cons (pv 1) (pa_cons (pv 2) pa_nil))) pa_nil)))⟩))
      (pss_cons (ps_set (i := 6) sc__law_two_right.nd rfl (Or.inl rfl) (pe_op op_add (pe_op op_add (pe_cal Ccount (hr.mono (by decide)) rfl (pa_cons pe_str (pa_cons (pv 0) pa_nil))) (pe_cal Ccount (hr.mono (by decide)) rfl (pa_cons pe_str (pa_cons (pv 1) pa_nil)))) (pe_op op_mul (pe_callB call_len_seq (by rfl) T.n_len PySem.boot_len (pa_cons (pv 0) pa_nil)) (pe_callB call_len_seq (by rfl) T.n_len PySem.boot_len (pa_cons (pv 1) pa_nil)))))
      (pss_cons (ps_set (i := 7) sc__law_two_right.nd rfl (Or.inl rfl) (pe_op op_add (pe_cal Ccount (hr.mono (by decide)) rfl (pa_cons pe_str (pa_cons (pv 0) pa_nil))) (pe_cal Ccount (hr.mono (by decide)) rfl (pa_cons pe_str (pa_cons (pv 1) pa_nil)))))
      (pss_cons (ps_set (i := 8) sc__law_two_right.nd rfl (Or.inl rfl) (pe_callB (call_max2 rfl) (by rfl) T.n_max boot_max (pa_cons (pe_cal Ccount (hr.mono (by decide)) rfl (pa_cons pe_str (pa_cons (pv 0) pa_nil))) (pa_cons (pe_cal Ccount (hr.mono (by decide)) rfl (pa_cons pe_str (pa_cons (pv 1) pa_nil))) pa_nil))))
      (pss_one (ps_ret (pe_cmpR (op_eqD hu) (pv 5) (pe_lst (pa_cons (pv 7) (pa_cons (pv 6) (pa_cons (pv 8) (pa_cons (pe_cal Ccount (hr.mono (by decide)) rfl (pa_cons pe_str (pa_cons (pe_ifExp (pt_cmpR (op_neD hu) (pv 0) (pe_tup pa_nil) (nomark _)) (pv 0) (pv 1)) pa_nil))) pa_nil))))) (nomark _)))))))))), ?fin⟩
    case w1 =>
      rintro D σ G ⟨a', b', ns', ms', rfl, ha', hb', nx⟩
      refine ⟨_, rfl, Nat.zero_le _, fun e1 h1 => ?_⟩
      refine neNil7 (same_upd h1 _ _ ha') upd_same ?_
      refine ⟨_, rfl, ?_⟩
      refine ite2 (fun c => ?_) (fun c => ?_)
      · have c' : ns' ≠ [] := of_decide_eq_true c
        refine ⟨_, rfl, Nat.zero_le _, fun e2 h2 => ?_⟩
        refine neNil7 (same_upd h2 _ _ (same_upd h1 _ _ hb')) upd_same ?_
        refine .inr ⟨_, rfl, ?_⟩
        have e : (if decide (ms' ≠ []) = true then (1 : Int) else 0) = acr ns' ms' := by
          unfold acr
          by_cases d : ms' = []
          · rw [if_neg (by simpa using d), if_neg fun z => z.2 d]
          · rw [if_pos (by simpa using d), if_pos ⟨c', d⟩]
        rw [e]
        exact nx _ ((same_upd h1).trans (same_upd h2))
      · have c' : ¬ (ns' ≠ []) := fun z => c (decide_eq_true z)
        refine .inr ⟨_, rfl, ?_⟩
        have e : (if false = true then (1 : Int) else 0) = acr ns' ms' := by
          unfold acr
          exact (if_neg fun z => c' z.1).symm
        rw [e]
        exact nx _ (same_upd h1)
    case fin =>
      have ln := hn.len
      have lm := hm.len
      refine ⟨a, b, ns, ms, rfl, ha, hb, fun G s0 => ?_⟩
      refine ⟨by show 6 ≤ sizeLine; decide, fun L hL => ⟨L, rfl, ⟨_, SqL.of upd_same⟩, ?_⟩⟩
      refine for_list (K := K) (a := L) (xs := kinds6.map V.str) (fun j σ G => ∃ c3 c4 : Option V, σ = [some (.ref a), some (.ref b), some (.int (acr ns ms)), c3, c4, none, none, none, none] ∧ Same H G ∧ G L = some (.lst (kinds6.map V.str))) ?_ ?_ ?_ ?_
      · exact ⟨none, none, rfl, s0.trans (same_upd hL), upd_same⟩
      · rintro j σ G _ ⟨c3, c4, rfl, _, hG⟩
        exact SqL.of hG
      · rintro j x σ G hx ⟨c3, c4, rfl, SG, hG⟩
        obtain ⟨kd, hk, rfl⟩ := List.mem_map.mp (List.mem_of_getElem? hx)
        refine ⟨_, rfl, _, rfl, kd, a, ns, n, rfl, hk, SG _ _ ha, hn, by omega, fun G1 s1 => ?_⟩
        refine ⟨_, rfl, _, rfl, kd, b, ms, m, rfl, hk, s1 _ _ (SG _ _ hb), hm, by omega, fun G2 s2 => ?_⟩
        have r := acr_rng ns ms
        refine ⟨_, _, rfl, rfl, _, rfl, _, rfl, rfl, .inr ⟨_, rfl, _, _, rfl, rfl, .inl ⟨by omega, by omega⟩, _, _, rfl, rfl, ?_⟩⟩
        have S2 := SG.trans (s1.trans s2)
        refine ⟨_, rfl, _, rfl, _, rfl, a, b, ns, ms, rfl, S2 _ _ ha, S2 _ _ hb, by omega, by omega, fun t G3 s3 ht => ?_⟩
        refine ⟨kd, t, bsO ns ms, n + m, rfl, hk, ht, Ord.beside hn hm, by omega, fun G4 s4 => ⟨_, rfl, rfl, _, rfl, iteNI (count_beside hk hn hm) ?_⟩⟩
        exact ⟨_, _, rfl, S2.trans (s3.trans s4), s4 _ _ (s3 _ _ (s2 _ _ (s1 _ _ hG)))⟩
      · rintro σ G ⟨c3, c4, rfl, SG, _⟩
        refine ⟨by show 4 ≤ sizeLine; decide, fun L2 hL2 => ⟨L2, rfl, ⟨_, SqL.of upd_same⟩, ?_⟩⟩
        have S1 := SG.trans (same_upd (o := .lst [V.str "rises", V.str "crossed", V.str "longest", V.str "highs"]) hL2)
        refine lc_grow (yields_list (xs := [V.str "rises", V.str "crossed", V.str "longest", V.str "highs"])) (small1 (by decide)) (fun x v _ => ∃ kd : Str, x = V.str kd ∧ v = V.int (countO kd (abO ns ms))) (fun _ _ _ _ _ h => h) (fun _ s' => SqL.of (s' _ _ upd_same)) (fun x hx G3 s3 Q' q3 => ?_) fun acc vs G3 hacc s3 hvs pr => ?_
        · have hkd : ∃ kd : Str, kd ∈ kinds6 ∧ x = V.str kd := by
            have : x = V.str "rises" ∨ x = V.str "crossed" ∨ x = V.str "longest" ∨ x = V.str "highs" := by simpa using hx
            rcases this with rfl | rfl | rfl | rfl
            · exact ⟨"rises", by decide, rfl⟩
            · exact ⟨"crossed", by decide, rfl⟩
            · exact ⟨"longest", by decide, rfl⟩
            · exact ⟨"highs", by decide, rfl⟩
          obtain ⟨kd, hk, rfl⟩ := hkd
          have S3 := S1.trans s3
          refine ⟨_, rfl, _, rfl, _, rfl, a, b, ns, ms, rfl, S3 _ _ ha, S3 _ _ hb, by omega, by omega, fun t G4 s4 ht => ?_⟩
          exact ⟨kd, t, abO ns ms, n + m, rfl, hk, ht, Ord.above hn hm, by omega, fun G5 s5 => q3 _ _ (s4.trans s5) ⟨kd, rfl, rfl⟩⟩
        have evs : vs = [countO "rises" (abO ns ms), countO "crossed" (abO ns ms), countO "longest" (abO ns ms), countO "highs" (abO ns ms)].map V.int := by
          obtain _ | ⟨⟨k1, e1, f1⟩, pr⟩ := pr
          obtain _ | ⟨⟨k2, e2, f2⟩, pr⟩ := pr
          obtain _ | ⟨⟨k3, e3, f3⟩, pr⟩ := pr
          obtain _ | ⟨⟨k4, e4, f4⟩, pr⟩ := pr
          cases pr
          injection e1 with e1
          injection e2 with e2
          injection e3 with e3
          injection e4 with e4
          rw [f1, f2, f3, f4, ← e1, ← e2, ← e3, ← e4]
          rfl
        subst evs
        have S3 := S1.trans s3
        refine ⟨_, rfl, "crossed", a, ns, n, rfl, by decide, S3 _ _ ha, hn, by omega, fun G4 s4 => ?_⟩
        have S4 := S3.trans s4
        refine ⟨_, rfl, "crossed", b, ms, m, rfl, by decide, S4 _ _ hb, hm, by omega, fun G5 s5 => ?_⟩
        have S5 := S4.trans s5
        refine ⟨_, _, rfl, rfl, _, rfl, a, _, rfl, .inr (SqT.of (S5 _ _ ha)), _, rfl, b, _, rfl, .inr (SqT.of (S5 _ _ hb)), _, _, rfl, rfl, .inl ⟨by rw [mapI_len]; omega, by rw [mapI_len]; omega⟩, _, _, rfl, rfl, ?_⟩
        rw [mapI_len, mapI_len, ln, lm]
        refine ⟨_, rfl, "rises", a, ns, n, rfl, by decide, S5 _ _ ha, hn, by omega, fun G6 s6 => ?_⟩
        have S6 := S5.trans s6
        refine ⟨_, rfl, "rises", b, ms, m, rfl, by decide, S6 _ _ hb, hm, by omega, fun G7 s7 => ⟨_, _, rfl, rfl, ?_⟩⟩
        have S7 := S6.trans s7
        refine ⟨_, rfl, "longest", a, ns, n, rfl, by decide, S7 _ _ ha, hn, by omega, fun G8 s8 => ?_⟩
        have S8 := S7.trans s8
        refine ⟨_, rfl, "longest", b, ms, m, rfl, by decide, S8 _ _ hb, hm, by omega, fun G9 s9 => ⟨_, _, rfl, ?_⟩⟩
        have S9 := S8.trans s9
        have hv9 := ((((((s4.trans s5).trans s6).trans s7).trans s8).trans s9)) _ _ hvs
        have er : countO "rises" ns + countO "rises" ms = countO "rises" (abO ns ms) := by rw [cO_rises, cO_rises, cO_rises, rises_above hn hm]
        have ec : countO "crossed" ns + countO "crossed" ms + (n : Int) * m = countO "crossed" (abO ns ms) := by rw [cO_crossed, cO_crossed, cO_crossed, crossed_above hn hm]
        have el : (if countO "longest" ms > countO "longest" ns then countO "longest" ms else countO "longest" ns) = countO "longest" (abO ns ms) := by rw [cO_longest, cO_longest, cO_longest, longest_above hn hm]
        refine ⟨_, rfl, _, rfl, _, rfl, _, rfl, _, rfl, Nat.zero_le _, fun e1 h1 => ?_⟩
        refine neNil7 (same_upd h1 _ _ (S9 _ _ ha)) upd_same ?_
        refine ⟨_, rfl, ?_⟩
        have S10 := S9.trans (same_upd (o := .tup []) h1)
        have fin : ∀ (G' : Hp) (h : Int), Same (upd G9 e1 (.tup [])) G' → h = countO "highs" (abO ns ms) → ∀ l, G' l = none → rEqD (.ref acc) (.ref l) (upd G' l (.lst ([countO "rises" ns + countO "rises" ms, countO "crossed" ns + countO "crossed" ms + (n : Int) * m, if countO "longest" ms > countO "longest" ns then countO "longest" ms else countO "longest" ns, h].map V.int))) Q := fun G' h s' e l hl => by
          subst e
          refine eqLL ?_ upd_same (by rw [er, ec, el]) (k _ ?_)
          · exact same_upd hl _ _ (s' _ _ (same_upd h1 _ _ hv9))
          · exact (S10.trans s').trans (same_upd hl)
        refine ite2 (fun c => ?_) (fun c => ?_)
        · have c' : ns ≠ [] := of_decide_eq_true c
          refine ⟨_, rfl, "highs", a, ns, n, rfl, by decide, S10 _ _ ha, hn, by omega, fun G11 s11 => ⟨by show 4 ≤ sizeLine; decide, fun l hl => ?_⟩⟩
          refine fin _ _ s11 ?_ l hl
          rw [cO_highs, cO_highs, highs_above hn hm (by have := List.length_pos_iff.mpr c'; omega)]
        · have c' : ns = [] := Classical.byContradiction fun z => c (decide_eq_true z)
          refine ⟨_, rfl, "highs", b, ms, m, rfl, by decide, S10 _ _ hb, hm, by omega, fun G11 s11 => ⟨by show 4 ≤ sizeLine; decide, fun l hl => ?_⟩⟩
          refine fin _ _ s11 ?_ l hl
          subst c'
          rfl
end
end K07


namespace L2
open PySem PySem.Spec PyProof.Rows
theorem Ord.turned {m : Nat} {ns : List Int} (h : Ord m ns) : Ord m (tnO ns) := by
  show (ns.map fun x => ((ns.length : Int) - 1) - x).Perm (num0 m)
  rw [h.len]
  refine (List.Perm.map _ h).trans ?_
  rw [num0_rev]
  exact List.reverse_perm _
structure Made (m : Nat) (ys zs : List Int) : Prop where
  ord : Ord m zs
  ri : risesO zs + risesO ys = ((m - 1 : Nat) : Int)
  cr : 2 * (crossedO zs + crossedO ys) = (m : Int) * (m - 1)
theorem made_tn {m : Nat} {ys : List Int} (h : Ord m ys) : Made m ys (tnO ys) := ⟨h.turned, rises_turned h, crossed_turned h⟩
theorem made_rv {m : Nat} {ys : List Int} (h : Ord m ys) : Made m ys ys.reverse := ⟨(List.reverse_perm _).trans h, rises_mirrored h, crossed_mirrored h⟩
theorem count_inv {m : Nat} {ys : List Int} {kind : Str} (h : Ord m ys) (hk : kind = "rounds" ∨ kind = "stays" ∨ kind = "crossed" ∨ kind = "longest") : countO kind (invO ys) = countO kind ys := by
  rcases hk with rfl | rfl | rfl | rfl
  · rw [cO_rounds, cO_rounds, rounds_invN h]
  · rw [cO_stays, cO_stays, stays_inv h]
  · rw [cO_crossed, cO_crossed, crossed_inv h]
  · rw [cO_longest, cO_longest, longest_inv h]
theorem kinds4 {x : V} (h : x ∈ [V.str "rounds", V.str "stays", V.str "crossed", V.str "longest"]) : ∃ kd : Str, x = V.str kd ∧ kd ∈ kinds6 ∧ (kd = "rounds" ∨ kd = "stays" ∨ kd = "crossed" ∨ kd = "longest") := by
  have : x = V.str "rounds" ∨ x = V.str "stays" ∨ x = V.str "crossed" ∨ x = V.str "longest" := by simpa using h
  rcases this with rfl | rfl | rfl | rfl
  · exact ⟨"rounds", rfl, by decide, .inl rfl⟩
  · exact ⟨"stays", rfl, by decide, .inr (.inl rfl)⟩
  · exact ⟨"crossed", rfl, by decide, .inr (.inr (.inl rfl))⟩
  · exact ⟨"longest", rfl, by decide, .inr (.inr (.inr rfl))⟩
theorem kinds2 {x : V} (h : x ∈ [V.str "rounds", V.str "stays"]) : ∃ kd : Str, x = V.str kd ∧ kd ∈ kinds6 := by
  have : x = V.str "rounds" ∨ x = V.str "stays" := by simpa using h
  rcases this with rfl | rfl
  · exact ⟨"rounds", rfl, by decide⟩
  · exact ⟨"stays", rfl, by decide⟩
theorem two_read {f : Str → Int} {vs : List V} (pr : Paired (fun x v => ∃ kd : Str, x = V.str kd ∧ v = V.int (f kd)) [V.str "rounds", V.str "stays"] vs) : vs = [f "rounds", f "stays"].map V.int := by
  obtain _ | ⟨⟨k1, e1, f1⟩, pr⟩ := pr
  obtain _ | ⟨⟨k2, e2, f2⟩, pr⟩ := pr
  cases pr
  injection e1 with e1
  injection e2 with e2
  rw [f1, f2, ← e1, ← e2]
  rfl
theorem Hand.tupK {H H' : Hp} {p q a : Addr} {xs : List V} (h : Hand H p q) (k : Keep p q H H') (ha : H a = some (.tup xs)) : H' a = some (.tup xs) := k.tup h ha
end L2
namespace K07
open PySem PySem.Spec PyProof.Rows L2
abbrev s_law : Stmt := top 28
def spLaw (K : PySem.W.Frag) : Sp := fun vs H Q _ => ∃ (a : Addr) (ns : List Int), vs = [.ref a] ∧ SqL K H a (ns.map V.int) ∧ ns.length ≤ 63 ∧ ∀ H', Q (.bl true) H'
def LawI (σ : L2.St) (H : Hp) : Prop := ∃ (a p q : Addr) (c2 c3 c4 c5 c6 c7 c8 : Option V), σ = [some (.ref a), some (.ref p), c2, c3, c4, c5, c6, c7, c8] ∧ Hand H p q
section
variable {P : Program} {w : World} {K : PySem.W.Frag} {mg : Str → Option Value} {base : Heap}
theorem sc_law : FnScope ["_law_script", "_law_hand_here", "_law_turn", "_law_one", "_law_other", "_law_many", "_law_kind", "_law_made", "_law_around"] ["_law_script"] (defScope s_law) := ⟨rfl, rfl, rfl, by decide +kernel, rfl, by decide +kernel, by decide +kernel⟩
set_option maxHeartbeats 8000000 in
theorem ok_law {f : Addr} {fd : FuncData} (F : Fun K "law" "law" s_law f fd) (T : Top mg) (C_law_hand : Cal P w K mg base 1 "_law_hand" ["_law_script"] (spHand K)) (C_law_pick : Cal P w K mg base 1 "_law_pick" ["_law_hand_here", "_law_many"] spPick) (C_law_size : Cal P w K mg base 2 "_law_size" ["_law_hand_here", "_law_most"] spSize) (C_law_any : Cal P w K mg base 2 "_law_any" ["_law_hand_here", "_law_many"] spAny) (C_law_order : Cal P w K mg base 3 "_law_order" ["_law_hand_here", "_law_many"] spOrder) (Ccount : Cal P w K mg base 5 "count" ["kind", "order"] spCount) (Cundone : Cal P w K mg base 1 "undone" ["order"] spUndone) (Cafter : Cal P w K mg base 1 "after" ["one", "other"] spAfter) (Cmirrored : Cal P w K mg base 1 "mirrored" ["order"] (spU fun ns => ns.reverse)) (Cturned : Cal P w K mg base 1 "turned" ["order"] (spU fun ns => ns.map (((ns.length : Int) - 1) - ·))) (C_law_two_right : Cal P w K mg base 6 "_law_two_right" ["_law_one", "_law_other"] spTwo) : FnOk P w K mg base CX0 7 f fd ["_law_script"] (spLaw K) := by
  refine F.ok sc_law (fun vs H Q E h => ?_) (fun cdv A outer s H vs Q E hr h => ?_)
  · obtain ⟨a, ns, rfl, _⟩ := h
    rfl
  · obtain ⟨a, ns, rfl, hS, hl, k⟩ := h
    have hu := hr.units
    refine ⟨_, (pss_cons (ps_set (i := 1) sc_law.nd rfl (Or.inl rfl) (pe_cal C_law_hand (hr.mono (by decide)) rfl (pa_cons (pv 0) pa_nil)))
      (pss_cons (ps_for PassesOwn.never rfl (pi_range1 rfl T.n_range (pa_cons pe_int pa_nil)) (pg_name (i := 2) sc_law.nd rfl (Or.inl rfl))
        (pss_cons (ps_set (i := 3) sc_law.nd rfl (Or.inr rfl) (pe_cal C_law_order (hr.mono (by decide)) rfl (pa_cons (pv 1) (pa_cons (pe_cal C_law_size (hr.mono (by decide)) rfl (pa_cons (pv 1) (pa_cons (pe_ix ix_list (pe_lst (pa_cons pe_int (pa_cons pe_int pa_nil))) (pe_cal C_law_pick (hr.mono (by decide)) rfl (pa_cons (pv 1) (pa_cons pe_int pa_nil))) (fun _ _ => rfl)) pa_nil))) pa_nil))))
        (pss_cons (ps_set (i := 4) sc_law.nd rfl (Or.inl rfl) (pe_cal C_law_order (hr.mono (by decide)) rfl (pa_cons (pv 1) (pa_cons (pe_callB (call_min2 rfl) (by rfl) T.n_min boot_min (pa_cons (pe_cal C_law_size (hr.mono (by decide)) rfl (pa_cons (pv 1) (pa_cons pe_int pa_nil))) (pa_cons (pe_op op_sub pe_int (pe_callB call_len_seq (by rfl) T.n_len PySem.boot_len (pa_cons (pv 3) pa_nil))) pa_nil))) pa_nil))))
        (pss_cons (ps_set (i := 5) sc_law.nd rfl (Or.inl rfl) (pe_callB call_len_seq (by rfl) T.n_len PySem.boot_len (pa_cons (pv 3) pa_nil)))
        (pss_cons (ps_for PassesOwn.never rfl (pi_list (pe_lst (pa_cons pe_str (pa_cons pe_str (pa_cons pe_str (pa_cons pe_str pa_nil)))))) (pg_name (i := 6) sc_law.nd rfl (Or.inl rfl))
          (pss_one (ps_if (pt_cmpR op_ne (pe_cal Ccount (hr.mono (by decide)) rfl (pa_cons (pv 6) (pa_cons (pe_cal Cundone (hr.mono (by decide)) rfl (pa_cons (pv 3) pa_nil)) pa_nil))) (pe_cal Ccount (hr.mono (by decide)) rfl (pa_cons (pv 6) (pa_cons (pv 3) pa_nil))) (nomark _))
            (pss_one (ps_ret pe_bl))
            pss_nil)))
        (pss_cons (ps_for PassesOwn.never rfl (pi_list (pe_lst (pa_cons (pe_cal Cturned (hr.mono (by decide)) rfl (pa_cons (pv 3) pa_nil)) (pa_cons (pe_cal Cmirrored (hr.mono (by decide)) rfl (pa_cons (pv 3) pa_nil)) pa_nil)))) (pg_name (i := 7) sc_law.nd rfl (Or.inr rfl))
          (pss_cons (ps_if (pt_cmpR op_ne (pe_op op_add (pe_cal Ccount (hr.mono (by decide)) rfl (pa_cons pe_str (pa_cons (pv 7) pa_nil))) (pe_cal Ccount (hr.mono (by decide)) rfl (pa_cons pe_str (pa_cons (pv 3) pa_nil)))) (pe_callB (call_max2 rfl) (by rfl) T.n_max boot_max (pa_cons pe_int (pa_cons (pe_op op_sub (pv 5) pe_int) pa_nil))) (nomark _))
            (pss_one (ps_ret pe_bl))
            pss_nil)
          (pss_one (ps_if (pt_cmpR op_ne (pe_op op_add (pe_cal Ccount (hr.mono (by decide)) rfl (pa_cons pe_str (pa_cons (pv 7) pa_nil))) (pe_cal Ccount (hr.mono (by decide)) rfl (pa_cons pe_str (pa_cons (pv 3) pa_nil)))) (pe_op op_fdiv (pe_op op_mul (pv 5) (pe_op op_sub (pv 5) pe_int)) pe_int) (nomark _))
            (pss_one (ps_ret pe_bl))
            pss_nil))))
        (pss_cons (ps_if (pt_not (pt_val (pe_cal C_law_two_right (hr.mono (by decide)) rfl (pa_cons (pv 3) (pa_cons (pv 4) pa_nil)))))
          (pss_one (ps_ret pe_bl))
          pss_nil)
        (pss_cons (ps_set (i := 8) sc_law.nd rfl (Or.inl rfl) (pe_callTy call_tuple_of (by rfl) T.n_tuple boot_tuple (pa_cons (pe_cal C_law_any (hr.mono (by decide)) rfl (pa_cons (pv 1) (pa_cons (pv 5) pa_nil))) pa_nil)))
        (pss_cons (ps_set (i := 7) sc_law.nd rfl (Or.inr rfl) (pe_cal Cafter (hr.mono (by decide)) rfl (pa_cons (pe_cal Cafter (hr.mono (by decide)) rfl (pa_cons (pv 8) (pa_cons (pv 3) pa_nil))) (pa_cons (pe_cal Cundone (hr.mono (by decide)) rfl (pa_cons (pv 8) pa_nil)) pa_nil))))
        (pss_one (ps_if (pt_cmpR (op_neD hu) (pe_lc (N' := ["_law_kind", "_law_made"]) (n := 1) (ix := [7]) rfl (CompScope.of (sc := defScope s_law) (N := ["_law_script", "_law_hand_here", "_law_turn", "_law_one", "_law_other", "_law_many", "_law_kind", "_law_made", "_law_around"]) (by decide +kernel) rfl rfl) (pi_list (pe_lst (pa_cons pe_str (pa_cons pe_str pa_nil)))) (fun _ _ _ _ _ => ⟨(pg_name (i := 0) (show (["_law_kind", "_law_made"] : List Str).Nodup by decide +kernel) rfl (Or.inl rfl)), pts_nil, (pe_cal Ccount (hr.mono (by decide)) rfl (pa_cons (pv 0) (pa_cons (pv 1) pa_nil)))⟩)) (pe_lc (N' := ["_law_kind", "_law_one"]) (n := 1) (ix := [3]) rfl (CompScope.of (sc := defScope s_law) (N := ["_law_script", "_law_hand_here", "_law_turn", "_law_one", "_law_other", "_law_many", "_law_kind", "_law_made", "_law_around"]) (by decide +kernel) rfl rfl) (pi_list (pe_lst (pa_cons pe_str (pa_cons pe_str pa_nil)))) (fun _ _ _ _ _ => ⟨(pg_name (i := 0) (show (["_law_kind", "_law_one"] : List Str).Nodup by decide +kernel) rfl (Or.inl rfl)), pts_nil, (pe_cal Ccount (hr.mono (by decide)) rfl (pa_cons (pv 0) (pa_cons (pv 1) pa_nil)))⟩)) (nomark _))
          (pss_one (ps_ret pe_bl))
          pss_nil)))))))))))
      (pss_one (ps_ret pe_bl)))), ?_⟩
    refine ⟨_, rfl, a, ns, rfl, hS, hl, fun p q H1 s1 hh1 hp0 hq0 => ?_⟩
    refine ⟨4, rfl, by decide, by decide, ?_⟩
    refine for_range (n := 4) (fun i σ H2 => LawI σ H2) ⟨a, p, q, none, none, none, none, none, none, none, rfl, hh1⟩ ?_ ?_
    · rintro i σ H2 hi ⟨a, p, q, c2, c3, c4, c5, c6, c7, c8, rfl, hh2⟩
      refine ⟨_, rfl, _, rfl, by show 2 ≤ sizeLine; decide, fun l hl => ?_⟩
      have hh3 := upd_hand (o := .lst [V.int 30, V.int 57]) hh2 hl
      have hln : l ≠ p ∧ l ≠ q := by
        obtain ⟨_, _, g1, g2, _⟩ := id hh2
        exact ⟨Ne.symm (ne_of_none g1 hl), Ne.symm (ne_of_none g2 hl)⟩
      refine ⟨_, rfl, p, q, 2, rfl, by decide, by decide, hh3, fun d H4 d0 d1 hh4 k4 => ?_⟩
      have hat : ∃ v : Int, (v = 30 ∨ v = 57) ∧ atI [V.int 30, V.int 57] d = some (.int v) := by
        have : d = 0 ∨ d = 1 := by omega
        rcases this with rfl | rfl
        · exact ⟨30, .inl rfl, rfl⟩
        · exact ⟨57, .inr rfl, rfl⟩
      obtain ⟨v, hv, hat⟩ := hat
      refine ⟨l, _, d, _, rfl, rfl, SqL.of (k4 _ _ upd_same hln.1 hln.2), hat, ?_⟩
      refine ⟨p, q, v, rfl, by omega, by omega, hh4, fun m1 H5 m0 m1' hh5 k5 => ?_⟩
      obtain ⟨m, rfl⟩ : ∃ n : Nat, m1 = (n : Int) := ⟨m1.toNat, by omega⟩
      refine ⟨p, q, m, rfl, by omega, hh5, fun o ys H6 ho hy hh6 k6 => ?_⟩
      have ln : ys.length = m := Ord.len ho
      have lm : ((ys.map V.int).length : Int) = m := by rw [mapI_len, ln]
      refine ⟨_, rfl, _, rfl, p, q, 30, rfl, by decide, by decide, hh6, fun d2 H7 e0 e1 hh7 k7 => ?_⟩
      have hy7 := hh6.tupK k7 hy
      refine ⟨_, rfl, o, _, rfl, .inr (SqT.of hy7), _, _, rfl, rfl, _, _, rfl, ?_⟩
      rw [lm]
      obtain ⟨m2, em, hm2⟩ : ∃ m2 : Nat, (if (60 : Int) - m < d2 then (60 : Int) - m else d2) = (m2 : Int) ∧ m + m2 ≤ 60 := by
        by_cases c : (60 : Int) - m < d2
        · rw [if_pos c]; exact ⟨60 - m, by omega, by omega⟩
        · rw [if_neg c]; exact ⟨d2.toNat, by omega, by omega⟩
      rw [em]
      refine ⟨p, q, m2, rfl, by omega, hh7, fun o2 zs H8 ho2 hz hh8 k8 => ?_⟩
      have hy8 := hh7.tupK k8 hy7
      refine ⟨_, rfl, o, _, rfl, .inr (SqT.of hy8), ?_⟩
      rw [lm]
      refine ⟨by show 4 ≤ sizeLine; decide, fun L hL => ⟨L, rfl, ⟨_, SqL.of upd_same⟩, ?_⟩⟩
      refine for_list (K := K) (a := L) (xs := [V.str "rounds", V.str "stays", V.str "crossed", V.str "longest"]) (fun j σ G => ∃ c6 : Option V, σ = [some (.ref a), some (.ref p), some (.int (0 + (i : Int))), some (.ref o), some (.ref o2), some (.int m), c6, c7, c8] ∧ Same H8 G ∧ G L = some (.lst [V.str "rounds", V.str "stays", V.str "crossed", V.str "longest"])) ?_ ?_ ?_ ?_
      · exact ⟨c6, rfl, same_upd hL, upd_same⟩
      · rintro j σ G _ ⟨c6, rfl, _, hG⟩
        exact SqL.of hG
      · rintro j x σ G hx ⟨c6, rfl, SG, hG⟩
        obtain ⟨kd, rfl, hk, hk4⟩ := kinds4 (List.mem_of_getElem? hx)
        refine ⟨_, rfl, _, rfl, o, ys, m, rfl, SG _ _ hy8, ho, by omega, fun t G1 s1 ht => ?_⟩
        refine ⟨kd, t, invO ys, m, rfl, hk, ht, Ord.inv ho, by omega, fun G2 s2 => ?_⟩
        refine ⟨_, rfl, _, rfl, kd, o, ys, m, rfl, hk, s2 _ _ (s1 _ _ (SG _ _ hy8)), ho, by omega, fun G3 s3 => ⟨rfl, _, rfl, iteNI (count_inv ho hk4) ?_⟩⟩
        exact ⟨_, rfl, ((SG.trans s1).trans s2).trans s3, s3 _ _ (s2 _ _ (s1 _ _ hG))⟩
      rintro σ G ⟨c6, rfl, SG, _⟩
      refine ⟨_, rfl, o, ys, rfl, SG _ _ hy8, by omega, fun t1 G1 s1 ht1 => ?_⟩
      refine ⟨_, rfl, o, ys, rfl, s1 _ _ (SG _ _ hy8), by omega, fun t2 G2 s2 ht2 => ?_⟩
      refine ⟨by show 2 ≤ sizeLine; decide, fun L' hL' => ⟨L', rfl, ⟨_, SqL.of upd_same⟩, ?_⟩⟩
      have S2 := (SG.trans s1).trans s2
      refine for_list (K := K) (a := L') (xs := [V.ref t1, V.ref t2]) (fun j σ G => ∃ c7 : Option V, σ = [some (.ref a), some (.ref p), some (.int (0 + (i : Int))), some (.ref o), some (.ref o2), some (.int m), c6, c7, c8] ∧ Same (upd G2 L' (.lst [V.ref t1, V.ref t2])) G) ?_ ?_ ?_ ?_
      · exact ⟨c7, rfl, Same.refl _⟩
      · rintro j σ G' _ ⟨c7, rfl, sG⟩
        exact SqL.of (sG _ _ upd_same)
      · rintro j x σ G' hx ⟨c7, rfl, sG⟩
        have sL := (same_upd (o := .lst [V.ref t1, V.ref t2]) hL').trans sG
        have hm : ∃ (t : Addr) (ws : List Int), x = V.ref t ∧ G' t = some (.tup (ws.map V.int)) ∧ Made m ys ws := by
          have : x = V.ref t1 ∨ x = V.ref t2 := by simpa using List.mem_of_getElem? hx
          rcases this with rfl | rfl
          · exact ⟨t1, tnO ys, rfl, sL _ _ (s2 _ _ ht1), made_tn ho⟩
          · exact ⟨t2, ys.reverse, rfl, sL _ _ ht2, made_rv ho⟩
        obtain ⟨t, ws, rfl, ht, M⟩ := hm
        have hyG := sL _ _ (S2 _ _ hy8)
        refine ⟨_, rfl, "rises", t, ws, m, rfl, by decide, ht, M.ord, by omega, fun G3 s3 => ?_⟩
        refine ⟨_, rfl, "rises", o, ys, m, rfl, by decide, s3 _ _ hyG, ho, by omega, fun G4 s4 => ⟨_, _, rfl, rfl, ?_⟩⟩
        refine ⟨_, rfl, _, _, rfl, rfl, _, _, rfl, rfl, _, rfl, iteNI ?_ ?_⟩
        · rw [cO_rises, cO_rises, M.ri]
          split <;> omega
        have s34 := s3.trans s4
        refine ⟨_, rfl, "crossed", t, ws, m, rfl, by decide, s34 _ _ ht, M.ord, by omega, fun G5 s5 => ?_⟩
        refine ⟨_, rfl, "crossed", o, ys, m, rfl, by decide, s5 _ _ (s34 _ _ hyG), ho, by omega, fun G6 s6 => ⟨_, _, rfl, rfl, ?_⟩⟩
        refine ⟨_, rfl, _, rfl, _, _, rfl, rfl, _, _, rfl, rfl, .inl ⟨by omega, by omega⟩, _, _, rfl, rfl, ⟨by decide, by decide⟩, rfl, _, rfl, iteNI ?_ ?_⟩
        · rw [cO_crossed, cO_crossed, ← M.cr]
          omega
        exact ⟨_, rfl, sG.trans ((s34.trans s5).trans s6)⟩
      rintro σ G' ⟨c7, rfl, sG⟩
      have S3 := (S2.trans (same_upd (o := .lst [V.ref t1, V.ref t2]) hL')).trans sG
      have hy9 := S3 _ _ hy8
      have hz9 := S3 _ _ hz
      refine ⟨_, rfl, _, rfl, o, o2, ys, zs, m, m2, rfl, hy9, hz9, ho, ho2, hm2, fun G4 s4 => ⟨_, rfl, iteF ?_⟩⟩
      have hh9 := (hh8.same S3).same s4
      have hy10 := s4 _ _ hy9
      refine ⟨_, rfl, _, rfl, p, q, m, rfl, by omega, hh9, fun l2 ar G5 har hl20 hl2 hh10 k10 => ⟨l2, _, rfl, .inl ⟨SqL.of hl2, fun t ht => ?_⟩⟩⟩
      have hy11 := same_upd (o := .tup (ar.map V.int)) ht _ _ (hh9.tupK k10 hy10)
      have hh11 := hh10.same (same_upd (o := .tup (ar.map V.int)) ht)
      have la : ar.length = m := Ord.len har
      refine ⟨_, rfl, _, rfl, t, o, ar, ys, rfl, upd_same, hy11, by omega, by omega, fun y hy => by have := Ord.rng ho y hy; omega, fun q1 G6 s6 hq1 => ?_⟩
      refine ⟨_, rfl, t, ar, m, rfl, s6 _ _ upd_same, har, by omega, fun q2 G7 s7 hq2 => ?_⟩
      have hcl : (compO ar ys).length = m := (Ord.comp har ho).len
      refine ⟨q1, q2, compO ar ys, invO ar, rfl, s7 _ _ hq1, hq2, by omega, by rw [inv_len]; omega, fun y hy => by have := (Ord.inv har).rng y hy; omega, fun q3 G8 s8 hq3 => ?_⟩
      have hO : Ord m (compO (compO ar ys) (invO ar)) := Ord.comp (Ord.comp har ho) (Ord.inv har)
      have s68 := (s6.trans s7).trans s8
      have hy12 := s68 _ _ hy11
      refine ⟨by show 2 ≤ sizeLine; decide, fun L1 hL1 => ⟨L1, rfl, ⟨_, SqL.of upd_same⟩, ?_⟩⟩
      have sA := same_upd (o := .lst [V.str "rounds", V.str "stays"]) hL1
      refine lc_grow (yields_list (xs := [V.str "rounds", V.str "stays"])) (small1 (by decide)) (fun x v _ => ∃ kd : Str, x = V.str kd ∧ v = V.int (countO kd (compO (compO ar ys) (invO ar)))) (fun _ _ _ _ _ h => h) (fun _ s' => SqL.of (s' _ _ upd_same)) (fun x hx G9 s9 Q' q9 => ?_) fun acc vs G9 hacc s9 hvs pr => ?_
      · obtain ⟨kd, rfl, hk⟩ := kinds2 hx
        exact ⟨_, rfl, _, rfl, kd, q3, _, m, rfl, hk, s9 _ _ (sA _ _ hq3), hO, by omega, fun G' s' => q9 _ _ s' ⟨kd, rfl, rfl⟩⟩
      have ev := two_read (f := fun kd => countO kd (compO (compO ar ys) (invO ar))) pr
      subst ev
      refine ⟨by show 2 ≤ sizeLine; decide, fun L2 hL2 => ⟨L2, rfl, ⟨_, SqL.of upd_same⟩, ?_⟩⟩
      have sB := same_upd (o := .lst [V.str "rounds", V.str "stays"]) hL2
      refine lc_grow (yields_list (xs := [V.str "rounds", V.str "stays"])) (small1 (by decide)) (fun x v _ => ∃ kd : Str, x = V.str kd ∧ v = V.int (countO kd ys)) (fun _ _ _ _ _ h => h) (fun _ s' => SqL.of (s' _ _ upd_same)) (fun x hx G10 s10 Q' q10 => ?_) fun acc2 vs2 G10 hacc2 s10 hvs2 pr2 => ?_
      · obtain ⟨kd, rfl, hk⟩ := kinds2 hx
        exact ⟨_, rfl, _, rfl, kd, o, _, m, rfl, hk, s10 _ _ (sB _ _ (s9 _ _ (sA _ _ hy12))), ho, by omega, fun G' s' => q10 _ _ s' ⟨kd, rfl, rfl⟩⟩
      have ev2 := two_read (f := fun kd => countO kd ys) pr2
      subst ev2
      refine neLL (s10 _ _ (sB _ _ hvs)) hvs2 ?_ ?_
      · show [countO "rounds" _, countO "stays" _] = [countO "rounds" _, countO "stays" _]
        rw [cO_rounds, cO_stays, cO_rounds, cO_stays, rounds_around ho har, stays_around ho har]
      refine ⟨_, rfl, iteF ?_⟩
      exact ⟨a, p, q, _, _, _, _, _, _, _, rfl, ((((hh11.same s68).same sA).same s9).same sB).same s10⟩
    · rintro σ H2 ⟨a, p, q, c2, c3, c4, c5, c6, c7, c8, rfl, hh2⟩
      exact k _
end
end K07


namespace K07
open PySem PySem.Spec PyProof.Rows L2
set_option maxHeartbeats 8000000 in
theorem all_mk {l : PySem.W.OpenLaw} {w : World} {K : PySem.W.Frag} {h : Heap} {mg : Str → Option Value} {fa C_COUNTERS g_rounds_in g_stays_in g_rises_in g_highs_in g_crossed_in g_longest_in : Addr} (X : K.In h) (G : h.Ns mainGlobals mg) (hfa : mg "law" = some (.ref fa)) (TK : TopK K) (a_COUNTERS : PySem.W.nsIn K mainGlobals "COUNTERS" = some (some (.ref C_COUNTERS))) (GD_COUNTERS : GDict K w.params C_COUNTERS [("rounds", g_rounds_in), ("stays", g_stays_in), ("rises", g_rises_in), ("highs", g_highs_in), ("crossed", g_crossed_in), ("longest", g_longest_in)]) (n_rounds_in : PySem.W.nsIn K mainGlobals "rounds_in" = some (some (.ref g_rounds_in))) (n_stays_in : PySem.W.nsIn K mainGlobals "stays_in" = some (some (.ref g_stays_in))) (n_rises_in : PySem.W.nsIn K mainGlobals "rises_in" = some (some (.ref g_rises_in))) (n_highs_in : PySem.W.nsIn K mainGlobals "highs_in" = some (some (.ref g_highs_in))) (n_crossed_in : PySem.W.nsIn K mainGlobals "crossed_in" = some (some (.ref g_crossed_in))) (n_longest_in : PySem.W.nsIn K mainGlobals "longest_in" = some (some (.ref g_longest_in)))
    (d_round_from : Def K "round_from" s_round_from) (d_rounds_met : Def K "rounds_met" s_rounds_met) (d_rounds_of : Def K "rounds_of" s_rounds_of) (d_rounds_in : Def K "rounds_in" s_rounds_in) (d_stays_in : Def K "stays_in" s_stays_in) (d_rises_in : Def K "rises_in" s_rises_in) (d_highs_in : Def K "highs_in" s_highs_in) (d_crossed_in : Def K "crossed_in" s_crossed_in) (d_longest_in : Def K "longest_in" s_longest_in) (d_count : Def K "count" s_count) (d_undone : Def K "undone" s_undone) (d_after : Def K "after" s_after) (d_mirrored : Def K "mirrored" s_mirrored) (d_turned : Def K "turned" s_turned) (d_lifted : Def K "lifted" s_lifted) (d_beside : Def K "beside" s_beside) (d_above : Def K "above" s_above) (d__law_hand : Def K "_law_hand" s__law_hand) (d__law_pick : Def K "_law_pick" s__law_pick) (d__law_size : Def K "_law_size" s__law_size) (d__law_any : Def K "_law_any" s__law_any) (d__law_order : Def K "_law_order" s__law_order) (d__law_two_right : Def K "_law_two_right" s__law_two_right) (d_law : Def K "law" s_law) :
    ∃ fd : FuncData, (∀ (s : Shared) (v : Value), BindsTo s fd ⟨[v], []⟩ [("_law_script", v)]) ∧ ∀ base : Heap, K.In base → base.Ns mainGlobals mg → FnOk l.prog w K mg base CX0 7 fa fd ["_law_script"] (spLaw K) := by
  have T : Top mg := TK.top X G
  obtain ⟨f_round_from, e_round_from, F_round_from, m_round_from⟩ := d_round_from.fn X G
  obtain ⟨f_rounds_met, e_rounds_met, F_rounds_met, m_rounds_met⟩ := d_rounds_met.fn X G
  obtain ⟨f_rounds_of, e_rounds_of, F_rounds_of, m_rounds_of⟩ := d_rounds_of.fn X G
  obtain ⟨f_rounds_in, e_rounds_in, F_rounds_in, m_rounds_in⟩ := d_rounds_in.fn X G
  obtain ⟨f_stays_in, e_stays_in, F_stays_in, m_stays_in⟩ := d_stays_in.fn X G
  obtain ⟨f_rises_in, e_rises_in, F_rises_in, m_rises_in⟩ := d_rises_in.fn X G
  obtain ⟨f_highs_in, e_highs_in, F_highs_in, m_highs_in⟩ := d_highs_in.fn X G
  obtain ⟨f_crossed_in, e_crossed_in, F_crossed_in, m_crossed_in⟩ := d_crossed_in.fn X G
  obtain ⟨f_longest_in, e_longest_in, F_longest_in, m_longest_in⟩ := d_longest_in.fn X G
  obtain ⟨f_count, e_count, F_count, m_count⟩ := d_count.fn X G
  obtain ⟨f_undone, e_undone, F_undone, m_undone⟩ := d_undone.fn X G
  obtain ⟨f_after, e_after, F_after, m_after⟩ := d_after.fn X G
  obtain ⟨f_mirrored, e_mirrored, F_mirrored, m_mirrored⟩ := d_mirrored.fn X G
  obtain ⟨f_turned, e_turned, F_turned, m_turned⟩ := d_turned.fn X G
  obtain ⟨f_lifted, e_lifted, F_lifted, m_lifted⟩ := d_lifted.fn X G
  obtain ⟨f_beside, e_beside, F_beside, m_beside⟩ := d_beside.fn X G
  obtain ⟨f_above, e_above, F_above, m_above⟩ := d_above.fn X G
  obtain ⟨f__law_hand, e__law_hand, F__law_hand, m__law_hand⟩ := d__law_hand.fn X G
  obtain ⟨f__law_pick, e__law_pick, F__law_pick, m__law_pick⟩ := d__law_pick.fn X G
  obtain ⟨f__law_size, e__law_size, F__law_size, m__law_size⟩ := d__law_size.fn X G
  obtain ⟨f__law_any, e__law_any, F__law_any, m__law_any⟩ := d__law_any.fn X G
  obtain ⟨f__law_order, e__law_order, F__law_order, m__law_order⟩ := d__law_order.fn X G
  obtain ⟨f__law_two_right, e__law_two_right, F__law_two_right, m__law_two_right⟩ := d__law_two_right.fn X G
  obtain ⟨f_law, e_law, F_law, m_law⟩ := d_law.fn X G
  have b_round_from := F_round_from.binds (ps := ["order", "first"]) fun _ _ _ _ _ _ us hl => match us, hl with | [_, _], _ => rfl
  have b_rounds_met := F_rounds_met.binds (ps := ["order", "firsts"]) fun _ _ _ _ _ _ us hl => match us, hl with | [_, _], _ => rfl
  have b_rounds_of := F_rounds_of.binds (ps := ["order"]) fun _ _ _ _ _ _ us hl => match us, hl with | [_], _ => rfl
  have b_rounds_in := F_rounds_in.binds (ps := ["order"]) fun _ _ _ _ _ _ us hl => match us, hl with | [_], _ => rfl
  have b_stays_in := F_stays_in.binds (ps := ["order"]) fun _ _ _ _ _ _ us hl => match us, hl with | [_], _ => rfl
  have b_rises_in := F_rises_in.binds (ps := ["order"]) fun _ _ _ _ _ _ us hl => match us, hl with | [_], _ => rfl
  have b_highs_in := F_highs_in.binds (ps := ["order"]) fun _ _ _ _ _ _ us hl => match us, hl with | [_], _ => rfl
  have b_crossed_in := F_crossed_in.binds (ps := ["order"]) fun _ _ _ _ _ _ us hl => match us, hl with | [_], _ => rfl
  have b_longest_in := F_longest_in.binds (ps := ["order"]) fun _ _ _ _ _ _ us hl => match us, hl with | [_], _ => rfl
  have b_count := F_count.binds (ps := ["kind", "order"]) fun _ _ _ _ _ _ us hl => match us, hl with | [_, _], _ => rfl
  have b_undone := F_undone.binds (ps := ["order"]) fun _ _ _ _ _ _ us hl => match us, hl with | [_], _ => rfl
  have b_after := F_after.binds (ps := ["one", "other"]) fun _ _ _ _ _ _ us hl => match us, hl with | [_, _], _ => rfl
  have b_mirrored := F_mirrored.binds (ps := ["order"]) fun _ _ _ _ _ _ us hl => match us, hl with | [_], _ => rfl
  have b_turned := F_turned.binds (ps := ["order"]) fun _ _ _ _ _ _ us hl => match us, hl with | [_], _ => rfl
  have b_lifted := F_lifted.binds (ps := ["order", "by"]) fun _ _ _ _ _ _ us hl => match us, hl with | [_, _], _ => rfl
  have b_beside := F_beside.binds (ps := ["one", "other"]) fun _ _ _ _ _ _ us hl => match us, hl with | [_, _], _ => rfl
  have b_above := F_above.binds (ps := ["one", "other"]) fun _ _ _ _ _ _ us hl => match us, hl with | [_, _], _ => rfl
  have b__law_hand := F__law_hand.binds (ps := ["_law_script"]) fun _ _ _ _ _ _ us hl => match us, hl with | [_], _ => rfl
  have b__law_pick := F__law_pick.binds (ps := ["_law_hand_here", "_law_many"]) fun _ _ _ _ _ _ us hl => match us, hl with | [_, _], _ => rfl
  have b__law_size := F__law_size.binds (ps := ["_law_hand_here", "_law_most"]) fun _ _ _ _ _ _ us hl => match us, hl with | [_, _], _ => rfl
  have b__law_any := F__law_any.binds (ps := ["_law_hand_here", "_law_many"]) fun _ _ _ _ _ _ us hl => match us, hl with | [_, _], _ => rfl
  have b__law_order := F__law_order.binds (ps := ["_law_hand_here", "_law_many"]) fun _ _ _ _ _ _ us hl => match us, hl with | [_, _], _ => rfl
  have b__law_two_right := F__law_two_right.binds (ps := ["_law_one", "_law_other"]) fun _ _ _ _ _ _ us hl => match us, hl with | [_, _], _ => rfl
  have e : fa = f_law := by
    have q := hfa.symm.trans m_law
    cases q
    rfl
  subst e
  obtain ⟨oc, od, kV, doc, pm, an, cdv, ct, osl, rfl, lk, hcd⟩ := F_law.ex
  refine ⟨PySem.W.fnOf "law" "law" (defArgs s_law) (defBody s_law) (defScope s_law) .none kV doc pm an cdv ct, fun s v => .of_eq rfl, fun base _ _ => ?_⟩
  have Cround_from : Cal l.prog w K mg base 1 "round_from" ["order", "first"] (spRoundFrom) := ⟨f_round_from, e_round_from, ok_round_from F_round_from T, m_round_from, F_round_from.kp, b_round_from⟩
  have Crounds_met : Cal l.prog w K mg base 2 "rounds_met" ["order", "firsts"] (spRoundsMet) := ⟨f_rounds_met, e_rounds_met, ok_rounds_met F_rounds_met T Cround_from, m_rounds_met, F_rounds_met.kp, b_rounds_met⟩
  have Crounds_of : Cal l.prog w K mg base 3 "rounds_of" ["order"] (spRounds) := ⟨f_rounds_of, e_rounds_of, ok_rounds_of F_rounds_of T Crounds_met, m_rounds_of, F_rounds_of.kp, b_rounds_of⟩
  have Crounds_in : Cal l.prog w K mg base 4 "rounds_in" ["order"] (spCnt fun ns => ((roundsO ns).length : Int)) := ⟨f_rounds_in, e_rounds_in, ok_rounds_in F_rounds_in T Crounds_of, m_rounds_in, F_rounds_in.kp, b_rounds_in⟩
  have Cstays_in : Cal l.prog w K mg base 1 "stays_in" ["order"] (spCnt staysO) := ⟨f_stays_in, e_stays_in, ok_stays_in F_stays_in T, m_stays_in, F_stays_in.kp, b_stays_in⟩
  have Crises_in : Cal l.prog w K mg base 1 "rises_in" ["order"] (spCnt risesO) := ⟨f_rises_in, e_rises_in, ok_rises_in F_rises_in T, m_rises_in, F_rises_in.kp, b_rises_in⟩
  have Chighs_in : Cal l.prog w K mg base 1 "highs_in" ["order"] (spCnt highsO) := ⟨f_highs_in, e_highs_in, ok_highs_in F_highs_in , m_highs_in, F_highs_in.kp, b_highs_in⟩
  have Ccrossed_in : Cal l.prog w K mg base 1 "crossed_in" ["order"] (spCnt crossedO) := ⟨f_crossed_in, e_crossed_in, ok_crossed_in F_crossed_in T, m_crossed_in, F_crossed_in.kp, b_crossed_in⟩
  have Clongest_in : Cal l.prog w K mg base 1 "longest_in" ["order"] (spCnt longestO) := ⟨f_longest_in, e_longest_in, ok_longest_in F_longest_in T, m_longest_in, F_longest_in.kp, b_longest_in⟩
  have Ccount : Cal l.prog w K mg base 5 "count" ["kind", "order"] (spCount) := ⟨f_count, e_count, ok_count F_count (PySem.W.mg_of X G a_COUNTERS) GD_COUNTERS (CalF.of Crounds_in (PySem.W.mg_of X G n_rounds_in) (by decide)) (CalF.of Cstays_in (PySem.W.mg_of X G n_stays_in) (by decide)) (CalF.of Crises_in (PySem.W.mg_of X G n_rises_in) (by decide)) (CalF.of Chighs_in (PySem.W.mg_of X G n_highs_in) (by decide)) (CalF.of Ccrossed_in (PySem.W.mg_of X G n_crossed_in) (by decide)) (CalF.of Clongest_in (PySem.W.mg_of X G n_longest_in) (by decide)), m_count, F_count.kp, b_count⟩
  have Cundone : Cal l.prog w K mg base 1 "undone" ["order"] (spUndone) := ⟨f_undone, e_undone, ok_undone F_undone T, m_undone, F_undone.kp, b_undone⟩
  have Cafter : Cal l.prog w K mg base 1 "after" ["one", "other"] (spAfter) := ⟨f_after, e_after, ok_after F_after T, m_after, F_after.kp, b_after⟩
  have Cmirrored : Cal l.prog w K mg base 1 "mirrored" ["order"] (spU fun ns => ns.reverse) := ⟨f_mirrored, e_mirrored, ok_mirrored F_mirrored T, m_mirrored, F_mirrored.kp, b_mirrored⟩
  have Cturned : Cal l.prog w K mg base 1 "turned" ["order"] (spU fun ns => ns.map (((ns.length : Int) - 1) - ·)) := ⟨f_turned, e_turned, ok_turned F_turned T, m_turned, F_turned.kp, b_turned⟩
  have Clifted : Cal l.prog w K mg base 1 "lifted" ["order", "by"] (spUI fun ns k => ns.map (· + k)) := ⟨f_lifted, e_lifted, ok_lifted F_lifted T, m_lifted, F_lifted.kp, b_lifted⟩
  have Cbeside : Cal l.prog w K mg base 2 "beside" ["one", "other"] (spB fun ns ms => ns ++ ms.map (· + (ns.length : Int))) := ⟨f_beside, e_beside, ok_beside F_beside T Clifted, m_beside, F_beside.kp, b_beside⟩
  have Cabove : Cal l.prog w K mg base 2 "above" ["one", "other"] (spB fun ns ms => ns.map (· + (ms.length : Int)) ++ ms) := ⟨f_above, e_above, ok_above F_above T Clifted, m_above, F_above.kp, b_above⟩
  have C_law_hand : Cal l.prog w K mg base 1 "_law_hand" ["_law_script"] (spHand K) := ⟨f__law_hand, e__law_hand, ok__law_hand F__law_hand , m__law_hand, F__law_hand.kp, b__law_hand⟩
  have C_law_pick : Cal l.prog w K mg base 1 "_law_pick" ["_law_hand_here", "_law_many"] (spPick) := ⟨f__law_pick, e__law_pick, ok__law_pick F__law_pick , m__law_pick, F__law_pick.kp, b__law_pick⟩
  have C_law_size : Cal l.prog w K mg base 2 "_law_size" ["_law_hand_here", "_law_most"] (spSize) := ⟨f__law_size, e__law_size, ok__law_size F__law_size C_law_pick, m__law_size, F__law_size.kp, b__law_size⟩
  have C_law_any : Cal l.prog w K mg base 2 "_law_any" ["_law_hand_here", "_law_many"] (spAny) := ⟨f__law_any, e__law_any, ok__law_any F__law_any T C_law_pick, m__law_any, F__law_any.kp, b__law_any⟩
  have C_law_order : Cal l.prog w K mg base 3 "_law_order" ["_law_hand_here", "_law_many"] (spOrder) := ⟨f__law_order, e__law_order, ok__law_order F__law_order T C_law_pick C_law_any, m__law_order, F__law_order.kp, b__law_order⟩
  have C_law_two_right : Cal l.prog w K mg base 6 "_law_two_right" ["_law_one", "_law_other"] (spTwo) := ⟨f__law_two_right, e__law_two_right, ok__law_two_right F__law_two_right T Ccount Cbeside Cabove, m__law_two_right, F__law_two_right.kp, b__law_two_right⟩
  exact ok_law F_law T C_law_hand C_law_pick C_law_size C_law_any C_law_order Ccount Cundone Cafter Cmirrored Cturned C_law_two_right
theorem walk {l : PySem.W.OpenLaw} {q : Program} {loose : List Str} {XP : (Str → Option Value) → Heap → Prop} {YP : World → Heap → Prop} {d : DefRec} {K : Params → PySem.W.Frag} (hn : l.most = some 63) (hdf : d.params.defaults = [])
    (hY : ∀ (w : World) (h : Heap), YP w h → (K w.params).In h)
    (F : ∀ (w : World) (mg : Str → Option Value) (fa : Addr) (h : Heap), (K w.params).In h → h.Ns mainGlobals mg → mg d.name = some (.ref fa) →
      ∃ fd : FuncData, (∀ (s : Shared) (u : Value), BindsTo s fd ⟨[u], []⟩ [("_law_script", u)]) ∧ ∀ base : Heap, (K w.params).In base → base.Ns mainGlobals mg → FnOk l.prog w (K w.params) mg base CX0 7 fa fd ["_law_script"] (spLaw (K w.params))) :
    PySem.W.WalkO q loose XP YP l.row.toRowW d [] (fun f vs => PySem.call f vs) :=
  L2.walk_of (n := 63) (k := 7) (x := "_law_script") (CX := fun _ => CX0) (sp := fun w => spLaw (K w.params)) hn (by decide) hdf ⟨rfl, by decide, by decide, rfl⟩ hY F (fun _ _ a ns hl _ hS => ⟨a, ns, rfl, hS, hl, fun _ => rfl⟩) fun _ _ _ _ _ z => z
end K07
open PySem PySem.W PyProof.Rows
set_option maxRecDepth 100000 in
set_option maxHeartbeats 0 in
theorem PySem.Challenge.cw_shuffletold_k07_counts_of_what_is_made_holds : PySem.Challenge.rw_shuffletold_k07_counts_of_what_is_made.Holds := by
  w_on; o_law; k_head; (case hw => w_witness2)
  k_fill
  refine K07.walk (l := PySem.Challenge.rw_shuffletold_k07_counts_of_what_is_made) rfl rfl (fun w h Y => PySem.W.kIn_of Y) ?F
  case F =>
    intro w mg fa h KX G hmg
    refine' K07.all_mk KX G hmg ⟨?_, ?_, ?_, ?_, ?_, ?_, ?_, ?_, ?_, ?_, ?_, ?_, ?_, ?_, ?_⟩ ?dA0 (L2.GDict.of ?dL0 ?dE0 ?dN0) ?nF0 ?nF1 ?nF2 ?nF3 ?nF4 ?nF5 (L2.Def.of ?a0 ?l0 ?c0 ?k0) (L2.Def.of ?a1 ?l1 ?c1 ?k1) (L2.Def.of ?a2 ?l2 ?c2 ?k2) (L2.Def.of ?a3 ?l3 ?c3 ?k3) (L2.Def.of ?a4 ?l4 ?c4 ?k4) (L2.Def.of ?a5 ?l5 ?c5 ?k5) (L2.Def.of ?a6 ?l6 ?c6 ?k6) (L2.Def.of ?a7 ?l7 ?c7 ?k7) (L2.Def.of ?a8 ?l8 ?c8 ?k8) (L2.Def.of ?a9 ?l9 ?c9 ?k9) (L2.Def.of ?a10 ?l10 ?c10 ?k10) (L2.Def.of ?a11 ?l11 ?c11 ?k11) (L2.Def.of ?a12 ?l12 ?c12 ?k12) (L2.Def.of ?a13 ?l13 ?c13 ?k13) (L2.Def.of ?a14 ?l14 ?c14 ?k14) (L2.Def.of ?a15 ?l15 ?c15 ?k15) (L2.Def.of ?a16 ?l16 ?c16 ?k16) (L2.Def.of ?a17 ?l17 ?c17 ?k17) (L2.Def.of ?a18 ?l18 ?c18 ?k18) (L2.Def.of ?a19 ?l19 ?c19 ?k19) (L2.Def.of ?a20 ?l20 ?c20 ?k20) (L2.Def.of ?a21 ?l21 ?c21 ?k21) (L2.Def.of ?a22 ?l22 ?c22 ?k22) (L2.Def.of ?a23 ?l23 ?c23 ?k23)
    (case dA0 => k_is); (case dL0 => k_is); (case dE0 => exact (.cons (.cons (.cons (.cons (.cons (.cons .nil))))))); (case dN0 => decide +kernel)
    (case nF0 => k_is)
    (case nF1 => k_is)
    (case nF2 => k_is)
    (case nF3 => k_is)
    (case nF4 => k_is)
    (case nF5 => k_is)
    (case a0 => k_is); (case l0 => k_is); (case c0 => k_is); (case k0 => k_is)
    (case a1 => k_is); (case l1 => k_is); (case c1 => k_is); (case k1 => k_is)
    (case a2 => k_is); (case l2 => k_is); (case c2 => k_is); (case k2 => k_is)
    (case a3 => k_is); (case l3 => k_is); (case c3 => k_is); (case k3 => k_is)
    (case a4 => k_is); (case l4 => k_is); (case c4 => k_is); (case k4 => k_is)
    (case a5 => k_is); (case l5 => k_is); (case c5 => k_is); (case k5 => k_is)
    (case a6 => k_is); (case l6 => k_is); (case c6 => k_is); (case k6 => k_is)
    (case a7 => k_is); (case l7 => k_is); (case c7 => k_is); (case k7 => k_is)
    (case a8 => k_is); (case l8 => k_is); (case c8 => k_is); (case k8 => k_is)
    (case a9 => k_is); (case l9 => k_is); (case c9 => k_is); (case k9 => k_is)
    (case a10 => k_is); (case l10 => k_is); (case c10 => k_is); (case k10 => k_is)
    (case a11 => k_is); (case l11 => k_is); (case c11 => k_is); (case k11 => k_is)
    (case a12 => k_is); (case l12 => k_is); (case c12 => k_is); (case k12 => k_is)
    (case a13 => k_is); (case l13 => k_is); (case c13 => k_is); (case k13 => k_is)
    (case a14 => k_is); (case l14 => k_is); (case c14 => k_is); (case k14 => k_is)
    (case a15 => k_is); (case l15 => k_is); (case c15 => k_is); (case k15 => k_is)
    (case a16 => k_is); (case l16 => k_is); (case c16 => k_is); (case k16 => k_is)
    (case a17 => k_is); (case l17 => k_is); (case c17 => k_is); (case k17 => k_is)
    (case a18 => k_is); (case l18 => k_is); (case c18 => k_is); (case k18 => k_is)
    (case a19 => k_is); (case l19 => k_is); (case c19 => k_is); (case k19 => k_is)
    (case a20 => k_is); (case l20 => k_is); (case c20 => k_is); (case k20 => k_is)
    (case a21 => k_is); (case l21 => k_is); (case c21 => k_is); (case k21 => k_is)
    (case a22 => k_is); (case l22 => k_is); (case c22 => k_is); (case k22 => k_is)
    (case a23 => k_is); (case l23 => k_is); (case c23 => k_is); (case k23 => k_is)
    all_goals k_is
#print axioms PySem.Challenge.cw_shuffletold_k07_counts_of_what_is_made_holds

