import PyProof.Rows.All
import Wide.All
import OpenK.AllK
import Wide.FinOn
import Lean
import PyProof.EqAt
import PyProof.EqKinds
import PyProof.TupleCall
import PySem.Challenge.RW_shuffletold_k89_whole_no_way_wins_more
set_option Elab.async false
set_option linter.all false
set_option maxRecDepth 100000
namespace L2
open PySem PySem.Spec PyProof.Rows

abbrev Key := Sum Int Str
def keyIs : Key → Value → Bool
  | .inl k, v => Value.isInt k v
  | .inr x, v => Value.isStrOf x v
def keyH (w : World) : Key → Int
  | .inl k => hashInt k
  | .inr x => hashStr w x
theorem keyIs_shape : ∀ {k : Key} {v : Value}, keyIs k v = true → (∃ i t, k = Sum.inl i ∧ v = Value.int i t) ∨ (∃ x t, k = Sum.inr x ∧ v = Value.str x t)
  | .inl i, v, h => by
    obtain ⟨t, e⟩ := Value.isInt_shape (k := i) (v := v) h
    exact .inl ⟨i, t, rfl, e⟩
  | .inr x, v, h => by
    obtain ⟨t, e⟩ := Value.isStrOf_shape (x := x) (v := v) h
    exact .inr ⟨x, t, rfl, e⟩
theorem keyIs_int (i : Int) (t : Tok) : keyIs (.inl i) (.int i t) = true := by simp [keyIs, Value.isInt]
theorem keyIs_str (x : Str) (t : Tok) : keyIs (.inr x) (.str x t) = true := by simp [keyIs, Value.isStrOf]
theorem key_ll (a b : Int) : decide ((Sum.inl a : Key) = Sum.inl b) = (a == b) := by
  by_cases e : a = b
  · subst e; simp
  · have h : ¬ (Sum.inl a : Key) = Sum.inl b := fun q => e (Sum.inl.inj q)
    rw [decide_eq_false h]
    exact (beq_eq_false_iff_ne.mpr e).symm
theorem key_rr (a b : Str) : decide ((Sum.inr a : Key) = Sum.inr b) = decide (a = b) := by
  by_cases e : a = b
  · subst e; simp
  · have h : ¬ (Sum.inr a : Key) = Sum.inr b := fun q => e (Sum.inr.inj q)
    rw [decide_eq_false h, decide_eq_false e]
theorem key_lr (a : Int) (b : Str) : decide ((Sum.inl a : Key) = Sum.inr b) = false := decide_eq_false (fun q => nomatch q)
theorem key_rl (a : Str) (b : Int) : decide ((Sum.inr a : Key) = Sum.inl b) = false := decide_eq_false (fun q => nomatch q)

def mixKind (prog : Program) (w : World) : PySem.KeyKind prog w Key where
  is := keyIs
  hash := keyH w
  inj := fun v a b ha hb => by
    rcases keyIs_shape ha with ⟨i, t, rfl, rfl⟩ | ⟨x, t, rfl, rfl⟩
    · rcases keyIs_shape hb with ⟨j, u, rfl, e⟩ | ⟨y, u, rfl, e⟩
      · injection e with e1 _; rw [e1]
      · exact nomatch e
    · rcases keyIs_shape hb with ⟨j, u, rfl, e⟩ | ⟨y, u, rfl, e⟩
      · exact nomatch e
      · injection e with e1 _; rw [e1]
  byValue := fun k v h => by
    rcases keyIs_shape h with ⟨i, t, rfl, rfl⟩ | ⟨x, t, rfl, rfl⟩ <;> rfl
  pyHash := fun hv h => by
    rcases keyIs_shape hv with ⟨i, t, rfl, rfl⟩ | ⟨x, t, rfl, rfl⟩
    · exact wpAny_pyHash_int h
    · exact wpAny_pyHash_str h
  eqBool := fun hu hv h => by
    rcases keyIs_shape hu with ⟨i, t, rfl, rfl⟩ | ⟨x, t, rfl, rfl⟩
    · rcases keyIs_shape hv with ⟨j, u, rfl, rfl⟩ | ⟨y, u, rfl, rfl⟩
      · rw [key_ll] at h; exact wpAny_eqBool_int h
      · rw [key_lr] at h; exact SeqAt.EqAt.int_str i t y u _ _ _ _ h
    · rcases keyIs_shape hv with ⟨j, u, rfl, rfl⟩ | ⟨y, u, rfl, rfl⟩
      · rw [key_rl] at h; exact SeqAt.EqAt.str_int x t j u _ _ _ _ h
      · rw [key_rr] at h; exact wpAny_eqBool_str h
  «strs» := fun k x t v h => by
    rcases keyIs_shape h with ⟨i, u, rfl, e⟩ | ⟨y, u, rfl, e⟩
    · exact nomatch e
    · injection e with e1 _
      subst e1
      cases v <;> rfl

theorem mixKind_int (prog : Program) (w : World) (i : Int) (t : Tok) : (mixKind prog w).is (.inl i) (.int i t) = true := keyIs_int i t
theorem mixKind_str (prog : Program) (w : World) (x : Str) (t : Tok) : (mixKind prog w).is (.inr x) (.str x t) = true := keyIs_str x t
end L2

namespace L2
open PySem PySem.Spec PyProof.Rows

inductive V where
  | non | bl (b : Bool) | int (i : Int) | str (x : Str) | byt (b : Array UInt8) | flt (b : UInt64) | ref (a : Addr) | ty (n : String)
  deriving DecidableEq

def RelV : V → Value → Prop
  | .non, u => u = Value.none
  | .bl b, u => u = Value.bool b
  | .int i, u => ∃ t, u = Value.int i t
  | .str x, u => ∃ t, u = Value.str x t
  | .byt b, u => ∃ t, u = Value.bytes b t
  | .flt b, u => ∃ t, u = Value.float b t
  | .ref a, u => u = Value.ref a
  | .ty n, u => u = Value.type n

abbrev Vals : List V → List Value → Prop := Paired RelV
theorem Vals.length {xs : List V} {us : List Value} (r : Vals xs us) : xs.length = us.length := Paired.length r
theorem Vals.get : ∀ {xs : List V} {us : List Value} {i : Nat} {x : V}, Vals xs us → xs[i]? = some x → ∃ u, us[i]? = some u ∧ RelV x u
  | _, _, _, _, .nil, e => by simp at e
  | _, _, 0, _, .cons r _, e => by simp at e; subst e; exact ⟨_, rfl, r⟩
  | _, _, i + 1, x, .cons _ t, e => by
    obtain ⟨u, h1, h2⟩ := Vals.get (i := i) (x := x) t (by simpa using e)
    exact ⟨u, by simpa using h1, h2⟩
theorem Vals.set {x : V} {u : Value} (r : RelV x u) : ∀ {xs : List V} {us : List Value} (i : Nat), Vals xs us → Vals (xs.set i x) (us.set i u)
  | _, _, _, .nil => .nil
  | _, _, 0, .cons _ t => .cons r t
  | _, _, i + 1, .cons q t => .cons q (Vals.set r i t)
theorem Vals.append : ∀ {xs ys : List V} {us ws : List Value}, Vals xs us → Vals ys ws → Vals (xs ++ ys) (us ++ ws)
  | _, _, _, _, .nil, s => s
  | _, _, _, _, .cons r t, s => .cons r (Vals.append t s)
theorem Vals.take : ∀ {xs : List V} {us : List Value} (n : Nat), Vals xs us → Vals (xs.take n) (us.take n)
  | _, _, 0, _ => .nil
  | _, _, _ + 1, .nil => .nil
  | _, _, n + 1, .cons r t => .cons r (Vals.take n t)
theorem Vals.drop : ∀ {xs : List V} {us : List Value} (n : Nat), Vals xs us → Vals (xs.drop n) (us.drop n)
  | _, _, 0, r => r
  | _, _, _ + 1, .nil => .nil
  | _, _, n + 1, .cons _ t => Vals.drop n t
theorem Vals.none_of : ∀ {xs : List V} {us : List Value} {i : Nat}, Vals xs us → xs[i]? = none → us[i]? = none := fun {xs us i} r e => by
  have h1 := r.length
  have h2 : xs.length ≤ i := List.getElem?_eq_none_iff.mp e
  exact List.getElem?_eq_none_iff.mpr (by omega)

def RelO : Option V → Option Value → Prop
  | some v, some u => RelV v u
  | none, none => True
  | _, _ => False
def KV {κ : Type} : List (κ × V) → List (κ × Value) → Prop := Paired fun (p : κ × V) (q : κ × Value) => p.1 = q.1 ∧ RelV p.2 q.2

def kV : Key → V
  | .inl i => .int i
  | .inr x => .str x

inductive HO where
  /-- a list -/
  | lst (xs : List V)
  /-- a tuple (never changes) -/
  | tup (xs : List V)
  /-- a dict whose keys are ints and texts; one whose keys are tuples of ints and texts (the empty one is both) -/
  | dK (kvs : List (Key × V)) | dT (kvs : List (List Key × V))
  /-- a set of ints: its members, its size -/
  | set (S : Int → Bool) (n : Nat)
  /-- an instance of the class at C, its dict at dx, its attributes -/
  | ins (C dx : Addr) (fs : List (Str × V))
  /-- the dict of the instance at x -/
  | own (x : Addr)
  /-- the dict of an exception -/
  | xd (fs : List (Str × V))
  /-- a bound method, f of x -/
  | met (f x : Addr)
  /-- a range object lo, lo + 1, .. below hi -/
  | rng (lo hi : Int)
  /-- a thing that is known to the object (the script; a dict while a loop walks it): read, never written while it is so -/
  | frz (o : Obj) (u : HO)
  /-- a code object's table -/
  | tbl (ps : Array Value)
  /-- any other thing, by what is true of its one object (a def of one's own: SetO a S n := HO.ext fun h => ..) -/
  | ext (φ : Heap → Prop)

abbrev Hp := Addr → Option HO
def upd (H : Hp) (a : Addr) (o : HO) : Hp := fun b => if b = a then some o else H b
theorem upd_same {H : Hp} {a : Addr} {o : HO} : upd H a o a = some o := by unfold upd; rw [if_pos rfl]
theorem upd_ne {H : Hp} {a b : Addr} {o : HO} (h : b ≠ a) : upd H a o b = H b := by unfold upd; rw [if_neg h]
theorem upd_upd {H : Hp} {a : Addr} {o u : HO} : upd (upd H a o) a u = upd H a u := by
  funext b; unfold upd; split <;> rfl
theorem ne_of {H : Hp} {a b : Addr} {o u : HO} (h : H a = some o) (h' : H b = some u) (d : o ≠ u) : a ≠ b := by
  intro e; subst e; rw [h] at h'; exact d (Option.some.inj h')
theorem ne_of_none {H : Hp} {a b : Addr} {o : HO} (h : H a = some o) (h' : H b = none) : a ≠ b := by
  intro e; subst e; rw [h] at h'; cases h'

def PTup (h : Heap) (a : Addr) (items : Array Value) : Prop := ∃ o, h.get? a = some o ∧ o.cls = .type "tuple" ∧ (∃ n, o.data = .seq items n) ∧ o.dict = none ∧ o.slots = #[]
theorem PTup.tup {h : Heap} {a : Addr} {items : Array Value} (p : PTup h a items) : IsTup h a items := by
  obtain ⟨o, e, c, d, _⟩ := p
  exact ⟨o, e, c, d⟩
theorem PTup.new {h : Heap} {items : Array Value} {n : Nat} : PTup (h.push { cls := .type "tuple", data := .seq items n }) h.objs.size items := ⟨_, Heap.get?_push_size _ rfl, rfl, ⟨_, rfl⟩, rfl, rfl⟩
section
variable (P : Program) (w : World)
def ObjOk (H : Hp) (h : Heap) (a : Addr) : HO → Prop
  | .lst xs => xs.length ≤ sizeLine ∧ ∃ (its : List Value) (n : Nat), Vals xs its ∧ h.get? a = some { cls := .type "list", data := .seq its.toArray n }
  | .tup xs => xs.length ≤ sizeLine ∧ ∃ its : List Value, Vals xs its ∧ PTup h a its.toArray
  | .dK kvs => kvs.length ≤ sizeLine ∧ (a == sysModules) = false ∧ ∃ vs, KV kvs vs ∧ h.DictOf (mixKind P w) a vs
  | .dT kvs => kvs.length ≤ sizeLine ∧ (a == sysModules) = false ∧ ∃ xs : List (List Key × Addr × Value),
      Paired (fun (p : List Key × V) (q : List Key × Addr × Value) => p.1 = q.1 ∧ H q.2.1 = some (.tup (p.1.map kV)) ∧ RelV p.2 q.2.2) kvs xs ∧
      ∃ o es ep, h.get? a = some o ∧ o.ExactDict ∧ o.data = .dict es ep ∧ es.toList = xs.map (entryOfKey (tupleKind (mixKind P w))) ∧ (xs.map (·.1)).Nodup
  | .set S n => h.SetOf (intKind P w) a S n
  | .ins C dx fs => H dx = some (.own a) ∧ fs.length ≤ 1000 ∧ dx ≠ a ∧ h.get? a = some (PySem.W.instObj C dx) ∧
      ∃ mA, h.Ns1 dx mA ∧ (∀ f, RelO (fs.lookup f) (mA f)) ∧ PySem.Within mA (fs.map (·.1))
  | .own _ => ∃ o, h.get? a = some o
  | .xd fs => ∃ mA, h.Ns1 a mA ∧ ∀ f, RelO (fs.lookup f) (mA f)
  | .rng lo hi => ∃ t u v, h.get? a = some { cls := .type "range", data := .fields #[.int lo t, .int hi u, .int 1 v] }
  | .frz o u => h.get? a = some o ∧ ObjOk H h a u
  | .tbl ps => h.get? a = some { cls := .none, data := .fields ps }
  | .met f x => h.get? a = some (PySem.W.methodObj (.ref f) (.ref x))
  | .ext φ => φ h ∧ (∃ o, h.get? a = some o) ∧ ∀ h1 h2 : Heap, φ h1 → (∀ o, h1.get? a = some o → h2.get? a = some o) → φ h2
def HOk (H : Hp) (h : Heap) : Prop := ∀ a o, H a = some o → ObjOk P w H h a o
end

section
variable {P : Program} {w : World} {H H' : Hp} {h h' : Heap} {a : Addr} {o : HO}
theorem ObjOk.lt (x : ObjOk P w H h a o) : a < h.objs.size := by
  cases o with
  | lst xs => obtain ⟨_, _, _, _, e⟩ := x; exact Heap.lt_size e
  | tup xs => obtain ⟨_, _, _, p⟩ := x; exact p.tup.lt
  | dK kvs => obtain ⟨_, _, _, _, o, _, _, e, _⟩ := x; exact Heap.lt_size e
  | dT kvs => obtain ⟨_, _, _, _, o, _, _, e, _⟩ := x; exact Heap.lt_size e
  | set S n => obtain ⟨o, _, _, _, e, _⟩ := x; exact Heap.lt_size e
  | ins C dx fs => obtain ⟨_, _, _, e, _⟩ := x; exact Heap.lt_size e
  | own y => obtain ⟨_, e⟩ := x; exact Heap.lt_size e
  | xd fs => obtain ⟨_, ⟨_, _, _, e, _⟩, _⟩ := x; exact Heap.lt_size e
  | rng lo hi => obtain ⟨_, _, _, e⟩ := x; exact Heap.lt_size e
  | frz ob u => obtain ⟨e, _⟩ := x; exact Heap.lt_size e
  | tbl ps => exact Heap.lt_size (show h.get? a = some _ from x)
  | met f y => exact Heap.lt_size (show h.get? a = some _ from x)
  | ext φ => obtain ⟨_, ⟨_, e⟩, _⟩ := x; exact Heap.lt_size e
theorem Paired.mapP {α β : Type} {F G : α → β → Prop} : ∀ {l₁ : List α} {l₂ : List β}, Paired F l₁ l₂ → (∀ a b, F a b → G a b) → Paired G l₁ l₂
  | _, _, .nil, _ => .nil
  | _, _, .cons r t, f => .cons (f _ _ r) (Paired.mapP t f)
theorem ObjOk.stay (x : ObjOk P w H h a o) (k : ∀ b u, (b = a ∨ H b = some (.own a)) → h.get? b = some u → h'.get? b = some u)
    (ho : ∀ b, H b = some (.own a) → H' b = some (.own a)) (ht : ∀ b xs, H b = some (.tup xs) → H' b = some (.tup xs)) : ObjOk P w H' h' a o := by
  induction o with
  | lst xs => obtain ⟨z, its, n, r, e⟩ := x; exact ⟨z, its, n, r, k _ _ (.inl rfl) e⟩
  | tup xs => obtain ⟨z, its, r, ob, e, c⟩ := x; exact ⟨z, its, r, ob, k _ _ (.inl rfl) e, c⟩
  | dK kvs => obtain ⟨z, y, vs, r, ob, es, ep, e, c⟩ := x; exact ⟨z, y, vs, r, ob, es, ep, k _ _ (.inl rfl) e, c⟩
  | dT kvs =>
    obtain ⟨z, y, xs, r, ob, es, ep, e, c⟩ := x
    exact ⟨z, y, xs, Paired.mapP r fun p q z => ⟨z.1, ht _ _ z.2.1, z.2.2⟩, ob, es, ep, k _ _ (.inl rfl) e, c⟩
  | set S n => obtain ⟨ob, es, ep, t, e, c⟩ := x; exact ⟨ob, es, ep, t, k _ _ (.inl rfl) e, c⟩
  | ins C dx fs =>
    obtain ⟨d, z, ne, e, mA, ⟨od, es, ep, e2, c⟩, r⟩ := x
    exact ⟨ho _ d, z, ne, k _ _ (.inl rfl) e, mA, ⟨od, es, ep, k _ _ (.inr d) e2, c⟩, r⟩
  | own y => obtain ⟨ob, e⟩ := x; exact ⟨ob, k _ _ (.inl rfl) e⟩
  | xd fs => obtain ⟨mA, ⟨od, es, ep, e, c⟩, r⟩ := x; exact ⟨mA, ⟨od, es, ep, k _ _ (.inl rfl) e, c⟩, r⟩
  | rng lo hi => obtain ⟨t, u, v, e⟩ := x; exact ⟨t, u, v, k _ _ (.inl rfl) e⟩
  | frz ob u ih => obtain ⟨e, q⟩ := x; exact ⟨k _ _ (.inl rfl) e, ih q⟩
  | tbl ps =>
    have e : h.get? a = some { cls := .none, data := .fields ps } := x
    show h'.get? a = some { cls := .none, data := .fields ps }
    exact k a _ (.inl rfl) e
  | met f y =>
    have e : h.get? a = some (PySem.W.methodObj (.ref f) (.ref y)) := x
    show h'.get? a = some (PySem.W.methodObj (.ref f) (.ref y))
    exact k a _ (.inl rfl) e
  | ext φ => obtain ⟨p, ⟨o, e⟩, st⟩ := x; exact ⟨st _ _ p fun o q => k _ _ (.inl rfl) q, ⟨o, k _ _ (.inl rfl) e⟩, st⟩
theorem HOk.lt (x : HOk P w H h) (e : H a = some o) : a < h.objs.size := (x a o e).lt
theorem HOk.fresh (x : HOk P w H h) (e : h.objs.size ≤ a) : H a = none := by
  cases q : H a with
  | none => rfl
  | some u => exact absurd (Nat.lt_of_lt_of_le (x.lt q) e) (Nat.lt_irrefl _)
theorem HOk.kept (x : HOk P w H h) (k : ∀ b u, h.get? b = some u → h'.get? b = some u) : HOk P w H h' := fun a o e =>
  (x a o e).stay (fun b u _ q => k b u q) (fun _ q => q) fun _ _ q => q
theorem HOk.laid (x : HOk P w H h) (k : ∀ b u, h.get? b = some u → h'.get? b = some u) (hp : h.objs.size ≤ a) (new : ObjOk P w (upd H a o) h' a o) : HOk P w (upd H a o) h' := fun b u e => by
  have hn := x.fresh hp
  by_cases hb : b = a
  · subst hb; rw [upd_same] at e; cases e; exact new
  · rw [upd_ne hb] at e
    exact (x b u e).stay (fun c v _ q => k c v q) (fun c q => by rw [upd_ne (ne_of_none q hn)]; exact q) fun c xs q => by rw [upd_ne (ne_of_none q hn)]; exact q
end

def Rd (H : Hp) (a : Addr) (u : HO) : Prop := H a = some u ∨ ∃ o, H a = some (.frz o u)
theorem Rd.ok {P : Program} {w : World} {H : Hp} {h : Heap} {a : Addr} {u : HO} (r : Rd H a u) (x : HOk P w H h) : ObjOk P w H h a u := by
  rcases r with r | ⟨o, r⟩
  · exact x a u r
  · obtain ⟨_, q⟩ := x a _ r
    exact q
def Mut : Option HO → Prop
  | some (.lst _) => True
  | some (.dK _) => True
  | some (.dT _) => True
  | some (.set _ _) => True
  | some (.ins _ _ _) => True
  | some (.ext _) => True
  | _ => False
section
variable {P : Program} {w : World} {H : Hp} {h h' : Heap} {x e : Addr} {o' : HO}
theorem HOk.write (ok : HOk P w H h) (mu : Mut (H x)) (he : e = x ∨ H e = some (.own x)) (k : ∀ b u, b ≠ e → h.get? b = some u → h'.get? b = some u) (heo : ∃ u, h'.get? e = some u)
    (new : ObjOk P w (upd H x o') h' x o') : HOk P w (upd H x o') h' := fun b u q => by
  have nown : ∀ c y, H c = some (.own y) → c ≠ x := fun c y r z => by subst z; rw [r] at mu; exact mu
  have ntup : ∀ c xs, H c = some (.tup xs) → c ≠ x := fun c xs r z => by subst z; rw [r] at mu; exact mu
  by_cases hb : b = x
  · subst hb; rw [upd_same] at q; cases q; exact new
  · rw [upd_ne hb] at q
    by_cases hbe : b = e
    · have q' : H b = some (.own x) := by
        rcases he with z | z
        · exact absurd (hbe.trans z) hb
        · rw [hbe]; exact z
      rw [q] at q'; cases q'
      obtain ⟨v, hv⟩ := heo
      exact ⟨v, by rw [hbe]; exact hv⟩
    · refine (ok b u q).stay (fun c v hc r => k c v ?_ r) (fun c r => by rw [upd_ne (nown c b r)]; exact r) fun c xs r => by rw [upd_ne (ntup c xs r)]; exact r
      rcases hc with rfl | hc
      · exact hbe
      · rintro rfl
        rcases he with z | z
        · exact nown c b hc z
        · rw [hc] at z; cases z; exact hb rfl
end

structure Un (fs ex : List Addr) (H H' : Hp) (h h' : Heap) : Prop where
  keep : ∀ b o, h.get? b = some o → H b = none → b ∉ fs → b ∉ ex → h'.get? b = some o
  slot : ∀ b o, h.get? b = some o → H b = none → b ∈ fs → b ∉ ex → ∃ sl, h'.get? b = some { o with slots := sl }
  free : ∀ b o, h.get? b = some o → H b = none → b ∉ ex → H' b = none
  there : ∀ b o, h.get? b = some o → b ∉ ex → ∃ o', h'.get? b = some o'
  tups : ∀ b xs, H b = some (.tup xs) → H' b = some (.tup xs)
  frzs : ∀ b o u, H b = some (.frz o u) → H' b = some (.frz o u)
  tbls : ∀ b ps, H b = some (.tbl ps) → ∃ more, H' b = some (.tbl (ps ++ more))
section
variable {fs fs' ex ex' : List Addr} {H H1 H2 : Hp} {h h1 h2 h' : Heap} {a x e : Addr} {o : HO}
theorem Un.any (u : Un fs ex H H1 h h1) {b : Addr} {ob : Obj} (q : h.get? b = some ob) (n : H b = none) (hx : b ∉ ex) : ∃ sl, h1.get? b = some { ob with slots := sl } := by
  by_cases hb : b ∈ fs
  · exact u.slot b ob q n hb hx
  · exact ⟨ob.slots, u.keep b ob q n hb hx⟩
theorem Un.kept (k : ∀ b u, h.get? b = some u → h'.get? b = some u) : Un fs ex H H h h' :=
  ⟨fun b ob q _ _ _ => k b ob q, fun b ob q _ _ _ => ⟨ob.slots, k b ob q⟩, fun _ _ _ n _ => n, fun b ob q _ => ⟨ob, k b ob q⟩, fun _ _ q => q, fun _ _ _ q => q, fun _ ps q => ⟨#[], by rw [q]; simp⟩⟩
theorem Un.refl : Un fs ex H H h h := Un.kept fun _ _ q => q
theorem Un.laid (k : ∀ b u, h.get? b = some u → h'.get? b = some u) (hp : h.objs.size ≤ a) (hn : H a = none) : Un fs ex H (upd H a o) h h' where
  keep := fun b u q _ _ _ => k b u q
  slot := fun b u q _ _ _ => ⟨u.slots, k b u q⟩
  free := fun b u q n _ => by rw [upd_ne (Nat.ne_of_lt (Nat.lt_of_lt_of_le (Heap.lt_size q) hp))]; exact n
  there := fun b u q _ => ⟨u, k b u q⟩
  tups := fun b xs q => by rw [upd_ne (ne_of_none q hn)]; exact q
  frzs := fun b u xs q => by rw [upd_ne (ne_of_none q hn)]; exact q
  tbls := fun b ps q => ⟨#[], by rw [upd_ne (ne_of_none q hn), q]; simp⟩
theorem Un.write (mu : Mut (H x)) (he : e = x ∨ H e = some (.own x)) (k : ∀ b u, b ≠ e → h.get? b = some u → h'.get? b = some u) (heo : ∃ u, h'.get? e = some u) : Un fs ex H (upd H x o) h h' := by
  have hx : ∀ b, H b = none → b ≠ x := fun b n z => by subst z; rw [n] at mu; exact mu
  have hb : ∀ b, H b = none → b ≠ e := fun b n z => by
    subst z
    rcases he with r | r
    · exact hx b n r
    · rw [n] at r; cases r
  have hm : ∀ b u, H b = some u → ¬ Mut (some u) → b ≠ x := fun b u q nm z => by subst z; rw [q] at mu; exact nm mu
  refine ⟨fun b u q n _ _ => k b u (hb b n) q, fun b u q n _ _ => ⟨u.slots, k b u (hb b n) q⟩, fun b u q n _ => by rw [upd_ne (hx b n)]; exact n, fun b u q _ => ?_,
    fun b xs q => by rw [upd_ne (hm b _ q fun z => z)]; exact q, fun b u xs q => by rw [upd_ne (hm b _ q fun z => z)]; exact q, fun b ps q => ⟨#[], by rw [upd_ne (hm b _ q fun z => z), q]; simp⟩⟩
  by_cases hbe : b = e
  · subst hbe; exact heo
  · exact ⟨u, k b u hbe q⟩
end

def trk (h : Heap) (H : Hp) : List Addr := (List.range h.objs.size).filter fun a => (H a).isSome
def hidT (h : Heap) (H : Hp) : Heap := PySem.W.hideAll h (trk h H)
theorem hidT_size (h : Heap) (H : Hp) : (hidT h H).objs.size = h.objs.size := PySem.W.hideAll_size _ _
theorem hidT_get {h : Heap} {H : Hp} {b : Addr} {o : Obj} (e : h.get? b = some o) (n : H b = none) : (hidT h H).get? b = some o :=
  PySem.W.hideAll_get _ e fun hm => by
    have q : (H b).isSome = true := (List.mem_filter.mp hm).2
    rw [n] at q; simp at q
theorem of_hidT {h : Heap} {H : Hp} {b : Addr} {o : Obj} (e : (hidT h H).get? b = some o) : h.get? b = some o ∧ H b = none := by
  have e' : h.get? b = some o := PySem.W.of_hideAll (trk h H) e
  refine ⟨e', ?_⟩
  cases q : H b with
  | none => rfl
  | some x =>
    have hm : b ∈ trk h H := List.mem_filter.mpr ⟨List.mem_range.mpr (Heap.lt_size e'), by simp [q]⟩
    have z : (hidT h H).get? b = none := PySem.W.hideAll_none (trk h H) hm
    rw [z] at e; cases e

def allNews (g h : Heap) (L : Addr) : List (Addr × Obj) := (List.range h.objs.size).filterMap fun a => if a = L ∨ (g.get? a).isSome = true then none else (h.get? a).map fun o => (a, o)
def rest (g h : Heap) (L d : Addr) : List (Addr × Obj) := (allNews g h L).filter fun p => decide (p.1 ≠ d)
end L2

namespace L2
open PySem PySem.Spec PyProof.Rows

structure Mod (K : PySem.W.Frag) (mg : Str → Option Value) (base : Heap) : Prop where
  kin : K.In base
  glob : base.Ns mainGlobals mg
  blt : ∃ mb, base.Ns builtinsNs mb ∧ ∀ x : Str, x ≠ "__name__" → mb x = bootBuiltins x
  nolimit : base.NoLimit

structure Cx where
  prog : Program
  w : World
  K : PySem.W.Frag
  mg : Str → Option Value
  base : Heap
  A : Around
  N : List Str
  s₀ : Shared
  H₀ : Hp
  env : Env
  outer : List Env
  stack : List Env
  ex : List Addr
  fn : Str → Bool
  calm : Bool
  pn : List (Addr × Obj)
  xe : Value → Shared → Prop
def frs (l : List Env) : List Addr := l.filterMap (·.frame)
abbrev Cx.fs (X : Cx) : List Addr := frs X.outer

def Vis (sc : Scope) (x : Str) : Prop := sc.names.lookup x = some .local ∨ sc.names.lookup x = some .cell ∨ sc.names.lookup x = some .free
def Loc (sc : Scope) (x : Str) : Prop := sc.names.lookup x = some .local ∨ sc.names.lookup x = some .cell
def Look (env : Env) (h : Heap) (m : Str → Option Value) (x : Str) (u : Value) : Prop :=
  (env.kindOf x = some .local ∧ m x = some u) ∨ ((env.kindOf x = some .cell ∨ env.kindOf x = some .free) ∧ ∃ c, env.cells.lookup x = some c ∧ h.IsCell c (some u))

structure Cx.Ok (X : Cx) : Prop where
  mod : Mod X.K X.mg X.base
  kind : X.env.scope.kind = .function
  glob : X.env.globals = mainGlobals
  blt : X.env.builtins = builtinsNs
  above : X.s₀.heap.objs.size ≤ X.env.locals
  inj : ∀ x y c, X.env.cells.lookup x = some c → X.env.cells.lookup y = some c → x = y
  has : ∀ x, (X.env.kindOf x = some .cell ∨ X.env.kindOf x = some .free) → ∃ c, X.env.cells.lookup x = some c
  cab : ∀ x c, X.fn x = true → X.env.cells.lookup x = some c → X.s₀.heap.objs.size ≤ c
  hd : X.calm = true → X.A.handled = none
  frames : X.A.frames = some X.stack
  stk : X.stack = X.outer ∨ (X.stack = X.env :: X.outer ∧ X.env.frame = some X.env.locals)
  exf : ∀ b ∈ X.ex, b ≠ X.env.locals ∧ ∀ x c, X.env.cells.lookup x = some c → c ≠ b
  bs : ∀ b o, X.base.get? b = some o → X.s₀.heap.get? b = some o ∧ X.H₀ b = none
  bsz : X.base.objs.size ≤ X.s₀.heap.objs.size
  noex : ∀ b o, X.base.get? b = some o → b ∉ X.ex
  exfs : ∀ b ∈ X.ex, b ∉ X.fs
  funs : X.s₀.heap.FunFrames X.base X.outer
  frf : ∀ b ∈ X.fs, X.H₀ b = none

structure Inv (X : Cx) (pins : List (Addr × Obj)) (σ : List (Option V)) (H : Hp) (s : Shared) : Prop where
  ok : X.Ok
  os : s.os = X.s₀.os
  bare : AllBare s.gens
  base : Un X.fs X.ex X.H₀ H X.s₀.heap s.heap
  loc : ∃ m, s.heap.Ns X.env.locals m ∧ ∀ (i : Nat) (x : Str) (v : V), X.N[i]? = some x → σ[i]? = some (some v) → Vis X.env.scope x → ∃ u, RelV v u ∧ Look X.env s.heap m x u
  cell : ∀ x c, X.env.cells.lookup x = some c → ∃ v, s.heap.IsCell c v
  free : H X.env.locals = none
  freeC : ∀ x c, X.env.cells.lookup x = some c → H c = none
  pin : ∀ p ∈ X.pn ++ pins, s.heap.get? p.1 = some p.2 ∧ H p.1 = none ∧ p.1 ≠ X.env.locals ∧ p.1 ∉ X.fs ∧ ∀ v, p.2.data ≠ .cell v
  hok : HOk X.prog X.w H s.heap
  len : σ.length = X.N.length

section
variable {X : Cx} {pins : List (Addr × Obj)} {σ : List (Option V)} {H H' : Hp} {s : Shared} {h' : Heap}

theorem Cx.Ok.nofr (ok : X.Ok) {b : Addr} {o : Obj} (e : X.base.get? b = some o) : b ∉ X.fs := fun hb => by
  have := (ok.funs.mem hb).1
  rw [e] at this; cases this
theorem Inv.bs (I : Inv X pins σ H s) : ∀ b o, X.base.get? b = some o → s.heap.get? b = some o ∧ H b = none := fun b o e =>
  ⟨I.base.keep b o (I.ok.bs b o e).1 (I.ok.bs b o e).2 (I.ok.nofr e) (I.ok.noex b o e), I.base.free b o (I.ok.bs b o e).1 (I.ok.bs b o e).2 (I.ok.noex b o e)⟩
theorem Inv.bk (I : Inv X pins σ H s) : ∀ b o, X.base.get? b = some o → s.heap.get? b = some o := fun b o e => (I.bs b o e).1
theorem Inv.mod (I : Inv X pins σ H s) : Mod X.K X.mg X.base := I.ok.mod
theorem Inv.kIn (I : Inv X pins σ H s) : X.K.In s.heap := I.ok.mod.kin.keeps I.bk
theorem Inv.lt (I : Inv X pins σ H s) : X.env.locals < s.heap.objs.size := let ⟨_, hn, _⟩ := I.loc; hn.lt
theorem Inv.sz (I : Inv X pins σ H s) : X.s₀.heap.objs.size ≤ s.heap.objs.size := Nat.le_trans I.ok.above (Nat.le_of_lt I.lt)
theorem Inv.nofs (I : Inv X pins σ H s) {a : Addr} (h : s.heap.objs.size ≤ a) : a ∉ X.fs := fun hb => by
  obtain ⟨_, o, ho, _⟩ := I.ok.funs.mem hb
  exact absurd (Nat.lt_of_lt_of_le (Heap.lt_size ho) (Nat.le_trans I.sz h)) (Nat.lt_irrefl _)
theorem Inv.cne (I : Inv X pins σ H s) : ∀ x c, X.env.cells.lookup x = some c → c ≠ X.env.locals := fun x c e z => by
  obtain ⟨v, o, ho, hd⟩ := I.cell x c e
  obtain ⟨m, ⟨o', es, ep, ho', hd', _⟩, _⟩ := I.loc
  rw [z, ho'] at ho; cases ho; rw [hd'] at hd; cases hd
theorem Inv.funs (I : Inv X pins σ H s) : s.heap.FunFrames X.base X.outer := by
  have all : ∀ (l : List Env), (∀ b ∈ frs l, b ∈ X.fs) → X.s₀.heap.FunFrames X.base l → s.heap.FunFrames X.base l := by
    intro l
    induction l with
    | nil => intro _ _; trivial
    | cons env r ih =>
      intro hs hl
      obtain ⟨hk, ⟨L, o, hf, hn, ho, hd⟩, hr⟩ := hl
      have hL : L ∈ X.fs := hs L (by unfold frs; rw [List.filterMap_cons, hf]; exact List.mem_cons_self)
      obtain ⟨sl, e⟩ := I.base.slot L o ho (I.ok.frf L hL) hL fun z => I.ok.exfs L z hL
      exact ⟨hk, ⟨L, _, hf, hn, e, hd⟩, ih (fun b hb => hs b (by unfold frs; rw [List.filterMap_cons, hf]; exact List.mem_cons_of_mem _ hb)) hr⟩
  exact all X.outer (fun _ hb => hb) I.ok.funs

theorem Inv.stack (I : Inv X pins σ H s) : s.heap.FunFrames X.base X.stack := by
  rcases I.ok.stk with e | ⟨e, hf⟩
  · rw [e]; exact I.funs
  · rw [e]
    obtain ⟨m, hn, _⟩ := I.loc
    refine .cons (by rw [I.ok.kind]; decide) hf hn ?_ I.funs
    exact Heap.get?_none_of_le (Nat.le_trans I.ok.bsz I.ok.above)
theorem Inv.stkSub (I : Inv X pins σ H s) : ∀ b ∈ frs X.stack, b ∈ X.env.locals :: X.fs := fun b hb => by
  rcases I.ok.stk with e | ⟨e, hf⟩
  · rw [e] at hb; exact List.mem_cons_of_mem _ hb
  · rw [e] at hb
    unfold frs at hb
    rw [List.filterMap_cons, hf] at hb
    exact hb
theorem Inv.stkFree (I : Inv X pins σ H s) : ∀ b ∈ frs X.stack, H b = none := fun b hb => by
  rcases List.mem_cons.mp (I.stkSub b hb) with e | hb
  · rw [e]; exact I.free
  · obtain ⟨_, o, ho, _⟩ := I.ok.funs.mem hb
    exact I.base.free b o ho (I.ok.frf b hb) fun z => I.ok.exfs b z hb

theorem Inv.step {g' : Array GenState} {t' : Nat} {d' : Drawn} {ch : List Addr} (I : Inv X pins σ H s)
    (hch : ∀ b ∈ ch, (b ∈ X.ex ∨ X.s₀.heap.objs.size ≤ b) ∧ b ≠ X.env.locals ∧ (∀ x c, X.env.cells.lookup x = some c → c ≠ b) ∧ ∀ p ∈ X.pn ++ pins, p.1 ≠ b)
    (keep : ∀ b o, b ≠ X.env.locals → b ∉ X.fs → b ∉ ch → s.heap.get? b = some o → H b = none → h'.get? b = some o)
    (slot : ∀ b o, b ≠ X.env.locals → b ∈ X.fs → b ∉ ch → s.heap.get? b = some o → H b = none → ∃ sl, h'.get? b = some { o with slots := sl }) (free : ∀ b o, b ∉ ch → s.heap.get? b = some o → H b = none → H' b = none)
    (there : ∀ b o, b ∉ ch → s.heap.get? b = some o → ∃ o', h'.get? b = some o')
    (tups : ∀ b xs, H b = some (.tup xs) → H' b = some (.tup xs)) (frzs : ∀ b o u, H b = some (.frz o u) → H' b = some (.frz o u)) (tbls : ∀ b ps, H b = some (.tbl ps) → ∃ more, H' b = some (.tbl (ps ++ more)))
    (ns : ∀ m, s.heap.Ns X.env.locals m → h'.Ns X.env.locals m) (hok : HOk X.prog X.w H' h') (hg : AllBare g') :
    Inv X pins σ H' { s with heap := h', gens := g', drawn := d', toks := t' } := by
  have neL : ∀ b o, X.s₀.heap.get? b = some o → b ≠ X.env.locals := fun b o e => Nat.ne_of_lt (Nat.lt_of_lt_of_le (Heap.lt_size e) I.ok.above)
  have neC : ∀ b o, X.s₀.heap.get? b = some o → b ∉ X.ex → b ∉ ch := fun b o e hx hb => by
    rcases (hch b hb).1 with z | z
    · exact hx z
    · exact absurd (Nat.lt_of_lt_of_le (Heap.lt_size e) z) (Nat.lt_irrefl _)
  have cellK : ∀ x c, X.env.cells.lookup x = some c → ∀ v, s.heap.IsCell c v → h'.IsCell c v := fun x c e v ⟨o, ho, hd⟩ => by
    have nch : c ∉ ch := fun z => (hch c z).2.2.1 x c e rfl
    by_cases hc : c ∈ X.fs
    · obtain ⟨sl, q⟩ := slot c o (I.cne x c e) hc nch ho (I.freeC x c e)
      exact ⟨_, q, hd⟩
    · exact ⟨o, keep c o (I.cne x c e) hc nch ho (I.freeC x c e), hd⟩
  refine ⟨I.ok, I.os, hg, ⟨fun b o e n hb hx => ?_, fun b o e n hb hx => ?_, fun b o e n hx => ?_, fun b o e hx => ?_, fun b xs e => tups b xs (I.base.tups b xs e), fun b o xs e => frzs b o xs (I.base.frzs b o xs e), fun b ps e => ?_⟩, ?_, fun x c e => ?_, ?_, fun x c e => ?_, fun p hp => ?_, hok, I.len⟩
  · exact keep b o (neL b o e) hb (neC b o e hx) (I.base.keep b o e n hb hx) (I.base.free b o e n hx)
  · obtain ⟨sl, e1⟩ := I.base.slot b o e n hb hx
    obtain ⟨sl', e2⟩ := slot b _ (neL b o e) hb (neC b o e hx) e1 (I.base.free b o e n hx)
    exact ⟨sl', e2⟩
  · obtain ⟨o', e1⟩ := I.base.there b o e hx
    exact free b o' (neC b o e hx) e1 (I.base.free b o e n hx)
  · obtain ⟨o', e1⟩ := I.base.there b o e hx
    exact there b o' (neC b o e hx) e1
  · obtain ⟨m1, e1⟩ := I.base.tbls b ps e
    obtain ⟨m2, e2⟩ := tbls b _ e1
    exact ⟨m1 ++ m2, by rw [e2, Array.append_assoc]⟩
  · obtain ⟨m, hn, hl⟩ := I.loc
    refine ⟨m, ns m hn, fun i x v e1 e2 e3 => ?_⟩
    obtain ⟨u, r, l⟩ := hl i x v e1 e2 e3
    refine ⟨u, r, ?_⟩
    rcases l with l | ⟨k, c, e, z⟩
    · exact .inl l
    · exact .inr ⟨k, c, e, cellK x c e _ z⟩
  · obtain ⟨v, z⟩ := I.cell x c e
    exact ⟨v, cellK x c e v z⟩
  · obtain ⟨m, ⟨o, _, _, ho, _⟩, _⟩ := I.loc
    exact free _ o (fun z => (hch _ z).2.1 rfl) ho I.free
  · obtain ⟨v, o, ho, hd⟩ := I.cell x c e
    exact free c o (fun z => (hch c z).2.2.1 x c e rfl) ho (I.freeC x c e)
  · obtain ⟨e, n, ne, nf, d⟩ := I.pin p hp
    have nch : p.1 ∉ ch := fun z => (hch p.1 z).2.2.2 p hp rfl
    exact ⟨keep p.1 p.2 ne nf nch e n, free p.1 p.2 nch e n, ne, nf, d⟩
theorem Inv.un {t' : Nat} (I : Inv X pins σ H s) (u : Un X.fs [] H H' s.heap h') (hok : HOk X.prog X.w H' h') : Inv X pins σ H' { s with heap := h', toks := t' } := by
  obtain ⟨m, ⟨o, es, ep, ho, r⟩, _⟩ := id I.loc
  obtain ⟨sl, hL⟩ := u.any ho I.free (by simp)
  exact I.step (g' := s.gens) (d' := s.drawn) (ch := []) (fun _ z => nomatch z) (fun b o _ hb _ e n => u.keep b o e n hb (by simp)) (fun b o _ hb _ e n => u.slot b o e n hb (by simp)) (fun b o _ e n => u.free b o e n (by simp)) (fun b o _ e => u.there b o e (by simp)) u.tups u.frzs u.tbls (fun m' hm => by
    obtain ⟨o', es', ep', ho', r'⟩ := hm
    rw [ho] at ho'; cases ho'
    exact ⟨_, es', ep', hL, r'⟩) hok I.bare
theorem Inv.call {g' : Array GenState} {t' : Nat} {d' : Drawn} {ch : List Addr} (I : Inv X pins σ H s) (u : Un (frs X.stack) ch H H' s.heap h') (hok : HOk X.prog X.w H' h') (hg : AllBare g')
    (hch : ∀ b ∈ ch, (b ∈ X.ex ∨ X.s₀.heap.objs.size ≤ b) ∧ b ≠ X.env.locals ∧ (∀ x c, X.env.cells.lookup x = some c → c ≠ b) ∧ ∀ p ∈ X.pn ++ pins, p.1 ≠ b) :
    Inv X pins σ H' { s with heap := h', gens := g', drawn := d', toks := t' } := by
  obtain ⟨m, ⟨o, es, ep, ho, r⟩, _⟩ := id I.loc
  obtain ⟨sl, hL⟩ := u.any ho I.free fun z => (hch _ z).2.1 rfl
  exact I.step (ch := ch) hch (fun b o hL hb hc e n => u.keep b o e n (fun z => (List.mem_cons.mp (I.stkSub b z)).elim hL hb) hc) (fun b o _ _ hc e n => u.any e n hc) (fun b o hc e n => u.free b o e n hc) (fun b o hc e => u.there b o e hc) u.tups u.frzs u.tbls (fun m' hm => by
    obtain ⟨o', es', ep', ho', r'⟩ := hm
    rw [ho] at ho'; cases ho'
    exact ⟨_, es', ep', hL, r'⟩) hok hg
theorem Inv.turned {t' : Nat} {it : Addr} (I : Inv X pins σ H s) (k : ∀ b o, b ≠ it → s.heap.get? b = some o → h'.get? b = some o) (hn : H it = none) (hL : it ≠ X.env.locals)
    (h1 : it ∈ X.ex ∨ X.s₀.heap.objs.size ≤ it) (h2 : ∀ x c, X.env.cells.lookup x = some c → c ≠ it) (h3 : ∀ p ∈ X.pn ++ pins, p.1 ≠ it) : Inv X pins σ H { s with heap := h', toks := t' } := by
  have nit : ∀ b u, H b = some u → b ≠ it := fun b u e z => by rw [z, hn] at e; cases e
  refine I.step (g' := s.gens) (d' := s.drawn) (ch := [it]) (fun b hb => ?_) (fun b o _ _ hc e _ => k b o (fun z => hc (by simp [z])) e) (fun b o _ _ hc e _ => ⟨o.slots, k b o (fun z => hc (by simp [z])) e⟩) (fun _ _ _ _ n => n)
    (fun b o hc e => ⟨o, k b o (fun z => hc (by simp [z])) e⟩) (fun _ _ e => e) (fun _ _ _ e => e) (fun b ps e => ⟨#[], by rw [e]; simp⟩) (fun m hm => ?_) (fun b u e => ?_) I.bare
  · have e : b = it := by simpa using hb
    subst e
    exact ⟨h1, hL, h2, h3⟩
  · obtain ⟨o, es, ep, ho, r⟩ := hm
    exact ⟨o, es, ep, k _ o (Ne.symm hL) ho, r⟩
  · refine (I.hok b u e).stay (fun c v hc q => k c v ?_ q) (fun _ q => q) fun _ _ q => q
    rcases hc with z | z
    · rw [z]; exact nit b u e
    · exact nit c _ z
theorem Inv.tok (I : Inv X pins σ H s) (t : Nat) : Inv X pins σ H { s with toks := t } := I.un (h' := s.heap) (t' := t) Un.refl I.hok
theorem Inv.kept {t' : Nat} (I : Inv X pins σ H s) (k : ∀ b u, s.heap.get? b = some u → h'.get? b = some u) : Inv X pins σ H { s with heap := h', toks := t' } := I.un (Un.kept k) (I.hok.kept k)
theorem Inv.laid {a : Addr} {o : HO} {t' : Nat} (I : Inv X pins σ H s) (k : ∀ b u, s.heap.get? b = some u → h'.get? b = some u) (hp : s.heap.objs.size ≤ a) (new : ObjOk X.prog X.w (upd H a o) h' a o) :
    Inv X pins σ (upd H a o) { s with heap := h', toks := t' } := I.un (Un.laid k hp (I.hok.fresh hp)) (I.hok.laid k hp new)
theorem Inv.write {x e : Addr} {o : HO} {t' : Nat} (I : Inv X pins σ H s) (mu : Mut (H x)) (he : e = x ∨ H e = some (.own x)) (k : ∀ b u, b ≠ e → s.heap.get? b = some u → h'.get? b = some u) (heo : ∃ u, h'.get? e = some u)
    (new : ObjOk X.prog X.w (upd H x o) h' x o) : Inv X pins σ (upd H x o) { s with heap := h', toks := t' } := I.un (Un.write mu he k heo) (I.hok.write mu he k heo new)
theorem Inv.weak {σ' : List (Option V)} (I : Inv X pins σ H s) (hl : σ'.length = σ.length) (w : ∀ (i : Nat) v, σ'[i]? = some (some v) → σ[i]? = some (some v)) : Inv X pins σ' H s :=
  ⟨I.ok, I.os, I.bare, I.base, let ⟨m, hn, hl'⟩ := I.loc; ⟨m, hn, fun i x v e1 e2 e3 => hl' i x v e1 (w i v e2) e3⟩, I.cell, I.free, I.freeC, I.pin, I.hok, hl.trans I.len⟩
theorem Inv.pins_of {pins' : List (Addr × Obj)} (I : Inv X pins σ H s) (h : ∀ p ∈ pins', s.heap.get? p.1 = some p.2 ∧ H p.1 = none ∧ p.1 ≠ X.env.locals ∧ p.1 ∉ X.fs ∧ ∀ v, p.2.data ≠ .cell v) : Inv X pins' σ H s :=
  ⟨I.ok, I.os, I.bare, I.base, I.loc, I.cell, I.free, I.freeC, fun p hp => (List.mem_append.mp hp).elim (fun z => I.pin p (List.mem_append_left _ z)) (h p), I.hok, I.len⟩

theorem nodup_ix {N : List Str} (hN : N.Nodup) {i j : Nat} {x : Str} (a : N[i]? = some x) (b : N[j]? = some x) : i = j := by
  obtain ⟨h1, e1⟩ := List.getElem?_eq_some_iff.mp a
  obtain ⟨h2, e2⟩ := List.getElem?_eq_some_iff.mp b
  exact (List.getElem_inj hN).mp (e1.trans e2.symm)

theorem store_ok2 {M : Model} {A : Around} {E : Value → Shared → Prop} {i : Nat} {x : Str} {v : V} {u : Value} {Q : Unit → Shared → Prop} (I : Inv X pins σ H s) (hN : X.N.Nodup) (hi : X.N[i]? = some x) (hx : Loc X.env.scope x) (r : RelV v u)
    (h : ∀ s', Inv X pins (σ.set i (some v)) H s' → (∃ a, Heap.SameBut a s.heap s'.heap ∧ (a = X.env.locals ∨ X.env.cells.lookup x = some a)) → Q () s') (hf : X.fn x = true ∨ X.env.scope.names.lookup x = some .local := by first | exact .inl rfl | exact .inr rfl | assumption) : wpAny M A (storeName X.env x u) Q E s := by
  obtain ⟨m, hn, hl⟩ := id I.loc
  have hcls : (X.env.scope.kind == .class || (X.env.scope.kind == .module && X.env.locals != X.env.globals)) = false := by rw [I.ok.kind]; rfl
  have hiσ : i < σ.length := by rw [I.len]; exact (List.getElem?_eq_some_iff.mp hi).1
  have cne := I.cne
  have tracked : ∀ {a : Addr} {h' : Heap}, (∃ o, s.heap.get? a = some o ∧ H a = none) → Heap.SameBut a s.heap h' → HOk X.prog X.w H h' := fun {a h'} ha hs b ob e => by
    obtain ⟨_, _, hfree⟩ := ha
    refine (I.hok b ob e).stay (fun c w' hc q => (hs.2 c ?_).trans q) (fun _ q => q) fun _ _ q => q
    rintro rfl
    rcases hc with rfl | hc
    · rw [hfree] at e; cases e
    · rw [hfree] at hc; cases hc
  rcases hx with hk | hk
  · refine wpAny_storeName_local hk hn (fun h' hn' hs => ?_) hcls
    obtain ⟨oL, _, _, hoL, _⟩ := id hn
    refine h _ ⟨I.ok, I.os, I.bare, ⟨fun b o e n hb hx => ?_, fun b o e n hb hx => ?_, I.base.free, fun b o e hx => ?_, I.base.tups, I.base.frzs, I.base.tbls⟩, ⟨_, hn', fun j y v' e1 e2 e3 => ?_⟩, fun y c e => ?_, I.free, I.freeC, fun p hp => ?_, tracked ⟨oL, hoL, I.free⟩ hs, by simpa using I.len⟩ ⟨_, hs, .inl rfl⟩
    · exact (hs.2 b (Nat.ne_of_lt (Nat.lt_of_lt_of_le (Heap.lt_size e) I.ok.above))).trans (I.base.keep b o e n hb hx)
    · obtain ⟨sl, e1⟩ := I.base.slot b o e n hb hx
      exact ⟨sl, (hs.2 b (Nat.ne_of_lt (Nat.lt_of_lt_of_le (Heap.lt_size e) I.ok.above))).trans e1⟩
    · obtain ⟨o', e1⟩ := I.base.there b o e hx
      exact ⟨o', (hs.2 b (Nat.ne_of_lt (Nat.lt_of_lt_of_le (Heap.lt_size e) I.ok.above))).trans e1⟩
    · by_cases hj : j = i
      · subst hj
        rw [hi] at e1; cases e1
        rw [List.getElem?_set_self hiσ] at e2
        cases e2
        exact ⟨u, r, .inl ⟨hk, by simp⟩⟩
      · rw [List.getElem?_set_ne (Ne.symm hj)] at e2
        obtain ⟨u', r', q⟩ := hl j y v' e1 e2 e3
        refine ⟨u', r', ?_⟩
        rcases q with ⟨k, e⟩ | ⟨k, c, e, z⟩
        · refine .inl ⟨k, ?_⟩
          have : y ≠ x := fun e => hj (nodup_ix hN e1 (e ▸ hi))
          simp [this, e]
        · exact .inr ⟨k, c, e, z.sameBut hs (cne y c e)⟩
    · obtain ⟨w', z⟩ := I.cell y c e
      exact ⟨w', z.sameBut hs (cne y c e)⟩
    · obtain ⟨e, n, ne, nf, d⟩ := I.pin p hp
      exact ⟨(hs.2 p.1 ne).trans e, n, ne, nf, d⟩
  · have hfn : X.fn x = true := by
      rcases hf with z | z
      · exact z
      · rw [z] at hk; cases hk
    obtain ⟨c, hc⟩ := I.ok.has x (.inl hk)
    obtain ⟨w', z⟩ := I.cell x c hc
    refine wpAny_storeName_cell I.ok.kind hk hc z (fun h' hc' hs => ?_)
    obtain ⟨oc, hoc, hocd⟩ := id z
    refine h { s with heap := h' } ⟨I.ok, I.os, I.bare, ⟨fun b o e n hb hx => ?_, fun b o e n hb hx => ?_, I.base.free, fun b o e hx => ?_, I.base.tups, I.base.frzs, I.base.tbls⟩, ⟨m, hn.sameBut hs (Ne.symm (cne x c hc)), fun j y v' e1 e2 e3 => ?_⟩, fun y c' e => ?_, I.free, I.freeC, fun p hp => ?_, tracked ⟨oc, hoc, I.freeC x c hc⟩ hs, by simpa using I.len⟩ ⟨c, hs, .inr hc⟩
    · exact (hs.2 b (Nat.ne_of_lt (Nat.lt_of_lt_of_le (Heap.lt_size e) (I.ok.cab x c hfn hc)))).trans (I.base.keep b o e n hb hx)
    · obtain ⟨sl, e1⟩ := I.base.slot b o e n hb hx
      exact ⟨sl, (hs.2 b (Nat.ne_of_lt (Nat.lt_of_lt_of_le (Heap.lt_size e) (I.ok.cab x c hfn hc)))).trans e1⟩
    · obtain ⟨o', e1⟩ := I.base.there b o e hx
      exact ⟨o', (hs.2 b (Nat.ne_of_lt (Nat.lt_of_lt_of_le (Heap.lt_size e) (I.ok.cab x c hfn hc)))).trans e1⟩
    · by_cases hj : j = i
      · subst hj
        rw [hi] at e1; cases e1
        rw [List.getElem?_set_self hiσ] at e2
        cases e2
        exact ⟨u, r, .inr ⟨.inl hk, c, hc, hc'⟩⟩
      · rw [List.getElem?_set_ne (Ne.symm hj)] at e2
        obtain ⟨u', r', q⟩ := hl j y v' e1 e2 e3
        refine ⟨u', r', ?_⟩
        rcases q with q | ⟨k, c', e, z'⟩
        · exact .inl q
        · refine .inr ⟨k, c', e, z'.sameBut hs ?_⟩
          rintro rfl
          exact hj (nodup_ix hN e1 (I.ok.inj _ _ _ e hc ▸ hi))
    · by_cases hcc : c' = c
      · subst hcc; exact ⟨_, hc'⟩
      · obtain ⟨w2, z2⟩ := I.cell y c' e
        exact ⟨w2, z2.sameBut hs hcc⟩
    · obtain ⟨e, n, ne, nf, d⟩ := I.pin p hp
      refine ⟨(hs.2 p.1 ?_).trans e, n, ne, nf, d⟩
      intro q
      rw [q, hoc] at e
      have q' : oc = p.2 := Option.some.inj e
      exact d w' (by rw [← q']; exact hocd)
theorem store_ok {M : Model} {A : Around} {E : Value → Shared → Prop} {i : Nat} {x : Str} {v : V} {u : Value} {Q : Unit → Shared → Prop} (I : Inv X pins σ H s) (hN : X.N.Nodup) (hi : X.N[i]? = some x) (hx : Loc X.env.scope x) (r : RelV v u)
    (h : ∀ s', Inv X pins (σ.set i (some v)) H s' → Q () s') (hf : X.fn x = true ∨ X.env.scope.names.lookup x = some .local := by first | exact .inl rfl | exact .inr rfl | assumption) : wpAny M A (storeName X.env x u) Q E s :=
  store_ok2 I hN hi hx r (fun s' I' _ => h s' I') hf
theorem Inv.call' {s' : Shared} {ch : List Addr} (I : Inv X pins σ H s) (ho : s'.os = s.os) (u : Un (frs X.stack) ch H H' s.heap s'.heap) (hok : HOk X.prog X.w H' s'.heap) (hg : AllBare s'.gens)
    (hch : ∀ b ∈ ch, (b ∈ X.ex ∨ X.s₀.heap.objs.size ≤ b) ∧ b ≠ X.env.locals ∧ (∀ x c, X.env.cells.lookup x = some c → c ≠ b) ∧ ∀ p ∈ X.pn ++ pins, p.1 ≠ b) : Inv X pins σ H' s' := by
  obtain ⟨h', g', d', t', o'⟩ := s'
  have e : o' = s.os := ho
  subst e
  exact I.call (g' := g') (t' := t') (d' := d') u hok hg hch
end

abbrev XK := Value → Option Addr → Hp → Prop
abbrev St := List (Option V)
abbrev VK := V → Hp → Prop
abbrev TE := St → Hp → VK → Prop
abbrev TT := St → Hp → (Bool → Hp → Prop) → Prop
abbrev TA := St → Hp → (List V → Hp → Prop) → Prop
structure Ends where
  nx : St → Hp → Prop
  rt : VK
  bk : St → Hp → Prop := fun _ _ => False
  ct : St → Hp → Prop := fun _ _ => False
abbrev TS := Ends → St → Hp → Prop

def EP (X : Cx) (pins : List (Addr × Obj)) (σ : St) (Q : VK) (u : Value) (s' : Shared) : Prop := ∃ v H', Inv X pins σ H' s' ∧ RelV v u ∧ Q v H'
def TP (X : Cx) (pins : List (Addr × Obj)) (σ : St) (Q : Bool → Hp → Prop) (b : Bool) (s' : Shared) : Prop := ∃ H', Inv X pins σ H' s' ∧ Q b H'
def AP (X : Cx) (pins : List (Addr × Obj)) (σ : St) (Q : List V → Hp → Prop) (us : List Value) (s' : Shared) : Prop := ∃ vs H', Inv X pins σ H' s' ∧ Vals vs us ∧ Q vs H'
def SP (X : Cx) (pins : List (Addr × Obj)) (D : Ends) (f : Flow) (s' : Shared) : Prop :=
  match f with
  | .next => ∃ σ' H', Inv X pins σ' H' s' ∧ D.nx σ' H'
  | .brk => ∃ σ' H', Inv X pins σ' H' s' ∧ D.bk σ' H'
  | .cont => ∃ σ' H', Inv X pins σ' H' s' ∧ D.ct σ' H'
  | .ret u => ∃ v σ' H', Inv X pins σ' H' s' ∧ RelV v u ∧ D.rt v H'

def PE (X : Cx) (e : Expr) (t : TE) : Prop :=
  ∀ (pins : List (Addr × Obj)) (s : Shared) (σ : St) (H : Hp) (Q : VK), Inv X pins σ H s → t σ H Q → wpAny (model X.prog X.w) X.A (eval e X.env) (EP X pins σ Q) X.xe s
def PT (X : Cx) (e : Expr) (t : TT) : Prop :=
  ∀ (pins : List (Addr × Obj)) (s : Shared) (σ : St) (H : Hp) (Q : Bool → Hp → Prop), Inv X pins σ H s → t σ H Q → wpAny (model X.prog X.w) X.A (isTrue e X.env (eval e X.env)) (TP X pins σ Q) X.xe s
def PW (X : Cx) (e : Expr) (t : TT) : Prop :=
  ∀ (whole : Sem Value) (pins : List (Addr × Obj)) (s : Shared) (σ : St) (H : Hp) (Q : Bool → Hp → Prop), Inv X pins σ H s → t σ H Q → wpAny (model X.prog X.w) X.A (isTrue e X.env whole) (TP X pins σ Q) X.xe s
theorem PW.pt {X : Cx} {e : Expr} {t : TT} (h : PW X e t) : PT X e t := h _
def PA (X : Cx) (es : List Expr) (t : TA) : Prop :=
  ∀ (pos : Pos) (pins : List (Addr × Obj)) (s : Shared) (σ : St) (H : Hp) (Q : List V → Hp → Prop), Inv X pins σ H s → t σ H Q → wpAny (model X.prog X.w) X.A (spliced (backTo pos (starEach es X.env))) (AP X pins σ Q) X.xe s
def PS (X : Cx) (st : Stmt) (t : TS) : Prop :=
  ∀ (pins : List (Addr × Obj)) (s : Shared) (σ : St) (H : Hp) (D : Ends), Inv X pins σ H s → t D σ H → wpAny (model X.prog X.w) X.A (exec st X.env) (SP X pins D) X.xe s
def PSs (X : Cx) (st : List Stmt) (t : TS) : Prop :=
  ∀ (pins : List (Addr × Obj)) (s : Shared) (σ : St) (H : Hp) (D : Ends), Inv X pins σ H s → t D σ H → wpAny (model X.prog X.w) X.A (execs st X.env) (SP X pins D) X.xe s
theorem thn {α : Type} {t : Sem α} {Q Q' : α → Shared → Prop} {M : Model} {A : Around} {E : Value → Shared → Prop} {s : Shared} (h : wpAny M A t Q E s) (hQ : ∀ a s, Q a s → Q' a s) : wpAny M A t Q' E s := wpAny_mono h hQ fun _ _ x => x
end L2

namespace L2
open PySem PySem.Spec PyProof.Rows
section
variable {X : Cx}

def tVar (i : Nat) : TE := fun σ H Q => ∃ v, σ[i]? = some (some v) ∧ Q v H
def tC (v : V) : TE := fun _ H Q => Q v H
theorem pe_var {i : Nat} {x : Str} {pos : Pos} (hN : X.N[i]? = some x) (hv : Vis X.env.scope x) (hd : (x == ("__debug__" : Str)) = false := by decide) (hcd : (x == ("__classdict__" : Str)) = false := by decide) : PE X (.Name x pos) (tVar i) := by
  intro pins s σ H Q I h
  obtain ⟨v, e, h⟩ := h
  obtain ⟨m, hn, hl⟩ := I.loc
  obtain ⟨u, r, l⟩ := hl i x v hN e hv
  have fin : EP X pins σ Q u s := ⟨v, H, I, r, h⟩
  rcases l with ⟨hk, hm⟩ | ⟨hk, c, hc, hcell⟩
  · exact wpAny_Name (wpAny_loadName_local I.ok.kind hk hn hm fin) hd
  · rcases hk with hk | hk
    · exact wpAny_Name (wpAny_loadName_cell I.ok.kind hk hc hcell fin) hd
    · exact wpAny_Name (wpAny_loadName_free I.ok.kind hk hc hcell fin hcd) hd
theorem pe_int {i j pos} : PE X (.Constant (.int i) j pos) (tC (.int i)) := fun _ _ _ H _ I h => wpAny_Constant_int ⟨.int i, H, I.tok _, ⟨_, rfl⟩, h⟩
theorem pe_bl {b j pos} : PE X (.Constant (.bool b) j pos) (tC (.bl b)) := fun _ _ _ H _ I h => Constant_bool ⟨.bl b, H, I, rfl, h⟩
theorem pe_str {x j pos} : PE X (.Constant (.str x) j pos) (tC (.str x)) := fun _ _ _ H _ I h => Calls.Constant_str ⟨.str x, H, I.tok _, ⟨_, rfl⟩, h⟩

def Gl (X : Cx) (x : Str) : Prop := X.env.kindOf x = some .globalImplicit
theorem ld_glob {E : Value → Shared → Prop} {pins : List (Addr × Obj)} {s : Shared} {σ : St} {H : Hp} {x : Str} {u : Value} {pos : Pos} {Q : Value → Shared → Prop} (I : Inv X pins σ H s) (hg : Gl X x) (hm : X.mg x = some u) (h : Q u s)
    (hd : (x == ("__debug__" : Str)) = false := by decide) : wpAny (model X.prog X.w) X.A (eval (.Name x pos) X.env) Q E s :=
  Calls.Name_function_global I.ok.kind hg (Calls.loadGlobal_global (by rw [I.ok.glob]; exact I.mod.glob.keeps I.bk) hm h) hd
theorem ld_blt {E : Value → Shared → Prop} {pins : List (Addr × Obj)} {s : Shared} {σ : St} {H : Hp} {x : Str} {u : Value} {pos : Pos} {Q : Value → Shared → Prop} (I : Inv X pins σ H s) (hg : Gl X x) (hm : X.mg x = none) (hv : bootBuiltins x = some u) (h : Q u s)
    (hn : x ≠ "__name__" := by decide) (hd : (x == ("__debug__" : Str)) = false := by decide) : wpAny (model X.prog X.w) X.A (eval (.Name x pos) X.env) Q E s := by
  obtain ⟨mb, h1, h2⟩ := I.mod.blt
  exact Calls.Name_function_global I.ok.kind hg (Calls.loadGlobal_builtin (by rw [I.ok.glob]; exact I.mod.glob.keeps I.bk) hm (by rw [I.ok.blt]; exact h1.keeps I.bk) ((h2 x hn).trans hv) h) hd
theorem pe_bltn {x : Str} {v : V} {u : Value} {pos : Pos} (hg : Gl X x) (hm : X.mg x = none) (hv : bootBuiltins x = some u) (r : RelV v u) (hn : x ≠ "__name__" := by decide) (hd : (x == ("__debug__" : Str)) = false := by decide) : PE X (.Name x pos) (tC v) :=
  fun _ _ _ H _ I h => ld_blt I hg hm hv ⟨v, H, I, r, h⟩ hn hd

def t2I (ta tb : TE) (k : Int → Int → Hp → Prop) : St → Hp → Prop := fun σ H => ta σ H fun x H1 => tb σ H1 fun y H2 => ∃ i j, x = .int i ∧ y = .int j ∧ k i j H2
def tAdd (ta tb : TE) : TE := fun σ H Q => t2I ta tb (fun i j H2 => Q (.int (i + j)) H2) σ H
def tSub (ta tb : TE) : TE := fun σ H Q => t2I ta tb (fun i j H2 => Q (.int (i - j)) H2) σ H
def tMul (ta tb : TE) : TE := fun σ H Q => t2I ta tb (fun i j H2 => (-(2 ^ 64) < i ∧ i < 2 ^ 64) ∧ Q (.int (i * j)) H2) σ H
variable {a b : Expr} {ta tb : TE} {pos : Pos}
def PC (X : Cx) (op : CmpOp) (a b : Expr) (t : TE) : Prop :=
  ∀ (pins : List (Addr × Obj)) (s : Shared) (σ : St) (H : Hp) (Q : VK), Inv X pins σ H s → t σ H Q →
    wpAny (model X.prog X.w) X.A (eval a X.env) (fun v s₁ => wpAny (model X.prog X.w) X.A (eval b X.env) (fun u s₂ => wpAny (model X.prog X.w) X.A (compareOp op v u) (EP X pins σ Q) X.xe s₂) X.xe s₁) X.xe s
def tCmp (p : Int → Int → Bool) (ta tb : TE) : TE := fun σ H Q => t2I ta tb (fun i j H2 => Q (.bl (p i j)) H2) σ H
abbrev tLt : TE → TE → TE := tCmp fun i j => decide (i < j)
abbrev tLe : TE → TE → TE := tCmp fun i j => decide (i ≤ j)
abbrev tGt : TE → TE → TE := tCmp fun i j => decide (j < i)
abbrev tGe : TE → TE → TE := tCmp fun i j => decide (j ≤ i)
abbrev tEqI : TE → TE → TE := tCmp fun i j => decide (i = j)
abbrev tNeI : TE → TE → TE := tCmp fun i j => !decide (i = j)
def tIsN (ta : TE) : TE := fun σ H Q => ta σ H fun x H1 => Q (.bl (decide (x = .non))) H1
def tNotN (ta : TE) : TE := fun σ H Q => ta σ H fun x H1 => Q (.bl (!decide (x = .non))) H1
def tB (t : TE) : TT := fun σ H Q => t σ H fun x H1 => ∃ c, x = .bl c ∧ Q c H1
theorem pt_cmp {op : CmpOp} {t : TE} (h : PC X op a b t) (h1 : behindInMarks op b = false := by first | exact nobehind _ (by decide) (by decide) | rfl) : PT X (.Compare a [op] [b] pos) (tB t) := by
  intro pins s σ H Q I hw
  refine wpAny_isTrue_Compare1 (thn (h pins s σ H _ I hw) fun v s1 h1 => thn h1 fun u s2 h2 => thn h2 fun c s3 ⟨x, H1, I1, r1, q1⟩ => ?_) h1
  obtain ⟨d, rfl, q⟩ := q1
  cases r1
  exact wpAny_truthy_bool ⟨H1, I1, q⟩
theorem pt_val {e : Expr} {t : TE} (h : PE X e t) (he : ∀ whole, isTrue e X.env whole = (do let v ← whole; standAt e.pos; holding [v] (truthy v)) := by intro _; rfl) : PT X e (tB t) := by
  intro pins s σ H Q I hw
  refine isTrue_plain (thn (h pins s σ H _ I hw) fun v s1 ⟨x, H1, I1, r1, q1⟩ => ?_) (he _)
  obtain ⟨d, rfl, q⟩ := q1
  cases r1
  exact wpAny_truthy_bool ⟨H1, I1, q⟩

variable {tA tB' : TT} {rest : List Expr}
def tAnd (t u : TT) : TT := fun σ H Q => t σ H fun c H1 => if c = true then u σ H1 Q else Q false H1
def tOr (t u : TT) : TT := fun σ H Q => t σ H fun c H1 => if c = true then Q true H1 else u σ H1 Q
def tNot (t : TT) : TT := fun σ H Q => t σ H fun c H1 => Q (!c) H1
theorem pw_and1 (ha : PT X a tA) : PW X (.BoolOp .And [a] pos) tA := by
  intro wh pins s σ H Q I h
  refine isTrue_and (thn (ha pins s σ H Q I h) fun c s1 e => ?_)
  cases c with
  | true => exact isTrue_and_nil e
  | false => exact e
theorem pw_or1 (ha : PT X a tA) : PW X (.BoolOp .Or [a] pos) tA := by
  intro wh pins s σ H Q I h
  refine isTrue_or (thn (ha pins s σ H Q I h) fun c s1 e => ?_)
  cases c with
  | false => exact isTrue_or_nil e
  | true => exact e
theorem pw_and (ha : PT X a tA) (hb : PW X (.BoolOp .And (b :: rest) pos) tB') : PW X (.BoolOp .And (a :: b :: rest) pos) (tAnd tA tB') := by
  intro wh pins s σ H Q I h
  refine isTrue_and (thn (ha pins s σ H _ I h) fun c s1 ⟨H1, I1, q1⟩ => ?_)
  cases c with
  | true => exact hb wh pins s1 σ H1 Q I1 q1
  | false => exact ⟨H1, I1, q1⟩
theorem pw_or (ha : PT X a tA) (hb : PW X (.BoolOp .Or (b :: rest) pos) tB') : PW X (.BoolOp .Or (a :: b :: rest) pos) (tOr tA tB') := by
  intro wh pins s σ H Q I h
  refine isTrue_or (thn (ha pins s σ H _ I h) fun c s1 ⟨H1, I1, q1⟩ => ?_)
  cases c with
  | true => exact ⟨H1, I1, q1⟩
  | false => exact hb wh pins s1 σ H1 Q I1 q1
theorem pt_not (ha : PT X a tA) : PT X (.UnaryOp .Not a pos) (tNot tA) := by
  intro pins s σ H Q I h
  exact isTrue_not (ha pins s σ H (fun c H1 => Q (!c) H1) I h)
def tAndV (ta tb : TE) : TE := fun σ H Q => ta σ H fun x H1 => ∃ c, x = .bl c ∧ if c = true then tb σ H1 Q else Q (.bl false) H1
def tOrV (ta tb : TE) : TE := fun σ H Q => ta σ H fun x H1 => ∃ c, x = .bl c ∧ if c = true then Q (.bl true) H1 else tb σ H1 Q
def tNotV (ta : TE) : TE := fun σ H Q => ta σ H fun x H1 => ∃ c, x = .bl c ∧ Q (.bl (!c)) H1
theorem pe_one {op} {t : TE} (h : PE X a t) : PE X (.BoolOp op [a] pos) t := fun pins s σ H Q I hw => BoolOp_one (h pins s σ H Q I hw)
theorem pe_and (ha : PE X a ta) (hb : PE X (.BoolOp .And (b :: rest) pos) tb) : PE X (.BoolOp .And (a :: b :: rest) pos) (tAndV ta tb) := by
  intro pins s σ H Q I h
  refine BoolOp_and (thn (ha pins s σ H _ I h) fun v s1 ⟨x, H1, I1, r1, q1⟩ => ?_)
  obtain ⟨c, rfl, q1⟩ := q1
  cases r1
  refine wpAny_truthy_bool ?_
  cases c with
  | true => exact hb pins s1 σ H1 Q I1 q1
  | false => exact ⟨.bl false, H1, I1, rfl, q1⟩
theorem pe_or (ha : PE X a ta) (hb : PE X (.BoolOp .Or (b :: rest) pos) tb) : PE X (.BoolOp .Or (a :: b :: rest) pos) (tOrV ta tb) := by
  intro pins s σ H Q I h
  refine BoolOp_or (thn (ha pins s σ H _ I h) fun v s1 ⟨x, H1, I1, r1, q1⟩ => ?_)
  obtain ⟨c, rfl, q1⟩ := q1
  cases r1
  refine wpAny_truthy_bool ?_
  cases c with
  | false => exact hb pins s1 σ H1 Q I1 q1
  | true => exact ⟨.bl true, H1, I1, rfl, q1⟩
theorem pe_not (ha : PE X a ta) : PE X (.UnaryOp .Not a pos) (tNotV ta) := by
  intro pins s σ H Q I h
  refine UnaryOp_ (thn (ha pins s σ H _ I h) fun v s1 ⟨x, H1, I1, r1, q1⟩ => ?_)
  obtain ⟨c, rfl, q1⟩ := q1
  cases r1
  exact not_of (wpAny_truthy_bool ⟨.bl (!c), H1, I1, rfl, q1⟩)
def tIf (t : TT) (ta tb : TE) : TE := fun σ H Q => t σ H fun c H1 => if c = true then ta σ H1 Q else tb σ H1 Q
theorem pe_ifExp {c : Expr} (hc : PT X c tA) (ha : PE X a ta) (hb : PE X b tb) : PE X (.IfExp c a b pos) (tIf tA ta tb) := by
  intro pins s σ H Q I h
  refine wpAny_IfExp (thn (hc pins s σ H _ I h) fun d s1 ⟨H1, I1, q1⟩ => ?_)
  cases d with
  | true => exact ha pins s1 σ H1 Q I1 q1
  | false => exact hb pins s1 σ H1 Q I1 q1
end
end L2

namespace L2
open PySem PySem.Spec PyProof.Rows

def SqL (K : PySem.W.Frag) (H : Hp) (a : Addr) (xs : List V) : Prop :=
  Rd H a (.lst xs) ∨
    ∃ (o : Obj) (its : Array Value) (n : Nat), K.lookup a = some o ∧ o.cls = .type "list" ∧ o.dict = none ∧ o.data = .seq its n ∧ its.size ≤ sizeLine ∧ Vals xs its.toList
def SqT (K : PySem.W.Frag) (H : Hp) (a : Addr) (xs : List V) : Prop :=
  Rd H a (.tup xs) ∨
    ∃ (o : Obj) (its : Array Value) (n : Nat), K.lookup a = some o ∧ o.cls = .type "tuple" ∧ o.data = .seq its n ∧ its.size ≤ sizeLine ∧ Vals xs its.toList
def absV : Value → Option V
  | .none => some .non
  | .bool b => some (.bl b)
  | .int i _ => some (.int i)
  | .str x _ => some (.str x)
  | .bytes b _ => some (.byt b)
  | .float b _ => some (.flt b)
  | .ref a => some (.ref a)
  | .type n => some (.ty n)
  | _ => none
theorem RelV.abs {x : V} {u : Value} (r : RelV x u) : absV u = some x := by
  cases x with
  | non => cases r; rfl
  | bl _ => cases r; rfl
  | int _ => obtain ⟨t, rfl⟩ := r; rfl
  | str _ => obtain ⟨t, rfl⟩ := r; rfl
  | byt _ => obtain ⟨t, rfl⟩ := r; rfl
  | flt _ => obtain ⟨t, rfl⟩ := r; rfl
  | ref _ => cases r; rfl
  | ty _ => cases r; rfl
theorem RelV.inj {x y : V} {u : Value} (r : RelV x u) (q : RelV y u) : x = y := Option.some.inj (r.abs.symm.trans q.abs)
theorem Vals.inj : ∀ {xs ys : List V} {us : List Value}, Vals xs us → Vals ys us → xs = ys
  | _, _, _, .nil, .nil => rfl
  | _, _, _, .cons r t, .cons r' t' => by rw [r.inj r', Vals.inj t t']
section
variable {X : Cx} {pins : List (Addr × Obj)} {σ : St} {H : Hp} {s : Shared} {a : Addr} {xs ys : List V}
theorem SqL.of {K : PySem.W.Frag} (h : H a = some (.lst xs)) : SqL K H a xs := .inl (.inl h)
theorem SqT.of {K : PySem.W.Frag} (h : H a = some (.tup xs)) : SqT K H a xs := .inl (.inl h)
theorem Inv.list (I : Inv X pins σ H s) (h : SqL X.K H a xs) : ∃ its : List Value, Vals xs its ∧ PlainL s.heap a its.toArray ∧ xs.length ≤ sizeLine := by
  rcases h with h | ⟨o, its, n, hk, hc, hd, hs, hz, r⟩
  · obtain ⟨z, its, n, r, e⟩ := h.ok I.hok
    exact ⟨its, r, ⟨_, n, e, rfl, rfl, rfl⟩, z⟩
  · refine ⟨its.toList, r, ⟨o, n, I.kIn a o hk, hc, hd, by simpa using hs⟩, ?_⟩
    have e := r.length
    simp only [Array.length_toList] at e
    omega
theorem Inv.tuple (I : Inv X pins σ H s) (h : SqT X.K H a xs) : ∃ its : List Value, Vals xs its ∧ IsTup s.heap a its.toArray ∧ xs.length ≤ sizeLine := by
  rcases h with h | ⟨o, its, n, hk, hc, hs, hz, r⟩
  · obtain ⟨z, its, r, p⟩ := h.ok I.hok
    exact ⟨its, r, p.tup, z⟩
  · refine ⟨its.toList, r, ⟨o, I.kIn a o hk, hc, n, by simpa using hs⟩, ?_⟩
    have e := r.length
    simp only [Array.length_toList] at e
    omega
theorem Inv.list_inj (I : Inv X pins σ H s) (h : SqL X.K H a xs) (h' : SqL X.K H a ys) : xs = ys := by
  obtain ⟨its, r, ⟨o, n, e, _, _, d⟩, _⟩ := I.list h
  obtain ⟨its', r', ⟨o', n', e', _, _, d'⟩, _⟩ := I.list h'
  rw [e] at e'; cases e'
  rw [d] at d'
  injection d' with d1 _
  have : its = its' := by simpa using congrArg Array.toList d1
  subst this
  exact r.inj r'
theorem Inv.tuple_inj (I : Inv X pins σ H s) (h : SqT X.K H a xs) (h' : SqT X.K H a ys) : xs = ys := by
  obtain ⟨its, r, ⟨o, e, _, n, d⟩, _⟩ := I.tuple h
  obtain ⟨its', r', ⟨o', e', _, n', d'⟩, _⟩ := I.tuple h'
  rw [e] at e'; cases e'
  rw [d] at d'
  injection d' with d1 _
  have : its = its' := by simpa using congrArg Array.toList d1
  subst this
  exact r.inj r'
end

abbrev Cx.wish (X : Cx) (E : Value → Shared → Prop) : Cx := { X with xe := E }
abbrev Cx.nox (X : Cx) : Cx := X.wish fun _ _ => False
theorem Cx.Ok.wish {X : Cx} (ok : X.Ok) (E : Value → Shared → Prop) : (X.wish E).Ok :=
  ⟨ok.mod, ok.kind, ok.glob, ok.blt, ok.above, ok.inj, ok.has, ok.cab, ok.hd, ok.frames, ok.stk, ok.exf, ok.bs, ok.bsz, ok.noex, ok.exfs, ok.funs, ok.frf⟩
theorem Cx.Ok.unwish {X : Cx} {E : Value → Shared → Prop} (ok : (X.wish E).Ok) : X.Ok :=
  ⟨ok.mod, ok.kind, ok.glob, ok.blt, ok.above, ok.inj, ok.has, ok.cab, ok.hd, ok.frames, ok.stk, ok.exf, ok.bs, ok.bsz, ok.noex, ok.exfs, ok.funs, ok.frf⟩
section
variable {X : Cx} {pins : List (Addr × Obj)} {σ : St} {H : Hp} {s : Shared} {E : Value → Shared → Prop}
theorem Inv.wish (I : Inv X pins σ H s) (E : Value → Shared → Prop) : Inv (X.wish E) pins σ H s := ⟨I.ok.wish E, I.os, I.bare, I.base, I.loc, I.cell, I.free, I.freeC, I.pin, I.hok, I.len⟩
theorem Inv.unwish (I : Inv (X.wish E) pins σ H s) : Inv X pins σ H s := ⟨I.ok.unwish, I.os, I.bare, I.base, I.loc, I.cell, I.free, I.freeC, I.pin, I.hok, I.len⟩
theorem SP.unwish {D : Ends} {f : Flow} {s' : Shared} (h : SP (X.wish E) pins D f s') : SP X pins D f s' := by
  cases f with
  | next => obtain ⟨σ', H', I, q⟩ := h; exact ⟨σ', H', I.unwish, q⟩
  | brk => obtain ⟨σ', H', I, q⟩ := h; exact ⟨σ', H', I.unwish, q⟩
  | cont => obtain ⟨σ', H', I, q⟩ := h; exact ⟨σ', H', I.unwish, q⟩
  | ret u => obtain ⟨v, σ', H', I, r, q⟩ := h; exact ⟨v, σ', H', I.unwish, r, q⟩
theorem PSs.nox {st : List Stmt} {t : TS} (h : PSs X.nox st t) : PSs X st t := fun pins s σ H D I hw =>
  wpAny_mono (h pins s σ H D (I.wish _) hw) (fun _ _ q => q.unwish) fun _ _ z => False.elim z
end

section
variable {X : Cx} {st : Stmt} {rest : List Stmt} {t u : TS} {e : Expr} {te : TE} {pos : Pos}
def tNext : TS := fun D σ H => D.nx σ H
def tSeq (t u : TS) : TS := fun D σ H => t { D with nx := u D } σ H
theorem pss_nil : PSs X [] tNext := fun _ _ σ H _ I h => wpAny_execs_nil ⟨σ, H, I, h⟩
theorem pss_cons (h1 : PS X st t) (h2 : PSs X rest u) : PSs X (st :: rest) (tSeq t u) := by
  intro pins s σ H D I h
  refine wpAny_execs_cons (thn (h1 pins s σ H { D with nx := u D } I h) fun f s1 q => ?_)
  cases f with
  | next =>
    obtain ⟨σ', H', I', q⟩ := q
    exact h2 pins s1 σ' H' D I' q
  | ret v => exact q
  | brk => exact q
  | cont => exact q
theorem pss_one (h1 : PS X st t) : PSs X [st] t := by
  intro pins s σ H D I h
  refine wpAny_execs_cons (thn (h1 pins s σ H D I h) fun f s1 q => ?_)
  cases f with
  | next => exact wpAny_execs_nil q
  | ret v => exact q
  | brk => exact q
  | cont => exact q
def tBreak : TS := fun D σ H => D.bk σ H
def tCont : TS := fun D σ H => D.ct σ H
theorem Inv.quiet {pins : List (Addr × Obj)} {σ : St} {H : Hp} {s : Shared} (I : Inv X pins σ H s) : interactive X.env = false := by simp [interactive, I.ok.kind]
def tDrop (te : TE) : TS := fun D σ H => te σ H fun _ H1 => D.nx σ H1
theorem ps_expr (he : PE X e te) (hs : swapsWith e none pos.line X.env = pure false := by rfl) : PS X (.Expr e pos) (tDrop te) := by
  intro pins s σ H D I h
  exact wpAny_Expr_any (thn (he pins s σ H _ I h) fun v s1 ⟨x, H1, I1, r1, q1⟩ => ⟨σ, H1, I1, q1⟩) I.quiet hs
def tRet (te : TE) : TS := fun D σ H => te σ H D.rt
theorem ps_ret (he : PE X e te) : PS X (.Return (some e) pos) (tRet te) := by
  intro pins s σ H D I h
  exact wpAny_Return_some (thn (he pins s σ H _ I h) fun v s1 ⟨x, H1, I1, r1, q1⟩ => ⟨x, σ, H1, I1, r1, q1⟩)
def tRetN : TS := fun D _ H => D.rt .non H
def tIfS (c : TT) (t u : TS) : TS := fun D σ H => c σ H fun b H1 => if b = true then t D σ H1 else u D σ H1
theorem ps_if {c : Expr} {a b : List Stmt} {tc : TT} (hc : PT X c tc) (ha : PSs X a t) (hb : PSs X b u) : PS X (.If c a b pos) (tIfS tc t u) := by
  intro pins s σ H D I h
  refine wpAny_If (thn (hc pins s σ H _ I h) fun d s1 ⟨H1, I1, q1⟩ => ?_)
  cases d with
  | true => exact ha pins s1 σ H1 D I1 q1
  | false => exact hb pins s1 σ H1 D I1 q1
def tNever : TS := fun _ _ _ => False
theorem pss_never {sts : List Stmt} : PSs X sts tNever := fun _ _ _ _ _ _ h => h.elim
end

abbrev TG := V → St → Hp → (St → Hp → Prop) → Prop
abbrev TGs := List V → St → Hp → (St → Hp → Prop) → Prop
def PG (X : Cx) (target : Expr) (t : TG) : Prop :=
  ∀ (pins : List (Addr × Obj)) (s : Shared) (σ : St) (H : Hp) (v : V) (u : Value) (Q : St → Hp → Prop), Inv X pins σ H s → RelV v u → t v σ H Q →
    wpAny (model X.prog X.w) X.A (assign target X.env u) (fun _ s' => ∃ σ' H', Inv X pins σ' H' s' ∧ Q σ' H') X.xe s
def PGs (X : Cx) (ts : List Expr) (t : TGs) : Prop :=
  ∀ (pins : List (Addr × Obj)) (s : Shared) (σ : St) (H : Hp) (vs : List V) (us : List Value) (Q : St → Hp → Prop), Inv X pins σ H s → Vals vs us → t vs σ H Q →
    wpAny (model X.prog X.w) X.A (assignInOrder ((assignEach ts X.env).map (·.2)) us) (fun _ s' => ∃ σ' H', Inv X pins σ' H' s' ∧ Q σ' H') X.xe s
abbrev TSet := V → V → V → Hp → (Hp → Prop) → Prop
def PSet (X : Cx) (t : TSet) : Prop :=
  ∀ (pins : List (Addr × Obj)) (s : Shared) (σ : St) (H : Hp) (o i v : V) (ov iv u : Value) (Q : Hp → Prop), Inv X pins σ H s → RelV o ov → RelV i iv → RelV v u → t o i v H Q →
    wpAny (model X.prog X.w) X.A (setItem ov iv u) (fun _ s' => ∃ H', Inv X pins σ H' s' ∧ Q H') X.xe s
abbrev TIp := V → V → Hp → VK → Prop
def PIp (X : Cx) (op : Operator) (t : TIp) : Prop :=
  ∀ (pins : List (Addr × Obj)) (s : Shared) (σ : St) (H : Hp) (x y : V) (v u : Value) (Q : VK), Inv X pins σ H s → RelV x v → RelV y u → t x y H Q →
    wpAny (model X.prog X.w) X.A (inplaceOp op v u) (EP X pins σ Q) X.xe s
section
variable {X : Cx} {pos : Pos}
def gName (i : Nat) : TG := fun v σ H Q => Q (σ.set i (some v)) H
theorem pg_name {i : Nat} {x : Str} (hN : X.N.Nodup) (hi : X.N[i]? = some x) (hx : Loc X.env.scope x) (hf : X.fn x = true ∨ X.env.scope.names.lookup x = some .local := by first | exact .inl rfl | exact .inr rfl | assumption) : PG X (.Name x pos) (gName i) := by
  intro pins s σ H v u Q I r h
  exact wpAny_assign_Name (store_ok I hN hi hx r (fun s' I' => ⟨_, H, I', h⟩) hf)
def gNil : TGs := fun vs σ H Q => vs = [] ∧ Q σ H
def gCons (t : TG) (u : TGs) : TGs := fun vs σ H Q => ∃ v r, vs = v :: r ∧ t v σ H fun σ' H' => u r σ' H' Q
theorem pgs_nil : PGs X [] gNil := by
  intro pins s σ H vs us Q I r h
  obtain ⟨e, h⟩ := h
  subst e
  cases r
  exact assignInOrder_nil ⟨σ, H, I, h⟩
theorem pgs_cons {e : Expr} {es : List Expr} {t : TG} {u : TGs} (h1 : PG X e t) (h2 : PGs X es u)
    (hs : (assignEach (e :: es) X.env).map (·.2) = assign e X.env :: (assignEach es X.env).map (·.2) := by rfl) : PGs X (e :: es) (gCons t u) := by
  intro pins s σ H vs us Q I r h
  obtain ⟨v, vr, e1, h⟩ := h
  subst e1
  cases r with
  | cons r rr =>
    rw [hs]
    refine assignInOrder_cons (thn (h1 pins s σ H _ _ _ I r h) fun _ s1 ⟨σ1, H1, I1, q1⟩ => ?_)
    exact h2 pins s1 σ1 H1 _ _ Q I1 rr q1
def gTup (K : PySem.W.Frag) (n : Nat) (t : TGs) : TG := fun v σ H Q => ∃ a xs, v = .ref a ∧ SqT K H a xs ∧ xs.length = n ∧ t xs σ H Q
theorem pg_tup {es : List Expr} {k : Nat} {t : TGs} {n : Nat} (hc : X.calm = true) (h : PGs X es t)
    (hn : (assignEach es X.env).length = n := by rfl) (hst : (assignEach es X.env).findIdx? (·.1) = none := by rfl) : PG X (.Tuple es k pos) (gTup X.K n t) := by
  intro pins s σ H v u Q I r hw
  obtain ⟨a, xs, e1, hq, hl, hw⟩ := hw
  subst e1
  cases r
  obtain ⟨its, rv, ht, hz⟩ := I.tuple hq
  refine assign_Tuple_tuple (I.ok.hd hc) ht (by simp [hn, ← hl, rv.length]) hst fun h' hx => ?_
  have I1 : Inv X pins σ H { s with heap := h' } := I.kept (t' := s.toks) fun b o e => hx b o (Nat.ne_of_lt (Heap.lt_size e)) e
  exact h pins _ σ H xs _ Q I1 (by simpa using rv) hw
def gSub (to ti : TE) (t : TSet) : TG := fun v σ H Q => to σ H fun o H1 => ti σ H1 fun i H2 => t o i v H2 fun H3 => Q σ H3
theorem pg_sub {o i : Expr} {to ti : TE} {t : TSet} (ho : PE X o to) (hi : PE X i ti) (hs : PSet X t)
    (ha : ∀ v, assign (.Subscript o i pos) X.env v = (do
      let ov ← holding [v] (eval o X.env)
      let iv ← holding [v, ov] (eval i X.env)
      standAt pos
      holding [v, ov, iv] (setItem ov iv v)
      release [v, ov, iv] []) := by intro _; rfl) : PG X (.Subscript o i pos) (gSub to ti t) := by
  intro pins s σ H v u Q I r h
  rw [ha]
  refine wpAny_bind (wpAny_holding (thn (ho pins s σ H _ I h) fun ov s1 ⟨x, H1, I1, r1, q1⟩ => ?_))
  refine wpAny_bind (wpAny_holding (thn (hi pins s1 σ H1 _ I1 q1) fun iv s2 ⟨y, H2, I2, r2, q2⟩ => ?_))
  refine wpAny_bind (wpAny_standAt (wpAny_bind (wpAny_holding (thn (hs pins s2 σ H2 x y v ov iv u _ I2 r1 r2 r q2) fun _ s3 ⟨H3, I3, q3⟩ => ?_))))
  exact wpAny_release ⟨σ, H3, I3, q3⟩
def tAsg (te : TE) (g : TG) : TS := fun D σ H => te σ H fun x H1 => g x σ H1 D.nx
theorem ps_asg {tg e : Expr} {te : TE} {g : TG} (he : PE X e te) (hg : PG X tg g) (hs : swapsWithSole [tg] e pos.line X.env = pure false := by rfl) (hw : swappedStores [tg] e X.env = pure none := by rfl)
    (h1 : (assignEach [tg] X.env).map (·.2) = [assign tg X.env] := by rfl) : PS X (.Assign [tg] e pos) (tAsg te g) := by
  intro pins s σ H D I h
  refine wpAny_Assign_stores (thn (he pins s σ H _ I h) fun v s1 ⟨x, H1, I1, r1, q1⟩ => ?_) hs hw
  rw [h1]
  exact thn (hg pins s1 σ H1 x v _ I1 r1 q1) fun _ s2 q => q
theorem ps_set {i : Nat} {x : Str} {e : Expr} {te : TE} {pos' : Pos} (hN : X.N.Nodup) (hi : X.N[i]? = some x) (hx : Loc X.env.scope x) (he : PE X e te) (hs : swapsWith e (some (.Name x pos')) pos.line X.env = pure false := by rfl) (hf : X.fn x = true ∨ X.env.scope.names.lookup x = some .local := by first | exact .inl rfl | exact .inr rfl | assumption) :
    PS X (.Assign [.Name x pos'] e pos) (tAsg te (gName i)) := by
  intro pins s σ H D I h
  refine wpAny_Assign_Name (thn (he pins s σ H _ I h) fun v s1 ⟨y, H1, I1, r1, q1⟩ => ?_) hs
  exact store_ok I1 hN hi hx r1 (fun s2 I2 => ⟨_, H1, I2, q1⟩) hf
def tPar (i j : Nat) (ta : TA) : TS := fun D σ H => ta σ H fun vs H1 => ∃ v w, vs = [v, w] ∧ D.nx ((σ.set i (some v)).set j (some w)) H1
theorem ps_par {i j : Nat} {x y : Str} {a b : Expr} {ta : TA} {px py pt : Pos} {kt k2 pt2} (hc : X.calm = true) (hN : X.N.Nodup) (hi : X.N[i]? = some x) (hj : X.N[j]? = some y) (hij : i ≠ j)
    (hx : X.env.scope.names.lookup x = some .local) (hy : X.env.scope.names.lookup y = some .local) (ha : PA X [a, b] ta)
    (hw : swappedStores [.Tuple [.Name x px, .Name y py] kt pt] (.Tuple [a, b] k2 pt2) X.env = pure (some [x, y]))
    (hs : swapsWithSole [.Tuple [.Name x px, .Name y py] kt pt] (.Tuple [a, b] k2 pt2) pos.line X.env = pure false := by rfl) :
    PS X (.Assign [.Tuple [.Name x px, .Name y py] kt pt] (.Tuple [a, b] k2 pt2) pos) (tPar i j ta) := by
  intro pins s σ H D I h
  rw [exec_Assign_arm]
  refine wpAny_bind (wpAny_standAt ?_)
  rw [hs]
  refine wpAny_bind (wpAny_pure ?_)
  rw [if_neg (by decide)]
  refine wpAny_bind (Tuple_ (thn (ha _ pins s σ H _ I h) fun us s1 ⟨vs, H1, I1, r1, q1⟩ => ?_))
  obtain ⟨v, w, e1, q1⟩ := q1
  subst e1
  obtain ⟨u1, u2, rfl, rv, rw'⟩ : ∃ u1 u2, us = [u1, u2] ∧ RelV v u1 ∧ RelV w u2 := by
    cases r1 with
    | cons p q =>
      cases q with
      | cons p' q' =>
        cases q'
        exact ⟨_, _, rfl, p, p'⟩
  refine wpAny_newObj_type ?_ (by show 2 ≤ sizeLine; decide)
  have I2 : Inv X pins σ H1 { s1 with heap := s1.heap.push { cls := .type "tuple", data := .seq [u1, u2].toArray } } := I1.kept (t' := s1.toks) fun b o e => Heap.get?_push_of_some _ e
  rw [hw]
  refine wpAny_bind (wpAny_pure ?_)
  show wpAny (model X.prog X.w) X.A (do rule "assign.swapped-stores"; let items ← unpackItems (.ref s1.heap.objs.size) 2 none; assignInOrder [fun v => bindName X.env y v, fun v => bindName X.env x v] items.reverse; pure Flow.next) _ _ _
  refine wpAny_bind (wpAny_rule (wpAny_bind (unpackItems_tuple (items := #[u1, u2]) (I.ok.hd hc) (IsTup.new s1.heap _) fun h' hx' => ?_)))
  have I3 := I2.kept (h' := h') (t' := s1.toks) fun b o e => hx' b o (Nat.ne_of_lt (Heap.lt_size e)) e
  show wpAny _ _ (assignInOrder [fun v => bindName X.env y v, fun v => bindName X.env x v] [u2, u1] >>= fun _ => pure Flow.next) _ _ _
  refine wpAny_bind (assignInOrder_cons (wpAny_bindName (store_ok I3 hN hj (.inl hy) rw' (fun s2 I4 => ?_) (.inr hy))))
  refine assignInOrder_cons (wpAny_bindName (store_ok I4 hN hi (.inl hx) rv (fun s3 I5 => assignInOrder_nil (wpAny_pure ?_)) (.inr hx)))
  rw [List.set_comm _ _ (Ne.symm hij)] at I5
  exact ⟨_, H1, I5, q1⟩
def tAug (i : Nat) (te : TE) (ti : TIp) : TS := fun D σ H => ∃ x, σ[i]? = some (some x) ∧ te σ H fun y H1 => ti x y H1 fun z H2 => D.nx (σ.set i (some z)) H2
theorem ps_aug {i : Nat} {x : Str} {e : Expr} {te : TE} {op : Operator} {ti : TIp} {pos' : Pos} (hN : X.N.Nodup) (hi : X.N[i]? = some x) (hx : Loc X.env.scope x) (he : PE X e te) (ho : PIp X op ti) (hf : X.fn x = true ∨ X.env.scope.names.lookup x = some .local := by first | exact .inl rfl | exact .inr rfl | assumption) :
    PS X (.AugAssign (.Name x pos') op e pos) (tAug i te ti) := by
  intro pins s σ H D I h
  obtain ⟨v, e1, h⟩ := h
  obtain ⟨m, hn, hl⟩ := I.loc
  have vis : Vis X.env.scope x := by rcases hx with k | k; exact .inl k; exact .inr (.inl k)
  obtain ⟨u, r, l⟩ := hl i x v hi e1 vis
  refine wpAny_AugAssign_Name ?_
  have go : wpAny (model X.prog X.w) X.A (eval e X.env) (fun w s₂ => wpAny (model X.prog X.w) X.A (inplaceOp op u w) (fun r s₃ => wpAny (model X.prog X.w) X.A (storeName X.env x r) (fun _ => SP X pins D .next) X.xe s₃) X.xe s₂) X.xe s := by
    refine thn (he pins s σ H _ I h) fun w s1 ⟨y, H1, I1, r1, q1⟩ => ?_
    refine thn (ho pins s1 σ H1 v y u w _ I1 r r1 q1) fun z s2 ⟨zv, H2, I2, r2, q2⟩ => ?_
    exact store_ok I2 hN hi hx r2 (fun s3 I3 => ⟨_, H2, I3, q2⟩) hf
  rcases l with ⟨hk, hm⟩ | ⟨hk, c, hc, hcell⟩
  · exact wpAny_loadName_local I.ok.kind hk hn hm go
  · rcases hk with hk | hk
    · exact wpAny_loadName_cell I.ok.kind hk hc hcell go
    · rcases hx with k | k
      · have : X.env.scope.names.lookup x = some .free := hk
        rw [k] at this; cases this
      · have : X.env.scope.names.lookup x = some .free := hk
        rw [k] at this; cases this
def tAugS (to ti te : TE) (tget : V → V → Hp → VK → Prop) (tip : TIp) (tset : TSet) : TS := fun D σ H => to σ H fun o H1 => ti σ H1 fun i H2 => tget o i H2 fun x H3 => te σ H3 fun y H4 => tip x y H4 fun z H5 => tset o i z H5 fun H6 => D.nx σ H6
def PGet (X : Cx) (t : V → V → Hp → VK → Prop) : Prop :=
  ∀ (pins : List (Addr × Obj)) (s : Shared) (σ : St) (H : Hp) (o i : V) (ov iv : Value) (Q : VK), Inv X pins σ H s → RelV o ov → RelV i iv → t o i H Q →
    wpAny (model X.prog X.w) X.A (getItem ov iv) (EP X pins σ Q) X.xe s
def ipI (f : Int → Int → Int) : TIp := fun x y H Q => ∃ i j, x = .int i ∧ y = .int j ∧ Q (.int (f i j)) H
theorem ip_sub : PIp X .Sub (ipI fun i j => i - j) := by
  intro pins s σ H x y v u Q I r1 r2 h
  obtain ⟨i, j, e1, e2, q⟩ := h
  subst e1; subst e2
  obtain ⟨t, rfl⟩ := r1
  obtain ⟨t', rfl⟩ := r2
  exact isub_int ⟨.int _, H, I.tok _, ⟨_, rfl⟩, q⟩
end

section
variable {X : Cx} {pos : Pos}
def tWhile (c : TT) (tb : TS) : TS := fun D σ H => ∃ W : Nat → St → Hp → Prop, (∃ m, W m σ H) ∧ ∀ m σ H, W m σ H →
  c σ H fun b H1 => if b = true then ∃ N : St → Hp → Prop, (∀ σ' H', N σ' H' → ∃ m', m' < m ∧ W m' σ' H') ∧ tb { D with nx := N, ct := N, bk := D.nx } σ H1 else D.nx σ H1
theorem ps_while {c : Expr} {body : List Stmt} {tc : TT} {tb : TS} (hp : PassesOwn (model X.prog X.w) X.A X.env X.xe) (hc : PT X c tc) (hb : PSs X body tb) : PS X (.While c body [] pos) (tWhile tc tb) := by
  intro pins s σ H D I h
  obtain ⟨W, ⟨m0, w0⟩, turn⟩ := h
  refine wpAny_While (codeAny_whileLoop (fun n s' => ∃ σ' H', Inv X pins σ' H' s' ∧ W n σ' H') ?_ m0 ⟨σ, H, I, w0⟩)
  rintro n s1 ⟨σ1, H1, I1, w1⟩
  refine wpAny_passesOwn hp (thn (hc pins s1 σ1 H1 _ I1 (turn n σ1 H1 w1)) fun b s2 ⟨H2, I2, q2⟩ => ?_)
  cases b with
  | true =>
    obtain ⟨N, hN, q2⟩ := q2
    rw [if_pos rfl]
    refine wpAny_passesOwn hp (thn (hb pins s2 σ1 H2 _ I2 q2) fun f s3 q3 => ?_)
    cases f with
    | next =>
      obtain ⟨σ3, H3, I3, n3⟩ := q3
      obtain ⟨m', hm, w3⟩ := hN σ3 H3 n3
      exact ⟨m', hm, σ3, H3, I3, w3⟩
    | cont =>
      obtain ⟨σ3, H3, I3, n3⟩ := q3
      obtain ⟨m', hm, w3⟩ := hN σ3 H3 n3
      exact ⟨m', hm, σ3, H3, I3, w3⟩
    | brk => exact q3
    | ret v => exact q3
  | false =>
    rw [if_neg Bool.false_ne_true]
    exact wpAny_execs_nil ⟨σ1, H2, I2, q2⟩
end

structure It where
  go : Nat → Hp → Prop
  yld : Nat → Hp → V → Hp → Prop
  stop : Nat → Hp → Prop
def FpOk (X : Cx) (pins : List (Addr × Obj)) (H : Hp) (b : Addr) : Prop :=
  H b = none ∧ b ≠ X.env.locals ∧ b ∉ X.fs ∧ (b ∈ X.ex ∨ X.s₀.heap.objs.size ≤ b) ∧ (∀ x c, X.env.cells.lookup x = some c → c ≠ b) ∧ ∀ p ∈ X.pn ++ pins, p.1 ≠ b
theorem Inv.fpOk {X : Cx} {pins : List (Addr × Obj)} {σ : St} {H H' : Hp} {s : Shared} {b : Addr} (I : Inv X pins σ H s) (hb : s.heap.objs.size ≤ b) (hn : H' b = none) : FpOk X pins H' b := by
  refine ⟨hn, Nat.ne_of_gt (Nat.lt_of_lt_of_le I.lt hb), I.nofs hb, .inr (Nat.le_trans I.sz hb), fun x c e z => ?_, fun p hp z => ?_⟩
  · obtain ⟨v, q⟩ := I.cell x c e
    exact absurd (Nat.lt_of_lt_of_le q.lt (by rw [z]; exact hb)) (Nat.lt_irrefl _)
  · exact absurd (Nat.lt_of_lt_of_le (Heap.lt_size (I.pin p hp).1) (by rw [z]; exact hb)) (Nat.lt_irrefl _)
structure Turn (P : Program) (w : World) (K : PySem.W.Frag) (tg : Expr) (J : It) (fp : List Addr) (it : Addr) (tn : Nat → Heap → Prop) : Prop where
  mem : it ∈ fp
  obj : ∀ i h, tn i h → ∀ b ∈ fp, ∃ o, h.get? b = some o ∧ ∀ v, o.data ≠ .cell v
  keep : ∀ i h h', tn i h → (∀ b ∈ fp, ∀ o, h.get? b = some o → h'.get? b = some o) → tn i h'
  item : ∀ (X : Cx), X.prog = P → X.w = w → X.K = K → X.calm = true → ∀ (i : Nat) (pins : List (Addr × Obj)) (s : Shared) (σ : St) (H : Hp) (E : Value → Shared → Prop), Inv X pins σ H s → (∀ b ∈ fp, FpOk X pins H b) → tn i s.heap → J.go i H →
    wpAny (model P w) X.A (pyNext (.ref it)) (fun r s1 => ∃ u, r = some u ∧
      wpAny (model P w) X.A (letOwnedTupleGo tg (.ref it) u) (fun _ s2 => ∃ x H', Inv X pins σ H' s2 ∧ RelV x u ∧ J.yld i H x H' ∧ tn (i + 1) s2.heap ∧ ∀ b ∈ fp, H' b = none) E s1) E s
  done : ∀ (X : Cx), X.prog = P → X.w = w → X.K = K → X.calm = true → ∀ (i : Nat) (pins : List (Addr × Obj)) (s : Shared) (σ : St) (H : Hp) (E : Value → Shared → Prop), Inv X pins σ H s → (∀ b ∈ fp, FpOk X pins H b) → tn i s.heap → J.stop i H →
    wpAny (model P w) X.A (pyNext (.ref it)) (fun r s1 => r = none ∧ Inv X pins σ H s1) E s
  self : ∀ (A : Around) (i : Nat) (s : Shared) (Q : Value → Shared → Prop) (E : Value → Shared → Prop), tn i s.heap → Q (.ref it) s → wpAny (model P w) A (pyIter (.ref it)) Q E s
abbrev TI := St → Hp → (It → Hp → Prop) → Prop
def PIE (X : Cx) (pins : List (Addr × Obj)) (σ : St) (tg : Expr) (R : It → Hp → Prop) (itv : Value) (s2 : Shared) : Prop :=
  ∃ (it : Addr) (fp : List Addr) (tn : Nat → Heap → Prop) (J : It) (H' : Hp), itv = .ref it ∧ Inv X pins σ H' s2 ∧ Turn X.prog X.w X.K tg J fp it tn ∧ tn 0 s2.heap ∧ (∀ b ∈ fp, FpOk X pins H' b) ∧ R J H'
def PI (X : Cx) (tg iter : Expr) (wi : TI) : Prop :=
  ∀ (pins : List (Addr × Obj)) (s : Shared) (σ : St) (H : Hp) (R : It → Hp → Prop), Inv X pins σ H s → wi σ H R →
    wpAny (model X.prog X.w) X.A (eval iter X.env) (fun v s1 => wpAny (model X.prog X.w) X.A (pyIter v) (PIE X pins σ tg R) X.xe s1) X.xe s

theorem go_of {M : Model} {A : Around} {E : Value → Shared → Prop} {s : Shared} {tg : Expr} {it : Addr} {u : Value} {o : Obj} {n : String} {vs : Array Value} {Q : Unit → Shared → Prop} (ho : s.heap.get? it = some o) (hc : o.cls = .type n) (hd : o.data = .fields vs)
    (hn : ["enumerate", "zip", "dict_itemiterator", "dict_reverseitemiterator", "odict_iterator", "itertools.zip_longest", "itertools.pairwise"].contains n = false) (hQ : Q () s) : wpAny M A (letOwnedTupleGo tg (.ref it) u) Q E s := by
  unfold letOwnedTupleGo
  cases tg <;> first
    | exact wpAny_pure hQ
    | (cases u <;> first
        | exact wpAny_pure hQ
        | (refine wpAny_bind (wpAny_load ho ?_)
           rw [hc, hd]
           show wpAny M A (if (["enumerate", "zip", "dict_itemiterator", "dict_reverseitemiterator", "odict_iterator", "itertools.zip_longest", "itertools.pairwise"].contains n && vs[0]? == some (rawInt _)) = true then _ else _) Q E s
           rw [if_neg (by intro h; rw [hn, Bool.false_and] at h; cases h)]
           exact wpAny_pure hQ))

def Itl (K : PySem.W.Frag) (a : Addr) : It :=
  ⟨fun i H => ∃ xs x, SqL K H a xs ∧ xs[i]? = some x, fun i H x H' => H' = H ∧ ∀ xs, SqL K H a xs → xs[i]? = some x, fun i H => ∃ xs, SqL K H a xs ∧ xs.length ≤ i⟩
def Itt (K : PySem.W.Frag) (a : Addr) : It :=
  ⟨fun i H => ∃ xs x, SqT K H a xs ∧ xs[i]? = some x, fun i H x H' => H' = H ∧ ∀ xs, SqT K H a xs → xs[i]? = some x, fun i H => ∃ xs, SqT K H a xs ∧ xs.length ≤ i⟩
def Itr (lo : Int) (n : Nat) : It := ⟨fun i _ => i < n, fun i H x H' => H' = H ∧ x = .int (lo + i), fun i _ => n ≤ i⟩
theorem turn_list {P : Program} {w : World} {K : PySem.W.Frag} {tg : Expr} (a it : Addr) : Turn P w K tg (Itl K a) [it] it (fun i h => h.IsListIter it a i) where
  mem := by simp
  obj := fun i h st b hb => by
    have e : b = it := by simpa using hb
    subst e
    obtain ⟨o, e, c, d⟩ := st
    exact ⟨o, e, fun v z => by rw [d] at z; cases z⟩
  keep := fun i h h' st k => st.at fun o e => k it (by simp) o e
  item := by
    intro X hP hw hK hc i pins s σ H E I hf st hg
    subst hP hw hK
    obtain ⟨xs, x, hq, hx⟩ := hg
    obtain ⟨its, rv, p, hz⟩ := I.list hq
    obtain ⟨u, hu, ru⟩ := rv.get hx
    obtain ⟨f0, f1, f2, f3, f4, f5⟩ := hf it (by simp)
    refine wpAny_pyNext_list_item st p.isList (x := u) (by simpa using hu) fun h' st' sb => ?_
    have I1 : Inv X pins σ H { s with heap := h' } := I.turned (t' := s.toks) (fun b o hb e => (sb.2 b hb).trans e) f0 f1 f3 f4 f5
    obtain ⟨o, e, c, d⟩ := id st'
    exact ⟨u, rfl, go_of (s := { s with heap := h' }) e c d (by decide) ⟨x, H, I1, ru, ⟨rfl, fun ys hy => by rw [I.list_inj hy hq]; exact hx⟩, st', fun b hb => (hf b hb).1⟩⟩
  done := by
    intro X hP hw hK hc i pins s σ H E I hf st hg
    subst hP hw hK
    obtain ⟨xs, hq, hx⟩ := hg
    obtain ⟨its, rv, p, hz⟩ := I.list hq
    obtain ⟨f0, f1, f2, f3, f4, f5⟩ := hf it (by simp)
    have hl := rv.length
    exact wpAny_pyNext_list_end (I.ok.hd hc) st p.isList (by simp; omega) fun h' eb => ⟨rfl, I.turned (t' := s.toks) (fun b o hb e => eb b o hb e) f0 f1 f3 f4 f5⟩
  self := fun _ _ _ _ _ st h => wpAny_pyIter_listiter st h
theorem turn_tuple {P : Program} {w : World} {K : PySem.W.Frag} {tg : Expr} (a it : Addr) : Turn P w K tg (Itt K a) [it] it (fun i h => h.IsTupleIter it a i) where
  mem := by simp
  obj := fun i h st b hb => by
    have e : b = it := by simpa using hb
    subst e
    obtain ⟨o, e, c, d⟩ := st
    exact ⟨o, e, fun v z => by rw [d] at z; cases z⟩
  keep := fun i h h' st k => st.at fun o e => k it (by simp) o e
  item := by
    intro X hP hw hK hc i pins s σ H E I hf st hg
    subst hP hw hK
    obtain ⟨xs, x, hq, hx⟩ := hg
    obtain ⟨its, rv, p, hz⟩ := I.tuple hq
    obtain ⟨u, hu, ru⟩ := rv.get hx
    obtain ⟨f0, f1, f2, f3, f4, f5⟩ := hf it (by simp)
    refine wpAny_pyNext_tuple_item st (show s.heap.IsTuple a its.toArray from p) (x := u) (by simpa using hu) fun h' st' sb => ?_
    have I1 : Inv X pins σ H { s with heap := h' } := I.turned (t' := s.toks) (fun b o hb e => (sb.2 b hb).trans e) f0 f1 f3 f4 f5
    obtain ⟨o, e, c, d⟩ := id st'
    exact ⟨u, rfl, go_of (s := { s with heap := h' }) e c d (by decide) ⟨x, H, I1, ru, ⟨rfl, fun ys hy => by rw [I.tuple_inj hy hq]; exact hx⟩, st', fun b hb => (hf b hb).1⟩⟩
  done := by
    intro X hP hw hK hc i pins s σ H E I hf st hg
    subst hP hw hK
    obtain ⟨xs, hq, hx⟩ := hg
    obtain ⟨its, rv, p, hz⟩ := I.tuple hq
    obtain ⟨f0, f1, f2, f3, f4, f5⟩ := hf it (by simp)
    have hl := rv.length
    exact wpAny_pyNext_tuple_end (I.ok.hd hc) st (show s.heap.IsTuple a its.toArray from p) (by simp; omega) fun h' eb => ⟨rfl, I.turned (t' := s.toks) (fun b o hb e => eb b o hb e) f0 f1 f3 f4 f5⟩
  self := fun _ _ _ _ _ st h => wpAny_pyIter_tupleiter st h
theorem turn_range {P : Program} {w : World} {K : PySem.W.Frag} {tg : Expr} (it : Addr) (lo : Int) (n : Nat) : Turn P w K tg (Itr lo n) [it] it (fun i h => IsRangeIter h it (lo + (i : Nat) * 1) ((n : Int) - (i : Nat)) 1) where
  mem := by simp
  obj := fun i h st b hb => by
    have e : b = it := by simpa using hb
    subst e
    exact ⟨_, st, fun v z => by
      have z' : Data.fields _ = Data.cell v := z
      cases z'⟩
  keep := fun i h h' st k => k it (by simp) _ st
  item := by
    intro X hP hw hK hc i pins s σ H E I hf st hg
    subst hP hw hK
    obtain ⟨f0, f1, f2, f3, f4, f5⟩ := hf it (by simp)
    have W := Walks.range (prog := X.prog) (w := X.w) (I.ok.hd hc) it lo 1 n
    refine W.item i s _ _ hg st fun v h' tk hv st' kk => ?_
    obtain ⟨t, rfl⟩ := hv
    have I1 : Inv X pins σ H { s with heap := h', toks := tk } := I.turned (fun b o hb e => kk b o (by simpa using hb) e) f0 f1 f3 f4 f5
    refine ⟨_, rfl, go_of (s := { s with heap := h', toks := tk }) (n := "range_iterator") st' rfl rfl (by decide) ⟨.int (lo + i), H, I1, ⟨t, ?_⟩, ⟨rfl, rfl⟩, st', fun b hb => (hf b hb).1⟩⟩
    rw [Int.mul_one]
  done := by
    intro X hP hw hK hc i pins s σ H E I hf st hg
    subst hP hw hK
    obtain ⟨f0, f1, f2, f3, f4, f5⟩ := hf it (by simp)
    exact wpAny_pyNext_range_end (I.ok.hd hc) st (by have : n ≤ i := hg; omega) fun h' eb => ⟨rfl, I.turned (t' := s.toks) (fun b o hb e => eb b o hb e) f0 f1 f3 f4 f5⟩
  self := fun _ _ _ _ _ st h => wpAny_pyIter_rangeiter st h
end L2

namespace L2
open PySem PySem.Spec PyProof.Rows
section
variable {X : Cx} {tg : Expr}
def iList (K : PySem.W.Frag) (tl : TE) : TI := fun σ H R => tl σ H fun x H1 => ∃ a, x = .ref a ∧ (∃ xs, SqL K H1 a xs) ∧ R (Itl K a) H1
def iTup (K : PySem.W.Frag) (tl : TE) : TI := fun σ H R => tl σ H fun x H1 => ∃ a, x = .ref a ∧ (∃ xs, SqT K H1 a xs) ∧ R (Itt K a) H1
theorem pi_list {l : Expr} {tl : TE} (hl : PE X l tl) : PI X tg l (iList X.K tl) := by
  intro pins s σ H R I h
  refine thn (hl pins s σ H _ I h) fun v s1 ⟨x, H1, I1, r1, q1⟩ => ?_
  obtain ⟨a, e, ⟨xs, hq⟩, q⟩ := q1
  subst e
  cases r1
  obtain ⟨its, rv, p, hz⟩ := I1.list hq
  refine wpAny_pyIter_list p.isList ?_
  refine ⟨s1.heap.objs.size, [s1.heap.objs.size], _, _, H1, rfl, I1.kept (t' := s1.toks) fun b o e => Heap.get?_push_of_some _ e, turn_list a _, ⟨_, Heap.get?_push_size _ rfl, rfl, rfl⟩, fun b hb => ?_, q⟩
  have e : b = s1.heap.objs.size := by simpa using hb
  subst e
  exact I1.fpOk (Nat.le_refl _) (I1.hok.fresh (Nat.le_refl _))
theorem pi_tup {l : Expr} {tl : TE} (hl : PE X l tl) : PI X tg l (iTup X.K tl) := by
  intro pins s σ H R I h
  refine thn (hl pins s σ H _ I h) fun v s1 ⟨x, H1, I1, r1, q1⟩ => ?_
  obtain ⟨a, e, ⟨xs, hq⟩, q⟩ := q1
  subst e
  cases r1
  obtain ⟨its, rv, p, hz⟩ := I1.tuple hq
  refine wpAny_pyIter_tuple (show s1.heap.IsTuple a its.toArray from p) ?_
  refine ⟨s1.heap.objs.size, [s1.heap.objs.size], _, _, H1, rfl, I1.kept (t' := s1.toks) fun b o e => Heap.get?_push_of_some _ e, turn_tuple a _, ⟨_, Heap.get?_push_size _ rfl, rfl, rfl⟩, fun b hb => ?_, q⟩
  have e : b = s1.heap.objs.size := by simpa using hb
  subst e
  exact I1.fpOk (Nat.le_refl _) (I1.hok.fresh (Nat.le_refl _))
theorem range_it {pins : List (Addr × Obj)} {σ : St} {H : Hp} {s : Shared} {R : It → Hp → Prop} {E : Value → Shared → Prop} {lo hi : Int} {t u v : Tok} {tk : Nat} (I : Inv X pins σ H s) (h1 : -(2 ^ 62) ≤ lo) (h2 : lo < 2 ^ 62) (h3 : -(2 ^ 62) ≤ hi) (h4 : hi < 2 ^ 62)
    (q : R (Itr lo (hi - lo).toNat) H) : wpAny (model X.prog X.w) X.A (pyIter (.ref s.heap.objs.size)) (PIE X pins σ tg R) E { s with heap := s.heap.push { cls := .type "range", data := .fields #[.int lo t, .int hi u, .int 1 v] }, toks := tk } := by
  refine wpAny_pyIter_range (IsRange.new ..) (small_one h1 h2 h3 h4) ?_
  have I1 : Inv X pins σ H { s with heap := s.heap.push { cls := .type "range", data := .fields #[.int lo t, .int hi u, .int 1 v] }, toks := tk } := I.kept fun b o e => Heap.get?_push_of_some _ e
  refine ⟨(s.heap.push { cls := .type "range", data := .fields #[.int lo t, .int hi u, .int 1 v] }).objs.size, [(s.heap.push { cls := .type "range", data := .fields #[.int lo t, .int hi u, .int 1 v] }).objs.size], _, _, H, rfl,
    I1.kept (t' := tk) fun b o e => Heap.get?_push_of_some _ e, turn_range _ lo (hi - lo).toNat, ?_, fun b hb => ?_, q⟩
  · have e1 : lo + ((0 : Nat) : Int) * 1 = lo := by simp
    have e2 : (((hi - lo).toNat : Nat) : Int) - ((0 : Nat) : Int) = Builtin.Range.rangeSize lo hi 1 := by rw [rangeSize_one]; split <;> omega
    show IsRangeIter _ _ (lo + ((0 : Nat) : Int) * 1) ((((hi - lo).toNat : Nat) : Int) - ((0 : Nat) : Int)) 1
    rw [e1, e2]
    exact Heap.get?_push_size _ rfl
  · have e : b = (s.heap.push { cls := .type "range", data := .fields #[.int lo t, .int hi u, .int 1 v] }).objs.size := by simpa using hb
    subst e
    exact I1.fpOk (Nat.le_refl _) (I1.hok.fresh (Nat.le_refl _))
def iRng1 (ta : TA) : TI := fun σ H R => ta σ H fun vs H1 => ∃ j : Int, vs = [.int j] ∧ -(2 ^ 62) ≤ j ∧ j < 2 ^ 62 ∧ R (Itr 0 j.toNat) H1
def iRng2 (ta : TA) : TI := fun σ H R => ta σ H fun vs H1 => ∃ i j : Int, vs = [.int i, .int j] ∧ (-(2 ^ 62) ≤ i ∧ i < 2 ^ 62 ∧ -(2 ^ 62) ≤ j ∧ j < 2 ^ 62) ∧ R (Itr i (j - i).toNat) H1
theorem pi_range1 {a : Expr} {ta : TA} {p pos : Pos} (hg : Gl X "range") (hm : X.mg "range" = none) (ha : PA X [a] ta) (hs : starEach [a] X.env = [(false, eval a X.env)] := by rfl) : PI X tg (.Call (.Name "range" p) [a] [] pos) (iRng1 ta) := by
  intro pins s σ H R I h
  refine Call_ (ld_blt I hg hm boot_range (PyProof.Rows.callWith_type1 (thn (ha pos pins s σ H _ I h) fun us s1 ⟨vs, H1, I1, r1, q1⟩ => ?_) hs rfl))
  obtain ⟨j, e, q1, q2, q⟩ := q1
  subst e
  cases r1 with
  | cons r rr =>
    cases rr
    obtain ⟨t, rfl⟩ := r
    exact call_range_1 (range_it I1 (by omega) (by omega) q1 q2 (by simpa using q))
def tFor (wi : TI) (g : TG) (tb : TS) : TS := fun D σ H => wi σ H fun J H1 => ∃ W : Nat → Nat → St → Hp → Prop, (∃ m, W 0 m σ H1) ∧ ∀ i m σ H, W i m σ H →
  (J.stop i H ∧ D.nx σ H) ∨ (J.go i H ∧ ∃ N : St → Hp → Prop, (∀ σ' H', N σ' H' → ∃ m', m' < m ∧ W (i + 1) m' σ' H') ∧ ∀ x H', J.yld i H x H' → g x σ H' fun σ2 H2 => tb { D with nx := N, ct := N, bk := D.nx } σ2 H2)
def pinsAt (fp : List Addr) (h : Heap) : List (Addr × Obj) := fp.filterMap fun b => (h.get? b).map fun o => (b, o)
theorem mem_pinsAt {fp : List Addr} {h : Heap} {b : Addr} {o : Obj} (hb : b ∈ fp) (e : h.get? b = some o) : (b, o) ∈ pinsAt fp h := List.mem_filterMap.mpr ⟨b, hb, by rw [e]; rfl⟩
theorem of_pinsAt {fp : List Addr} {h : Heap} {p : Addr × Obj} (hp : p ∈ pinsAt fp h) : p.1 ∈ fp ∧ h.get? p.1 = some p.2 := by
  obtain ⟨b, hb, e⟩ := List.mem_filterMap.mp hp
  cases q : h.get? b with
  | none => rw [q] at e; cases e
  | some o =>
    rw [q] at e
    have e' : (b, o) = p := Option.some.inj e
    subst e'
    exact ⟨hb, q⟩
theorem Inv.pinned {pins : List (Addr × Obj)} {σ : St} {H : Hp} {s : Shared} {fp : List Addr} (I : Inv X pins σ H s) (hf : ∀ b ∈ fp, FpOk X pins H b) (ho : ∀ b ∈ fp, ∃ o, s.heap.get? b = some o ∧ ∀ v, o.data ≠ .cell v) : Inv X (pins ++ pinsAt fp s.heap) σ H s :=
  I.pins_of fun p hp => (List.mem_append.mp hp).elim (fun z => I.pin p (List.mem_append_right _ z)) fun z => by
    obtain ⟨hb, e⟩ := of_pinsAt z
    obtain ⟨f0, f1, f2, _⟩ := hf p.1 hb
    obtain ⟨o, e', d⟩ := ho p.1 hb
    rw [e] at e'; cases e'
    exact ⟨e, f0, f1, f2, d⟩
theorem Inv.unpinned {pins pl : List (Addr × Obj)} {σ : St} {H : Hp} {s : Shared} (I : Inv X (pins ++ pl) σ H s) : Inv X pins σ H s := I.pins_of fun p hp => I.pin p (List.mem_append_right _ (List.mem_append_left _ hp))
theorem ps_for {iter : Expr} {body : List Stmt} {wi : TI} {g : TG} {tb : TS} {pos : Pos} (hp : PassesOwn (model X.prog X.w) X.A X.env X.xe) (hc : X.calm = true) (hi : PI X tg iter wi) (hg : PG X tg g) (hb : PSs X body tb)
    (hs : ∀ x, foldedSetIterable iter X.env x = pure x := by intro _; rfl) : PS X (.For tg iter body [] pos) (tFor wi g tb) := by
  intro pins s σ H D I h
  refine wpAny_For (thn (hi pins s σ H _ I h) fun v s1 h1 => thn h1 fun itv s2 h2 => ?_) hs
  obtain ⟨it, fp, tn, J, H2, e, I2, T, st2, f2, W, ⟨m0, w0⟩, turn⟩ := h2
  subst e
  -- what stays true of the iterator's objects through the loop
  have stat : ∀ {H' : Hp}, (∀ b ∈ fp, H' b = none) → ∀ b ∈ fp, FpOk X pins H' b := fun hn b hb => ⟨hn b hb, (f2 b hb).2⟩
  refine codeAny_forLoop_any (fun n s' => ∃ i σ' H', Inv X pins σ' H' s' ∧ tn i s'.heap ∧ (∀ b ∈ fp, H' b = none) ∧ W i n σ' H') ?_ m0 ⟨0, σ, H2, I2, st2, fun b hb => (f2 b hb).1, w0⟩
  rintro n s3 ⟨i, σ3, H3, I3, st3, fr3, w3⟩
  rcases turn i n σ3 H3 w3 with ⟨stop, qn⟩ | ⟨go, N, hN, step⟩
  · refine wpAny_passesOwn hp (thn (T.done X rfl rfl rfl hc i pins s3 σ3 H3 X.xe I3 (stat fr3) st3 stop) fun r s4 ⟨hr, I4⟩ => ?_)
    subst hr
    exact wpAny_execs_nil ⟨σ3, H3, I4, qn⟩
  · refine wpAny_passesOwn hp (thn (T.item X rfl rfl rfl hc i pins s3 σ3 H3 X.xe I3 (stat fr3) st3 go) fun r s4 ⟨u, hr, h4⟩ => ?_)
    subst hr
    refine wpAny_passesOwn hp (thn h4 fun _ s5 ⟨x, H5, I5, r5, y5, st5, fr5⟩ => ?_)
    have I5' := I5.pinned (stat fr5) (T.obj _ _ st5)
    refine wpAny_passesOwn hp (thn (hg _ s5 σ3 H5 x u _ I5' r5 (step x H5 y5)) fun _ s6 ⟨σ6, H6, I6, q6⟩ => ?_)
    refine wpAny_passesOwn hp (thn (hb _ s6 σ6 H6 _ I6 q6) fun f s7 q7 => ?_)
    have again : ∀ {σ7 : St} {H7 : Hp}, Inv X (pins ++ pinsAt fp s5.heap) σ7 H7 s7 → N σ7 H7 → ∃ m, m < n ∧ ∃ i σ' H', Inv X pins σ' H' s7 ∧ tn i s7.heap ∧ (∀ b ∈ fp, H' b = none) ∧ W i m σ' H' := fun {σ7 H7} I7 n7 => by
      obtain ⟨m', hm, w7⟩ := hN σ7 H7 n7
      refine ⟨m', hm, i + 1, σ7, H7, I7.unpinned, T.keep _ _ _ st5 fun b hb o e => (I7.pin (b, o) (List.mem_append_right _ (List.mem_append_right _ (mem_pinsAt hb e)))).1, fun b hb => ?_, w7⟩
      obtain ⟨o, e, d⟩ := T.obj _ _ st5 b hb
      exact (I7.pin (b, o) (List.mem_append_right _ (List.mem_append_right _ (mem_pinsAt hb e)))).2.1
    cases f with
    | next => obtain ⟨σ7, H7, I7, n7⟩ := q7; exact again I7 n7
    | cont => obtain ⟨σ7, H7, I7, n7⟩ := q7; exact again I7 n7
    | brk => obtain ⟨σ7, H7, I7, q7⟩ := q7; exact ⟨σ7, H7, I7.unpinned, q7⟩
    | ret v => obtain ⟨x7, σ7, H7, I7, r7, q7⟩ := q7; exact ⟨x7, σ7, H7, I7.unpinned, r7, q7⟩
end

theorem for_list {K : PySem.W.Frag} {a : Addr} {xs : List V} {g : TG} {tb : TS} {D : Ends} {σ : St} {H : Hp} (Pv : Nat → St → Hp → Prop) (h0 : Pv 0 σ H) (hl : ∀ i σ H, i ≤ xs.length → Pv i σ H → SqL K H a xs)
    (hs : ∀ i x σ H, xs[i]? = some x → Pv i σ H → g x σ H fun σ2 H2 => tb { D with nx := Pv (i + 1), ct := Pv (i + 1), bk := D.nx } σ2 H2) (hd : ∀ σ H, Pv xs.length σ H → D.nx σ H) :
    ∃ W : Nat → Nat → St → Hp → Prop, (∃ m, W 0 m σ H) ∧ ∀ i m σ H, W i m σ H →
      ((Itl K a).stop i H ∧ D.nx σ H) ∨ ((Itl K a).go i H ∧ ∃ N : St → Hp → Prop, (∀ σ' H', N σ' H' → ∃ m', m' < m ∧ W (i + 1) m' σ' H') ∧ ∀ x H', (Itl K a).yld i H x H' → g x σ H' fun σ2 H2 => tb { D with nx := N, ct := N, bk := D.nx } σ2 H2) := by
  refine ⟨fun i m σ H => m = xs.length - i ∧ i ≤ xs.length ∧ Pv i σ H, ⟨xs.length, by simp, Nat.zero_le _, h0⟩, ?_⟩
  rintro i m σ H ⟨rfl, hi, p⟩
  have q := hl i σ H hi p
  by_cases hlt : i < xs.length
  · refine .inr ⟨⟨xs, xs[i], q, by simp [hlt]⟩, Pv (i + 1), fun σ' H' p' => ⟨xs.length - (i + 1), by omega, rfl, hlt, p'⟩, fun x H' y => ?_⟩
    obtain ⟨e, y⟩ := y
    subst e
    exact hs i x σ _ (y xs q) p
  · have e : i = xs.length := by omega
    subst e
    exact .inl ⟨⟨xs, q, Nat.le_refl _⟩, hd σ H p⟩
theorem for_tup {K : PySem.W.Frag} {a : Addr} {xs : List V} {g : TG} {tb : TS} {D : Ends} {σ : St} {H : Hp} (Pv : Nat → St → Hp → Prop) (h0 : Pv 0 σ H) (hl : ∀ i σ H, i ≤ xs.length → Pv i σ H → SqT K H a xs)
    (hs : ∀ i x σ H, xs[i]? = some x → Pv i σ H → g x σ H fun σ2 H2 => tb { D with nx := Pv (i + 1), ct := Pv (i + 1), bk := D.nx } σ2 H2) (hd : ∀ σ H, Pv xs.length σ H → D.nx σ H) :
    ∃ W : Nat → Nat → St → Hp → Prop, (∃ m, W 0 m σ H) ∧ ∀ i m σ H, W i m σ H →
      ((Itt K a).stop i H ∧ D.nx σ H) ∨ ((Itt K a).go i H ∧ ∃ N : St → Hp → Prop, (∀ σ' H', N σ' H' → ∃ m', m' < m ∧ W (i + 1) m' σ' H') ∧ ∀ x H', (Itt K a).yld i H x H' → g x σ H' fun σ2 H2 => tb { D with nx := N, ct := N, bk := D.nx } σ2 H2) := by
  refine ⟨fun i m σ H => m = xs.length - i ∧ i ≤ xs.length ∧ Pv i σ H, ⟨xs.length, by simp, Nat.zero_le _, h0⟩, ?_⟩
  rintro i m σ H ⟨rfl, hi, p⟩
  have q := hl i σ H hi p
  by_cases hlt : i < xs.length
  · refine .inr ⟨⟨xs, xs[i], q, by simp [hlt]⟩, Pv (i + 1), fun σ' H' p' => ⟨xs.length - (i + 1), by omega, rfl, hlt, p'⟩, fun x H' y => ?_⟩
    obtain ⟨e, y⟩ := y
    subst e
    exact hs i x σ _ (y xs q) p
  · have e : i = xs.length := by omega
    subst e
    exact .inl ⟨⟨xs, q, Nat.le_refl _⟩, hd σ H p⟩
theorem for_range {lo : Int} {n : Nat} {g : TG} {tb : TS} {D : Ends} {σ : St} {H : Hp} (Pv : Nat → St → Hp → Prop) (h0 : Pv 0 σ H)
    (hs : ∀ i σ H, i < n → Pv i σ H → g (.int (lo + i)) σ H fun σ2 H2 => tb { D with nx := Pv (i + 1), ct := Pv (i + 1), bk := D.nx } σ2 H2) (hd : ∀ σ H, Pv n σ H → D.nx σ H) :
    ∃ W : Nat → Nat → St → Hp → Prop, (∃ m, W 0 m σ H) ∧ ∀ i m σ H, W i m σ H →
      ((Itr lo n).stop i H ∧ D.nx σ H) ∨ ((Itr lo n).go i H ∧ ∃ N : St → Hp → Prop, (∀ σ' H', N σ' H' → ∃ m', m' < m ∧ W (i + 1) m' σ' H') ∧ ∀ x H', (Itr lo n).yld i H x H' → g x σ H' fun σ2 H2 => tb { D with nx := N, ct := N, bk := D.nx } σ2 H2) := by
  refine ⟨fun i m σ H => m = n - i ∧ i ≤ n ∧ Pv i σ H, ⟨n, by simp, Nat.zero_le _, h0⟩, ?_⟩
  rintro i m σ H ⟨rfl, hi, p⟩
  by_cases hlt : i < n
  · refine .inr ⟨hlt, Pv (i + 1), fun σ' H' p' => ⟨n - (i + 1), by omega, rfl, hlt, p'⟩, fun x H' y => ?_⟩
    obtain ⟨e, y⟩ := y
    subst e y
    exact hs i σ _ hlt p
  · have e : i = n := by omega
    subst e
    exact .inl ⟨Nat.le_refl _, hd σ H p⟩
end L2

namespace L2
open PySem PySem.Spec PyProof.Rows

abbrev R2 := V → V → Hp → VK → Prop
def OpR (X : Cx) (f : Value → Value → Sem Value) (r : R2) : Prop :=
  ∀ (pins : List (Addr × Obj)) (s : Shared) (σ : St) (H : Hp) (x y : V) (v u : Value) (Q : VK), Inv X pins σ H s → RelV x v → RelV y u → r x y H Q →
    wpAny (model X.prog X.w) X.A (f v u) (EP X pins σ Q) X.xe s
def UnR (X : Cx) (f : Value → Sem Value) (r : V → Hp → VK → Prop) : Prop :=
  ∀ (pins : List (Addr × Obj)) (s : Shared) (σ : St) (H : Hp) (x : V) (v : Value) (Q : VK), Inv X pins σ H s → RelV x v → r x H Q →
    wpAny (model X.prog X.w) X.A (f v) (EP X pins σ Q) X.xe s
def CallR (X : Cx) (f : Value) (r : List V → Hp → VK → Prop) : Prop :=
  ∀ (pins : List (Addr × Obj)) (s : Shared) (σ : St) (H : Hp) (xs : List V) (us : List Value) (Q : VK), Inv X pins σ H s → Vals xs us → r xs H Q →
    wpAny (model X.prog X.w) X.A (call f us) (EP X pins σ Q) X.xe s
def TruR (X : Cx) (r : V → Hp → (Bool → Hp → Prop) → Prop) : Prop :=
  ∀ (pins : List (Addr × Obj)) (s : Shared) (σ : St) (H : Hp) (x : V) (v : Value) (Q : Bool → Hp → Prop), Inv X pins σ H s → RelV x v → r x H Q →
    wpAny (model X.prog X.w) X.A (truthy v) (TP X pins σ Q) X.xe s

def tOp (r : R2) (ta tb : TE) : TE := fun σ H Q => ta σ H fun x H1 => tb σ H1 fun y H2 => r x y H2 Q
def tUn (r : V → Hp → VK → Prop) (ta : TE) : TE := fun σ H Q => ta σ H fun x H1 => r x H1 Q
def rI (C : Int → Int → Prop) (g : Int → Int → V) : R2 := fun x y H Q => ∃ i j, x = .int i ∧ y = .int j ∧ C i j ∧ Q (g i j) H
def rI0 (g : Int → Int → V) : R2 := fun x y H Q => ∃ i j, x = .int i ∧ y = .int j ∧ Q (g i j) H
def rU (g : Int → V) : V → Hp → VK → Prop := fun x H Q => ∃ i, x = .int i ∧ Q (g i) H

section
variable {X : Cx} {a b c : Expr} {ta tb tc : TE} {pos : Pos}

theorem binT (ha : PE X a ta) (hb : PE X b tb) {pins : List (Addr × Obj)} {s : Shared} {σ : St} {H : Hp} {R : V → V → Hp → Prop} (I : Inv X pins σ H s)
    (h : ta σ H fun x H1 => tb σ H1 fun y H2 => R x y H2) {Q : Value → Shared → Prop} {f : Value → Value → Sem Value}
    (hf : ∀ v u s2 x y H2, Inv X pins σ H2 s2 → RelV x v → RelV y u → R x y H2 → wpAny (model X.prog X.w) X.A (f v u) Q X.xe s2) :
    wpAny (model X.prog X.w) X.A (eval a X.env) (fun v s₁ => wpAny (model X.prog X.w) X.A (eval b X.env) (fun u s₂ => wpAny (model X.prog X.w) X.A (f v u) Q X.xe s₂) X.xe s₁) X.xe s := by
  refine thn (ha pins s σ H _ I h) fun v s1 ⟨x, H1, I1, r1, q1⟩ => ?_
  refine thn (hb pins s1 σ H1 _ I1 q1) fun u s2 ⟨y, H2, I2, r2, q2⟩ => ?_
  exact hf v u s2 x y H2 I2 r1 r2 q2

theorem pe_op {op : Operator} {r : R2} (ho : OpR X (binaryOp op) r) (ha : PE X a ta) (hb : PE X b tb) : PE X (.BinOp a op b pos) (tOp r ta tb) := by
  intro pins s σ H Q I h
  exact wpAny_BinOp (binT ha hb I h fun v u s2 x y H2 I2 rx ry q => ho pins s2 σ H2 x y v u Q I2 rx ry q)
theorem pe_un {op : UnaryOp} {r : V → Hp → VK → Prop} (ho : UnR X (unaryOp op) r) (ha : PE X a ta) : PE X (.UnaryOp op a pos) (tUn r ta) := by
  intro pins s σ H Q I h
  exact UnaryOp_ (thn (ha pins s σ H _ I h) fun v s1 ⟨x, H1, I1, r1, q1⟩ => ho pins s1 σ H1 x v Q I1 r1 q1)
theorem opI {f : Value → Value → Sem Value} {C : Int → Int → Prop} {g : Int → Int → Int}
    (rule : ∀ (i j : Int) (t u : Tok) (s : Shared) (Q : Value → Shared → Prop) (E : Value → Shared → Prop), C i j → Q (.int (g i j) s.toks) { s with toks := s.toks + 1 } → wpAny (model X.prog X.w) X.A (f (.int i t) (.int j u)) Q E s) :
    OpR X f (rI C fun i j => .int (g i j)) := by
  intro pins s σ H x y v u Q I rx ry h
  obtain ⟨i, j, rfl, rfl, hc, q⟩ := h
  obtain ⟨t, rfl⟩ := rx
  obtain ⟨t', rfl⟩ := ry
  exact rule i j t t' s _ _ hc ⟨.int (g i j), H, I.tok _, ⟨_, rfl⟩, q⟩
theorem opI0 {f : Value → Value → Sem Value} {g : Int → Int → Int}
    (rule : ∀ (i j : Int) (t u : Tok) (s : Shared) (Q : Value → Shared → Prop) (E : Value → Shared → Prop), Q (.int (g i j) s.toks) { s with toks := s.toks + 1 } → wpAny (model X.prog X.w) X.A (f (.int i t) (.int j u)) Q E s) :
    OpR X f (rI0 fun i j => .int (g i j)) := by
  intro pins s σ H x y v u Q I rx ry h
  obtain ⟨i, j, rfl, rfl, q⟩ := h
  obtain ⟨t, rfl⟩ := rx
  obtain ⟨t', rfl⟩ := ry
  exact rule i j t t' s _ _ ⟨.int (g i j), H, I.tok _, ⟨_, rfl⟩, q⟩
theorem opB0 {f : Value → Value → Sem Value} {g : Int → Int → Bool}
    (rule : ∀ (i j : Int) (t u : Tok) (s : Shared) (Q : Value → Shared → Prop) (E : Value → Shared → Prop), Q (.bool (g i j)) s → wpAny (model X.prog X.w) X.A (f (.int i t) (.int j u)) Q E s) :
    OpR X f (rI0 fun i j => .bl (g i j)) := by
  intro pins s σ H x y v u Q I rx ry h
  obtain ⟨i, j, rfl, rfl, q⟩ := h
  obtain ⟨t, rfl⟩ := rx
  obtain ⟨t', rfl⟩ := ry
  exact rule i j t t' s _ _ ⟨.bl (g i j), H, I, rfl, q⟩

def CDiv (i j : Int) : Prop := 0 < j ∧ j < 1073741824
def CDivN (i j : Int) : Prop := j ≠ 0 ∧ j.natAbs < 1073741824
def CPow (i j : Int) : Prop := 0 ≤ j ∧ j ≤ 1000000 ∧ i.natAbs < 2 ^ 64
def CMul (i j : Int) : Prop := (-(2 ^ 64) < i ∧ i < 2 ^ 64) ∨ (-(2 ^ 64) < j ∧ j < 2 ^ 64)
theorem CMul.ok {i j : Int} (h : CMul i j) : IntMulOk i j := by
  rcases h with ⟨h1, h2⟩ | ⟨h1, h2⟩
  · exact .of_left (intBits_le_64 h1 h2)
  · exact .of_right (intBits_le_64 h1 h2)
theorem op_add : OpR X (binaryOp .Add) (rI0 fun i j => .int (i + j)) := opI0 fun _ _ _ _ _ _ _ q => add_int q
theorem op_sub : OpR X (binaryOp .Sub) (rI0 fun i j => .int (i - j)) := opI0 fun _ _ _ _ _ _ _ q => sub_int q
theorem op_mul : OpR X (binaryOp .Mult) (rI CMul fun i j => .int (i * j)) := opI fun _ _ _ _ _ _ _ hc q => mul_int q hc.ok
theorem op_fdiv : OpR X (binaryOp .FloorDiv) (rI CDiv fun i j => .int (i / j)) := opI fun i j _ _ _ _ _ hc q => by
  have h1 : (0 : Int) < j := hc.1
  have h2 : j < 1073741824 := hc.2
  exact floordiv_int (by omega) (by rw [Int.fdiv_eq_ediv_of_nonneg i (by omega)]; exact q) (.inl (PyProof.noPylong_small (by omega)))
theorem op_mod : OpR X (binaryOp .Mod) (rI (fun _ j => 0 < j) fun i j => .int (i % j)) := opI fun i j _ _ _ _ _ hc q => by
  have h1 : (0 : Int) < j := hc
  exact mod_int' (by omega) (by rw [Int.fmod_eq_emod_of_nonneg i (by omega)]; exact q)
theorem op_pow : OpR X (binaryOp .Pow) (rI CPow fun i j => .int (i ^ j.toNat)) := opI fun _ _ _ _ _ _ _ hc q => pow_int_small hc.1 hc.2.1 hc.2.2 q
theorem unI {f : Value → Sem Value} {g : Int → Int}
    (rule : ∀ (i : Int) (t : Tok) (s : Shared) (Q : Value → Shared → Prop) (E : Value → Shared → Prop), Q (.int (g i) s.toks) { s with toks := s.toks + 1 } → wpAny (model X.prog X.w) X.A (f (.int i t)) Q E s) :
    UnR X f (rU fun i => .int (g i)) := by
  intro pins s σ H x v Q I rx h
  obtain ⟨i, rfl, q⟩ := h
  obtain ⟨t, rfl⟩ := rx
  exact rule i t s _ _ ⟨.int (g i), H, I.tok _, ⟨_, rfl⟩, q⟩
theorem un_neg : UnR X (unaryOp .USub) (rU fun i => .int (-i)) := unI fun _ _ _ _ _ q => neg_int q
end

def scal : V → V → Bool
  | .non, .non => true | .non, .int _ => true | .int _, .non => true | .non, .bl _ => true | .bl _, .non => true | .non, .str _ => true | .str _, .non => true
  | .int _, .int _ => true | .bl _, .bl _ => true | .str _, .str _ => true | .byt _, .byt _ => true
  | .int _, .str _ => true | .str _, .int _ => true | .bl _, .str _ => true | .str _, .bl _ => true
  | _, _ => false
def rEq : R2 := fun x y H Q => scal x y = true ∧ Q (.bl (decide (x = y))) H
def rNe : R2 := fun x y H Q => scal x y = true ∧ Q (.bl (!decide (x = y))) H

theorem dec_int {i j : Int} : decide (V.int i = V.int j) = (i == j) := by
  rw [Bool.eq_iff_iff]
  simp
theorem dec_bl {i j : Bool} : decide (V.bl i = V.bl j) = (i == j) := by
  rw [Bool.eq_iff_iff]
  simp
theorem dec_str {i j : Str} : decide (V.str i = V.str j) = (i == j) := by
  rw [Bool.eq_iff_iff]
  simp
theorem dec_byt {i j : Array UInt8} : decide (V.byt i = V.byt j) = (i.toList == j.toList) := by
  rw [Bool.eq_iff_iff]
  cases i
  cases j
  simp

section
variable {X : Cx} {a b c : Expr} {ta tb tc : TE} {pos : Pos}
theorem fin_bl {pins : List (Addr × Obj)} {σ : St} {H : Hp} {s : Shared} {Q : VK} {k k' : Bool} (I : Inv X pins σ H s) (q : Q (.bl k) H) (e : k = k') : EP X pins σ Q (.bool k') s := by
  subst e
  exact ⟨.bl k, H, I, rfl, q⟩
theorem op_eq : OpR X (compareOp .Eq) rEq := by
  intro pins s σ H x y v u Q I rx ry h
  obtain ⟨hs, q⟩ := h
  cases x with
  | non =>
    cases rx
    cases y with
    | non => cases ry; exact PySem.EqNone.eq_none_none (fin_bl I q (by simp))
    | bl j => cases ry; exact PySem.EqNone.eq_none_bool (fin_bl I q (by simp))
    | int j => obtain ⟨t', rfl⟩ := ry; exact PySem.EqNone.eq_none_int (fin_bl I q (by simp))
    | str j => obtain ⟨t', rfl⟩ := ry; exact PySem.EqNone.eq_none_str (fin_bl I q (by simp))
    | _ => exact absurd (show false = true from hs) Bool.false_ne_true
  | bl i =>
    cases rx
    cases y with
    | non => cases ry; exact PySem.EqNone.eq_bool_none (fin_bl I q (by simp))
    | bl j => cases ry; exact eq_bool (fin_bl I q dec_bl)
    | str j => obtain ⟨t', rfl⟩ := ry; exact PySem.EqMixed.eq_bool_str (fin_bl I q (by simp))
    | _ => exact absurd (show false = true from hs) Bool.false_ne_true
  | int i =>
    obtain ⟨t, rfl⟩ := rx
    cases y with
    | non => cases ry; exact PySem.EqNone.eq_int_none (fin_bl I q (by simp))
    | int j => obtain ⟨t', rfl⟩ := ry; exact eq_int (fin_bl I q dec_int)
    | str j => obtain ⟨t', rfl⟩ := ry; exact PySem.EqMixed.eq_int_str (fin_bl I q (by simp))
    | _ => exact absurd (show false = true from hs) Bool.false_ne_true
  | str i =>
    obtain ⟨t, rfl⟩ := rx
    cases y with
    | non => cases ry; exact PySem.EqNone.eq_str_none (fin_bl I q (by simp))
    | bl j => cases ry; exact PySem.EqMixed.eq_str_bool (fin_bl I q (by simp))
    | int j => obtain ⟨t', rfl⟩ := ry; exact PySem.EqMixed.eq_str_int (fin_bl I q (by simp))
    | str j => obtain ⟨t', rfl⟩ := ry; exact eq_str (fin_bl I q dec_str)
    | _ => exact absurd (show false = true from hs) Bool.false_ne_true
  | byt i =>
    obtain ⟨t, rfl⟩ := rx
    cases y with
    | byt j => obtain ⟨t', rfl⟩ := ry; exact PySem.W.eq_bytes (fin_bl I q dec_byt)
    | _ => exact absurd (show false = true from hs) Bool.false_ne_true
  | _ => cases y <;> exact absurd (show false = true from hs) Bool.false_ne_true
theorem op_ne : OpR X (compareOp .NotEq) rNe := by
  intro pins s σ H x y v u Q I rx ry h
  obtain ⟨hs, q⟩ := h
  cases x with
  | non =>
    cases rx
    cases y with
    | non => cases ry; exact PySem.EqNone.ne_none_none (fin_bl I q (by simp))
    | bl j => cases ry; exact PySem.EqNone.ne_none_bool (fin_bl I q (by simp))
    | int j => obtain ⟨t', rfl⟩ := ry; exact PySem.EqNone.ne_none_int (fin_bl I q (by simp))
    | str j => obtain ⟨t', rfl⟩ := ry; exact PySem.EqNone.ne_none_str (fin_bl I q (by simp))
    | _ => exact absurd (show false = true from hs) Bool.false_ne_true
  | bl i =>
    cases rx
    cases y with
    | non => cases ry; exact PySem.EqNone.ne_bool_none (fin_bl I q (by simp))
    | bl j => cases ry; exact ne_bool (fin_bl I q (congrArg not dec_bl))
    | str j => obtain ⟨t', rfl⟩ := ry; exact PySem.EqMixed.ne_bool_str (fin_bl I q (by simp))
    | _ => exact absurd (show false = true from hs) Bool.false_ne_true
  | int i =>
    obtain ⟨t, rfl⟩ := rx
    cases y with
    | non => cases ry; exact PySem.EqNone.ne_int_none (fin_bl I q (by simp))
    | int j => obtain ⟨t', rfl⟩ := ry; exact ne_int (fin_bl I q (congrArg not dec_int))
    | str j => obtain ⟨t', rfl⟩ := ry; exact PySem.EqMixed.ne_int_str (fin_bl I q (by simp))
    | _ => exact absurd (show false = true from hs) Bool.false_ne_true
  | str i =>
    obtain ⟨t, rfl⟩ := rx
    cases y with
    | non => cases ry; exact PySem.EqNone.ne_str_none (fin_bl I q (by simp))
    | bl j => cases ry; exact PySem.EqMixed.ne_str_bool (fin_bl I q (by simp))
    | int j => obtain ⟨t', rfl⟩ := ry; exact PySem.EqMixed.ne_str_int (fin_bl I q (by simp))
    | str j => obtain ⟨t', rfl⟩ := ry; exact ne_str (fin_bl I q (congrArg not dec_str))
    | _ => exact absurd (show false = true from hs) Bool.false_ne_true
  | byt i =>
    obtain ⟨t, rfl⟩ := rx
    cases y with
    | byt j => obtain ⟨t', rfl⟩ := ry; exact PySem.W.ne_bytes (fin_bl I q (congrArg not dec_byt))
    | _ => exact absurd (show false = true from hs) Bool.false_ne_true
  | _ => cases y <;> exact absurd (show false = true from hs) Bool.false_ne_true

theorem op_lt : OpR X (compareOp .Lt) (rI0 fun i j => .bl (decide (i < j))) := opB0 fun _ _ _ _ _ _ _ q => lt_int q
theorem op_gt : OpR X (compareOp .Gt) (rI0 fun i j => .bl (decide (j < i))) := opB0 fun _ _ _ _ _ _ _ q => gt_int q
theorem op_ge : OpR X (compareOp .GtE) (rI0 fun i j => .bl (decide (j ≤ i))) := opB0 fun _ _ _ _ _ _ _ q => ge_int q
def isObj : HO → Bool
  | .lst _ => true
  | .ins _ _ _ => true
  | _ => false
theorem nomark (b : Expr) {op : CmpOp} (h : op ≠ .In := by decide) (h2 : op ≠ .NotIn := by decide) : behindInMarks op b = false := by
  have e1 : (op == CmpOp.In) = false := by cases op <;> first | rfl | exact absurd rfl h
  have e2 : (op == CmpOp.NotIn) = false := by cases op <;> first | rfl | exact absurd rfl h2
  cases b <;> simp [behindInMarks, e1, e2]
theorem pe_cmpR {op : CmpOp} {r : R2} (ho : OpR X (compareOp op) r) (ha : PE X a ta) (hb : PE X b tb) (hm : behindInMarks op b = false) : PE X (.Compare a [op] [b] pos) (tOp r ta tb) := by
  intro pins s σ H Q I h
  exact wpAny_Compare1 (binT ha hb I h fun v u s2 x y H2 I2 rx ry q => ho pins s2 σ H2 x y v u Q I2 rx ry q) hm
def tTest (t : TE) : TT := fun σ H Q => t σ H fun x H' => ∃ k, x = .bl k ∧ Q k H'
theorem pt_cmpR {op : CmpOp} {r : R2} (ho : OpR X (compareOp op) r) (ha : PE X a ta) (hb : PE X b tb) (hm : behindInMarks op b = false) : PT X (.Compare a [op] [b] pos) (tTest (tOp r ta tb)) := by
  intro pins s σ H Q I h
  refine wpAny_isTrue_Compare1 (thn (ha pins s σ H _ I h) fun v s1 ⟨x, H1, I1, r1, q1⟩ => thn (hb pins s1 σ H1 _ I1 q1) fun u s2 ⟨y, H2, I2, r2, q2⟩ =>
    thn (ho pins s2 σ H2 x y v u _ I2 r1 r2 q2) fun c s3 ⟨z, H3, I3, r3, k, e, q3⟩ => ?_) hm
  subst e
  cases r3
  exact wpAny_truthy_bool ⟨H3, I3, q3⟩
def tChain (r r' : R2) (ta tb tc : TE) : TE := fun σ H Q => ta σ H fun x H1 => tb σ H1 fun y H2 => r x y H2 fun z H3 => ∃ k, z = .bl k ∧
  (if k = true then tc σ H3 fun w' H4 => r' y w' H4 Q else Q (.bl false) H3)
def TruV (K : PySem.W.Frag) (x : V) (H : Hp) (k : Bool) : Prop :=
  match x with
  | .non => k = false
  | .bl b => k = b
  | .int i => k = (i != 0)
  | .str y => y.length ≤ sizeLine ∧ k = ((y.length : Int) != 0)
  | .byt y => y.size ≤ sizeLine ∧ k = ((y.size : Int) != 0)
  | .ref p => (∃ xs, SqL K H p xs ∧ k = !xs.isEmpty) ∨ (∃ xs, SqT K H p xs ∧ k = !xs.isEmpty) ∨ ∃ kvs, H p = some (.dK kvs) ∧ k = !kvs.isEmpty
  | _ => False
theorem line63 : (sizeLine : Nat) < 2 ^ 63 := by rw [sizeLine_eq]; decide
def PlainIxT (b : Expr) : Prop := ∀ o i, subscripted b false o i = operate [o, i] (getItem o i)
theorem vals1 {x : V} {us : List Value} (r : Vals [x] us) : ∃ u, us = [u] ∧ RelV x u := by
  cases r with
  | cons r1 r2 => cases r2; exact ⟨_, rfl, r1⟩
theorem vals2 {x y : V} {us : List Value} (r : Vals [x, y] us) : ∃ u w', us = [u, w'] ∧ RelV x u ∧ RelV y w' := by
  cases r with
  | cons r1 r2 =>
    cases r2 with
    | cons r3 r4 => cases r4; exact ⟨_, _, rfl, r1, r3⟩
theorem call_abs : CallR X (.builtin "abs") (fun xs H Q => ∃ i, xs = [.int i] ∧ Q (.int (if i < 0 then -i else i)) H) := by
  intro pins s σ H xs us Q I r h
  obtain ⟨i, rfl, q⟩ := h
  obtain ⟨u, rfl, t, rfl⟩ := vals1 r
  exact call_abs_int fun u tk => ⟨.int (if i < 0 then -i else i), H, I.tok _, ⟨_, rfl⟩, q⟩
theorem call_max2 (hc : X.calm = true) : CallR X (.builtin "max") (fun xs H Q => ∃ i j, xs = [.int i, .int j] ∧ Q (.int (if j > i then j else i)) H) := by
  intro pins s σ H xs us Q I r h
  obtain ⟨i, j, rfl, q⟩ := h
  obtain ⟨u, w', rfl, ⟨t, rfl⟩, ⟨t', rfl⟩⟩ := vals2 r
  refine max_two_ints (I.ok.hd hc) fun h' tk k => ⟨_, H, I.kept k, ?_, q⟩
  by_cases hj : j > i
  · rw [if_pos hj, if_pos hj]; exact ⟨_, rfl⟩
  · rw [if_neg hj, if_neg hj]; exact ⟨_, rfl⟩
theorem call_int1 : CallR X (.type "int") (fun xs H Q => (∃ i, xs = [.int i] ∧ Q (.int i) H) ∨ ∃ k, xs = [.bl k] ∧ Q (.int (if k then 1 else 0)) H) := by
  intro pins s σ H xs us Q I r h
  rcases h with ⟨i, rfl, q⟩ | ⟨k, rfl, q⟩
  · obtain ⟨u, rfl, t, rfl⟩ := vals1 r
    exact call_int_int ⟨.int i, H, I, ⟨_, rfl⟩, q⟩
  · obtain ⟨u, rfl, r1⟩ := vals1 r
    cases r1
    exact call_int_bool ⟨.int (if k then 1 else 0), H, I.tok _, ⟨_, rfl⟩, q⟩
def LenV (K : PySem.W.Frag) (x : V) (H : Hp) (n : Nat) : Prop :=
  match x with
  | .str y => y.length ≤ sizeLine ∧ n = y.length
  | .byt y => y.size ≤ sizeLine ∧ n = y.size
  | .ref p => (∃ xs, SqL K H p xs ∧ n = xs.length) ∨ ∃ xs, SqT K H p xs ∧ n = xs.length
  | _ => False
end
end L2

namespace L2
open PySem PySem.Spec PyProof.Rows

structure ObjM (h : Heap) (x dx C : Addr) (mA : Str → Option Value) : Prop where
  obj : h.get? x = some (PySem.W.instObj C dx)
  ns : h.Ns1 dx mA
  ne : dx ≠ x

theorem lookIn_ns {h : Heap} {dx : Addr} {mA : Str → Option Value} (n : h.Ns1 dx mA) : ∃ od, h.get? dx = some od ∧ ∀ name, PySem.W.lookIn name od = some (mA name) := by
  obtain ⟨o, es, ep, ho, hd, hk, _, hm⟩ := n
  refine ⟨o, ho, fun name => ?_⟩
  have e := hm name
  unfold nsFind findBy at e
  rw [← Array.find?_toList] at e
  unfold PySem.W.lookIn
  rw [hd]
  dsimp only
  split
  · rename_i y q
    rw [q] at e
    exact congrArg some e
  · rename_i q
    rw [q] at e
    have a : es.toList.any (·.refKey) = false := by
      rw [List.any_eq_false]
      intro y hy
      obtain ⟨z, t, hkey⟩ := hk y (Array.mem_toList_iff.mp hy)
      simp [DictEntry.refKey, hkey]
    have a' : ¬ es.toList.any (·.refKey) = true := by rw [a]; exact Bool.false_ne_true
    rw [if_neg a']
    exact congrArg some e

theorem ObjM.look {h : Heap} {x dx C : Addr} {mA : Str → Option Value} (I : ObjM h x dx C mA) : ∃ od, PySem.W.InstAt h x (PySem.W.instObj C dx) C (some od) ∧ ∀ name, PySem.W.lookIn name od = some (mA name) :=
  let ⟨od, ho, hl⟩ := lookIn_ns I.ns
  ⟨od, ⟨I.obj, rfl, rfl, ho⟩, hl⟩

section
variable {prog : Program} {w : World} {A : Around} {E : Value → Shared → Prop} {s : Shared} {K : PySem.W.Frag} {x dx C f : Addr} {mA : Str → Option Value} {name : Str} {v : Value}

end

def putF (f : Str) (v : V) : List (Str × V) → List (Str × V)
  | [] => [(f, v)]
  | (g, x) :: r => if g = f then (g, v) :: r else (g, x) :: putF f v r
theorem RelO.some_of {v : V} {o : Option Value} (r : RelO (some v) o) : ∃ u, o = some u ∧ RelV v u := by
  cases o with
  | none => exact (show False from r).elim
  | some u => exact ⟨u, rfl, r⟩
section
variable {P : Program} {w : World} {H H' : Hp} {h h' : Heap} {a C dx : Addr} {fs fs' : List (Str × V)}
theorem ins_get (hok : HOk P w H h) (e : H a = some (.ins C dx fs)) : ∃ mA, ObjM h a dx C mA ∧ (∀ f, RelO (fs.lookup f) (mA f)) ∧ PySem.Within mA (fs.map (·.1)) ∧ fs.length ≤ 1000 ∧ H dx = some (.own a) := by
  obtain ⟨d, z, ne, ob, mA, n, r, q⟩ := (show ObjOk P w H h a (.ins C dx fs) from hok a _ e)
  exact ⟨mA, ⟨ob, n, ne⟩, r, q, z, d⟩
end

structure Cls (K : PySem.W.Frag) (C : Addr) : Prop where
  pg : PySem.W.plainGet K C Str.empty = true
  hd : PySem.W.hasDictIn K C = true
  po : PySem.W.plainOver K C = true
  sa : PySem.W.findIn K (.ref C) "__setattr__" = some (some (.builtin "object.__setattr__"))
theorem Cls.get {K : PySem.W.Frag} {C : Addr} (c : Cls K C) (f : Str) : PySem.W.plainGet K C f = true := c.pg
def NoAttr (K : PySem.W.Frag) (C : Addr) (f : Str) : Prop := PySem.W.findIn K (.ref C) f = some none
structure Con (K : PySem.W.Frag) (C : Addr) (f : Str) (v : V) (u : Value) : Prop where
  at_ : PySem.W.findIn K (.ref C) f = some (some u)
  rel : RelV v u
  get : PySem.W.specialIn K u "__get__" = some none
  cp : PySem.W.copiedNames.contains f = false
structure Meth (K : PySem.W.Frag) (C : Addr) (m : Str) (f : Addr) : Prop where
  at_ : PySem.W.findIn K (.ref C) m = some (some (.ref f))
  fn : PySem.W.isFn K (.ref f) = true
  kp : PySem.W.keepIn K (.ref f) = true

section
variable {X : Cx} {pins : List (Addr × Obj)} {σ : St} {H : Hp} {s : Shared} {a C dx : Addr} {fs : List (Str × V)} {f : Str} {v : V} {A : Around} {E : Value → Shared → Prop}

end

def tFld (K : PySem.W.Frag) (ta : TE) (f : Str) : TE := fun σ H Q => ta σ H fun x H1 => ∃ a C dx fs v, x = .ref a ∧ H1 a = some (.ins C dx fs) ∧ Cls K C ∧ NoAttr K C f ∧ fs.lookup f = some v ∧ Q v H1
def tCon (K : PySem.W.Frag) (ta : TE) (f : Str) : TE := fun σ H Q => ta σ H fun x H1 => ∃ a C dx fs v u, x = .ref a ∧ H1 a = some (.ins C dx fs) ∧ Cls K C ∧ Con K C f v u ∧ fs.lookup f = none ∧ Q v H1
def sFld (K : PySem.W.Frag) (ta tv : TE) (f : Str) : TS := fun D σ H => tv σ H fun y H1 => ta σ H1 fun x H2 => ∃ a C dx fs, x = .ref a ∧ H2 a = some (.ins C dx fs) ∧ Cls K C ∧ NoAttr K C f ∧ fs.length < 1000 ∧
  D.nx σ (upd H2 a (.ins C dx (putF f y fs)))
def InOp (X : Cx) (op : Operator) (rd : V → V → Hp → VK → Prop) : Prop :=
  ∀ (pins : List (Addr × Obj)) (s : Shared) (σ : St) (H : Hp) (x y : V) (u v : Value) (Q : VK), Inv X pins σ H s → RelV x u → RelV y v → rd x y H Q → wpAny (model X.prog X.w) X.A (inplaceOp op u v) (EP X pins σ Q) X.xe s
def sFldAug (K : PySem.W.Frag) (ta tv : TE) (rd : V → V → Hp → VK → Prop) (f : Str) : TS := fun D σ H => ta σ H fun x H1 => ∃ a C dx fs v, x = .ref a ∧ H1 a = some (.ins C dx fs) ∧ Cls K C ∧ NoAttr K C f ∧ fs.lookup f = some v ∧
  tv σ H1 fun y H2 => rd v y H2 fun z H3 => ∃ dx' fs', H3 a = some (.ins C dx' fs') ∧ fs'.length < 1000 ∧ D.nx σ (upd H3 a (.ins C dx' (putF f z fs')))

section
variable {X : Cx} {o e value : Expr} {f : Str} {pos pos' tpos : Pos} {ta tv : TE}
def rAdd : V → V → Hp → VK → Prop := fun x y H Q => ∃ i j, x = .int i ∧ y = .int j ∧ Q (.int (i + j)) H
def rSub : V → V → Hp → VK → Prop := fun x y H Q => ∃ i j, x = .int i ∧ y = .int j ∧ Q (.int (i - j)) H
end

section
variable {X : Cx} {pins : List (Addr × Obj)} {σ : St} {H : Hp} {s : Shared} {A : Around} {E : Value → Shared → Prop} {Q : Value → Shared → Prop} {c : Value} {b : Bool}
inductive TyOf (K : PySem.W.Frag) (H : Hp) : V → Value → Prop where
  | non : TyOf K H .non (.type "NoneType")
  | bl (x : Bool) : TyOf K H (.bl x) (.type "bool")
  | int (i : Int) : TyOf K H (.int i) (.type "int")
  | str (x : Str) : TyOf K H (.str x) (.type "str")
  | flt (x : UInt64) : TyOf K H (.flt x) (.type "float")
  | lst {a : Addr} {xs : List V} (e : H a = some (.lst xs)) : TyOf K H (.ref a) (.type "list")
  | frz {a : Addr} {o : Obj} {xs : List V} (e : H a = some (.frz o (.lst xs))) : TyOf K H (.ref a) (.type "list")
  | tup {a : Addr} {xs : List V} (e : H a = some (.tup xs)) : TyOf K H (.ref a) (.type "tuple")
  | dK {a : Addr} {kvs : List (Key × V)} (e : H a = some (.dK kvs)) : TyOf K H (.ref a) (.type "dict")
  | dT {a : Addr} {kvs : List (List Key × V)} (e : H a = some (.dT kvs)) : TyOf K H (.ref a) (.type "dict")
  | ins {a C dx : Addr} {fs : List (Str × V)} (e : H a = some (.ins C dx fs)) (cl : Cls K C) (ha : PySem.W.findIn K (.ref C) "__class__" = some (some (.builtin "object.__class__")))
      (hn : PySem.W.specialIn K (.builtin "object.__class__") "__get__" = some (some (.builtin "getset_descriptor.__get__"))) (htk : PySem.W.takesIn K (.builtin "object.__class__") = some true)
      (hm : PySem.W.mroIn K C (.type "object") = some true) : TyOf K H (.ref a) (.ref C)
theorem isinst_ok {x : V} {u t : Value} (I : Inv X pins σ H s) (rx : RelV x u) (ty : TyOf X.K H x t) (e : PySem.W.kitOne X.K t c = some b) (h : ∀ tk, Q (.bool b) { s with toks := tk }) :
    wpAny (model X.prog X.w) A (call (.builtin "isinstance") [u, c]) Q E s := by
  cases ty with
  | non => cases (show u = Value.none from rx); exact PySem.W.kia_one PySem.W.kitx_none I.kIn True.intro e (fun z => nomatch z) h
  | bl y => cases (show u = Value.bool y from rx); exact PySem.W.kia_one PySem.W.kitx_bool I.kIn True.intro e (fun z => nomatch z) h
  | int i => obtain ⟨t, q⟩ := (show ∃ t, u = Value.int i t from rx); cases q; exact PySem.W.kia_one PySem.W.kitx_int I.kIn True.intro e (fun z => nomatch z) h
  | str y => obtain ⟨t, q⟩ := (show ∃ t, u = Value.str y t from rx); cases q; exact PySem.W.kia_one PySem.W.kitx_str I.kIn True.intro e (fun z => nomatch z) h
  | flt y => obtain ⟨t, q⟩ := (show ∃ t, u = Value.float y t from rx); cases q; exact PySem.W.kia_one PySem.W.kitx_float I.kIn True.intro e (fun z => nomatch z) h
  | @lst a xs ea =>
    cases (show u = Value.ref a from rx)
    obtain ⟨_, _, n, _, h1⟩ := (show ObjOk X.prog X.w H s.heap a (.lst xs) from I.hok a _ ea)
    exact PySem.W.kia_one PySem.W.kitx_list I.kIn ⟨_, h1, rfl⟩ e (fun z => nomatch z) h
  | @frz a ob xs ea =>
    cases (show u = Value.ref a from rx)
    obtain ⟨_, _, _, n, _, h1⟩ := (show ObjOk X.prog X.w H s.heap a (.frz ob (.lst xs)) from I.hok a _ ea)
    exact PySem.W.kia_one PySem.W.kitx_list I.kIn ⟨_, h1, rfl⟩ e (fun z => nomatch z) h
  | @tup a xs ea =>
    cases (show u = Value.ref a from rx)
    obtain ⟨_, _, _, p⟩ := (show ObjOk X.prog X.w H s.heap a (.tup xs) from I.hok a _ ea)
    obtain ⟨o, h1, h2, _⟩ := p
    exact PySem.W.kia_one PySem.W.kitx_tuple I.kIn ⟨o, h1, h2⟩ e (fun z => nomatch z) h
  | @dK a kvs ea =>
    cases (show u = Value.ref a from rx)
    obtain ⟨_, _, vs, _, p⟩ := (show ObjOk X.prog X.w H s.heap a (.dK kvs) from I.hok a _ ea)
    obtain ⟨o, es, ep, h1, h2, _⟩ := p
    exact PySem.W.kia_one PySem.W.kitx_dict I.kIn ⟨o, h1, h2.1⟩ e (fun z => nomatch z) h
  | @dT a kvs ea =>
    cases (show u = Value.ref a from rx)
    obtain ⟨_, _, xs, _, o, es, ep, h1, h2, _⟩ := (show ObjOk X.prog X.w H s.heap a (.dT kvs) from I.hok a _ ea)
    exact PySem.W.kia_one PySem.W.kitx_dict I.kIn ⟨o, h1, h2.1⟩ e (fun z => nomatch z) h
  | @ins a C dx fs ea cl ha hn htk hm =>
    cases (show u = Value.ref a from rx)
    obtain ⟨mA, O, _⟩ := ins_get I.hok ea
    obtain ⟨od, J, _⟩ := O.look
    exact PySem.W.kia_one (PySem.W.kitx_own (cl.get _) cl.hd ha hn htk hm) I.kIn J e (fun z => nomatch z) h
end
end L2

namespace L2
open PySem PySem.Spec PyProof.Rows

structure Room (k : Nat) (A : Around) : Prop where
  hd : A.handled = none
  dp : A.depth + 3 * k + 5 < recursionLimit
  un : A.units + 16 * k + 200 < cLine
  gd : A.guards = some []
theorem Room.mono {j k : Nat} {A : Around} (r : Room k A) (h : j ≤ k) : Room j A := ⟨r.hd, by have := r.dp; omega, by have := r.un; omega, r.gd⟩
theorem Room.deeper {k : Nat} {A : Around} (r : Room (k + 1) A) (env : Env) : Room k (A.deeper env) :=
  ⟨r.hd, by have := r.dp; show A.depth + 1 + 3 * k + 5 < _; omega, by have := r.un; show A.units + 3 + 16 * k + 200 < _; omega, r.gd⟩
theorem Room.depth {k : Nat} {A : Around} (r : Room k A) : A.depth < recursionLimit := by have := r.dp; omega
theorem Room.units {k : Nat} {A : Around} (r : Room k A) : A.units + 64 < cLine := by have := r.un; omega
def tNil : TA := fun _ H Q => Q [] H
def tCons (ta : TE) (tr : TA) : TA := fun σ H Q => ta σ H fun x H1 => tr σ H1 fun xs H2 => Q (x :: xs) H2
section
variable {X : Cx} {e : Expr} {es : List Expr} {te : TE} {t : TA} {pos : Pos}
theorem pa_nil : PA X [] tNil := fun _ _ _ _ H Q I h => Calls.spliced_nil ⟨[], H, I, .nil, h⟩
theorem pa_cons (ha : PE X e te) (hr : PA X es t) (hs : starEach (e :: es) X.env = (false, eval e X.env) :: starEach es X.env := by rfl) : PA X (e :: es) (tCons te t) := by
  intro pos pins s σ H Q I h
  rw [hs]
  show wpAny _ _ (spliced ((false, eval e X.env) :: backTo pos (starEach es X.env))) _ _ s
  refine Calls.spliced_cons (thn (ha pins s σ H _ I h) fun u s1 ⟨x, H1, I1, r1, q1⟩ => ?_)
  exact thn (hr pos pins s1 σ H1 _ I1 q1) fun us s2 ⟨xs, H2, I2, r2, q2⟩ => ⟨x :: xs, H2, I2, .cons r1 r2, q2⟩

def tTup (t : TA) : TE := fun σ H Q => t σ H fun xs H1 => xs.length ≤ sizeLine ∧ ∀ p, H1 p = none → Q (.ref p) (upd H1 p (.tup xs))
def tLst (t : TA) : TE := fun σ H Q => t σ H fun xs H1 => xs.length ≤ sizeLine ∧ ∀ p, H1 p = none → Q (.ref p) (upd H1 p (.lst xs))
theorem pe_tup {x1} (h : PA X es t) : PE X (.Tuple es x1 pos) (tTup t) := by
  intro pins s σ H Q I hq
  refine wpAny_Tuple_spliced (thn (h pos pins s σ H _ I hq) fun us s1 ⟨xs, H1, I1, r, z, q⟩ => ⟨by rw [← r.length]; exact z, ?_⟩)
  have hf : H1 s1.heap.objs.size = none := I1.hok.fresh (Nat.le_refl _)
  refine ⟨.ref s1.heap.objs.size, upd H1 s1.heap.objs.size (.tup xs), I1.laid (t' := s1.toks) (fun b u e => Heap.get?_push_of_some _ e) (Nat.le_refl _) ?_, rfl, q _ hf⟩
  exact ⟨z, us, r, PTup.new⟩
theorem pe_lst (h : PA X es t) : PE X (.List es pos) (tLst t) := by
  intro pins s σ H Q I hq
  refine wpAny_List_spliced (thn (h pos pins s σ H _ I hq) fun us s1 ⟨xs, H1, I1, r, z, q⟩ => ⟨by rw [← r.length]; exact z, ?_⟩)
  have hf : H1 s1.heap.objs.size = none := I1.hok.fresh (Nat.le_refl _)
  refine ⟨.ref s1.heap.objs.size, upd H1 s1.heap.objs.size (.lst xs), I1.laid (t' := s1.toks) (fun b u e => Heap.get?_push_of_some _ e) (Nat.le_refl _) ?_, rfl, q _ hf⟩
  exact ⟨z, us, 0, r, Heap.get?_push_size _ rfl⟩
end

abbrev Sp := List V → Hp → VK → XK → Prop
abbrev CXT := List Env → Hp → Shared → XK → Value → Shared → Prop

structure Env0 (P : Program) (w : World) (K : PySem.W.Frag) (mg : Str → Option Value) (base : Heap) (A : Around) (outer : List Env) (s : Shared) (H : Hp) : Prop where
  frames : A.frames = some outer
  mod : Mod K mg base
  bs : ∀ b o, base.get? b = some o → s.heap.get? b = some o ∧ H b = none
  bsz : base.objs.size ≤ s.heap.objs.size
  funs : s.heap.FunFrames base outer
  frf : ∀ b ∈ frs outer, H b = none
  hok : HOk P w H s.heap
  bare : AllBare s.gens
def CE (outer : List Env) (P : Program) (w : World) (H : Hp) (s : Shared) (Q : VK) (u : Value) (s' : Shared) : Prop :=
  ∃ v H', s'.os = s.os ∧ AllBare s'.gens ∧ Un (frs outer) [] H H' s.heap s'.heap ∧ HOk P w H' s'.heap ∧ RelV v u ∧ Q v H'
def CR (CX : CXT) (outer : List Env) (P : Program) (w : World) (H : Hp) (s : Shared) (Q : VK) (E : XK) (r : Result) (s' : Shared) : Prop :=
  match r with
  | .ok (.ret u) => CE outer P w H s Q u s'
  | .ok _ => False
  | .error e => CX outer H s E e s'
structure FnOk (P : Program) (w : World) (K : PySem.W.Frag) (mg : Str → Option Value) (base : Heap) (CX : CXT) (k : Nat) (f : Addr) (fd : FuncData) (ps : List Str) (sp : Sp) : Prop where
  len : ∀ vs H Q E, sp vs H Q E → vs.length = ps.length
  run : ∀ (A : Around) (outer : List Env) (s : Shared) (H : Hp) (args : Args) (us : List Value) (vs : List V) (Q : VK) (E : XK), Room k A → Env0 P w K mg base A outer s H → BindsTo s fd args (ps.zip us) → Vals vs us → sp vs H Q E →
    codeAny (model P w) A (.call (.ref f) args) (CR CX outer P w H s Q E) s
theorem FnOk.mono {P : Program} {w : World} {K : PySem.W.Frag} {mg : Str → Option Value} {base : Heap} {CX : CXT} {j k : Nat} {f : Addr} {fd : FuncData} {ps : List Str} {sp : Sp} (F : FnOk P w K mg base CX j f fd ps sp) (h : j ≤ k) :
    FnOk P w K mg base CX k f fd ps sp := ⟨F.len, fun A outer s H args us vs Q E hr => F.run A outer s H args us vs Q E (hr.mono h)⟩
section
variable {X : Cx} {pins : List (Addr × Obj)} {σ : St} {H : Hp} {s s' : Shared}
theorem Inv.env0 (I : Inv X pins σ H s) : Env0 X.prog X.w X.K X.mg X.base X.A X.stack s H :=
  ⟨I.ok.frames, I.ok.mod, I.bs, Nat.le_trans I.ok.bsz I.sz, I.stack, I.stkFree, I.hok, I.bare⟩
theorem Inv.after {Q : VK} {u : Value} (I : Inv X pins σ H s) (h : CE X.stack X.prog X.w H s Q u s') : EP X pins σ Q u s' := by
  obtain ⟨v, H', os, bare, un, hok, r, q⟩ := h
  obtain ⟨hh, g, d, t, os'⟩ := s'
  obtain rfl : os' = s.os := os
  exact ⟨v, H', I.call (h' := hh) (g' := g) (d' := d) (t' := t) (ch := []) un hok bare (fun b z => absurd z (by simp)), r, q⟩
end

def tCall (sp : Sp) (dvs : List V) (E : XK) (t : TA) : TE := fun σ H Q => t σ H fun vs H1 => sp (vs ++ dvs) H1 Q E
def tMeth (C : Addr) (m : Str) (sp : Sp) (dvs : List V) (E : XK) (ta : TE) (t : TA) : TE := fun σ H Q => ta σ H fun x H1 => ∃ a dx fs, x = .ref a ∧ H1 a = some (.ins C dx fs) ∧ fs.lookup m = none ∧
  t σ H1 fun vs H2 => sp (x :: (vs ++ dvs)) H2 Q E
def tMake (C : Addr) (sp : Sp) (dvs : List V) (E : XK) (t : TA) : TE := fun σ H Q => t σ H fun vs H1 => ∀ x dx, H1 x = none → H1 dx = none → dx ≠ x →
  sp (.ref x :: (vs ++ dvs)) (upd (upd H1 dx (.own x)) x (.ins C dx [])) (fun v H2 => v = .non ∧ Q (.ref x) H2) E

def Binds (K : PySem.W.Frag) (fd : FuncData) (ps : List Str) (ds : List Value) : Prop :=
  ∀ (s : Shared) (us : List Value), K.In s.heap → (us ++ ds).length = ps.length → BindsTo s fd ⟨us, []⟩ (ps.zip (us ++ ds))
theorem Binds.all {K : PySem.W.Frag} {fd : FuncData} {ps : List Str} (h : ∀ us : List Value, us.length = ps.length → bindArgs fd ⟨us, []⟩ = pure (ps.zip us)) : Binds K fd ps [] := fun s us _ hl => by
  rw [List.append_nil] at hl ⊢
  exact .of_eq (h us hl)

def Passes (CX : CXT) (X : Cx) (E : XK) : Prop := ∀ (pins : List (Addr × Obj)) (σ : St) (H : Hp) (s : Shared) (e : Value) (s' : Shared), Inv X pins σ H s → CX X.stack H s E e s' → X.xe e s'

section
variable {X : Cx} {CX : CXT} {k : Nat} {f C : Addr} {fd : FuncData} {ps : List Str} {sp : Sp} {dvs : List V} {ds : List Value} {E : XK} {x m : Str} {p pos apos : Pos} {e o : Expr} {es : List Expr} {ta : TE} {t : TA}

theorem run_fn {pins : List (Addr × Obj)} {σ : St} {H : Hp} {s : Shared} {Q : VK} {us : List Value} {vs : List V} (F : FnOk X.prog X.w X.K X.mg X.base CX k f fd ps sp) (hr : Room k X.A) (hb : Binds X.K fd ps ds) (hd : Vals dvs ds) (hx : Passes CX X E)
    (I : Inv X pins σ H s) (r : Vals vs us) (h : sp (vs ++ dvs) H Q E) : wpAny (model X.prog X.w) X.A (call (.ref f) us) (EP X pins σ Q) X.xe s := by
  have r2 : Vals (vs ++ dvs) (us ++ ds) := r.append hd
  have hl : (us ++ ds).length = ps.length := by rw [← r2.length]; exact F.len _ _ _ _ h
  refine wpAny_call (codeAny_mono (F.run X.A X.stack s H ⟨us, []⟩ (us ++ ds) (vs ++ dvs) Q E hr I.env0 (hb s us I.kIn hl) r2 h) fun r s' hq => ?_)
  cases r with
  | error e => exact hx pins σ H s e s' I hq
  | ok fl =>
    cases fl with
    | ret u => exact I.after hq
    | next => exact False.elim hq
    | brk => exact False.elim hq
    | cont => exact False.elim hq

theorem pe_call (F : FnOk X.prog X.w X.K X.mg X.base CX k f fd ps sp) (hr : Room k X.A) (hg : Gl X x) (hm : X.mg x = some (.ref f)) (hk : PySem.W.keepIn X.K (.ref f) = true) (hb : Binds X.K fd ps ds) (hd : Vals dvs ds) (hx : Passes CX X E)
    (ha : PA X (e :: es) t) (hdb : (x == ("__debug__" : Str)) = false := by decide) (he : starEach (e :: es) X.env = (false, eval e X.env) :: starEach es X.env := by rfl) (hpl : (backTo pos (starEach es X.env)).any (·.1) = false := by rfl) :
    PE X (.Call (.Name x p) (e :: es) [] pos) (tCall sp dvs E t) := by
  intro pins s σ H Q I h
  refine wpAny_Call_Name_kw (ld_glob I hg hm ?_ hdb)
  refine PySem.W.callWith_K (h₀ := X.base) I.ok.mod.kin hk (thn (ha pos pins s σ H _ I h) fun us s1 ⟨vs, H1, I1, r, q⟩ => ⟨I1.kIn, ?_⟩) he hpl
  exact run_fn F hr hb hd hx I1 r q
structure Mk (K : PySem.W.Frag) (C f : Addr) : Prop where
  makes : PySem.W.makesIn K C = true
  init : PySem.W.findIn K (.ref C) "__init__" = some (some (.ref f))
  fn : PySem.W.isFn K (.ref f) = true
  kp : PySem.W.keepIn K (.ref C) = true

end

def PK (X : Cx) (kws : List Keyword) (t : TA) : Prop :=
  ∀ (pos : Pos) (pins : List (Addr × Obj)) (s : Shared) (σ : St) (H : Hp) (Q : List V → Hp → Prop), Inv X pins σ H s → t σ H Q → wpAny (model X.prog X.w) X.A (evalAll ((backToKw pos (keywordEach kws X.env)).map (·.2))) (AP X pins σ Q) X.xe s
section
variable {X : Cx} {CX : CXT} {k : Nat} {f C : Addr} {fd : FuncData} {ps ks : List Str} {sp : Sp} {E : XK} {x m : Str} {p pos apos kpos : Pos} {e o : Expr} {es : List Expr} {kws : List Keyword} {te ta : TE} {t tk : TA} {nm : Option Str}
structure KBinds (K : PySem.W.Frag) (fd : FuncData) (ps ks : List Str) (g : List Value → List Value → List Value) (gV : List V → List V → List V) : Prop where
  to : ∀ (s : Shared) (us ws : List Value), K.In s.heap → (g us ws).length = ps.length → BindsTo s fd ⟨us, ks.zip ws⟩ (ps.zip (g us ws))
  rel : ∀ {vs : List V} {us : List Value} {zs : List V} {ws : List Value}, Vals vs us → Vals zs ws → Vals (gV vs zs) (g us ws)
def tCallK (sp : Sp) (gV : List V → List V → List V) (E : XK) (t tk : TA) : TE := fun σ H Q => t σ H fun vs H1 => tk σ H1 fun zs H2 => sp (gV vs zs) H2 Q E
variable {g : List Value → List Value → List Value} {gV : List V → List V → List V}
end

structure FnScope (N P : List Str) (sc : Scope) : Prop where
  kind : sc.kind = .function
  co : sc.isCoroutine = false
  gen : sc.isGenerator = false
  nd : N.Nodup
  pre : N.take P.length = P
  par : ∀ x ∈ P, sc.names.lookup x = some .local ∨ sc.names.lookup x = some .cell
  nofree : ∀ y ∈ sc.names, y.2 ≠ .free

theorem bindL_out {kindOf : Str → Option NameKind} {x : Str} : ∀ {binds : List (Str × Value)} {m : Str → Option Value}, (∀ v, (x, v) ∉ binds) → bindL kindOf binds m x = m x
  | [], _, _ => rfl
  | (n, v) :: r, m, h => by
    unfold bindL
    rw [bindL_out fun w hw => h w (List.mem_cons_of_mem _ hw)]
    split
    · have : x ≠ n := by rintro rfl; exact h v List.mem_cons_self
      simp [this]
    · rfl
theorem bindC_out {kindOf : Str → Option NameKind} {x : Str} : ∀ {binds : List (Str × Value)} {m : Str → Option Value}, (∀ v, (x, v) ∉ binds) → bindC kindOf binds m x = m x
  | [], _, _ => rfl
  | (n, v) :: r, m, h => by
    unfold bindC
    rw [bindC_out fun w hw => h w (List.mem_cons_of_mem _ hw)]
    split
    · rfl
    · have : x ≠ n := by rintro rfl; exact h v List.mem_cons_self
      simp [this]
theorem bindL_get {kindOf : Str → Option NameKind} {x : Str} {v : Value} : ∀ {P : List Str} {vs : List Value} {i : Nat} {m : Str → Option Value}, P.Nodup → P[i]? = some x → vs[i]? = some v → kindOf x = some .local →
    bindL kindOf (P.zip vs) m x = some v
  | [], _, _, _, _, h, _, _ => by simp at h
  | _ :: _, [], _, _, _, _, h, _ => by simp at h
  | p :: P, w :: vs, 0, m, nd, h1, h2, hk => by
    simp at h1 h2; subst h1; subst h2
    show bindL kindOf ((p, w) :: P.zip vs) m p = _
    unfold bindL
    rw [bindL_out fun v hv => (List.nodup_cons.mp nd).1 (List.of_mem_zip hv).1, if_pos hk]
    simp
  | p :: P, w :: vs, i + 1, m, nd, h1, h2, hk => by
    show bindL kindOf ((p, w) :: P.zip vs) m x = _
    unfold bindL
    exact bindL_get (i := i) (List.nodup_cons.mp nd).2 (by simpa using h1) (by simpa using h2) hk
theorem bindC_get {kindOf : Str → Option NameKind} {x : Str} {v : Value} : ∀ {P : List Str} {vs : List Value} {i : Nat} {m : Str → Option Value}, P.Nodup → P[i]? = some x → vs[i]? = some v → kindOf x ≠ some .local →
    bindC kindOf (P.zip vs) m x = some v
  | [], _, _, _, _, h, _, _ => by simp at h
  | _ :: _, [], _, _, _, _, h, _ => by simp at h
  | p :: P, w :: vs, 0, m, nd, h1, h2, hk => by
    simp at h1 h2; subst h1; subst h2
    show bindC kindOf ((p, w) :: P.zip vs) m p = _
    unfold bindC
    rw [bindC_out fun v hv => (List.nodup_cons.mp nd).1 (List.of_mem_zip hv).1, if_neg hk]
    simp
  | p :: P, w :: vs, i + 1, m, nd, h1, h2, hk => by
    show bindC kindOf ((p, w) :: P.zip vs) m x = _
    unfold bindC
    exact bindC_get (i := i) (List.nodup_cons.mp nd).2 (by simpa using h1) (by simpa using h2) hk

def start (N : List Str) (vs : List V) : St := vs.map some ++ List.replicate (N.length - vs.length) none

def cxOf (CX : CXT) (P : Program) (w : World) (K : PySem.W.Frag) (mg : Str → Option Value) (base : Heap) (N : List Str) (qual : Str) (scope : Scope) (f : Addr) (cd : Value) (A : Around) (outer : List Env) (s : Shared) (H : Hp) (E : XK) : Cx where
  prog := P
  w := w
  K := K
  mg := mg
  base := base
  A := A.deeper (envOfC qual scope s.heap.objs.size f cd)
  N := N
  s₀ := s
  H₀ := H
  env := envOfC qual scope s.heap.objs.size f cd
  outer := outer
  stack := envOfC qual scope s.heap.objs.size f cd :: outer
  ex := []
  calm := true
  fn := fun _ => true
  pn := []
  xe := fun e s' => wpAny (model P w) (A.deeper (envOfC qual scope s.heap.objs.size f cd)) (leaving (envOfC qual scope s.heap.objs.size f cd) e) (fun _ s'' => CX outer H s E e s'') (fun e' s'' => CX outer H s E e' s'') s'

theorem cell_has {sc : Scope} {n : Nat} {x : Str} (h : sc.names.lookup x = some .cell) : ∃ c, (cellsFrom n sc.names []).lookup x = some c := by
  have q := PySem.W.cellsFrom_some sc.names n [] (.inl h)
  exact Option.isSome_iff_exists.mp q

theorem inv_start {CX : CXT} {P : Program} {w : World} {K : PySem.W.Frag} {mg : Str → Option Value} {base : Heap} {N ps : List Str} {qual : Str} {scope : Scope} {f : Addr} {cd : Value} {A : Around} {outer : List Env} {s s1 : Shared} {H : Hp} {E : XK} {us : List Value} {vs : List V}
    (S : FnScope N ps scope) (hd : A.handled = none) (e0 : Env0 P w K mg base A outer s H) (hl : vs.length = ps.length) (r : Vals vs us)
    (x : InCallC s s.heap.objs.size (bindL (envOfC qual scope s.heap.objs.size f cd).kindOf (ps.zip us) fun _ => none) (cellsFrom (s.heap.objs.size + 1) scope.names []) (bindC (envOfC qual scope s.heap.objs.size f cd).kindOf (ps.zip us) fun _ => none) s1) :
    Inv (cxOf CX P w K mg base N qual scope f cd A outer s H E) [] (start N vs) H s1 := by
  have hpl : ps.length ≤ N.length := by have := congrArg List.length S.pre; rw [List.length_take] at this; omega
  obtain ⟨h1, tk, rfl, hk⟩ := x.done
  have noA : ∀ b : Addr, b ∉ (cxOf CX P w K mg base N qual scope f cd A outer s H E).ex := fun b z => absurd (show b ∈ ([] : List Addr) from z) (by simp)
  refine ⟨⟨e0.mod, S.kind, rfl, rfl, Nat.le_refl _, fun y z c h1 h2 => ?_, fun y hy => ?_, fun y c _ h => ?_, fun _ => hd, Around.frames_deeper e0.frames, .inr ⟨rfl, rfl⟩, fun b z => absurd z (noA b), e0.bs, e0.bsz, fun b _ _ => noA b, fun b z => absurd z (noA b), e0.funs, e0.frf⟩,
    rfl, e0.bare, Un.kept hk, ⟨_, x.toInCall.ns, fun i y v h1 h2 h3 => ?_⟩, fun y c h => ⟨_, x.cell y c h⟩, e0.hok.fresh (Nat.le_refl _), fun y c h => ?_, fun p hp => absurd (show p ∈ ([] : List (Addr × Obj)) from hp) (by simp), e0.hok.kept hk, ?_⟩
  · exact name_of_addr x.apart (PySem.mem_of_lookup h1) (PySem.mem_of_lookup h2)
  · have hy : scope.names.lookup y = some .cell ∨ scope.names.lookup y = some .free := hy
    rcases hy with hy | hy
    · exact cell_has hy
    · exact absurd rfl (S.nofree _ (PySem.mem_of_lookup hy))
  · exact Nat.le_of_lt (x.above y c (PySem.mem_of_lookup h))
  · have hi : i < vs.length := by
      unfold start at h2
      by_cases hi : i < vs.length
      · exact hi
      · rw [List.getElem?_append_right (by simpa using hi)] at h2
        rw [List.getElem?_replicate] at h2
        split at h2 <;> cases h2
    have ha : vs[i]? = some v := by
      unfold start at h2
      rw [List.getElem?_append_left (by simpa using hi), List.getElem?_map] at h2
      cases e : vs[i]? with
      | none => rw [e] at h2; cases h2
      | some a => rw [e] at h2; cases h2; rfl
    obtain ⟨u, hu, rv⟩ := r.get ha
    have hp : ps[i]? = some y := by
      rw [← S.pre, List.getElem?_take_of_lt (by omega)]; exact h1
    have ndP : ps.Nodup := by rw [← S.pre]; exact S.nd.sublist (List.take_sublist _ _)
    refine ⟨u, rv, ?_⟩
    rcases S.par y (List.mem_of_getElem? hp) with k | k
    · exact .inl ⟨k, bindL_get ndP hp hu k⟩
    · obtain ⟨c, e⟩ := cell_has (n := s.heap.objs.size + 1) k
      refine .inr ⟨.inl k, c, e, ?_⟩
      have q := x.cell y c e
      rw [bindC_get ndP hp hu (by show scope.names.lookup y ≠ _; rw [k]; decide)] at q
      exact q
  · exact e0.hok.fresh (Nat.le_of_lt (x.above y c (PySem.mem_of_lookup h)))
  · unfold start
    show _ = N.length
    rw [List.length_append, List.length_map, List.length_replicate]
    omega

theorem fn_of {CX : CXT} {P : Program} {w : World} {K : PySem.W.Frag} {mg : Str → Option Value} {base : Heap} {k : Nat} {f : Addr} {name qual : Str} {params : Arguments} {body : List Stmt} {scope : Scope} {dV kV doc pm cdv ct oc : Value} {an od : Option Addr}
    {osl : Array (Option Value)} {N ps : List Str} {sp : Sp} (lk : K.lookup f = some ⟨oc, od, .func (PySem.W.fnOf name qual params body scope dV kV doc pm an cdv ct), osl⟩) (hcd : PySem.W.codeIn K cdv qual = true) (S : FnScope N ps scope)
    (len : ∀ vs H Q E, sp vs H Q E → vs.length = ps.length)
    (hbody : ∀ (A : Around) (outer : List Env) (s : Shared) (H : Hp) (vs : List V) (Q : VK) (E : XK), Room k (A.deeper (envOfC qual scope s.heap.objs.size f cdv)) → sp vs H Q E →
      ∃ t, PSs (cxOf CX P w K mg base N qual scope f cdv A outer s H E) body t ∧ t { nx := fun _ H' => Q .non H', rt := Q } (start N vs) H) :
    FnOk P w K mg base CX (k + 1) f (PySem.W.fnOf name qual params body scope dV kV doc pm an cdv ct) ps sp := by
  refine ⟨len, fun A outer s H args us vs Q E hr e0 hb r hsp => ?_⟩
  have hl := len _ _ _ _ hsp
  have KX : K.In s.heap := e0.mod.kin.keeps fun b o e => (e0.bs b o e).1
  have lim : s.heap.NoLimit := e0.mod.nolimit.keeps fun b o e => (e0.bs b o e).1
  have hkind : ∀ y ∈ ps.zip us, scope.names.lookup y.1 = some .local ∨ (scope.names.lookup y.1 = some .cell ∧ ((cellsFrom (s.heap.objs.size + 1) scope.names []).lookup y.1).isSome = true) := fun ⟨n, v⟩ hy => by
    rcases S.par n (List.of_mem_zip hy).1 with q | q
    · exact .inl q
    · exact .inr ⟨q, PySem.W.cellsFrom_some _ _ _ (.inl q)⟩
  refine codeAny_call_function hr.depth (KX _ _ lk) rfl S.co S.gen rfl (PySem.W.codeRec_of KX hcd) (hb _ _ _ _ ?_)
  refine wpAny_newFunctionEnv_cells S.kind hkind fun env he s1 x => ?_
  subst he
  refine ⟨lim.keeps x.toInCall.keep, codeAny_func ?_⟩
  obtain ⟨t, ht, hq⟩ := hbody A outer s H vs Q E (hr.deeper _) hsp
  have I : Inv (cxOf CX P w K mg base N qual scope f cdv A outer s H E) [] (start N vs) H s1 := inv_start S hr.hd e0 hl r x
  refine wpAny_mono (ht [] s1 (start N vs) H _ I hq) (fun fl s' hs => ?_) fun e s' hs => hs
  have fin : ∀ {σ' : St} {H' : Hp} {v : V} {u : Value}, Inv (cxOf CX P w K mg base N qual scope f cdv A outer s H E) [] σ' H' s' → RelV v u → Q v H' → CE outer P w H s Q u s' :=
    fun {σ' H' v u} J rv q => ⟨v, H', J.os, J.bare, J.base, J.hok, rv, q⟩
  cases fl with
  | ret u =>
    obtain ⟨v, σ', H', J, rv, q⟩ := hs
    exact fin J rv q
  | next =>
    obtain ⟨σ', H', J, q⟩ := hs
    exact fin (v := V.non) (u := Value.none) J rfl q
  | brk =>
    obtain ⟨_, _, _, q⟩ := hs
    exact False.elim q
  | cont =>
    obtain ⟨_, _, _, q⟩ := hs
    exact False.elim q
end L2

namespace L2
open PySem PySem.Spec PyProof.Rows
section
variable {X : Cx} {x : Str} {p pos : Pos} {e : Expr} {es : List Expr} {t : TA} {id T : String} {r : List V → Hp → VK → Prop}

def tCB (r : List V → Hp → VK → Prop) (t : TA) : TE := fun σ H Q => t σ H fun vs H1 => r vs H1 Q
theorem pe_callB (hc : CallR X (.builtin id) r) (hg : Gl X x) (hm : X.mg x = none) (hv : bootBuiltins x = some (.builtin id)) (ha : PA X (e :: es) t) (hn : x ≠ "__name__" := by decide) (hdb : (x == ("__debug__" : Str)) = false := by decide)
    (he : starEach (e :: es) X.env = (false, eval e X.env) :: starEach es X.env := by rfl) (hpl : (backTo pos (starEach es X.env)).any (·.1) = false := by rfl) : PE X (.Call (.Name x p) (e :: es) [] pos) (tCB r t) := by
  intro pins s σ H Q I h
  refine wpAny_Call_Name_kw (ld_blt I hg hm hv ?_ hn hdb)
  exact PyProof.Rows.callWith_builtin1 (thn (ha pos pins s σ H _ I h) fun us s1 ⟨vs, H1, I1, r1, q1⟩ => hc pins s1 σ H1 vs us Q I1 r1 q1) he hpl
theorem pe_callTy (hc : CallR X (.type T) r) (hg : Gl X x) (hm : X.mg x = none) (hv : bootBuiltins x = some (.type T)) (ha : PA X (e :: es) t) (hn : x ≠ "__name__" := by decide) (hdb : (x == ("__debug__" : Str)) = false := by decide)
    (he : starEach (e :: es) X.env = (false, eval e X.env) :: starEach es X.env := by rfl) (hpl : (backTo pos (starEach es X.env)).any (·.1) = false := by rfl) : PE X (.Call (.Name x p) (e :: es) [] pos) (tCB r t) := by
  intro pins s σ H Q I h
  refine wpAny_Call_Name_kw (ld_blt I hg hm hv ?_ hn hdb)
  exact PyProof.Rows.callWith_type1 (thn (ha pos pins s σ H _ I h) fun us s1 ⟨vs, H1, I1, r1, q1⟩ => hc pins s1 σ H1 vs us Q I1 r1 q1) he hpl
end
end L2

namespace HT
open PySem PyProof.Rows

def lexLt : List Int → List Int → Bool
  | [], [] => false
  | [], _ :: _ => true
  | _ :: _, [] => false
  | x :: xs, y :: ys => if x = y then lexLt xs ys else decide (x < y)
section
open PySem.SeqAt
open PySem.AutoSeq1 (wpAny_loadPart')
open PySem.MeetsSeq PySem.MeetsSeq2 PySem.MeetsSeq3

end

section
variable {prog : Program} {w : World} {A : Around} {E : Value → Shared → Prop} {s : Shared}

theorem cat_tup {t b : Addr} {vs ws : List Value} {Q : Value → Shared → Prop} (ht : IsTup s.heap t vs.toArray) (hb : IsTup s.heap b ws.toArray) (hv : vs ≠ [])
    (h1 : ws = [] → Q (.ref t) s) (h2 : ws ≠ [] → Q (.ref s.heap.objs.size) { s with heap := s.heap.push { cls := .type "tuple", data := .seq (vs ++ ws).toArray } })
    (hsz : vs.length + ws.length ≤ sizeLine) : wpAny (model prog w) A (binaryOp .Add (.ref t) (.ref b)) Q E s := by
  obtain ⟨⟨cls, dd, data, sl⟩, ho, hc, n, hd⟩ := id ht
  obtain ⟨⟨cls2, dd2, data2, sl2⟩, ho2, hc2, n2, hd2⟩ := id hb
  simp only at hc hd hc2 hd2
  subst hc hd hc2 hd2
  have e : vs.toArray ++ ws.toArray = (vs ++ ws).toArray := by simp
  by_cases hw : ws = []
  · exact concat_meets ⟨_, ho, rfl⟩ ⟨_, ho2, rfl⟩ noFill_tuple_add seq_tuple_add PySem.F.slot_tuple_add PySem.F.entry_tuple_add (PySem.F.args_tuple_add_2 _ _)
      (tuple_addW1 t b vs.toArray ws.toArray n n2 dd dd2 sl sl2 (by simpa using hv) (by simp [hw])) ⟨ho, ho2, h1 hw⟩
  · refine concat_meets ⟨_, ho, rfl⟩ ⟨_, ho2, rfl⟩ noFill_tuple_add seq_tuple_add PySem.F.slot_tuple_add PySem.F.entry_tuple_add (PySem.F.args_tuple_add_2 _ _)
      (tuple_addW2 t b vs.toArray ws.toArray n n2 dd dd2 sl sl2 (by simpa using hv) (by simpa using hw) (by rw [List.size_toArray, List.size_toArray]; exact hsz)) ⟨ho, ho2, ?_⟩
    rw [e]
    exact h2 hw

def sIx (n d : Nat) : Option Int → Nat
  | none => d
  | some v => if v < 0 then (v + (n : Int)).toNat else min v.toNat n
theorem sIx_none (n d : Nat) : sIx n d none = d := rfl
theorem sIx_nat (n d k : Nat) : sIx n d (some (k : Int)) = min k n := by
  show (if (k : Int) < 0 then ((k : Int) + (n : Int)).toNat else min (k : Int).toNat n) = min k n
  rw [if_neg (by omega), Int.toNat_natCast]
theorem sIx_le (n d : Nat) (hd : d ≤ n) (o : Option Int) : sIx n d o ≤ n := by
  cases o with
  | none => exact hd
  | some v =>
    show (if v < 0 then (v + (n : Int)).toNat else min v.toNat n) ≤ n
    by_cases hv : v < 0
    · rw [if_pos hv]; omega
    · rw [if_neg hv]; exact Nat.min_le_right _ _
theorem clip_eq (v : Int) (n d : Nat) : (if v < 0 then max (v + (n : Int)) 0 else min v (n : Int)) = ((sIx n d (some v) : Nat) : Int) := by
  show (if v < 0 then max (v + (n : Int)) 0 else min v (n : Int)) = (((if v < 0 then (v + (n : Int)).toNat else min v.toNat n) : Nat) : Int)
  by_cases hv : v < 0
  · simp only [if_pos hv]; omega
  · simp only [if_neg hv]; omega
theorem adjust_gen (lo hi : Option Int) (n : Nat) : Builtin.Slice.sliceAdjust lo hi 1 (n : Int) = (((sIx n 0 lo : Nat) : Int), ((sIx n n hi : Nat) : Int)) := by
  have h1 : ¬ ((1 : Int) < 0) := by omega
  unfold Builtin.Slice.sliceAdjust
  simp only [h1, if_false]
  refine Prod.ext ?_ ?_
  · cases lo with
    | none => rfl
    | some v => exact clip_eq v n 0
  · cases hi with
    | none => rfl
    | some v => exact clip_eq v n n
theorem places_gen (i j : Nat) : Builtin.Slice.slicePlaces (i : Int) (j : Int) 1 = j - i := by
  unfold Builtin.Slice.slicePlaces
  have h1 : (1 : Int) > 0 := by omega
  simp only [h1, if_true, Int.ediv_one]
  split <;> omega
theorem slicePart_ {v : Value} {o : Option Int} {Q : Option Int → Shared → Prop} (p : IsPart v o) (h : Q o s) : wpAny (model prog w) A (Builtin.Slice.slicePartIndex v) Q E s := by
  cases p with
  | none => exact slicePart_none h
  | int i t => exact slicePart_int h
theorem sliceApplied_gen {sl : Addr} {vl vu : Value} {lo hi : Option Int} {n : Nat} {Q : Int × Int × Nat → Shared → Prop} (hs : s.heap.IsSliceOf sl vl vu .none) (pl : IsPart vl lo) (pu : IsPart vu hi)
    (h : Q (((sIx n 0 lo : Nat) : Int), 1, sIx n n hi - sIx n 0 lo) s) : wpAny (model prog w) A (Builtin.Slice.sliceApplied (.ref sl) (pure (n : Int))) Q E s := by
  obtain ⟨os, hos, hcs, hds⟩ := id hs
  unfold Builtin.Slice.sliceApplied Builtin.Slice.sliceFields
  refine wpAny_bind (wpAny_bind (wpAny_field hos hds (x := vl) rfl (wpAny_bind (wpAny_field hos hds (x := vu) rfl (wpAny_bind (wpAny_field hos hds (x := .none) rfl (wpAny_pure ?_)))))))
  refine wpAny_bind (slicePart_none ?_)
  show wpAny _ _ (if ((1 : Int) == 0) = true then _ else _) _ _ s
  rw [if_neg (by decide)]
  refine wpAny_bind (slicePart_ pl (wpAny_bind (slicePart_ pu (wpAny_bind (wpAny_pure ?_)))))
  show wpAny _ _ (match Builtin.Slice.sliceAdjust lo hi 1 (n : Int) with | (lo, hi) => pure (lo, (1 : Int), Builtin.Slice.slicePlaces lo hi 1)) _ _ s
  rw [adjust_gen lo hi n]
  show wpAny _ _ (pure (((sIx n 0 lo : Nat) : Int), (1 : Int), Builtin.Slice.slicePlaces ((sIx n 0 lo : Nat) : Int) ((sIx n n hi : Nat) : Int) 1)) _ _ s
  rw [places_gen]
  exact wpAny_pure h
theorem pick_gen (xs : Array Value) (i k : Nat) : ((List.range k).filterMap fun (m : Nat) => xs[((i : Int) + (m : Int) * 1).toNat]?).toArray = ((xs.toList.drop i).take k).toArray := by
  have e : (fun (m : Nat) => xs[((i : Int) + (m : Int) * 1).toNat]?) = fun m => xs[i + m]? := by
    funext m
    have : ((i : Int) + (m : Int) * 1).toNat = i + m := by omega
    rw [this]
  rw [e]
  have := pick_run xs i k
  rw [List.filterMap_map] at this
  have e2 : ((fun x => xs[x]?) ∘ fun x => i + x) = fun m => xs[i + m]? := rfl
  rw [e2] at this
  rw [this]

theorem getItem_tuple_cut {t sl : Addr} {items : Array Value} {vl vu : Value} {lo hi : Option Int} {Q : Value → Shared → Prop} (ht : IsTup s.heap t items) (hs : s.heap.IsSliceOf sl vl vu .none) (pl : IsPart vl lo) (pu : IsPart vu hi)
    (hw : ¬ (sIx items.size 0 lo = 0 ∧ sIx items.size items.size hi = items.size))
    (h : Q (.ref s.heap.objs.size) { s with heap := s.heap.push { cls := .type "tuple", data := .seq ((items.toList.drop (sIx items.size 0 lo)).take (sIx items.size items.size hi - sIx items.size 0 lo)).toArray } })
    (hsz : items.size ≤ sizeLine) : wpAny (model prog w) A (getItem (.ref t) (.ref sl)) Q E s := by
  have htake : sizeOk (.seq ((items.toList.drop (sIx items.size 0 lo)).take (sIx items.size items.size hi - sIx items.size 0 lo)).toArray) := by
    show ((items.toList.drop (sIx items.size 0 lo)).take (sIx items.size items.size hi - sIx items.size 0 lo)).toArray.size ≤ sizeLine
    rw [List.size_toArray, List.length_take, List.length_drop, Array.length_toList]
    omega
  have hj : sIx items.size items.size hi ≤ items.size := sIx_le _ _ (Nat.le_refl _) hi
  obtain ⟨os, hos, hcs, hds⟩ := id hs
  have hTs : s.TypeIs (.ref sl) "slice" := ⟨os, hos, hcs⟩
  unfold getItem
  try with_reducible refine wpAny_holding ?_
  first | refine wpAny_bind (wpAny_pure ?_) | skip
  refine wpAny_bind (wpAny_sequenceKey ht.typeIs (by decide) ?_)
  refine wpAny_bind (wpAny_callSpecial?_slot (name := Str.ofString "__getitem__") ht.typeIs PyProof.Rows.slot_tuple_getitem
    (wpAny_call_entry PyProof.Rows.slot_tuple_getitem ht.typeIs entry_tuple_getitem ?_ (args_tuple_getitem _ _)))
  show wpAny _ _ (Builtin.Tuple.tupleItemsOf (.ref t) >>= _) _ _ s
  refine wpAny_bind (tupleItemsOf_ ht ?_)
  refine wpAny_bind (wpAny_typeOf hTs ?_)
  rw [if_pos (by decide)]
  refine wpAny_bind (sliceApplied_gen hs pl pu ?_)
  have hno : ¬ ((((sIx items.size 0 lo : Nat) : Int) == 0 && (1 : Int) == 1 && (sIx items.size items.size hi - sIx items.size 0 lo) == items.size) = true) := by
    intro q
    rw [Bool.and_eq_true, Bool.and_eq_true] at q
    have q1 : ((sIx items.size 0 lo : Nat) : Int) = 0 := eq_of_beq q.1.1
    have q2 : sIx items.size items.size hi - sIx items.size 0 lo = items.size := eq_of_beq q.2
    exact hw ⟨by omega, by omega⟩
  show wpAny _ _ (if (((sIx items.size 0 lo : Nat) : Int) == 0 && (1 : Int) == 1 && (sIx items.size items.size hi - sIx items.size 0 lo) == items.size) = true then _ else _) _ _ s
  rw [if_neg hno, pick_gen]
  first
    | exact wpAny_bind (m := Builtin.Tuple.tupleExact _) (wpAny_newObj_type (wpAny_pure ⟨_, rfl, wpAny_pure h⟩) htake)
    | exact wpAny_bind (m := Builtin.Tuple.tupleExact _) (wpAny_newObj_type (wpAny_bind (wpAny_pure (wpAny_pure ⟨_, rfl, wpAny_pure h⟩))) htake)
    | exact wpAny_bind (wpAny_bind (m := Builtin.Tuple.tupleExact _) (wpAny_newObj_type (wpAny_pure (wpAny_pure ⟨_, rfl, wpAny_pure h⟩)) htake))
    | exact wpAny_bind (wpAny_bind (m := Builtin.Tuple.tupleExact _) (wpAny_newObj_type (wpAny_pure ⟨_, rfl, wpAny_pure h⟩) htake))
end
end HT

namespace L2
open PySem PySem.Spec PyProof.Rows

abbrev TO := St → Hp → (Option Int → Hp → Prop) → Prop
def PO (X : Cx) (e : Option Expr) (t : TO) : Prop :=
  ∀ (pins : List (Addr × Obj)) (s : Shared) (σ : St) (H : Hp) (Q : Option Int → Hp → Prop), Inv X pins σ H s → t σ H Q →
    wpAny (model X.prog X.w) X.A (evalPart e X.env) (fun u s' => ∃ o H', Inv X pins σ H' s' ∧ IsPart u o ∧ Q o H') X.xe s
def tNoPart : TO := fun _ H Q => Q none H
def tPart (t : TE) : TO := fun σ H Q => t σ H fun x H1 => ∃ i, x = .int i ∧ Q (some i) H1

theorem intsAre_of {ns : List Int} : ∀ {us : List Value}, Vals (ns.map V.int) us → IntsAre us ns := by
  induction ns with
  | nil => intro us r; rw [List.map_nil] at r; cases r; exact .nil
  | cons n ns ih =>
    intro us r
    rw [List.map_cons] at r
    cases r with
    | cons r1 r2 =>
      obtain ⟨t, e⟩ := r1
      subst e
      exact .cons n t (ih r2)

section
variable {X : Cx} {e : Expr} {te : TE} {lo hi : Option Expr} {tl th : TO} {pos p2 : Pos}

theorem po_none : PO X none tNoPart := by
  intro pins s σ H Q I h
  rw [evalPart_none]
  exact wpAny_pure ⟨none, H, I, .none, h⟩
theorem po_some (h : PE X e te) : PO X (some e) (tPart te) := by
  intro pins s σ H Q I hw
  rw [evalPart_some]
  refine thn (h pins s σ H _ I hw) fun u s1 ⟨x, H1, I1, r1, q1⟩ => ?_
  obtain ⟨i, rfl, q⟩ := q1
  obtain ⟨t, rfl⟩ := r1
  exact ⟨some i, H1, I1, .int i t, q⟩

def SlR (X : Cx) (r : V → Option Int → Option Int → Hp → VK → Prop) : Prop :=
  ∀ (pins : List (Addr × Obj)) (s : Shared) (σ : St) (H : Hp) (x : V) (v vl vu : Value) (lo hi : Option Int) (sl : Addr) (Q : VK), Inv X pins σ H s → RelV x v → s.heap.IsSliceOf sl vl vu .none → IsPart vl lo → IsPart vu hi → r x lo hi H Q →
    ∃ T id, typeLookup (.type T) "__getitem__" = pure (some (.builtin id)) ∧ s.TypeIs v T ∧ wpAny (model X.prog X.w) X.A (getItem v (.ref sl)) (EP X pins σ Q) X.xe s
def tSl (r : V → Option Int → Option Int → Hp → VK → Prop) (te : TE) (tl th : TO) : TE := fun σ H Q => te σ H fun x H1 => tl σ H1 fun l H2 => th σ H2 fun u H3 => r x l u H3 Q
theorem pe_slice {r : V → Option Int → Option Int → Hp → VK → Prop} (hr : SlR X r) (he : PE X e te) (hl : PO X lo tl) (hu : PO X hi th) : PE X (.Subscript e (.Slice lo hi none p2) pos) (tSl r te tl th) := by
  intro pins s σ H Q I h
  refine Subscript_ (thn (he pins s σ H _ I h) fun v s1 ⟨x, H1, I1, r1, q1⟩ => ?_)
  refine wpAny_Slice (thn (hl pins s1 σ H1 _ I1 q1) fun vl s2 ⟨l, H2, I2, pl, q2⟩ => thn (hu pins s2 σ H2 _ I2 q2) fun vu s3 ⟨u, H3, I3, pu, q3⟩ => ?_)
  rw [evalPart_none]
  refine wpAny_pure ?_
  have I4 : Inv X pins σ H3 { s3 with heap := s3.heap.push { cls := .type "slice", data := .fields #[vl, vu, .none] } } := I3.kept (t' := s3.toks) fun b ob q => Heap.get?_push_of_some _ q
  obtain ⟨T, id, hT, ht, hg⟩ := hr pins { s3 with heap := s3.heap.push { cls := .type "slice", data := .fields #[vl, vu, .none] } } σ H3 x v vl vu l u s3.heap.objs.size Q I4 r1 (Heap.IsSliceOf.new ..) pl pu q3
  show wpAny (model X.prog X.w) X.A (subscriptTail e (.Slice lo hi none p2) v (.ref s3.heap.objs.size)) (EP X pins σ Q) X.xe { s3 with heap := s3.heap.push { cls := .type "slice", data := .fields #[vl, vu, .none] } }
  exact tail_any (ops := [.ref s3.heap.objs.size, v]) ht hT hg (by with_unfolding_all rfl)

def cutV (xs : List V) (lo hi : Option Int) : List V := (xs.drop (HT.sIx xs.length 0 lo)).take (HT.sIx xs.length xs.length hi - HT.sIx xs.length 0 lo)
theorem cutV_length (xs : List V) (lo hi : Option Int) : (cutV xs lo hi).length ≤ xs.length := by
  unfold cutV
  rw [List.length_take, List.length_drop]
  omega
def rSlT (K : PySem.W.Frag) : V → Option Int → Option Int → Hp → VK → Prop := fun x lo hi H Q => ∃ a xs, x = .ref a ∧ SqT K H a xs ∧
  ¬ (HT.sIx xs.length 0 lo = 0 ∧ HT.sIx xs.length xs.length hi = xs.length) ∧ ∀ p, H p = none → Q (.ref p) (upd H p (.tup (cutV xs lo hi)))
theorem sl_tup : SlR X (rSlT X.K) := by
  intro pins s σ H x v vl vu lo hi sl Q I rx hs pl pu h
  obtain ⟨a, xs, rfl, hx, hw, q⟩ := h
  cases rx
  obtain ⟨its, r, ht, hz⟩ := I.tuple hx
  have hlen : its.toArray.size = xs.length := by rw [List.size_toArray]; exact r.length.symm
  refine ⟨"tuple", _, PyProof.Rows.slot_tuple_getitem.lookup, ht.typeIs, ?_⟩
  refine HT.getItem_tuple_cut ht hs pl pu (by rw [hlen]; exact hw) ?_ (by rw [hlen]; exact hz)
  rw [hlen]
  refine ⟨.ref s.heap.objs.size, _, I.laid (t' := s.toks) (o := .tup (cutV xs lo hi)) (fun b ob q => Heap.get?_push_of_some _ q) (Nat.le_refl _) ?_, rfl, q _ (I.hok.fresh (Nat.le_refl _))⟩
  exact ⟨Nat.le_trans (cutV_length xs lo hi) hz, _, (r.drop (HT.sIx xs.length 0 lo)).take (HT.sIx xs.length xs.length hi - HT.sIx xs.length 0 lo), PTup.new⟩

def rLtT (K : PySem.W.Frag) : R2 := fun x y H Q => ∃ a b ns ms, x = .ref a ∧ y = .ref b ∧ SqT K H a (ns.map V.int) ∧ SqT K H b (ms.map V.int) ∧ Q (.bl (HT.lexLt ns ms)) H
def rCatT (K : PySem.W.Frag) : R2 := fun x y H Q => ∃ a b xs ys, x = .ref a ∧ y = .ref b ∧ SqT K H a xs ∧ SqT K H b ys ∧ xs ≠ [] ∧ xs.length + ys.length ≤ sizeLine ∧
  (ys = [] → Q (.ref a) H) ∧ (ys ≠ [] → ∀ p, H p = none → Q (.ref p) (upd H p (.tup (xs ++ ys))))
theorem Vals.nil_iff {xs : List V} {us : List Value} (r : Vals xs us) : us = [] ↔ xs = [] := by
  cases r with
  | nil => simp
  | cons _ _ => simp
theorem op_catT : OpR X (binaryOp .Add) (rCatT X.K) := by
  intro pins s σ H x y v u Q I rx ry h
  obtain ⟨a, b, xs, ys, rfl, rfl, ha, hb, hx, hz, q1, q2⟩ := h
  cases rx
  cases ry
  obtain ⟨its, r1, p1, _⟩ := I.tuple ha
  obtain ⟨its2, r2, p2, _⟩ := I.tuple hb
  refine HT.cat_tup p1 p2 (fun z => hx (r1.nil_iff.mp z)) (fun z => ⟨.ref a, H, I, rfl, q1 (r2.nil_iff.mp z)⟩) (fun z => ?_) (by rw [← r1.length, ← r2.length]; exact hz)
  refine ⟨.ref s.heap.objs.size, _, I.laid (t' := s.toks) (o := .tup (xs ++ ys)) (fun b ob q => Heap.get?_push_of_some _ q) (Nat.le_refl _) ?_, rfl, q2 (fun w => z (r2.nil_iff.mpr w)) _ (I.hok.fresh (Nat.le_refl _))⟩
  exact ⟨by rw [List.length_append]; exact hz, _, r1.append r2, PTup.new⟩
end
end L2

namespace L2
open PySem PySem.Spec PyProof.Rows

def ixN (n : Nat) (i : Int) : Option Nat := if 0 ≤ i then (if i < n then some i.toNat else none) else if -(n : Int) ≤ i then some (i + n).toNat else none
def atI {α : Type} (xs : List α) (i : Int) : Option α := (ixN xs.length i).bind fun j => xs[j]?
theorem ixN_seq {n : Nat} {i : Int} {j : Nat} (h : ixN n i = some j) : seqIndex? i n = some j ∧ j < n ∧ -(n : Int) ≤ i ∧ i < n := by
  unfold ixN at h
  by_cases h0 : 0 ≤ i
  · rw [if_pos h0] at h
    by_cases h1 : i < n
    · rw [if_pos h1] at h
      have e : i.toNat = j := Option.some.inj h
      exact ⟨by rw [seqIndex_of h0 h1, e], by omega, by omega, h1⟩
    · rw [if_neg h1] at h; cases h
  · rw [if_neg h0] at h
    by_cases h1 : -(n : Int) ≤ i
    · rw [if_pos h1] at h
      have e : (i + n).toNat = j := Option.some.inj h
      exact ⟨by rw [seqIndex_neg (by omega) h1, e], by omega, h1, by omega⟩
    · rw [if_neg h1] at h; cases h
theorem atI_get {α : Type} {xs : List α} {i : Int} {v : α} (h : atI xs i = some v) : ∃ j, seqIndex? i xs.length = some j ∧ xs[j]? = some v ∧ j < xs.length ∧ -(xs.length : Int) ≤ i ∧ i < xs.length := by
  unfold atI at h
  cases e : ixN xs.length i with
  | none => rw [e] at h; cases h
  | some j =>
    rw [e] at h
    obtain ⟨h1, h2, h3, h4⟩ := ixN_seq e
    exact ⟨j, h1, h, h2, h3, h4⟩
theorem atI_nat {α : Type} {xs : List α} {j : Nat} {v : α} (h : xs[j]? = some v) : atI xs (j : Int) = some v := by
  have hj : j < xs.length := (List.getElem?_eq_some_iff.mp h).1
  have e : ixN xs.length (j : Int) = some j := by
    unfold ixN
    rw [if_pos (by omega), if_pos (by omega)]; simp
  unfold atI; rw [e]; exact h
def PlainIx (b : Expr) : Prop := ∀ o i, subscripted b false o i = operate [o, i] (getItem o i)
def IxR (X : Cx) (r : R2) : Prop :=
  ∀ (value slice : Expr) (pins : List (Addr × Obj)) (s : Shared) (σ : St) (H : Hp) (x y : V) (v u : Value) (Q : VK), Inv X pins σ H s → RelV x v → RelV y u → r x y H Q →
    subscripted slice false v u = operate [v, u] (getItem v u) → wpAny (model X.prog X.w) X.A (subscriptTail value slice v u) (EP X pins σ Q) X.xe s
def MtR (X : Cx) (id : String) (r : V → List V → Hp → VK → Prop) : Prop :=
  ∀ (pins : List (Addr × Obj)) (s : Shared) (σ : St) (H : Hp) (x : V) (xs : List V) (v : Value) (us : List Value) (Q : VK), Inv X pins σ H s → RelV x v → Vals xs us → r x xs H Q →
    wpAny (model X.prog X.w) X.A (call (.builtin id) (v :: us)) (EP X pins σ Q) X.xe s
section
variable {X : Cx} {a b : Expr} {ta tb : TE} {pos : Pos}
theorem pe_ix {r : R2} (hr : IxR X r) (ha : PE X a ta) (hb : PE X b tb) (hs : PlainIx b) : PE X (.Subscript a b pos) (tOp r ta tb) := by
  intro pins s σ H Q I h
  exact Subscript_ (binT ha hb I h fun v u s2 x y H2 I2 rx ry q => hr a b pins s2 σ H2 x y v u Q I2 rx ry q (hs _ _))

def rIxL (K : PySem.W.Frag) : R2 := fun x y H Q => ∃ p xs i v, x = .ref p ∧ y = .int i ∧ SqL K H p xs ∧ atI xs i = some v ∧ Q v H
def rIxT (K : PySem.W.Frag) : R2 := fun x y H Q => ∃ p xs i v, x = .ref p ∧ y = .int i ∧ SqT K H p xs ∧ atI xs i = some v ∧ Q v H
def rIxS : R2 := fun x y H Q => ∃ z i c, x = .str z ∧ y = .int i ∧ z.length ≤ sizeLine ∧ atI z.cps.toList i = some c ∧ Q (.str ⟨#[c]⟩) H
theorem ix_list : IxR X (rIxL X.K) := by
  intro value slice pins s σ H x y v u Q I rx ry h hs
  obtain ⟨p, xs, i, z, rfl, rfl, hq, he, q⟩ := h
  cases rx
  obtain ⟨t, rfl⟩ := ry
  obtain ⟨its, r, pl, hz⟩ := I.list hq
  obtain ⟨j, h1, h2, h3, h4, h5⟩ := atI_get he
  obtain ⟨w, ew, rw'⟩ := r.get h2
  have hl := r.length
  have hn := line63
  have fin : EP X pins σ Q w s := ⟨z, H, I, rw', q⟩
  by_cases h0 : 0 ≤ i
  · have hj : i.toNat = j := by
      rw [seqIndex_of h0 h5] at h1
      exact Option.some.inj h1
    exact item_listR pl.isList h0 (by omega) (by rw [hj]; simpa using ew) fin hs
  · have hj : (i + (its.toArray.size : Int)).toNat = j := by
      rw [seqIndex_neg (by omega) h4] at h1
      rw [List.size_toArray, ← hl]
      exact Option.some.inj h1
    exact subscriptTail_builtinR (x := w) pl.isList.typeIs slot_list_getitem.lookup
      (wpAny_getItem_list_neg (Q := fun r s' => r = w ∧ EP X pins σ Q r s') pl.isList (by omega) (by rw [List.size_toArray] <;> omega) (by omega) (by rw [hj]; simpa using ew) ⟨rfl, fin⟩) hs
theorem ix_tup : IxR X (rIxT X.K) := by
  intro value slice pins s σ H x y v u Q I rx ry h hs
  obtain ⟨p, xs, i, z, rfl, rfl, hq, he, q⟩ := h
  cases rx
  obtain ⟨t, rfl⟩ := ry
  obtain ⟨its, r, pl, hz⟩ := I.tuple hq
  obtain ⟨j, h1, h2, h3, h4, h5⟩ := atI_get he
  obtain ⟨w, ew, rw'⟩ := r.get h2
  have hl := r.length
  have hn := line63
  have fin : EP X pins σ Q w s := ⟨z, H, I, rw', q⟩
  exact subscriptTail_builtinR (x := w) pl.typeIs slot_tuple_getitem.lookup
    (getItem_tuple (j := j) (Q := fun r s' => r = w ∧ EP X pins σ Q r s') pl (by omega) (by omega) (by rw [List.size_toArray, ← hl]; exact h1) (by simpa using ew) ⟨rfl, fin⟩) hs
def rIx (K : PySem.W.Frag) : R2 := fun x y H Q => rIxL K x y H Q ∨ rIxT K x y H Q ∨ rIxS x y H Q
theorem mapSeq_set (its : List Value) (n j : Nat) (u : Value) : Obj.mapSeq (·.setIfInBounds j u) { cls := .type "list", data := .seq its.toArray n } = { cls := .type "list", data := .seq (its.set j u).toArray n } := by
  simp [Obj.mapSeq]
theorem Inv.lst {pins : List (Addr × Obj)} {σ : St} {H : Hp} {s : Shared} {p : Addr} {xs : List V} (I : Inv X pins σ H s) (h : H p = some (.lst xs)) :
    ∃ (its : List Value) (n : Nat), Vals xs its ∧ s.heap.get? p = some { cls := .type "list", data := .seq its.toArray n } ∧ xs.length ≤ sizeLine := by
  obtain ⟨z, its, n, r, e⟩ := I.hok p _ h
  exact ⟨its, n, r, e, z⟩
theorem Inv.lstUpd {pins : List (Addr × Obj)} {σ : St} {H : Hp} {s : Shared} {p : Addr} {xs ys : List V} {its its' : List Value} {n n' : Nat} {f : Obj → Obj} (I : Inv X pins σ H s) (h : H p = some (.lst xs))
    (ho : s.heap.get? p = some { cls := .type "list", data := .seq its.toArray n }) (hf : f { cls := .type "list", data := .seq its.toArray n } = { cls := .type "list", data := .seq its'.toArray n' }) (r : Vals ys its') (hz : ys.length ≤ sizeLine) (t : Nat) :
    Inv X pins σ (upd H p (.lst ys)) { s with heap := s.heap.update p f, toks := t } := by
  have e : (s.heap.update p f).get? p = some { cls := .type "list", data := .seq its'.toArray n' } := by
    rw [Heap.get?_update_self f ho (by rw [hf] <;> rfl), hf]
  refine I.write (x := p) (e := p) (by rw [h]; trivial) (.inl rfl) (fun b u hb q => (Heap.get?_update_other _ _ (Ne.symm hb)).trans q) ⟨_, e⟩ ?_
  exact ⟨hz, its', n', r, e⟩
def rSetL : V → V → V → Hp → (Hp → Prop) → Prop := fun o i v H Q => ∃ p xs k j, o = .ref p ∧ i = .int k ∧ H p = some (.lst xs) ∧ ixN xs.length k = some j ∧ Q (upd H p (.lst (xs.set j v)))
theorem set_list : PSet X rSetL := by
  intro pins s σ H o i v ov iv u Q I ro ri rv h
  obtain ⟨p, xs, k, j, rfl, rfl, hp, hj, q⟩ := h
  cases ro
  obtain ⟨t, rfl⟩ := ri
  obtain ⟨its, n, r, ho, hz⟩ := I.lst hp
  obtain ⟨h1, h2, h3, h4⟩ := ixN_seq hj
  have hl := r.length
  have hn := line63
  have I' : Inv X pins σ (upd H p (.lst (xs.set j v))) { s with heap := s.heap.update p (Obj.mapSeq (·.setIfInBounds j u)) } :=
    I.lstUpd hp ho (mapSeq_set its n j u) (r.set rv j) (by rw [List.length_set]; exact hz) s.toks
  by_cases h0 : 0 ≤ k
  · have hk : k.toNat = j := by
      rw [seqIndex_of h0 h4] at h1
      exact Option.some.inj h1
    exact PySem.W.ki_setAt ho h0 (by omega) (by rw [List.size_toArray, ← hl]; exact h4) (by rw [hk]; exact ⟨_, I', q⟩)
  · have hk : (k + (its.toArray.size : Int)).toNat = j := by
      rw [seqIndex_neg (by omega) h3] at h1
      rw [List.size_toArray, ← hl]
      exact Option.some.inj h1
    exact PySem.W.ki_setBack ho (by omega) (by rw [List.size_toArray, ← hl]; exact h3) (by omega) (by rw [hk]; exact ⟨_, I', q⟩)

theorem slice_bounds (lo hi : Option Int) (n : Nat) : (sliceBounds lo hi none n).1 = ((HT.sIx n 0 lo : Nat) : Int) ∧ (sliceBounds lo hi none n).2.1 = ((HT.sIx n n hi : Nat) : Int) ∧ (sliceBounds lo hi none n).2.2 = 1 := by
  refine ⟨?_, ?_, rfl⟩
  · cases lo with
    | none => simp [sliceBounds, HT.sIx]
    | some i =>
      simp only [sliceBounds, HT.sIx, Option.getD_none, show (1 : Int) > 0 by decide, if_true]
      by_cases h : i < 0
      · simp only [h, if_true] <;> omega
      · simp only [h, if_false] <;> omega
  · cases hi with
    | none => simp [sliceBounds, HT.sIx]
    | some i =>
      simp only [sliceBounds, HT.sIx, Option.getD_none, show (1 : Int) > 0 by decide, if_true]
      by_cases h : i < 0
      · simp only [h, if_true] <;> omega
      · simp only [h, if_false] <;> omega
theorem slicePick_cut (its : List Value) (lo hi : Option Int) : slicePick its.toArray lo hi none = ((its.drop (HT.sIx its.length 0 lo)).take (HT.sIx its.length its.length hi - HT.sIx its.length 0 lo)).toArray := by
  obtain ⟨h1, h2, h3⟩ := slice_bounds lo hi its.toArray.size
  unfold slicePick
  rw [h1, h2, h3]
  simp only [sliceRange_one, pick_run, List.size_toArray] <;> rfl
def rSlL (K : PySem.W.Frag) : V → Option Int → Option Int → Hp → VK → Prop := fun x lo hi H Q => ∃ a xs, x = .ref a ∧ SqL K H a xs ∧ ∀ p, H p = none → Q (.ref p) (upd H p (.lst (cutV xs lo hi)))
theorem sl_list : SlR X (rSlL X.K) := by
  intro pins s σ H x v vl vu lo hi sl Q I rx hs pl pu h
  obtain ⟨a, xs, rfl, hx, q⟩ := h
  cases rx
  obtain ⟨its, r, ht, hz⟩ := I.list hx
  have hlen := r.length
  refine ⟨"list", _, slot_list_getitem.lookup, ht.isList.typeIs, ?_⟩
  refine wpAny_getItem_list_slice ht.isList hs pl pu .none (by simp) ?_ (by rw [List.size_toArray] <;> omega)
  rw [slicePick_cut, ← hlen]
  refine ⟨.ref s.heap.objs.size, _, I.laid (t' := s.toks) (o := .lst (cutV xs lo hi)) (fun b ob q => Heap.get?_push_of_some _ q) (Nat.le_refl _) ?_, rfl, q _ (I.hok.fresh (Nat.le_refl _))⟩
  exact ⟨Nat.le_trans (cutV_length xs lo hi) hz, _, 0, (r.drop (HT.sIx xs.length 0 lo)).take (HT.sIx xs.length xs.length hi - HT.sIx xs.length 0 lo), Heap.get?_push_size _ rfl⟩

def flatV : V → Bool
  | .non => true
  | .bl _ => true
  | .int _ => true
  | .str _ => true
  | _ => false
def eqV : V → V → Bool
  | .non, .non => true
  | .bl a, .bl b => a == b
  | .bl a, .int b => (if a then 1 else 0) == b
  | .int a, .bl b => a == (if b then 1 else 0)
  | .int a, .int b => a == b
  | .str a, .str b => a == b
  | _, _ => false
theorem eqAt_V {A : Around} {s : Shared} {y x : V} {u v : Value} (ry : RelV y u) (rx : RelV x v) (fy : flatV y = true) (fx : flatV x = true) : SeqAt.EqAt A s u v (eqV y x) := by
  cases y with
  | non =>
    cases ry
    cases x with
    | non => cases rx; exact SeqAt.EqAt.same _
    | bl b => cases rx; exact SeqAt.EqAt.none_bool b
    | int b => obtain ⟨t, rfl⟩ := rx; exact SeqAt.EqAt.none_int b t
    | str b => obtain ⟨t, rfl⟩ := rx; exact SeqAt.EqAt.none_str b t
    | _ => exact absurd (show false = true from fx) Bool.false_ne_true
  | bl a =>
    cases ry
    cases x with
    | non => cases rx; exact SeqAt.EqAt.bool_none a
    | bl b => cases rx; exact SeqAt.EqAt.bool_bool a b
    | int b => obtain ⟨t, rfl⟩ := rx; exact SeqAt.EqAt.bool_int a b t
    | str b => obtain ⟨t, rfl⟩ := rx; exact SeqAt.EqAt.bool_str a b t
    | _ => exact absurd (show false = true from fx) Bool.false_ne_true
  | int a =>
    obtain ⟨t', rfl⟩ := ry
    cases x with
    | non => cases rx; exact SeqAt.EqAt.int_none a t'
    | bl b => cases rx; exact SeqAt.EqAt.int_bool a t' b
    | int b => obtain ⟨t, rfl⟩ := rx; exact SeqAt.EqAt.int_int a t' b t
    | str b => obtain ⟨t, rfl⟩ := rx; exact SeqAt.EqAt.int_str a t' b t
    | _ => exact absurd (show false = true from fx) Bool.false_ne_true
  | str a =>
    obtain ⟨t', rfl⟩ := ry
    cases x with
    | non => cases rx; exact SeqAt.EqAt.str_none a t'
    | bl b => cases rx; exact SeqAt.EqAt.str_bool a t' b
    | int b => obtain ⟨t, rfl⟩ := rx; exact SeqAt.EqAt.str_int a t' b t
    | str b => obtain ⟨t, rfl⟩ := rx; exact SeqAt.EqAt.str_str a t' b t
    | _ => exact absurd (show false = true from fx) Bool.false_ne_true
  | _ => exact absurd (show false = true from fy) Bool.false_ne_true
def eqU (x : V) (u : Value) : Bool := match u with
  | .none => eqV .non x
  | .bool b => eqV (.bl b) x
  | .int i _ => eqV (.int i) x
  | .str z _ => eqV (.str z) x
  | _ => false
theorem eqU_of {x y : V} {u : Value} (r : RelV y u) (f : flatV y = true) : eqU x u = eqV y x := by
  cases y with
  | non => cases r; rfl
  | bl b => cases r; rfl
  | int i => obtain ⟨t, rfl⟩ := r; rfl
  | str z => obtain ⟨t, rfl⟩ := r; rfl
  | _ => exact absurd (show false = true from f) Bool.false_ne_true
theorem any_eqU {x : V} : ∀ {xs : List V} {us : List Value}, Vals xs us → xs.all flatV = true → us.any (eqU x) = xs.any fun y => eqV y x
  | _, _, .nil, _ => rfl
  | y :: xs, u :: us, .cons r t, f => by
    rw [List.all_cons, Bool.and_eq_true] at f
    rw [List.any_cons, List.any_cons, eqU_of r f.1, any_eqU t f.2]
theorem mem_eqAt {A : Around} {s : Shared} {x : V} {v : Value} (rx : RelV x v) (fx : flatV x = true) : ∀ {xs : List V} {us : List Value}, Vals xs us → xs.all flatV = true → ∀ u ∈ us, SeqAt.EqAt A s u v (eqU x u)
  | _, _, .nil, _ => fun u hu => by cases hu
  | y :: xs, u :: us, .cons r t, f => fun u' hu => by
    rw [List.all_cons, Bool.and_eq_true] at f
    rcases List.mem_cons.mp hu with rfl | hu
    · rw [eqU_of r f.1]; exact eqAt_V r rx f.1 fx
    · exact mem_eqAt rx fx t f.2 u' hu
def inV (x : V) (xs : List V) : Bool := xs.any fun y => eqV y x
def rIn (K : PySem.W.Frag) (neg : Bool) : R2 := fun x y H Q => ∃ p xs, y = .ref p ∧ (SqL K H p xs ∨ SqT K H p xs) ∧ flatV x = true ∧ xs.all flatV = true ∧ Q (.bl (if neg then !inV x xs else inV x xs)) H
theorem op_in_seq : OpR X (compareOp .In) (rIn X.K false) := by
  intro pins s σ H x y v u Q I rx ry h
  obtain ⟨p, xs, rfl, hq, fx, fs, q⟩ := h
  cases ry
  rcases hq with hq | hq
  · obtain ⟨its, r, pl, hz⟩ := I.list hq
    refine SeqAt.in_listAt (eqU x) pl.isList (fun w hw => mem_eqAt rx fx r fs w (by simpa using hw)) ⟨.bl _, H, I, rfl, ?_⟩
    rw [show its.toArray.any (eqU x) = its.any (eqU x) by simp, any_eqU r fs]
    exact q
  · obtain ⟨its, r, pl, hz⟩ := I.tuple hq
    refine SeqAt.in_tupleAt (eqU x) pl (fun w hw => mem_eqAt rx fx r fs w (by simpa using hw)) ⟨.bl _, H, I, rfl, ?_⟩
    rw [show its.toArray.any (eqU x) = its.any (eqU x) by simp, any_eqU r fs]
    exact q
theorem op_notIn_seq : OpR X (compareOp .NotIn) (rIn X.K true) := by
  intro pins s σ H x y v u Q I rx ry h
  obtain ⟨p, xs, rfl, hq, fx, fs, q⟩ := h
  cases ry
  rcases hq with hq | hq
  · obtain ⟨its, r, pl, hz⟩ := I.list hq
    refine SeqAt.notIn_listAt (eqU x) pl.isList (fun w hw => mem_eqAt rx fx r fs w (by simpa using hw)) ⟨.bl _, H, I, rfl, ?_⟩
    rw [show its.toArray.any (eqU x) = its.any (eqU x) by simp, any_eqU r fs]
    exact q
  · obtain ⟨its, r, pl, hz⟩ := I.tuple hq
    refine SeqAt.notIn_tupleAt (eqU x) pl (fun w hw => mem_eqAt rx fx r fs w (by simpa using hw)) ⟨.bl _, H, I, rfl, ?_⟩
    rw [show its.toArray.any (eqU x) = its.any (eqU x) by simp, any_eqU r fs]
    exact q
theorem call_len_seq : CallR X (.builtin "len") (fun xs H Q => ∃ p ys, xs = [.ref p] ∧ (SqL X.K H p ys ∨ SqT X.K H p ys) ∧ Q (.int ys.length) H) := by
  intro pins s σ H xs us Q I r h
  obtain ⟨p, ys, rfl, hq, q⟩ := h
  obtain ⟨u, rfl, rx⟩ := vals1 r
  cases rx
  have hn := line63
  rcases hq with hq | hq
  · obtain ⟨its, r', pl, hz⟩ := I.list hq
    have hlen := r'.length
    exact Calls.call_len_list pl.isList (by simp only [List.size_toArray] <;> omega) ⟨.int ys.length, H, I.tok _, ⟨s.toks + 1, by rw [List.size_toArray, hlen]⟩, q⟩
  · obtain ⟨its, r', pl, hz⟩ := I.tuple hq
    have hlen := r'.length
    exact len_tuple pl (by simp only [List.size_toArray] <;> omega) ⟨.int ys.length, H, I.tok _, ⟨s.toks + 1, by rw [List.size_toArray, hlen]⟩, q⟩
theorem call_tuple_of : CallR X (.type "tuple") (fun xs H Q => ∃ p ys, xs = [.ref p] ∧ ((SqL X.K H p ys ∧ ∀ l, H l = none → Q (.ref l) (upd H l (.tup ys))) ∨ (SqT X.K H p ys ∧ Q (.ref p) H))) := by
  intro pins s σ H xs us Q I r h
  obtain ⟨p, ys, rfl, h⟩ := h
  obtain ⟨u, rfl, rx⟩ := vals1 r
  cases rx
  rcases h with ⟨hq, q⟩ | ⟨hq, q⟩
  · obtain ⟨its, r', pl, hz⟩ := I.list hq
    have hlen := r'.length
    refine call_tuple_list pl.isList (fun h' kp => ?_) (by simp only [List.size_toArray] <;> omega)
    have I1 : Inv X pins σ H { s with heap := h' } := I.kept (t' := s.toks) kp
    have I2 : Inv X pins σ (upd H h'.objs.size (.tup ys)) { s with heap := h'.push { cls := .type "tuple", data := .seq its.toArray } } :=
      I1.laid (t' := s.toks) (fun b o e => Heap.get?_push_of_some _ e) (Nat.le_refl _) (show ObjOk X.prog X.w _ _ _ (.tup ys) from ⟨hz, its, r', PTup.new⟩)
    exact ⟨.ref h'.objs.size, _, I2, rfl, q _ (I1.hok.fresh (Nat.le_refl _))⟩
  · obtain ⟨its, r', pl, hz⟩ := I.tuple hq
    exact call_tuple_same pl ⟨.ref p, H, I, rfl, q⟩

def tyV (K : PySem.W.Frag) (T : String) (x : V) (H : Hp) : Prop := match x with
  | .str _ => T = "str"
  | .int _ => T = "int"
  | .ref p => (T = "list" ∧ ∃ xs, SqL K H p xs) ∨ (T = "tuple" ∧ ∃ o, K.lookup p = some o ∧ o.cls = .type "tuple" ∧ o.dict = none) ∨
      (T = "dict" ∧ ((∃ kvs, H p = some (.dK kvs)) ∨ ∃ kvs, H p = some (.dT kvs))) ∨ (T = "set" ∧ ∃ S n, H p = some (.set S n))
  | _ => False
theorem tyV_is {pins : List (Addr × Obj)} {σ : St} {H : Hp} {s : Shared} {T : String} {x : V} {v : Value} (I : Inv X pins σ H s) (r : RelV x v) (ty : tyV X.K T x H) :
    s.TypeIs v T ∧ ∀ a, v = .ref a → ∃ ob, s.heap.get? a = some ob ∧ ob.dict = none := by
  cases x with
  | str z =>
    obtain ⟨t, rfl⟩ := r
    cases (show T = "str" from ty)
    exact ⟨typeIs_str s z t, fun _ e => nomatch e⟩
  | int i =>
    obtain ⟨t, rfl⟩ := r
    cases (show T = "int" from ty)
    exact ⟨typeIs_int s i t, fun _ e => nomatch e⟩
  | ref p =>
    cases r
    rcases ty with ⟨rfl, xs, hq⟩ | ⟨rfl, o, hk, hc, hd⟩ | ⟨rfl, hk⟩ | ⟨rfl, S, n, hk⟩
    · obtain ⟨its, _, pl, _⟩ := I.list hq
      refine ⟨pl.isList.typeIs, fun a e => ?_⟩
      cases e
      obtain ⟨o, n, e, c, hd, _⟩ := pl
      exact ⟨o, e, hd⟩
    · refine ⟨⟨o, I.kIn p o hk, hc⟩, fun a e => ?_⟩
      cases e
      exact ⟨o, I.kIn _ o hk, hd⟩
    · have z : ∃ o, s.heap.get? p = some o ∧ o.ExactDict := by
        rcases hk with ⟨kvs, hk⟩ | ⟨kvs, hk⟩
        · obtain ⟨_, _, _, _, o, _, _, e, ex, _⟩ := I.hok p _ hk
          exact ⟨o, e, ex⟩
        · obtain ⟨_, _, _, _, o, _, _, e, ex, _⟩ := I.hok p _ hk
          exact ⟨o, e, ex⟩
      obtain ⟨o, e, ex⟩ := z
      refine ⟨⟨o, e, ex.1⟩, fun a e2 => ?_⟩
      cases e2
      exact ⟨o, e, ex.2.1⟩
    · obtain ⟨o, _, _, _, e, ex, _⟩ := I.hok p _ hk
      refine ⟨⟨o, e, ex.1⟩, fun a e2 => ?_⟩
      cases e2
      exact ⟨o, e, ex.2.1⟩
  | _ => exact False.elim ty
def tBM0 (K : PySem.W.Frag) (T : String) (r : V → List V → Hp → VK → Prop) (to : TE) : TE := fun σ H Q => to σ H fun x H1 => tyV K T x H1 ∧ r x [] H1 Q
def tBM (K : PySem.W.Frag) (T : String) (r : V → List V → Hp → VK → Prop) (to : TE) (t : TA) : TE := fun σ H Q => to σ H fun x H1 => tyV K T x H1 ∧ t σ H1 fun xs H2 => r x xs H2 Q
variable {o e : Expr} {es : List Expr} {to : TE} {t : TA} {name : Str} {apos cpos : Pos} {T id : String} {r : V → List V → Hp → VK → Prop}
theorem pe_bm (pa : PlainAttrs T) (slot : Slot T name id) (hty : typeOf (.builtin id) = pure (.type "method_descriptor")) (hm : MtR X id r) (ho : PE X o to) (ha : PA X (e :: es) t)
    (hbase : attributeBase o name X.env (eval o X.env) = eval o X.env := by rfl)
    (hfew : ((backTo cpos (starEach (e :: es) X.env)).all (fun x => !x.1) && (backToKw cpos (keywordEach [] X.env)).all (fun x => x.1.isSome)
      && decide ((e :: es).length + ([] : List Keyword).length + (if ([] : List Keyword).isEmpty then 0 else 1) < 30)) = true := by rfl)
    (hline : (apos.endLine == cpos.line) = true := by rfl) (hs : starEach (e :: es) X.env = (false, eval e X.env) :: starEach es X.env := by rfl) (hplain : (backTo cpos (starEach es X.env)).any (·.1) = false := by rfl) :
    PE X (.Call (.Attribute o name apos) (e :: es) [] cpos) (tBM X.K T r to t) := by
  intro pins s σ H Q I h
  refine wpAny_Call_method_late hbase hfew hline rfl (thn (ho pins s σ H _ I h) fun v s1 ⟨x, H1, I1, r1, ty, q1⟩ => ?_)
  obtain ⟨h1, h2⟩ := tyV_is I1 r1 ty
  refine ⟨T, id, pa, slot, hty, h1, h2, ?_⟩
  have hA := ha cpos pins s1 σ H1 _ I1 q1
  rw [hs] at hA ⊢
  refine Calls.callWith_builtin (by show (false || (backTo cpos (starEach es X.env)).any (·.1)) = false; rw [hplain] <;> rfl) (Calls.evalArgs_plain ?_)
  exact thn hA fun us s2 ⟨vs, H2, I2, r2, q2⟩ => hm pins s2 σ H2 x vs v us Q I2 r1 r2 q2
end
end L2

namespace L2
open PySem PySem.Spec PyProof.Rows

def MtM (X : Cx) (id : String) (r : V → List V → Hp → VK → Prop) : Prop :=
  ∀ (pins : List (Addr × Obj)) (s : Shared) (σ : St) (H : Hp) (x : V) (xs : List V) (v : Value) (us : List Value) (Q : VK), Inv X pins σ H s → RelV x v → Vals xs us → r x xs H Q →
    wpAny (model X.prog X.w) X.A (call (.builtin id) (v :: us)) (EP X pins σ Q) X.xe s

theorem Vals.one : ∀ {x : V} {us : List Value}, Vals [x] us → ∃ u, us = [u] ∧ RelV x u
  | _, _, .cons r .nil => ⟨_, rfl, r⟩
theorem Vals.eraseIdx : ∀ {xs : List V} {us : List Value} (i : Nat), Vals xs us → Vals (xs.eraseIdx i) (us.eraseIdx i)
  | _, _, _, .nil => .nil
  | _, _, 0, .cons _ t => t
  | _, _, i + 1, .cons r t => .cons r (Vals.eraseIdx i t)
theorem Vals.reverse {xs : List V} {us : List Value} (h : Vals xs us) : Vals xs.reverse us.reverse := by
  induction h with
  | nil => exact .nil
  | cons r t ih => rw [List.reverse_cons, List.reverse_cons]; exact Vals.append ih (.cons r .nil)
theorem len_erase {α : Type} : ∀ (l : List α) (i : Nat), (l.eraseIdx i).length ≤ l.length
  | [], _ => Nat.le_refl _
  | _ :: _, 0 => Nat.le_succ _
  | _ :: r, i + 1 => Nat.succ_le_succ (len_erase r i)
section
variable {X : Cx} {pins : List (Addr × Obj)} {σ : St} {H : Hp} {s : Shared} {l b : Addr} {xs ys zs : List V}

theorem Inv.lset {its its' : List Value} {n : Nat} {f : Array Value → Array Value} {t' : Nat} (I : Inv X pins σ H s) (hH : H l = some (.lst xs))
    (e : s.heap.get? l = some { cls := .type "list", data := .seq its.toArray n }) (hf : f its.toArray = its'.toArray) (hv : Vals ys its') (hz : ys.length ≤ sizeLine) :
    Inv X pins σ (upd H l (.lst ys)) { s with heap := s.heap.update l (Obj.mapSeq f), toks := t' } := by
  have q := PySem.IsL.update e f
  rw [hf] at q
  refine I.write (x := l) (e := l) (by rw [hH]; exact trivial) (.inl rfl) (fun b' u hb hu => (Heap.get?_update_other s.heap (Obj.mapSeq f) (Ne.symm hb)).trans hu) ⟨_, q⟩ ?_
  exact ⟨hz, its', _, hv, q⟩
theorem Inv.lstM (I : Inv X pins σ H s) (hH : H l = some (.lst xs)) : xs.length ≤ sizeLine ∧ ∃ (its : List Value) (n : Nat), Vals xs its ∧ xs.length = its.length ∧ s.heap.get? l = some { cls := .type "list", data := .seq its.toArray n } := by
  obtain ⟨z, its, n, r, e⟩ := I.hok l _ hH
  exact ⟨z, its, n, r, r.length, e⟩

theorem notLongL {n : Nat} (h : n ≤ sizeLine) : Builtin.List.listTooLong n = false := by
  unfold Builtin.List.listTooLong
  exact decide_eq_false (by omega)
end

section
variable {X : Cx}

def rAppend : V → List V → Hp → VK → Prop := fun x vs H Q => ∃ l xs y, x = .ref l ∧ vs = [y] ∧ H l = some (.lst xs) ∧ xs.length < sizeLine ∧ Q .non (upd H l (.lst (xs ++ [y])))
theorem mt_append : MtM X "list.append" rAppend := by
  intro pins s σ H x vs v us Q I rx rv h
  obtain ⟨l, xs, y, rfl, rfl, hH, hz, q⟩ := h
  cases rx
  obtain ⟨u, rfl, ru⟩ := rv.one
  obtain ⟨z, its, n, r, hl, e⟩ := I.lstM hH
  refine call_meets F.slot_list_append ⟨_, e, rfl⟩ F.entry_list_append (F.args_list_append_2 _ _) (PySem.list_append l its.toArray n u (by rw [List.size_toArray]; omega)) ⟨e, ?_⟩
  refine ⟨.non, _, I.lset (its' := its ++ [u]) hH e (by simp) (r.append (.cons ru .nil)) ?_, rfl, q⟩
  rw [List.length_append, List.length_singleton]
  omega

def rExtend : V → List V → Hp → VK → Prop := fun x vs H Q => ∃ l b xs zs, x = .ref l ∧ vs = [.ref b] ∧ H l = some (.lst xs) ∧ H b = some (.lst zs) ∧ xs.length + zs.length ≤ sizeLine ∧ Q .non (upd H l (.lst (xs ++ zs)))
theorem mt_extend : MtM X "list.extend" rExtend := by
  intro pins s σ H x vs v us Q I rx rv h
  obtain ⟨l, b, xs, zs, rfl, rfl, hH, hB, hz, q⟩ := h
  cases rx
  obtain ⟨u, rfl, ru⟩ := rv.one
  cases ru
  obtain ⟨z, its, n, r, hl, e⟩ := I.lstM hH
  obtain ⟨z2, its2, n2, r2, hl2, e2⟩ := I.lstM hB
  have hsz : its.toArray.size + its2.toArray.size ≤ sizeLine := by rw [List.size_toArray, List.size_toArray]; omega
  have hlong : ¬ (!its.toArray.isEmpty && Builtin.List.listTooLong (its.toArray.size + its2.toArray.size)) = true := by
    rw [notLongL hsz, Bool.and_false]
    exact Bool.false_ne_true
  refine call_meets F.slot_list_extend ⟨_, e, rfl⟩ F.entry_list_extend (F.args_list_extend_2 _ _)
    (AutoSeq1.list_extend_list_list_0 l its.toArray n b its2.toArray n2 hlong (by rw [List.size_toArray]; omega) (by omega)) ⟨e, e2, ?_⟩
  refine ⟨.non, _, I.lset (its' := its ++ its2) hH e (by simp) (r.append r2) ?_, rfl, q⟩
  rw [List.length_append]
  omega

def rPop : V → List V → Hp → VK → Prop := fun x vs H Q => ∃ l xs y, x = .ref l ∧ vs = [] ∧ H l = some (.lst xs) ∧ xs[xs.length - 1]? = some y ∧ Q y (upd H l (.lst xs.dropLast))
def rPopAt : V → List V → Hp → VK → Prop := fun x vs H Q => ∃ l xs i k y, x = .ref l ∧ vs = [.int i] ∧ H l = some (.lst xs) ∧ -(2 ^ 63) ≤ i ∧ i < 2 ^ 63 ∧ seqIndex? i xs.length = some k ∧ xs[k]? = some y ∧ Q y (upd H l (.lst (xs.eraseIdx k)))
theorem mt_popAt : MtM X "list.pop" rPopAt := by
  intro pins s σ H x vs v us Q I rx rv h
  obtain ⟨l, xs, i, k, y, rfl, rfl, hH, h1, h2, hk, hy, q⟩ := h
  cases rx
  obtain ⟨u, rfl, ru⟩ := rv.one
  obtain ⟨t, rfl⟩ := ru
  obtain ⟨z, its, n, r, hl, e⟩ := I.lstM hH
  obtain ⟨w, hw, rw'⟩ := r.get hy
  refine call_meets F.slot_list_pop ⟨_, e, rfl⟩ F.entry_list_pop (F.args_list_pop_2 _ _)
    (MeetsSeq.list_pop_at l its.toArray n i t k w (fitsIndex_both h1 h2) (by rw [List.size_toArray, ← hl]; exact hk) (by rw [← Array.getElem?_toList]; exact hw) (by rw [List.size_toArray]; omega)) ⟨e, ?_⟩
  refine ⟨y, _, I.lset (its' := its.eraseIdx k) hH e ?_ (r.eraseIdx k) ?_, rw', q⟩
  · show its.toArray.eraseIdxIfInBounds k = (its.eraseIdx k).toArray
    rw [List.eraseIdxIfInBounds_toArray]
  · have := len_erase xs k
    omega

def rReverse : V → List V → Hp → VK → Prop := fun x vs H Q => ∃ l xs, x = .ref l ∧ vs = [] ∧ H l = some (.lst xs) ∧ Q .non (upd H l (.lst xs.reverse))
def rClear : V → List V → Hp → VK → Prop := fun x vs H Q => ∃ l xs, x = .ref l ∧ vs = [] ∧ H l = some (.lst xs) ∧ Q .non (upd H l (.lst []))
def rCat : R2 := fun x y H Q => ∃ l b xs zs, x = .ref l ∧ y = .ref b ∧ H l = some (.lst xs) ∧ H b = some (.lst zs) ∧ xs.length + zs.length ≤ sizeLine ∧ ∀ p, H p = none → Q (.ref p) (upd H p (.lst (xs ++ zs)))
def rRep : R2 := fun x y H Q => ∃ l k xs, x = .ref l ∧ y = .int k ∧ H l = some (.lst xs) ∧ -(2 ^ 63) ≤ k ∧ k < 2 ^ 63 ∧ xs.length * k.toNat ≤ sizeLine ∧
  ∀ p, H p = none → Q (.ref p) (upd H p (.lst (List.replicate k.toNat xs).flatten))
end

section
variable {prog : Program} {w : World} {A : Around} {E : Value → Shared → Prop} {s : Shared}
end

section
variable {X : Cx}
end
end L2

namespace Att
open PySem PySem.W PySem.Calls PyProof.Rows

theorem ints_of_wellAll {P : Params} {h : Heap} : ∀ (ns : List Int) (vs : List Value), WellAll P h vs (ns.map WData.int) → IntsAre vs ns := by
  intro ns
  induction ns with
  | nil =>
    intro vs w
    rw [List.map_nil] at w
    cases w
    exact .nil
  | cons n ns ih =>
    intro vs w
    rw [List.map_cons] at w
    cases w with
    | cons a b =>
      cases a
      exact .cons _ _ (ih _ b)

theorem script_of {l : OpenLaw} {n : Nat} (hn : l.most = some n) {P : Params} {h : Heap} {args : List WData} {vals : List Value}
    (hpre : l.row.toRowW.claim.pre args = true) (hwl : WellAll P h vals args) :
    ∃ a vs ns, vals = [Value.ref a] ∧ args = [WData.list (ns.map WData.int)] ∧ h.get? a = some { cls := .type "list", data := .seq vs.toArray } ∧ IntsAre vs ns ∧ ns.length ≤ n := by
  have hsh : WShape.hasAll [] args [.list .int] = true := (pre_splitW hpre).1
  have hc : l.pre.holds [] { args := args } = true := (pre_splitW hpre).2
  obtain ⟨d, r, rfl, h1, h2⟩ := hasAllW_cons hsh
  obtain rfl := hasAllW_nil h2
  obtain ⟨xs, rfl, h3⟩ := hasW_list h1
  obtain ⟨ns, rfl⟩ := items_int h3
  have hlen : ns.length ≤ n := by
    unfold OpenLaw.pre at hc
    have h4 : (WTm.not (.lt (.lit (.int (n : Int))) (.len (.arg 0)))).holds [] { args := [.list (ns.map .int)] } = true := by
      have h4 := (holds_andW hc).1
      rw [hn] at h4
      exact h4
    have h5 := condW_of h4 (w_not (w_lt w_lit (w_len_list (w_arg rfl))))
    rw [List.length_map] at h5
    refine Nat.le_of_not_lt fun q => ?_
    have q' : (n : Int) < ((ns.length : Nat) : Int) := by omega
    first
      | (rw [decide_eq_true q'] at h5; exact absurd h5 (by decide))
      | (simp at h5; omega)
  cases hwl with
  | cons w1 w2 =>
    cases w2
    cases w1 with
    | list ho hall => exact ⟨_, _, ns, rfl, rfl, ho, ints_of_wellAll ns _ hall, hlen⟩

theorem post_true (l : OpenLaw) (args : List WData) : l.row.toRowW.claim.post args (.bool true) args = true :=
  postW_of (r := l.row.toRowW) (X := (true == true))
    (show WShape.has [] (.bool true) .bool = true by first | rfl | decide | simp [WShape.has, WShape.arms, WShape.armsAll])
    (show (WTm.eq .res (.lit (.bool true))).value [] { args := args, res := some (.bool true), after := args } = some (.bool (true == true)) from w_eq_bool (w_res rfl) w_lit) rfl

theorem attach_call {l : OpenLaw} {n : Nat} {q : Program} {loose : List Str} {XP : (Str → Option Value) → Heap → Prop} {YP : World → Heap → Prop} {d : DefRec}
    (hn : l.most = some n) (hdf : d.params.defaults = [])
    (call : ∀ (w : World) (s₀ s₁ : Shared) (mg mb : Str → Option Value) (fa : Addr) (o : Obj) (pm cd doc : Value) (a : Addr) (vs : List Value) (ns : List Int),
      Ground q loose [] XP w s₀ mg mb s₁.heap → YP w s₁.heap →
      s₁.heap.get? fa = some o → o.data = .func (docDef d.name d.params d.body d.scope pm cd doc) → s₁.heap.CodeRec cd d.name → mg d.name = some (.ref fa) →
      s₁.heap.get? a = some { cls := .type "list", data := .seq vs.toArray } → IntsAre vs ns → ns.length ≤ n → s₁.gens = #[] →
      codeAny (model l.prog w) callerA (.call (.ref fa) ⟨[.ref a], []⟩) (fun r s' => r = .ok (.ret (.bool true)) ∧ OldK s₁.heap s'.heap ∧ s'.os = s₁.os ∧ AllBare s'.gens) s₁) :
    WalkO q loose XP YP l.row.toRowW d [] (fun f vs => PySem.call f vs) := by
  intro w s₀ s₁ mg mb G Y fa o pm cd doc dV kV ho hd hcd hD hmg hg args vals as hpre hlay hrd hwl hlo
  obtain rfl : dV = .none := Dflts.none hD hdf
  obtain rfl : kV = .none := Dflts.noKw hD
  obtain ⟨a, vs, ns, rfl, rfl, hobj, hints, hlen⟩ := script_of hn hpre hwl
  refine enter_call (codeAny_mono (call w s₀ s₁ mg mb fa o pm cd doc a vs ns G Y ho (fd_plain hd) hcd hmg hobj hints hlen hg) fun r s' hq => ?_)
  obtain ⟨rfl, h2, h3, h4⟩ := hq
  exact ⟨.inl ⟨.bool true, .bool true, [], rfl, fun _ => rfl, .bool true, post_true l _, fun _ => ⟨List.Pairwise.nil, fun _ hm => (nomatch hm)⟩⟩, h2, h3, h4⟩

section
variable {prog : Program} {w : World} {A : Around} {E : Value → Shared → Prop} {s : Shared} {K : Frag}

def noObjs (h : Heap) : Heap := { h with objs := #[] }
def ledger (h : Heap) (L d : Addr) : List (Addr × Obj) := (List.range h.objs.size).filterMap fun a => if a = L ∨ a = d then none else (h.get? a).map fun o => (a, o)
end
end Att

namespace L2
open PySem PySem.Spec PyProof.Rows

theorem vals_ints : ∀ {vs : List Value} {ns : List Int}, IntsAre vs ns → Vals (ns.map V.int) vs
  | _, _, .nil => .nil
  | _, _, .cons n t h => .cons ⟨t, rfl⟩ (vals_ints h)

def Only (H : Hp) : Prop := ∀ b, H b = none ∨ ∃ o xs, H b = some (.frz o (.lst xs))

theorem law_call {P : Program} {w : World} {K : PySem.W.Frag} {mg mb : Str → Option Value} {CX : CXT} {k : Nat} {fa a : Addr} {fd : FuncData} {x : Str} {sp : Sp} {s₁ : Shared} {vs : List Value} {ns : List Int}
    (KX : K.In s₁.heap) (hns : s₁.heap.Ns mainGlobals mg) (hb : s₁.heap.Ns builtinsNs mb) (hbb : ∀ x : Str, x ≠ "__name__" → mb x = bootBuiltins x) (hlim : s₁.heap.NoLimit) (hg : s₁.gens = #[])
    (ha : s₁.heap.get? a = some { cls := .type "list", data := .seq vs.toArray }) (hi : IntsAre vs ns) (hl : ns.length ≤ sizeLine) (hr : Room k callerA)
    (F : ∀ base : Heap, K.In base → base.Ns mainGlobals mg → FnOk P w K mg base CX k fa fd [x] sp) (hbind : ∀ (s : Shared) (u : Value), BindsTo s fd ⟨[u], []⟩ [(x, u)])
    (hsp : ∀ H : Hp, Only H → SqL K H a (ns.map V.int) → sp [.ref a] H (fun v _ => v = .bl true) fun _ _ _ => False)
    (hCX : ∀ H e s', CX [] H s₁ (fun _ _ _ => False) e s' → False) :
    codeAny (model P w) callerA (.call (.ref fa) ⟨[.ref a], []⟩) (fun r s' => r = .ok (.ret (.bool true)) ∧ OldK s₁.heap s'.heap ∧ s'.os = s₁.os ∧ AllBare s'.gens) s₁ := by
  have rv := vals_ints hi
  have lenV := hi.length
  -- from an abstract heap in which nothing but the script may be tracked
  have core : ∀ H : Hp, Only H → SqL K H a (ns.map V.int) → HOk P w H s₁.heap → (∀ b, H b ≠ none → b = a) → (H a ≠ none → K.lookup a = none) →
      codeAny (model P w) callerA (.call (.ref fa) ⟨[.ref a], []⟩) (fun r s' => r = .ok (.ret (.bool true)) ∧ OldK s₁.heap s'.heap ∧ s'.os = s₁.os ∧ AllBare s'.gens) s₁ := by
    intro H hO hS hok hA hK
    have base_of : ∀ {b : Addr} {o : Obj}, s₁.heap.get? b = some o → H b = none → (hidT s₁.heap H).get? b = some o := fun e n => hidT_get e n
    have noA : ∀ {b : Addr} {o : Obj} {es : Array DictEntry} {ep : Nat}, s₁.heap.get? b = some o → o.data = .dict es ep → H b = none := fun {b o es ep} e d => by
      cases q : H b with
      | none => rfl
      | some u =>
        have e' : b = a := hA b (by rw [q]; simp)
        subst e'
        rw [ha] at e; cases e
        have d' : Data.seq vs.toArray _ = Data.dict es ep := d
        cases d'
    have nsK : ∀ {b : Addr} {m : Str → Option Value}, s₁.heap.Ns b m → (hidT s₁.heap H).Ns b m := fun {b m} ⟨o, es, ep, e, d, r⟩ => ⟨o, es, ep, base_of e (noA e d), d, r⟩
    have hKb : K.In (hidT s₁.heap H) := fun b o e => base_of (KX b o e) (by
      cases q : H b with
      | none => rfl
      | some u =>
        have e' : b = a := hA b (by rw [q]; simp)
        subst e'
        rw [hK (by rw [q]; simp)] at e; cases e)
    have hM : Mod K mg (hidT s₁.heap H) := ⟨hKb, nsK hns, ⟨mb, nsK hb, hbb⟩, let ⟨mc, h1, h2⟩ := hlim; ⟨mc, nsK h1, h2⟩⟩
    have e0 : Env0 P w K mg (hidT s₁.heap H) callerA [] s₁ H := ⟨rfl, hM, fun b o e => of_hidT e, Nat.le_of_eq (hidT_size _ _), trivial, fun b hb => absurd (show b ∈ ([] : List Addr) from hb) (by simp), hok, .of_eq hg⟩
    refine codeAny_mono ((F _ hKb (nsK hns)).run callerA [] s₁ H ⟨[.ref a], []⟩ [.ref a] [.ref a] _ _ hr e0 (hbind s₁ (.ref a)) (.cons rfl .nil) (hsp H hO hS)) fun r s' h => ?_
    cases r with
    | error e => exact (hCX H e s' h).elim
    | ok fl =>
      cases fl with
      | next => exact False.elim h
      | brk => exact False.elim h
      | cont => exact False.elim h
      | ret u =>
        obtain ⟨v, H', os, bare, un, hok', r', q⟩ := h
        have q' : v = .bl true := q
        subst q'
        obtain rfl : u = Value.bool true := r'
        refine ⟨rfl, OldK.of_keep fun b o e => ?_, os, bare⟩
        cases q : H b with
        | none => exact un.keep b o e q (by intro z; exact absurd (show b ∈ ([] : List Addr) from z) (by simp)) (by simp)
        | some u =>
          rcases hO b with z | ⟨ob, xs, z⟩
          · rw [q] at z; cases z
          · have z2 := un.frzs b ob _ z
            obtain ⟨e1, _⟩ := hok b _ z
            obtain ⟨e2, _⟩ := hok' b _ z2
            rw [e] at e1; cases e1
            exact e2
  cases hk : K.lookup a with
  | some o =>
    -- the script is one of the module's own objects
    have e := KX a o hk
    rw [ha] at e
    cases e
    refine core (fun _ => none) (fun _ => .inl rfl) (.inr ⟨_, vs.toArray, _, hk, rfl, rfl, rfl, by rw [List.size_toArray, lenV]; exact hl, by simpa using rv⟩) (fun b u z => by have z' : (none : Option HO) = some u := z; cases z') (fun b z => absurd rfl z) fun z => absurd rfl z
  | none =>
    refine core (fun b => if b = a then some (.frz { cls := .type "list", data := .seq vs.toArray } (.lst (ns.map V.int))) else none) (fun b => ?_) (.inl (.inr ⟨{ cls := .type "list", data := .seq vs.toArray }, if_pos rfl⟩)) (fun b u z => ?_) (fun b z => ?_) fun _ => hk
    · by_cases hb : b = a
      · exact .inr ⟨_, _, if_pos hb⟩
      · exact .inl (if_neg hb)
    · by_cases hb : b = a
      · have z' := (if_pos hb).symm.trans z
        cases z'
        subst hb
        exact ⟨ha, by rw [List.length_map]; exact hl, vs, _, rv, ha⟩
      · have z' := (if_neg hb).symm.trans z
        cases z'
    · by_cases hb : b = a
      · exact hb
      · exact absurd (if_neg hb) z
end L2

namespace L2
open PySem PySem.Spec PyProof.Rows

abbrev KOf {K : PySem.W.Frag} {h : Heap} (_ : K.In h) : PySem.W.Frag := K

theorem walk_of {l : PySem.W.OpenLaw} {n k : Nat} {q : Program} {loose : List Str} {XP : (Str → Option Value) → Heap → Prop} {YP : World → Heap → Prop} {d : DefRec} {K : Params → PySem.W.Frag} {CX : World → CXT} {sp : World → Sp} {x : Str}
    (hn : l.most = some n) (hn2 : n ≤ sizeLine) (hdf : d.params.defaults = []) (hr : Room k callerA)
    (hY : ∀ (w : World) (h : Heap), YP w h → (K w.params).In h)
    (F : ∀ (w : World) (mg : Str → Option Value) (fa : Addr) (h : Heap), (K w.params).In h → h.Ns mainGlobals mg → mg d.name = some (.ref fa) →
      ∃ fd : FuncData, (∀ (s : Shared) (u : Value), BindsTo s fd ⟨[u], []⟩ [(x, u)]) ∧
        ∀ base : Heap, (K w.params).In base → base.Ns mainGlobals mg → FnOk l.prog w (K w.params) mg base (CX w) k fa fd [x] (sp w))
    (hsp : ∀ (w : World) (H : Hp) (a : Addr) (ns : List Int), ns.length ≤ n → Only H → SqL (K w.params) H a (ns.map V.int) → sp w [.ref a] H (fun v _ => v = .bl true) fun _ _ _ => False)
    (hCX : ∀ (w : World) (H : Hp) (s : Shared) (e : Value) (s' : Shared), CX w [] H s (fun _ _ _ => False) e s' → False) :
    PySem.W.WalkO q loose XP YP l.row.toRowW d [] (fun f vs => PySem.call f vs) := by
  refine Att.attach_call hn hdf fun w s₀ s₁ mg mb fa o pm cd doc a vs ns G Y ho hd hcd hmg hobj hints hlen hg => ?_
  have KX := hY w _ Y
  obtain ⟨fd, hb, hF⟩ := F w mg fa _ KX G.T.g hmg
  exact law_call KX G.T.g G.T.b G.T.builtins G.T.nolimit hg hobj hints (Nat.le_trans hlen hn2) hr hF hb (fun H hO hS => hsp w H a ns hlen hO hS) fun H e s' => hCX w H s₁ e s'
end L2


namespace L2
open PySem PySem.Spec PyProof.Rows

def inClass (s : Stmt) (j : Nat) : Stmt := match s with
  | .ClassDef _ _ _ body _ _ _ _ _ _ _ => body.getD j (.Pass ⟨0, 0, 0, 0⟩)
  | _ => .Pass ⟨0, 0, 0, 0⟩
def defArgs (s : Stmt) : Arguments := match s with
  | .FunctionDef _ a _ _ _ _ _ _ _ _ => a
  | _ => { posonlyargs := [], args := [], vararg := none, kwonlyargs := [], kw_defaults := [], kwarg := none, defaults := [] }
def defBody (s : Stmt) : List Stmt := match s with
  | .FunctionDef _ _ b _ _ _ _ _ _ _ => b
  | _ => []
def defScope (s : Stmt) : Scope := match s with
  | .FunctionDef _ _ _ _ _ _ sc _ _ _ => sc
  | _ => { kind := .function, names := [], isGenerator := false, isCoroutine := false }

abbrev CX0 : CXT := fun _ _ _ _ _ _ => False
abbrev E0 : XK := fun _ _ _ => False
theorem pass0 {X : Cx} : Passes CX0 X E0 := fun _ _ _ _ _ _ _ h => h.elim

structure Fun (K : PySem.W.Frag) (x qual : Str) (st : Stmt) (f : Addr) (fd : FuncData) : Prop where
  ex : ∃ (oc : Value) (od : Option Addr) (kV doc pm : Value) (an : Option Addr) (cdv ct : Value) (osl : Array (Option Value)),
    fd = PySem.W.fnOf x qual (defArgs st) (defBody st) (defScope st) .none kV doc pm an cdv ct ∧ K.lookup f = some ⟨oc, od, .func fd, osl⟩ ∧ PySem.W.codeIn K cdv qual = true
  kp : PySem.W.keepIn K (.ref f) = true
section
variable {P : Program} {w : World} {K : PySem.W.Frag} {mg : Str → Option Value} {base : Heap}
theorem Fun.ok {x qual : Str} {st : Stmt} {f : Addr} {fd : FuncData} {N ps : List Str} {k : Nat} {sp : Sp} (F : Fun K x qual st f fd) (S : FnScope N ps (defScope st)) (len : ∀ vs H Q E, sp vs H Q E → vs.length = ps.length)
    (hbody : ∀ (cdv : Value) (A : Around) (outer : List Env) (s : Shared) (H : Hp) (vs : List V) (Q : VK) (E : XK), Room k (A.deeper (envOfC qual (defScope st) s.heap.objs.size f cdv)) → sp vs H Q E →
      ∃ t, PSs (cxOf CX0 P w K mg base N qual (defScope st) f cdv A outer s H E).nox (defBody st) t ∧ t { nx := fun _ H' => Q .non H', rt := Q } (start N vs) H) : FnOk P w K mg base CX0 (k + 1) f fd ps sp := by
  obtain ⟨oc, od, kV, doc, pm, an, cdv, ct, osl, rfl, lk, hcd⟩ := F.ex
  refine fn_of lk hcd S len fun A outer s H vs Q E hr hsp => ?_
  obtain ⟨t, h, q⟩ := hbody cdv A outer s H vs Q E hr hsp
  exact ⟨t, h.nox, q⟩
theorem Fun.binds {x qual : Str} {st : Stmt} {f : Addr} {fd : FuncData} {ps : List Str} (F : Fun K x qual st f fd)
    (h : ∀ (kV doc pm : Value) (an : Option Addr) (cdv ct : Value) (us : List Value), us.length = ps.length → bindArgs (PySem.W.fnOf x qual (defArgs st) (defBody st) (defScope st) .none kV doc pm an cdv ct) ⟨us, []⟩ = pure (ps.zip us)) : Binds K fd ps [] := by
  obtain ⟨oc, od, kV, doc, pm, an, cdv, ct, osl, rfl, lk, hcd⟩ := F.ex
  exact .all (h kV doc pm an cdv ct)
theorem fun_mk {x qual : Str} {st : Stmt} {f : Addr} {oc : Value} {od an : Option Addr} {osl : Array (Option Value)} {kV doc pm cdv ct : Value} (l : K.lookup f = some ⟨oc, od, .func (PySem.W.fnOf x qual (defArgs st) (defBody st) (defScope st) .none kV doc pm an cdv ct), osl⟩)
    (c : PySem.W.codeIn K cdv qual = true) (k : PySem.W.keepIn K (.ref f) = true) : Fun K x qual st f (PySem.W.fnOf x qual (defArgs st) (defBody st) (defScope st) .none kV doc pm an cdv ct) := ⟨⟨oc, od, kV, doc, pm, an, cdv, ct, osl, rfl, l, c⟩, k⟩
end
theorem hu_of {A : Around} {k : Nat} (hr : Room k A) : A.units + 1 < cLine := Nat.lt_of_le_of_lt (Nat.add_le_add_left (by decide : 1 ≤ 64) _) hr.units
section
variable {X : Cx}
theorem pv (i : Nat) {x : Str} {pos : Pos} (hN : X.N[i]? = some x := by rfl) (hv : Vis X.env.scope x := by first | exact Or.inl rfl | exact Or.inr (Or.inl rfl) | exact Or.inr (Or.inr rfl)) (hd : (x == ("__debug__" : Str)) = false := by decide)
    (hcd : (x == ("__classdict__" : Str)) = false := by decide) : PE X (.Name x pos) (tVar i) := pe_var hN hv hd hcd
end

theorem iteF {A B : Prop} (h : B) : if false = true then A else B := by
  rw [if_neg Bool.false_ne_true]
  exact h
theorem iteT {A B : Prop} (h : A) : if true = true then A else B := by
  rw [if_pos rfl]
  exact h
theorem ite2 {c A B : Prop} [Decidable c] (h1 : c → A) (h2 : ¬ c → B) : if c then A else B := by
  by_cases h : c
  · rw [if_pos h]
    exact h1 h
  · rw [if_neg h]
    exact h2 h
def Same (H H' : Hp) : Prop := ∀ b o, H b = some o → H' b = some o
theorem Same.refl (H : Hp) : Same H H := fun _ _ h => h
theorem Same.trans {H H1 H2 : Hp} (a : Same H H1) (b : Same H1 H2) : Same H H2 := fun c o h => b c o (a c o h)
theorem Same.free {H H' : Hp} (e : Same H H') {l : Addr} (h : H' l = Option.none) : H l = Option.none := by
  cases q : H l with
  | none => rfl
  | some o =>
    rw [e l o q] at h
    cases h
theorem Same.seq {K : PySem.W.Frag} {H H' : Hp} {a : Addr} {xs : List V} (e : Same H H') (h : SqL K H a xs) : SqL K H' a xs := by
  rcases h with (h | ⟨o, h⟩) | h
  · exact .inl (.inl (e _ _ h))
  · exact .inl (.inr ⟨o, e _ _ h⟩)
  · exact .inr h

end L2


namespace L2
open PySem PySem.Spec PyProof.Rows


theorem closure_ok {env : Env} {scope : Scope} (h : ∀ y ∈ scope.names, y.2 = .free → ∃ c, env.cells.lookup y.1 = some c) :
    ∃ cl, closureFor scope env = pure cl ∧ (∀ x c, cl.lookup x = some c → env.cells.lookup x = some c) ∧ ∀ y ∈ scope.names, y.2 = .free → cl.lookup y.1 = env.cells.lookup y.1 := by
  have go : ∀ (names : List (Str × NameKind)) (acc : List (Str × Addr)), (∀ y ∈ names, y.2 = .free → ∃ c, env.cells.lookup y.1 = some c) →
      (∀ x c, acc.lookup x = some c → env.cells.lookup x = some c) →
      ∃ cl, (forIn names acc (fun (y : Str × NameKind) (cs : List (Str × Addr)) => if (y.2 == .free) = true then (do let c ← cellOf env y.1; pure (ForInStep.yield ((y.1, c) :: cs))) else pure (ForInStep.yield cs)) : Sem (List (Str × Addr))) = pure cl ∧
        (∀ x c, cl.lookup x = some c → env.cells.lookup x = some c) ∧ (∀ x c, acc.lookup x = some c → cl.lookup x = some c) ∧ ∀ y ∈ names, y.2 = .free → cl.lookup y.1 = env.cells.lookup y.1 := by
    intro names
    induction names with
    | nil => intro acc _ ha; exact ⟨acc, rfl, ha, fun _ _ h => h, fun y hy => nomatch hy⟩
    | cons y r ih =>
      intro acc hn ha
      obtain ⟨n, k⟩ := y
      by_cases hk : k = .free
      · subst hk
        obtain ⟨c, hc⟩ := hn (n, .free) List.mem_cons_self rfl
        have ha' : ∀ x d, (((n, c) :: acc : List (Str × Addr))).lookup x = some d → env.cells.lookup x = some d := fun x d e => by
          rw [List.lookup_cons] at e
          cases hx : x == n with
          | true =>
            rw [hx] at e
            have e1 : x = n := eq_of_beq hx
            subst e1
            cases e
            exact hc
          | false => rw [hx] at e; exact ha x d e
        obtain ⟨cl, e, h1, h2, h3⟩ := ih ((n, c) :: acc) (fun y hy => hn y (List.mem_cons_of_mem _ hy)) ha'
        refine ⟨cl, ?_, h1, fun x d e => ?_, fun y hy hf => ?_⟩
        · rw [List.forIn_cons]
          have ec : cellOf env n = pure c := by unfold cellOf; rw [hc]
          simp only [beq_self_eq_true, if_true]
          rw [ec]
          exact e
        · have e' := ha x d e
          by_cases hx : x = n
          · subst hx
            rw [hc] at e'; cases e'
            exact h2 x c (by rw [List.lookup_cons]; simp)
          · exact h2 x d (by rw [List.lookup_cons, beq_eq_false_iff_ne.mpr hx]; exact e)
        · rcases List.mem_cons.mp hy with rfl | hy
          · show cl.lookup n = env.cells.lookup n
            rw [hc]
            exact h2 n c (by rw [List.lookup_cons]; simp)
          · exact h3 y hy hf
      · obtain ⟨cl, e, h1, h2, h3⟩ := ih acc (fun y hy => hn y (List.mem_cons_of_mem _ hy)) ha
        refine ⟨cl, ?_, h1, h2, fun y hy hf => ?_⟩
        · rw [List.forIn_cons]
          have : (k == NameKind.free) = false := by simpa using hk
          simp only [this, Bool.false_eq_true, if_false]
          exact e
        · rcases List.mem_cons.mp hy with rfl | hy
          · exact absurd hf hk
          · exact h3 y hy hf
  obtain ⟨cl, e, h1, _, h3⟩ := go scope.names [] h (fun x c e => by simp at e)
  refine ⟨cl, ?_, h1, h3⟩
  unfold closureFor
  exact (congrArg (fun m => m >>= fun r => pure r) e).trans rfl

def compSt (n : Nat) (ix : List Nat) (σ : St) : St := List.replicate n none ++ ix.map fun i => σ.getD i none

def Cx.comp (X : Cx) (s₂ : Shared) (H₂ : Hp) (N' : List Str) (scope : Scope) (cl : List (Str × Addr)) (C : Addr) (fp : List Addr) : Cx :=
  { X with N := N', s₀ := s₂, H₀ := H₂, env := compEnvC scope cl C X.env, outer := X.stack, stack := X.stack, ex := fp, fn := fun _ => false, pn := [], xe := fun _ _ => False }

structure CompScope (X : Cx) (scope : Scope) (N' : List Str) (n : Nat) (ix : List Nat) : Prop where
  kind : scope.kind = .function
  nocell : ∀ y ∈ scope.names, y.2 ≠ .cell
  names : ∀ y ∈ scope.names, y.2 = .local → scope.names.lookup y.1 = some .local
  free : ∀ y ∈ scope.names, y.2 = .free → X.env.scope.names.lookup y.1 = some .cell ∨ X.env.scope.names.lookup y.1 = some .free
  nodup : ∀ y : Str, (y, NameKind.free) ∈ scope.names → scope.names.lookup y = some .local → False
  len : N'.length = n + ix.length
  at_ : ∀ (j i : Nat), ix[j]? = some i → ∃ x, N'[n + j]? = some x ∧ X.N[i]? = some x ∧ (x, NameKind.free) ∈ scope.names
end L2
namespace L2
open PySem PySem.Spec PyProof.Rows

theorem relabel_lookup {env : Env} {scope : Scope} (x : Str) : (relabel scope env).names.lookup x = (scope.names.lookup x).map fun k => if (k == .free && env.scope.kind == .function && env.kindOf x == some .cell) then .cell else k := by
  show (scope.names.map fun (n, k) => if (k == NameKind.free && env.scope.kind == .function && env.kindOf n == some .cell) then (n, NameKind.cell) else (n, k)).lookup x = _
  generalize scope.names = l
  induction l with
  | nil => rfl
  | cons y r ih =>
    obtain ⟨n, k⟩ := y
    rw [List.map_cons, List.lookup_cons]
    cases hx : x == n with
    | true =>
      have e : x = n := eq_of_beq hx
      subst e
      by_cases hc : (k == NameKind.free && env.scope.kind == .function && env.kindOf x == some .cell) = true
      · rw [if_pos hc, List.lookup_cons]
        simp only [beq_self_eq_true]
        show some NameKind.cell = some (ite _ _ _)
        rw [if_pos hc]
      · rw [if_neg hc, List.lookup_cons]
        simp only [beq_self_eq_true]
        show some k = some (ite _ _ _)
        rw [if_neg hc]
    | false =>
      by_cases hc : (k == NameKind.free && env.scope.kind == .function && env.kindOf n == some .cell) = true
      · rw [if_pos hc, List.lookup_cons, hx]; exact ih
      · rw [if_neg hc, List.lookup_cons, hx]; exact ih

section
variable {X : Cx} {pins : List (Addr × Obj)} {σ : St} {H : Hp} {s : Shared}

theorem relabel_free {env : Env} {scope : Scope} {x : Str} (h : scope.names.lookup x = some .free) : (relabel scope env).names.lookup x = some .cell ∨ (relabel scope env).names.lookup x = some .free := by
  rw [relabel_lookup, h]
  by_cases hc : (NameKind.free == NameKind.free && env.scope.kind == .function && env.kindOf x == some .cell) = true
  · exact .inl (by show some (ite _ _ _) = _; rw [if_pos hc])
  · exact .inr (by show some (ite _ _ _) = _; rw [if_neg hc])
theorem of_relabel {env : Env} {scope : Scope} {x : Str} (hn : ∀ y ∈ scope.names, y.2 ≠ .cell) (h : (relabel scope env).names.lookup x = some .cell ∨ (relabel scope env).names.lookup x = some .free) : scope.names.lookup x = some .free := by
  rw [relabel_lookup] at h
  cases e : scope.names.lookup x with
  | none => rw [e] at h; rcases h with h | h <;> cases h
  | some k =>
    rw [e] at h
    have hk := hn _ (PySem.mem_of_lookup e)
    by_cases hf : k = .free
    · rw [hf]
    · have hb : (k == NameKind.free) = false := by simpa using hf
      have hr : Option.map (fun k => if (k == NameKind.free && env.scope.kind == .function && env.kindOf x == some .cell) = true then NameKind.cell else k) (some k) = some k := by
        show some (ite _ _ _) = _
        rw [if_neg (by rw [hb]; simp)]
      rw [hr] at h
      rcases h with h | h
      · cases h; exact absurd rfl hk
      · exact h

theorem inv_comp {scope : Scope} {N' : List Str} {n : Nat} {ix : List Nat} {cl : List (Str × Addr)} {fp : List Addr} {h₁ : Heap} {acc C : Addr} {na : Nat} {m : Str → Option Value} {tk : Nat}
    (I : Inv X pins σ H s) (S : CompScope X scope N' n ix) (hcl1 : ∀ x c, cl.lookup x = some c → X.env.cells.lookup x = some c) (hcl2 : ∀ y ∈ scope.names, y.2 = .free → cl.lookup y.1 = X.env.cells.lookup y.1)
    (hf : ∀ b ∈ fp, FpOk X pins H b) (hlt : ∀ b ∈ fp, b < s.heap.objs.size) (ha : s.heap.objs.size ≤ acc) (hC : s.heap.objs.size ≤ C) (hne : C ≠ acc)
    (k : ∀ b u, s.heap.get? b = some u → h₁.get? b = some u) (hacc : h₁.get? acc = some { cls := .type "list", data := .seq ([] : List Value).toArray na }) (hns : h₁.Ns C m) :
    Inv (X.comp s H N' scope cl C fp) [] (compSt n ix σ) (upd H acc (.lst [])) { s with heap := h₁, toks := tk } := by
  have fr : ∀ b : Addr, s.heap.objs.size ≤ b → H b = none := fun b hb => I.hok.fresh hb
  have cellLt : ∀ x c, cl.lookup x = some c → c < s.heap.objs.size := fun x c e => by
    obtain ⟨v, q⟩ := I.cell x c (hcl1 x c e)
    exact q.lt
  refine ⟨⟨I.ok.mod, S.kind, I.ok.glob, I.ok.blt, hC, fun x y c e1 e2 => I.ok.inj x y c (hcl1 x c e1) (hcl1 y c e2), fun x hx => ?_, fun x c e _ => absurd e Bool.false_ne_true, I.ok.hd, I.ok.frames, .inl rfl, fun b hb => ⟨Nat.ne_of_lt (Nat.lt_of_lt_of_le (hlt b hb) hC), fun x c e => (hf b hb).2.2.2.2.1 x c (hcl1 x c e)⟩,
      I.bs, Nat.le_trans I.ok.bsz I.sz, fun b o e hb => ?_, fun b hb hs => ?_, I.stack, I.stkFree⟩,
    rfl, I.bare, Un.laid k ha (fr acc ha), ⟨m, hns, fun i x v e1 e2 e3 => ?_⟩, fun x c e => ?_, ?_, fun x c e => ?_, fun p hp => absurd (show p ∈ ([] : List (Addr × Obj)) from hp) (by simp), I.hok.laid k ha ⟨Nat.zero_le _, [], na, .nil, hacc⟩, ?_⟩
  · have hx' : scope.names.lookup x = some .free := of_relabel (env := X.env) S.nocell hx
    have hm := PySem.mem_of_lookup hx'
    obtain ⟨c, e⟩ := I.ok.has x (S.free _ hm rfl)
    exact ⟨c, (hcl2 _ hm rfl).trans e⟩
  · rcases (hf b hb).2.2.2.1 with z | z
    · exact I.ok.noex b o e z
    · exact absurd (Nat.lt_of_lt_of_le (Heap.lt_size e) (Nat.le_trans I.ok.bsz z)) (Nat.lt_irrefl _)
  · rcases List.mem_cons.mp (I.stkSub b hs) with z | z
    · exact (hf b hb).2.1 z
    · exact (hf b hb).2.2.1 z
  · -- a name of the frame, seen through its cell
    have hi : n ≤ i := by
      by_cases hi : n ≤ i
      · exact hi
      · unfold compSt at e2
        rw [List.getElem?_append_left (by simp; omega), List.getElem?_replicate] at e2
        split at e2 <;> cases e2
    obtain ⟨j, rfl⟩ : ∃ j, i = n + j := ⟨i - n, by omega⟩
    unfold compSt at e2
    rw [List.getElem?_append_right (by simp), List.length_replicate, Nat.add_sub_cancel_left, List.getElem?_map] at e2
    cases ej : ix[j]? with
    | none => rw [ej] at e2; cases e2
    | some q =>
      rw [ej] at e2
      have e2' : σ.getD q none = some v := Option.some.inj e2
      have e2'' : σ[q]? = some (some v) := by
        rw [List.getD_eq_getElem?_getD] at e2'
        cases eq : σ[q]? with
        | none => rw [eq] at e2'; cases e2'
        | some z => rw [eq] at e2'; exact congrArg some e2'
      obtain ⟨y, h1, h2, h3⟩ := S.at_ j q ej
      have ey : y = x := Option.some.inj (h1.symm.trans e1)
      subst ey
      have hk := S.free _ h3 rfl
      obtain ⟨mX, _, hl⟩ := I.loc
      obtain ⟨u, r, l⟩ := hl q y v h2 e2'' (.inr hk)
      refine ⟨u, r, .inr ?_⟩
      have hkc : X.env.kindOf y = some .cell ∨ X.env.kindOf y = some .free := hk
      have l' : ∃ c, X.env.cells.lookup y = some c ∧ s.heap.IsCell c (some u) := by
        rcases l with ⟨z, _⟩ | ⟨_, c, ec, hc⟩
        · rcases hkc with q | q <;> (rw [q] at z; cases z)
        · exact ⟨c, ec, hc⟩
      obtain ⟨c, ec, o, ho, hd⟩ := l'
      have e3' : Vis (relabel scope X.env) y := e3
      refine ⟨?_, c, (hcl2 _ h3 rfl).trans ec, o, k _ _ ho, hd⟩
      -- its kind in the block
      have nl : scope.names.lookup y ≠ some .local := fun z => ?_
      · cases el : scope.names.lookup y with
        | none =>
          have : (relabel scope X.env).names.lookup y = none := by rw [relabel_lookup, el]; rfl
          rcases e3' with z | z | z <;> (rw [this] at z; cases z)
        | some kk =>
          have hmem := PySem.mem_of_lookup el
          have ncell := S.nocell _ hmem
          have hr : (relabel scope X.env).names.lookup y = some (if (kk == NameKind.free && X.env.scope.kind == .function && X.env.kindOf y == some .cell) = true then .cell else kk) := by rw [relabel_lookup, el]; rfl
          by_cases hkf : kk = .free
          · subst hkf
            exact relabel_free (env := X.env) el
          · have hb : (kk == NameKind.free) = false := by simpa using hkf
            have hr' : (relabel scope X.env).names.lookup y = some kk := by rw [hr, hb]; rfl
            rcases e3' with z | z | z
            · rw [hr'] at z; cases z; exact absurd el nl
            · rw [hr'] at z; cases z; exact absurd rfl ncell
            · rw [hr'] at z; cases z; exact absurd rfl hkf
      · exact S.nodup _ h3 z
  · obtain ⟨v, o, ho, hd⟩ := I.cell x c (hcl1 x c e)
    exact ⟨v, o, k _ _ ho, hd⟩
  · show upd H acc (.lst []) C = none
    rw [upd_ne hne]; exact fr C hC
  · show upd H acc (.lst []) c = none
    have := cellLt x c e
    rw [upd_ne (Nat.ne_of_lt (Nat.lt_of_lt_of_le this ha))]
    exact I.freeC x c (hcl1 x c e)
  · show (compSt n ix σ).length = N'.length
    unfold compSt
    rw [List.length_append, List.length_replicate, List.length_map, S.len]
end
end L2


namespace L2
open PySem PySem.Spec PyProof.Rows

def Wk (σ σ' : St) : Prop := σ.length = σ'.length ∧ ∀ (i : Nat) v, σ[i]? = some (some v) → σ'[i]? = some (some v)
def PTs (Y : Cx) (ifs : List Expr) (t : TT) : Prop :=
  ∀ (pins : List (Addr × Obj)) (s : Shared) (σ : St) (H : Hp) (Q : Bool → Hp → Prop), Inv Y pins σ H s → t σ H Q →
    wpAny (model Y.prog Y.w) Y.A (forIn ifs true fun c r => if r = true then do let ok ← isTrue c Y.env (eval c Y.env); pure (ForInStep.yield ok) else pure (ForInStep.yield r)) (TP Y pins σ Q) Y.xe s
def tNoTest : TT := fun _ H Q => Q true H
theorem pts_nil {Y : Cx} : PTs Y [] tNoTest := fun _ _ _ H _ I h => wpAny_tests_nil ⟨H, I, h⟩
theorem pts_one {Y : Cx} {c : Expr} {t : TT} (h : PT Y c t) : PTs Y [c] t := fun pins s σ H Q I q => wpAny_tests_one (h pins s σ H Q I q)

theorem compLoop_gen {prog : Program} {w : World} {A : Around} {R : Result → Shared → Prop} {s : Shared} {elt target iter : Expr} {ifs : List Expr} {scope : Scope} {pos : Pos} {it acc : Value} {env : Env} (I : Nat → Shared → Prop)
    (turn : ∀ n s, I n s → wpAny (model prog w) A (pyNext it) (fun r s₁ => match r with
      | none => R (.ok .next) s₁
      | some v => wpAny (model prog w) A (letOwnedTupleGo target it v) (fun _ s₂ => wpAny (model prog w) A (assign target env v) (fun _ s₃ =>
          wpAny (model prog w) A (forIn ifs true fun c r => if r = true then do let ok ← isTrue c env (eval c env); pure (ForInStep.yield ok) else pure (ForInStep.yield r)) (fun ok s₄ =>
            if ok = true then wpAny (model prog w) A (eval elt env) (fun x s₅ =>
              wpAny (model prog w) A (call (.builtin "list.append") [acc, x]) (fun _ s₆ => ∃ m, m < n ∧ I m s₆) (fun _ _ => False) s₅) (fun _ _ => False) s₄
            else ∃ m, m < n ∧ I m s₄) (fun _ _ => False) s₃) (fun _ _ => False) s₂) (fun _ _ => False) s₁) (fun _ _ => False) s)
    (n : Nat) (h : I n s) :
    codeAny (model prog w) A (.compLoop (.ListComp elt [⟨target, iter, ifs, 0⟩] scope pos) 0 it acc env) R s := by
  refine codeAny_loop rfl I (fun n s hI => ?_) n h
  show wpAny _ A ((compTurn (.ListComp elt [⟨target, iter, ifs, 0⟩] scope pos) 0 it acc env).onRaise (fun x => do noteFrame x env; theTreesLotGoes x)) _ _ s
  refine wpAny_noted (wpAny_noRaise ?_)
  rw [compTurn_list]
  refine wpAny_bind (wpAny_standAt (wpAny_bind (thn (turn n s hI) fun r s₁ h₁ => ?_)))
  cases r with
  | none => exact wpAny_pure h₁
  | some v =>
    refine wpAny_bind (thn h₁ fun _ s₂ h₂ => wpAny_bind (thn h₂ fun _ s₃ h₃ => wpAny_bind (thn h₃ fun ok s₄ h₄ => ?_)))
    cases ok with
    | false => exact wpAny_pure ⟨rfl, h₄⟩
    | true => exact wpAny_bind (wpAny_bind (thn h₄ fun x s₅ h₅ => wpAny_bind (thn h₅ fun _ s₆ h₆ => wpAny_pure (wpAny_pure ⟨rfl, h₆⟩))))

def LcW (J : It) (H1 : Hp) (g : TG) (tt : TT) (te : TE) (n : Nat) (ix : List Nat) (σ : St) (Q : VK) : Prop := ∀ acc, H1 acc = none →
  ∃ W : Nat → Nat → Hp → Prop, (∃ m, W 0 m (upd H1 acc (.lst []))) ∧ ∀ i m H, W i m H →
    (J.stop i H ∧ Q (.ref acc) H) ∨ (J.go i H ∧ ∀ x H', J.yld i H x H' → g x (compSt n ix σ) H' fun σ2 H2 => Wk (compSt n ix σ) σ2 ∧ tt σ2 H2 fun b H3 =>
      if b = true then te σ2 H3 fun v H4 => ∃ ys, H4 acc = some (.lst ys) ∧ ys.length < sizeLine ∧ ∃ m', m' < m ∧ W (i + 1) m' (upd H4 acc (.lst (ys ++ [v])))
      else ∃ m', m' < m ∧ W (i + 1) m' H3)
def tLc (wi : TI) (g : TG) (tt : TT) (te : TE) (n : Nat) (ix : List Nat) : TE := fun σ H Q => wi σ H fun J H1 => LcW J H1 g tt te n ix σ Q

section
variable {X : Cx} {elt tg iter : Expr} {ifs : List Expr} {scope : Scope} {pos : Pos} {wi : TI} {g : TG} {tt : TT} {te : TE} {N' : List Str} {n : Nat} {ix : List Nat}
theorem lc_core {pins : List (Addr × Obj)} {σ : St} {H2 : Hp} {s2 : Shared} {cl : List (Str × Addr)} {it : Addr} {fp : List Addr} {tn : Nat → Heap → Prop} {J : It} {Q : VK} {R : Value → Addr → Result → Shared → Prop}
    (hc : X.calm = true) (S : CompScope X scope N' n ix)
    (hY : ∀ s₂ H₂ cl C fp, PG (X.comp s₂ H₂ N' scope cl C fp) tg g ∧ PTs (X.comp s₂ H₂ N' scope cl C fp) ifs tt ∧ PE (X.comp s₂ H₂ N' scope cl C fp) elt te)
    (I2 : Inv X pins σ H2 s2) (hcl1 : ∀ x c, cl.lookup x = some c → X.env.cells.lookup x = some c) (hcl2 : ∀ y ∈ scope.names, y.2 = .free → cl.lookup y.1 = X.env.cells.lookup y.1)
    (T : Turn X.prog X.w X.K tg J fp it tn) (st2 : tn 0 s2.heap) (f2 : ∀ b ∈ fp, FpOk X pins H2 b)
    (hW : LcW J H2 g tt te n ix σ Q)
    (hR : ∀ acc C s' H' m, s'.heap.Ns C m → Inv X pins σ H' s' → H' C = none → C ≠ X.env.locals → (C ∈ X.ex ∨ X.s₀.heap.objs.size ≤ C) → (∀ x c, X.env.cells.lookup x = some c → c ≠ C) → (∀ p ∈ X.pn ++ pins, p.1 ≠ C) → C ∉ X.fs → Q (.ref acc) H' → R (.ref acc) C (.ok .next) s') :
    wpAny (model X.prog X.w) X.A (newList []) (fun acc s₃ => wpAny (model X.prog X.w) X.A (newFunctionEnv scope X.env.globals cl [] X.env.qual none .none (some X.env)) (fun cenv s₄ =>
      codeAny (model X.prog X.w) X.A (.compStart (.ListComp elt [⟨tg, iter, ifs, 0⟩] scope pos) 0 (.ref it) acc { cenv with scope := relabel scope X.env }) (R acc cenv.locals) s₄) X.xe s₃) X.xe s2 := by
  refine wpAny_newObj_type (wpAny_newFunctionEnv S.nocell (by intro y hy; simp at hy) (fun h₁ hns₁ hsb₁ => ?_) S.kind)
  dsimp only at hns₁ hsb₁ ⊢
  generalize hH2 : s2.heap.push { cls := .type "list", dict := none, data := .seq ([] : List Value).toArray } = G at hns₁ hsb₁ ⊢
  have hC : G.objs.size = s2.heap.objs.size + 1 := by rw [← hH2, Heap.size_push]
  have hlt : ∀ b ∈ fp, b < s2.heap.objs.size := fun b hb => by
    obtain ⟨o, e, _⟩ := T.obj _ _ st2 b hb
    exact Heap.lt_size e
  have old : ∀ b o, s2.heap.get? b = some o → h₁.get? b = some o := fun b o e => hsb₁.extBut b o (by rw [hC]; exact Nat.ne_of_lt (Nat.lt_succ_of_lt (Heap.lt_size e))) (Heap.get?_push_of_some _ (hH2 ▸ Heap.get?_push_of_some _ e))
  have hacc : h₁.get? s2.heap.objs.size = some { cls := .type "list", dict := none, data := .seq ([] : List Value).toArray } := hsb₁.extBut _ _ (by rw [hC]; exact Nat.ne_of_lt (Nat.lt_succ_self _)) (Heap.get?_push_of_some _ (hH2 ▸ Heap.get?_push_size _ rfl))
  obtain ⟨W, ⟨m0, w0⟩, turn⟩ := hW s2.heap.objs.size (I2.hok.fresh (Nat.le_refl _))
  obtain ⟨hYg, hYt, hYe⟩ := hY s2 H2 cl G.objs.size fp
  have fpY : ∀ {H' : Hp}, (∀ b ∈ fp, H' b = none) → ∀ b ∈ fp, FpOk (X.comp s2 H2 N' scope cl G.objs.size fp) [] H' b := fun {H'} hn b hb => by
    obtain ⟨_, q1, q2, q3, q4, q5⟩ := f2 b hb
    refine ⟨hn b hb, ?_, fun z => ?_, .inl hb, fun x c e => q4 x c (hcl1 x c e), fun p hp => absurd (show p ∈ ([] : List (Addr × Obj)) from hp) (by simp)⟩
    · show b ≠ G.objs.size
      rw [hC]
      exact Nat.ne_of_lt (Nat.lt_succ_of_lt (hlt b hb))
    · rcases List.mem_cons.mp (I2.stkSub b z) with y | y
      · exact q1 y
      · exact q2 y
  have loop : ∀ s₃ : Shared, s₃ = { s2 with heap := h₁, toks := s2.toks + ([] : List (Str × Value)).length } →
      codeAny (model X.prog X.w) X.A (.compLoop (.ListComp elt [⟨tg, iter, ifs, 0⟩] scope pos) 0 (.ref it) (.ref s2.heap.objs.size) (compEnvC scope cl G.objs.size X.env)) (R (.ref s2.heap.objs.size) G.objs.size) s₃ := by
    rintro s₃ rfl
    have I4 := inv_comp (tk := s2.toks + ([] : List (Str × Value)).length) I2 S hcl1 hcl2 f2 hlt (Nat.le_refl _) (by rw [hC]; exact Nat.le_succ _) (by rw [hC]; exact Nat.ne_of_gt (Nat.lt_succ_self _)) old hacc hns₁
    refine compLoop_gen (fun n' s' => ∃ i H', Inv (X.comp s2 H2 N' scope cl G.objs.size fp) [] (compSt n ix σ) H' s' ∧ tn i s'.heap ∧ (∀ b ∈ fp, H' b = none) ∧ W i n' H') ?_ m0
      ⟨0, _, I4, T.keep _ _ _ st2 fun b hb o e => old b o e, fun b hb => ?_, w0⟩
    · rintro n' s3 ⟨i, H3, I3, st3, fr3, w3⟩
      rcases turn i n' H3 w3 with ⟨stop, q⟩ | ⟨go, step⟩
      · refine thn (T.done (X.comp s2 H2 N' scope cl G.objs.size fp) rfl rfl rfl hc i [] s3 _ H3 _ I3 (fpY fr3) st3 stop) fun r s4 ⟨hr, I5⟩ => ?_
        subst hr
        obtain ⟨mC, hnC, _⟩ := I5.loc
        have IX : Inv X pins σ H3 s4 := I2.call' I5.os I5.base I5.hok I5.bare fun b hb => by
          obtain ⟨_, q1, q2, q3, q4, q5⟩ := f2 b hb
          exact ⟨q3, q1, q4, q5⟩
        refine hR _ _ s4 H3 mC hnC IX I5.free ?_ (.inr ?_) (fun x c e z => ?_) (fun p hp z => ?_) (I2.nofs (by rw [hC]; exact Nat.le_succ _)) q
        · rw [hC]
          exact Nat.ne_of_gt (Nat.lt_succ_of_lt I2.lt)
        · rw [hC]
          exact Nat.le_succ_of_le I2.sz
        · obtain ⟨v, q⟩ := I2.cell x c e
          rw [hC] at z
          exact absurd z (Nat.ne_of_lt (Nat.lt_succ_of_lt q.lt))
        · rw [hC] at z
          exact absurd z (Nat.ne_of_lt (Nat.lt_succ_of_lt (Heap.lt_size (I2.pin p hp).1)))
      · refine thn (T.item (X.comp s2 H2 N' scope cl G.objs.size fp) rfl rfl rfl hc i [] s3 _ H3 _ I3 (fpY fr3) st3 go) fun r s4 ⟨u, hr, h4⟩ => ?_
        subst hr
        refine thn h4 fun _ s5 ⟨x, H5, I5, r5, y5, st5, fr5⟩ => ?_
        have I5' := I5.pinned (fpY fr5) (T.obj _ _ st5)
        refine thn (hYg _ s5 _ H5 x u _ I5' r5 (step x H5 y5)) fun _ s6 ⟨σ6, H6, I6, wk, q6⟩ => ?_
        have back : ∀ {H' : Hp} {s' : Shared}, Inv (X.comp s2 H2 N' scope cl G.objs.size fp) ([] ++ pinsAt fp s5.heap) σ6 H' s' →
            Inv (X.comp s2 H2 N' scope cl G.objs.size fp) [] (compSt n ix σ) H' s' ∧ tn (i + 1) s'.heap ∧ ∀ b ∈ fp, H' b = none := fun {H' s'} I7 => by
          refine ⟨I7.unpinned.weak wk.1 wk.2, T.keep _ _ _ st5 fun b hb o e => (I7.pin (b, o) (List.mem_append_right _ (List.mem_append_right _ (mem_pinsAt hb e)))).1, fun b hb => ?_⟩
          obtain ⟨o, e, d⟩ := T.obj _ _ st5 b hb
          exact (I7.pin (b, o) (List.mem_append_right _ (List.mem_append_right _ (mem_pinsAt hb e)))).2.1
        refine thn (hYt _ s6 σ6 H6 _ I6 q6) fun ok s7 ⟨H7, I7, q7⟩ => ?_
        cases ok with
        | false =>
          rw [if_neg Bool.false_ne_true] at q7 ⊢
          obtain ⟨m', hm, w7⟩ := q7
          obtain ⟨b1, b2, b3⟩ := back I7
          exact ⟨m', hm, i + 1, H7, b1, b2, b3, w7⟩
        | true =>
          rw [if_pos rfl] at q7 ⊢
          refine thn (hYe _ s7 σ6 H7 _ I7 q7) fun xv s8 ⟨v8, H8, I8, r8, ys, ha, hz, m', hm, w8⟩ => ?_
          refine thn (mt_append _ s8 σ6 H8 (.ref s2.heap.objs.size) [v8] (.ref s2.heap.objs.size) [xv] (fun _ H' => H' = upd H8 s2.heap.objs.size (.lst (ys ++ [v8]))) I8 rfl (.cons r8 .nil) ⟨_, ys, v8, rfl, rfl, ha, hz, rfl⟩) fun _ s9 ⟨_, H9, I9, _, e9⟩ => ?_
          subst e9
          obtain ⟨b1, b2, b3⟩ := back I9
          exact ⟨m', hm, i + 1, _, b1, b2, b3, w8⟩
    · rw [upd_ne (Nat.ne_of_lt (hlt b hb))]
      exact (f2 b hb).1
  exact codeAny_compStart_list (loop _ rfl) (T.self _ 0 _ _ _ (T.keep _ _ _ st2 fun b hb o e => old b o e) (loop _ rfl))

theorem pe_lc (hc : X.calm = true) (S : CompScope X scope N' n ix) (hi : PI X tg iter wi)
    (hY : ∀ s₂ H₂ cl C fp, PG (X.comp s₂ H₂ N' scope cl C fp) tg g ∧ PTs (X.comp s₂ H₂ N' scope cl C fp) ifs tt ∧ PE (X.comp s₂ H₂ N' scope cl C fp) elt te)
    (hs : ∀ x, foldedSetIterable iter X.env x = pure x := by intro _; rfl) : PE X (.ListComp elt [⟨tg, iter, ifs, 0⟩] scope pos) (tLc wi g tt te n ix) := by
  intro pins s σ H Q I h
  obtain ⟨cl, hcl, hcl1, hcl2⟩ := closure_ok (env := X.env) (scope := scope) fun y hy hf => I.ok.has _ (S.free y hy hf)
  rw [eval_ListComp]
  refine wpAny_comprehension_free (use := none) rfl hs hcl S.kind S.names (thn (hi pins s σ H _ I h) fun v s1 h1 => thn h1 fun itv s2 h2 => ?_)
  obtain ⟨it, fp, tn, J, H2, rfl, I2, T, st2, f2, hW⟩ := h2
  refine lc_core (R := fun acc C => compPost (model X.prog X.w) X.A X.xe none (EP X pins σ Q) acc C) hc S hY I2 hcl1 hcl2 T st2 f2 hW ?_
  intro acc C s' H' m hn IX hf hL h1 h2 h3 h4 q
  exact ⟨m, hn, fun h' sb => ⟨.ref acc, H', IX.turned (t' := s'.toks) (fun b o hb e => sb.extBut b o hb e) hf hL h1 h2 h3, rfl, q⟩⟩

theorem ps_lcset {x : Str} {i : Nat} {pos' spos : Pos} (hsw : swapsWith (.ListComp elt [⟨tg, iter, ifs, 0⟩] scope pos) (some (.Name x pos')) spos.line X.env = pure true) (hN : X.N.Nodup) (hi' : X.N[i]? = some x) (hx : X.env.scope.names.lookup x = some .local)
    (hc : X.calm = true) (S : CompScope X scope N' n ix) (hi : PI X tg iter wi)
    (hY : ∀ s₂ H₂ cl C fp, PG (X.comp s₂ H₂ N' scope cl C fp) tg g ∧ PTs (X.comp s₂ H₂ N' scope cl C fp) ifs tt ∧ PE (X.comp s₂ H₂ N' scope cl C fp) elt te)
    (hs : ∀ x, foldedSetIterable iter X.env x = pure x := by intro _; rfl) : PS X (.Assign [.Name x pos'] (.ListComp elt [⟨tg, iter, ifs, 0⟩] scope pos) spos) (tAsg (tLc wi g tt te n ix) (gName i)) := by
  intro pins s σ H D I h
  obtain ⟨cl, hcl, hcl1, hcl2⟩ := closure_ok (env := X.env) (scope := scope) fun y hy hf => I.ok.has _ (S.free y hy hf)
  rw [exec_Assign_Name_used _ _ _ _ hsw]
  refine wpAny_bind (wpAny_standAt (wpAny_bind ?_))
  show wpAny _ _ (do let _ ← comprehension (.ListComp elt [⟨tg, iter, ifs, 0⟩] scope pos) scope X.env _ (newList []) false (eval iter X.env) (some (assign (.Name x pos') X.env))) _ _ s
  refine wpAny_bind (thn (wpAny_comprehension_free (use := some (assign (.Name x pos') X.env)) (Q := fun _ s' => SP X pins D .next s') rfl hs hcl S.kind S.names (thn (hi pins s σ H _ I h) fun v s1 h1 => thn h1 fun itv s2 h2 => ?_)) fun _ s' hq => wpAny_pure (wpAny_pure hq))
  obtain ⟨it, fp, tn, J, H2, rfl, I2, T, st2, f2, hW⟩ := h2
  refine lc_core (Q := fun x H1 => gName i x σ H1 D.nx) (R := fun acc C => compPost (model X.prog X.w) X.A X.xe (some (assign (.Name x pos') X.env)) (fun _ s' => SP X pins D .next s') acc C) hc S hY I2 hcl1 hcl2 T st2 f2 hW ?_
  intro acc C s' H' m hn IX hf hL h1 h2 h3 h4 q
  show wpAny _ _ (assign (.Name x pos') X.env (.ref acc)) _ _ _
  -- the block's own dict is pinned through the store
  obtain ⟨oC, esC, epC, hoC, hdC, rC⟩ := id hn
  have IP : Inv X (pins ++ [(C, oC)]) σ H' s' := IX.pins_of fun p hp => by
    rcases List.mem_append.mp hp with z | z
    · exact IX.pin p (List.mem_append_right _ z)
    · have e : p = (C, oC) := by simpa using z
      subst e
      exact ⟨hoC, hf, hL, h4, fun v z => by rw [hdC] at z; cases z⟩
  refine thn (pg_name hN hi' (.inl hx) (.inr hx) _ s' σ H' (.ref acc) (.ref acc) D.nx IP rfl q) fun _ s'' ⟨σ', H'', I'', q''⟩ => ?_
  obtain ⟨e1, e2, _⟩ := I''.pin (C, oC) (List.mem_append_right _ (List.mem_append_right _ (by simp)))
  refine ⟨m, ⟨oC, esC, epC, e1, hdC, rC⟩, fun h' sb => ⟨σ', H'', ?_, q''⟩⟩
  exact I''.unpinned.turned (t' := s''.toks) (fun b o hb e => sb.extBut b o hb e) e2 hL h1 h2 h3
end
end L2


namespace L2
open PySem PySem.Spec PyProof.Rows

theorem PE.mono {X : Cx} {e : Expr} {t t' : TE} (h : PE X e t) (m : ∀ σ H Q, t' σ H Q → t σ H Q) : PE X e t' := fun pins s σ H Q I q => h pins s σ H Q I (m σ H Q q)

theorem same_upd {H : Hp} {a : Addr} {o : HO} (h : H a = none) : Same H (upd H a o) := fun b u e => by
  rw [upd_ne (ne_of_none e h)]; exact e
theorem same_updR {H H' : Hp} {a : Addr} {o : HO} (s : Same H H') (h : H a = none) : Same H (upd H' a o) := fun b u e => by
  rw [upd_ne (ne_of_none e h)]; exact s b u e

def SameT (H H' : Hp) : Prop := ∀ b xs, H b = some (.tup xs) → H' b = some (.tup xs)
theorem Same.t {H H' : Hp} (h : Same H H') : SameT H H' := fun b xs e => h b _ e
theorem SameT.trans {H H1 H2 : Hp} (a : SameT H H1) (b : SameT H1 H2) : SameT H H2 := fun c o h => b c o (a c o h)
theorem sameT_lst {H : Hp} {a : Addr} {xs ys : List V} (h : H a = some (.lst xs)) : SameT H (upd H a (.lst ys)) := fun b zs e => by
  rw [upd_ne (ne_of e h (by intro z; cases z))]; exact e

structure Yields (J : It) (Ok : Hp → Prop) (xs : List V) : Prop where
  go : ∀ i H, Ok H → i < xs.length → J.go i H
  yld : ∀ i H x H', Ok H → i < xs.length → J.yld i H x H' → H' = H ∧ xs[i]? = some x
  stop : ∀ H, Ok H → J.stop xs.length H
theorem yields_list {K : PySem.W.Frag} {a : Addr} {xs : List V} : Yields (Itl K a) (fun H => SqL K H a xs) xs :=
  ⟨fun i H q h => ⟨xs, xs[i], q, by simp [h]⟩, fun i H x H' q _ y => ⟨y.1, y.2 xs q⟩, fun H q => ⟨xs, q, Nat.le_refl _⟩⟩
theorem yields_tup {K : PySem.W.Frag} {a : Addr} {xs : List V} : Yields (Itt K a) (fun H => SqT K H a xs) xs :=
  ⟨fun i H q h => ⟨xs, xs[i], q, by simp [h]⟩, fun i H x H' q _ y => ⟨y.1, y.2 xs q⟩, fun H q => ⟨xs, q, Nat.le_refl _⟩⟩
def rangeV (lo : Int) (n : Nat) : List V := (List.range n).map fun (i : Nat) => V.int (lo + (i : Int))
theorem rangeV_len (lo : Int) (n : Nat) : (rangeV lo n).length = n := by simp [rangeV]
theorem rangeV_get {lo : Int} {n i : Nat} (h : i < n) : (rangeV lo n)[i]? = some (V.int (lo + (i : Int))) := by
  simp [rangeV, h]
theorem yields_range {lo : Int} {n : Nat} : Yields (Itr lo n) (fun _ => True) (rangeV lo n) := by
  refine ⟨fun i H _ h => ?_, fun i H x H' _ h y => ?_, fun H _ => ?_⟩
  · rw [rangeV_len] at h; exact h
  · obtain ⟨y1, y2⟩ := y
    rw [rangeV_len] at h
    exact ⟨y1, by rw [rangeV_get h, y2]⟩
  · rw [rangeV_len]; exact Nat.le_refl _

section
variable {J : It} {Ok : Hp → Prop} {xs : List V} {tt : TT} {te : TE} {ix : List Nat} {σ : St} {H1 : Hp} {Q : VK}
theorem lc_pure (Y : Yields J Ok xs) (small : xs.length < sizeLine) (p : V → Bool) (f : V → V) (hok : ∀ H, Same H1 H → Ok H)
    (ht : ∀ x ∈ xs, ∀ H, Same H1 H → ∀ Q' : Bool → Hp → Prop, Q' (p x) H → tt (some x :: ix.map fun i => σ.getD i none) H Q')
    (he : ∀ x ∈ xs, p x = true → ∀ H, Same H1 H → ∀ Q' : VK, Q' (f x) H → te (some x :: ix.map fun i => σ.getD i none) H Q')
    (fin : ∀ acc, H1 acc = none → Q (.ref acc) (upd H1 acc (.lst ((xs.filter p).map f)))) :
    LcW J H1 (gName 0) tt te 1 ix σ Q := by
  intro acc ha
  refine ⟨fun i m H => m = xs.length - i ∧ i ≤ xs.length ∧ H = upd H1 acc (.lst (((xs.take i).filter p).map f)), ⟨xs.length, by simp, Nat.zero_le _, rfl⟩, ?_⟩
  rintro i m H ⟨rfl, hi, rfl⟩
  have sm : Same H1 (upd H1 acc (.lst (((xs.take i).filter p).map f))) := same_upd ha
  have o := hok _ sm
  by_cases hlt : i < xs.length
  · refine .inr ⟨Y.go i _ o hlt, fun x H' y => ?_⟩
    obtain ⟨rfl, hx⟩ := Y.yld i _ x H' o hlt y
    have hmem : x ∈ xs := List.mem_of_getElem? hx
    have htk : xs.take (i + 1) = xs.take i ++ [x] := by
      rw [List.take_succ, hx]; rfl
    refine ⟨⟨rfl, fun j v e => ?_⟩, ?_⟩
    · cases j with
      | zero => cases e
      | succ j => exact e
    · refine ht x hmem _ sm _ ?_
      cases hp : p x with
      | false =>
        rw [if_neg Bool.false_ne_true]
        refine ⟨xs.length - (i + 1), by omega, rfl, hlt, ?_⟩
        rw [htk, List.filter_append]
        simp [hp]
      | true =>
        rw [if_pos rfl]
        refine he x hmem hp _ sm _ ?_
        refine ⟨_, upd_same, ?_, xs.length - (i + 1), by omega, rfl, hlt, ?_⟩
        · rw [List.length_map]
          refine Nat.lt_of_le_of_lt (List.length_filter_le _ _) ?_
          rw [List.length_take]; omega
        · rw [upd_upd, htk, List.filter_append, List.map_append]
          simp [hp]
  · have e : i = xs.length := by omega
    subst e
    refine .inl ⟨Y.stop _ o, ?_⟩
    rw [List.take_length]
    exact fin acc ha

theorem lc_grow (Y : Yields J Ok xs) (small : xs.length < sizeLine) (R : V → V → Hp → Prop) (hR : ∀ x v H H', SameT H H' → R x v H → R x v H') (hok : ∀ H, Same H1 H → Ok H)
    (he : ∀ x ∈ xs, ∀ H, Same H1 H → ∀ Q' : VK, (∀ v H', Same H H' → R x v H' → Q' v H') → te (some x :: ix.map fun i => σ.getD i none) H Q')
    (fin : ∀ acc ys H', H1 acc = none → Same H1 H' → H' acc = some (.lst ys) → Paired (fun x v => R x v H') xs ys → Q (.ref acc) H') :
    LcW J H1 (gName 0) tNoTest te 1 ix σ Q := by
  intro acc ha
  refine ⟨fun i m H => m = xs.length - i ∧ i ≤ xs.length ∧ Same H1 H ∧ ∃ ys, H acc = some (.lst ys) ∧ Paired (fun x v => R x v H) (xs.take i) ys, ⟨xs.length, by simp, Nat.zero_le _, same_upd ha, [], upd_same, .nil⟩, ?_⟩
  rintro i m H ⟨rfl, hi, sm, ys, hacc, pr⟩
  have o := hok _ sm
  have hlen : ys.length = i := by rw [← Paired.length pr, List.length_take]; omega
  by_cases hlt : i < xs.length
  · refine .inr ⟨Y.go i _ o hlt, fun x H' y => ?_⟩
    obtain ⟨rfl, hx⟩ := Y.yld i _ x H' o hlt y
    have hmem : x ∈ xs := List.mem_of_getElem? hx
    have htk : xs.take (i + 1) = xs.take i ++ [x] := by
      rw [List.take_succ, hx]; rfl
    refine ⟨⟨rfl, fun j v e => ?_⟩, ?_⟩
    · cases j with
      | zero => cases e
      | succ j => exact e
    · unfold tNoTest
      dsimp only
      rw [if_pos rfl]
      refine he x hmem _ sm _ fun v H4 s4 r4 => ?_
      have h4 : H4 acc = some (.lst ys) := s4 _ _ hacc
      refine ⟨ys, h4, by omega, xs.length - (i + 1), by omega, rfl, hlt, same_updR (sm.trans s4) ha, ys ++ [v], upd_same, ?_⟩
      rw [htk]
      have st : SameT H4 (upd H4 acc (.lst (ys ++ [v]))) := sameT_lst h4
      exact Paired.snoc (Paired.mapP pr fun x' v' r' => hR _ _ _ _ (s4.t.trans st) r') (hR _ _ _ _ st r4)
  · have e : i = xs.length := by omega
    subst e
    refine .inl ⟨Y.stop _ o, ?_⟩
    rw [List.take_length] at pr
    exact fin acc ys H ha sm hacc pr
end
end L2


namespace L2
open PySem PySem.Spec PyProof.Rows
section
variable {prog : Program} {w : World} {A : Around} {E : Value → Shared → Prop} {s : Shared}

theorem nextT_item {it t : Addr} {i : Nat} {its : Array Value} {x : Value} {Q : Value → Shared → Prop} (hi : s.heap.IsTupleIter it t i) (ht : s.heap.IsTuple t its) (hx : its[i]? = some x)
    (q : ∀ h', h'.IsTupleIter it t (i + 1) → Heap.SameBut it s.heap h' → Q x { s with heap := h' }) : wpAny (model prog w) A (Builtin.SmallTypes.nextOf (.ref it)) Q E s := by
  obtain ⟨o, e1, e2, e3⟩ := id hi
  obtain ⟨u, f1, f2, nu, f3⟩ := ht
  unfold Builtin.SmallTypes.nextOf
  refine wpAny_bind (wpAny_callSpecial?_slot (name := Str.ofString "__next__") hi.typeIs F.slot_tuple_iterator_next (wpAny_call_entry F.slot_tuple_iterator_next hi.typeIs F.entry_tuple_iterator_next ?_ (F.args_tuple_iterator_next_1 _)))
  show wpAny _ _ (field (.ref it) 0 >>= _) _ _ s
  refine wpAny_bind (wpAny_field e1 e3 (x := .ref t) rfl ?_)
  show wpAny _ _ (if (Value.ref t == Value.none) = true then _ else _) _ _ s
  rw [if_neg (show ¬ ((Value.ref t == Value.none) = true) from Bool.false_ne_true)]
  show wpAny _ _ (field (.ref it) 1 >>= _) _ _ s
  refine wpAny_bind (wpAny_field e1 e3 (x := .int i 0) rfl ?_)
  show wpAny _ _ (seqItems? (.ref t) >>= _) _ _ s
  refine wpAny_bind (wpAny_seqItems f1 f3 ?_)
  simp only [Int.toNat_natCast, hx]
  refine wpAny_bind (wpAny_setField e1 e3 (by simp) (wpAny_pure ⟨x, rfl, wpAny_pure (q _ ⟨_, Heap.get?_update_self _ e1 (Obj.isFreed_of_fields (Obj.data_mapFields e3 _)), (Obj.cls_mapFields ..).trans e2, ?_⟩ (Heap.SameBut.update ..))⟩))
  rw [Obj.data_mapFields e3]
  simp [rawInt]
theorem nextT_end {it t : Addr} {i : Nat} {its : Array Value} {Q : Value → Shared → Prop} (hh : A.handled = none) (hi : s.heap.IsTupleIter it t i) (ht : s.heap.IsTuple t its) (hx : its[i]? = none)
    (q : ∀ h' e, Heap.ExtBut it s.heap h' → (∃ o, h'.get? e = some o ∧ o.cls = .type "StopIteration") → E (.ref e) { s with heap := h' }) : wpAny (model prog w) A (Builtin.SmallTypes.nextOf (.ref it)) Q E s := by
  obtain ⟨o, e1, e2, e3⟩ := id hi
  obtain ⟨u, f1, f2, nu, f3⟩ := ht
  unfold Builtin.SmallTypes.nextOf
  refine wpAny_bind (wpAny_callSpecial?_slot (name := Str.ofString "__next__") hi.typeIs F.slot_tuple_iterator_next (wpAny_call_entry F.slot_tuple_iterator_next hi.typeIs F.entry_tuple_iterator_next ?_ (F.args_tuple_iterator_next_1 _)))
  show wpAny _ _ (field (.ref it) 0 >>= _) _ _ s
  refine wpAny_bind (wpAny_field e1 e3 (x := .ref t) rfl ?_)
  show wpAny _ _ (if (Value.ref t == Value.none) = true then _ else _) _ _ s
  rw [if_neg (show ¬ ((Value.ref t == Value.none) = true) from Bool.false_ne_true)]
  show wpAny _ _ (field (.ref it) 1 >>= _) _ _ s
  refine wpAny_bind (wpAny_field e1 e3 (x := .int i 0) rfl ?_)
  show wpAny _ _ (seqItems? (.ref t) >>= _) _ _ s
  refine wpAny_bind (wpAny_seqItems f1 f3 ?_)
  simp only [Int.toNat_natCast, hx]
  refine wpAny_bind (wpAny_rule (wpAny_bind (wpAny_setField e1 e3 (by simp) ?_)))
  show wpAny _ _ (newExc (.type "StopIteration") [] >>= _) _ _ _
  refine wpAny_bind ?_
  simp only [newExc, newTuple]
  refine wpAny_bind (wpAny_newObj_type ?_ (by size_fits))
  refine wpAny_bind (m := firstArgMember _ _) (wpAny_of_eq (a := Value.none) (by first | rfl | (simp only [firstArgMember]; rfl)) ?_)
  refine wpAny_newObj_type ?_ (by size_fits)
  simp only [raiseNew]
  refine wpAny_bind (wpAny_handled ?_)
  first | rw [show A.in1.handled = none from hh] | rw [hh]
  refine wpAny_bind (wpAny_pure (wpAny_throw ?_))
  exact q _ _ (((Heap.SameBut.update ..).extBut.push _).push _) ⟨_, Heap.get?_push_size _ rfl, rfl⟩
end
theorem drawsT {prog : Program} {w : World} {A : Around} (hh : A.handled = none) (it t : Addr) (hne : t ≠ it) (its : Array Value) :
    Draws prog w A it [it, t] its.size (fun i v => its[i]? = some v) (fun i h => h.IsTupleIter it t i ∧ h.IsTuple t its) where
  live := fun _ _ st => let ⟨o, ho, _⟩ := st.1; ⟨o, ho⟩
  frame := fun _ _ _ st hk => ⟨let ⟨o, ho, r⟩ := st.1; ⟨o, hk it (by simp) o ho, r⟩, let ⟨o, ho, r⟩ := st.2; ⟨o, hk t (by simp) o ho, r⟩⟩
  item := fun i s Q E hi st hQ => nextT_item st.1 st.2 (x := its[i]) (by simp [hi]) fun h' a b => hQ _ h' s.toks (by simp [hi]) ⟨a, st.2.extBut b.extBut hne⟩ b
  done := fun s Q E st hE => nextT_end hh st.1 st.2 (by simp) hE

theorem enum_newT (l : Addr) (items : Array Value) (n : Nat) (dct : Option Addr) (sl : Array (Option Value)) :
    Meets (Builtin.«enumerate.__new__» ⟨[.type "enumerate", .ref l], []⟩) (fun _ R s => s.heap.get? l = some { cls := .type "tuple", dict := dct, data := .seq items n, slots := sl } ∧
      R (.ok (.ret (.ref (s.heap.push { cls := .type "tuple_iterator", data := .fields #[.ref l, .int 0 0] }).objs.size)))
        { s with heap := (s.heap.push { cls := .type "tuple_iterator", data := .fields #[.ref l, .int 0 0] }).push { cls := .type "enumerate", data := .fields #[.none, .bool false, .ref s.heap.objs.size, rawInt 0, .none, .none] } }) :=
  .of_wp fun prog w A R s h => by
    obtain ⟨hp, g, d, tk, os⟩ := s; obtain ⟨hl, h⟩ := h
    have hsub := sub_enumerate
    have hL : Heap.IsTuple (Shared.heap ⟨hp, g, d, tk, os⟩) l items := ⟨_, hl, rfl, n, rfl⟩
    wp_walk using AutoSeq1.wpAny_loadPart' hl
    refine wpAny_stack_any fun st => wpAny_pure ?_
    split
    · rename_i c _ _ _ _ _
      cases (c == Value.type "enumerate") <;> (wp_walk using AutoSeq1.wpAny_loadPart' hl, wpAny_pyIter_tuple hL; exact ⟨_, rfl, h⟩)
    · wp_walk using AutoSeq1.wpAny_loadPart' hl, wpAny_pyIter_tuple hL
      exact ⟨_, rfl, h⟩
theorem call_enumT {prog : Program} {w : World} {A : Around} {E : Value → Shared → Prop} {s : Shared} {l : Addr} {items : Array Value} {Q : Value → Shared → Prop} (hL : s.heap.IsTuple l items)
    (h : ∀ h', IsEnum h' (s.heap.objs.size + 1) s.heap.objs.size 0 .none → h'.IsTupleIter s.heap.objs.size l 0 → h'.objs.size = s.heap.objs.size + 2 →
      (∀ b o, s.heap.get? b = some o → h'.get? b = some o) → Q (.ref (s.heap.objs.size + 1)) { s with heap := h' }) :
    wpAny (model prog w) A (call (.type "enumerate") [.ref l]) Q E s := by
  obtain ⟨⟨c, dct, dt, sl⟩, hl, hc, n, hd⟩ := hL
  replace hc : c = .type "tuple" := hc
  replace hd : dt = .seq items n := hd
  subst hc hd
  refine callType_new F.called_enumerate (by decide) (F.typeCall_enumerate_1 _) (F.newCall_enumerate_1 _) (fun obj => F.args_object_init_2 obj _) F.entry_enumerate_new (enum_newT l items n dct sl) ⟨hl, ?_⟩
  have hz : (s.heap.push { cls := .type "tuple_iterator", data := .fields #[.ref l, .int 0 0] }).objs.size = s.heap.objs.size + 1 := Heap.size_push ..
  show _ ∧ _
  rw [hz]
  have he := Heap.get?_push_size (s.heap.push { cls := .type "tuple_iterator", data := .fields #[.ref l, .int 0 0] }) (o := { cls := .type "enumerate", data := .fields #[.none, .bool false, .ref s.heap.objs.size, rawInt 0, .none, .none] }) rfl
  rw [hz] at he
  exact ⟨⟨_, he, rfl⟩, h _ he ⟨_, Heap.get?_push_of_some _ (Heap.get?_push_size _ rfl), rfl, rfl⟩ (by rw [Heap.size_push, hz]) fun b o x => Heap.get?_push_of_some _ (Heap.get?_push_of_some _ x)⟩
end L2


namespace L2
open PySem PySem.Spec PyProof.Rows
section
variable {X : Cx} {pins : List (Addr × Obj)} {σ : St} {H : Hp} {s : Shared} {h' : Heap}
theorem Inv.turnedN {t' : Nat} {fp : List Addr} (I : Inv X pins σ H s) (hf : ∀ b ∈ fp, FpOk X pins H b) (k : ∀ b o, b ∉ fp → s.heap.get? b = some o → h'.get? b = some o) : Inv X pins σ H { s with heap := h', toks := t' } := by
  have nit : ∀ b u, H b = some u → b ∉ fp := fun b u e z => by rw [(hf b z).1] at e; cases e
  refine I.step (g' := s.gens) (d' := s.drawn) (ch := fp) (fun b hb => ?_) (fun b o _ _ hc e _ => k b o hc e) (fun b o _ _ hc e _ => ⟨o.slots, k b o hc e⟩) (fun _ _ _ _ n => n)
    (fun b o hc e => ⟨o, k b o hc e⟩) (fun _ _ e => e) (fun _ _ _ e => e) (fun b ps e => ⟨#[], by rw [e]; simp⟩) (fun m hm => ?_) (fun b u e => ?_) I.bare
  · obtain ⟨_, q1, q2, q3, q4, q5⟩ := hf b hb
    exact ⟨q3, q1, q4, q5⟩
  · obtain ⟨o, es, ep, ho, r⟩ := hm
    exact ⟨o, es, ep, k _ o (fun z => (hf _ z).2.1 rfl) ho, r⟩
  · refine (I.hok b u e).stay (fun c v hc q => k c v ?_ q) (fun _ q => q) fun _ _ q => q
    rcases hc with z | z
    · rw [z]; exact nit b u e
    · exact nit c _ z
theorem Inv.trackT {a : Addr} {xs : List V} {its : List Value} (I : Inv X pins σ H s) (hn : H a = none) (hs : X.s₀.heap.objs.size ≤ a) (hL : a ≠ X.env.locals) (hc : ∀ x c, X.env.cells.lookup x = some c → c ≠ a) (hp : ∀ p ∈ X.pn ++ pins, p.1 ≠ a)
    (rv : Vals xs its) (ht : PTup s.heap a its.toArray) (hz : xs.length ≤ sizeLine) : Inv X pins σ (upd H a (.tup xs)) s := by
  have ne : ∀ {b u}, H b = some u → b ≠ a := fun e => ne_of_none e hn
  refine ⟨I.ok, I.os, I.bare, ⟨I.base.keep, I.base.slot, fun b o e n hx => ?_, I.base.there, fun b ys e => ?_, fun b o u e => ?_, fun b ps e => ?_⟩, I.loc, I.cell, ?_, fun x c e => ?_, fun p hp' => ?_, fun b u e => ?_, I.len⟩
  · rw [upd_ne (Nat.ne_of_lt (Nat.lt_of_lt_of_le (Heap.lt_size e) hs))]
    exact I.base.free b o e n hx
  · have q := I.base.tups b ys e
    rw [upd_ne (ne q)]; exact q
  · have q := I.base.frzs b o u e
    rw [upd_ne (ne q)]; exact q
  · obtain ⟨m, q⟩ := I.base.tbls b ps e
    exact ⟨m, by rw [upd_ne (ne q)]; exact q⟩
  · rw [upd_ne (Ne.symm hL)]; exact I.free
  · rw [upd_ne (hc x c e)]; exact I.freeC x c e
  · obtain ⟨q1, q2, q3⟩ := I.pin p hp'
    exact ⟨q1, by rw [upd_ne (hp p hp')]; exact q2, q3⟩
  · by_cases hb : b = a
    · subst hb
      rw [upd_same] at e; cases e
      exact ⟨hz, its, rv, ht⟩
    · rw [upd_ne hb] at e
      exact (I.hok b u e).stay (fun _ _ _ q => q) (fun c q => by rw [upd_ne (ne q)]; exact q) fun c ys q => by rw [upd_ne (ne q)]; exact q
theorem Inv.turnedT {t' : Nat} {fp : List Addr} {xs : List V} {its : List Value} (I : Inv X pins σ H s) (hf : ∀ b ∈ fp, FpOk X pins H b) (k : ∀ b o, b ∉ fp → s.heap.get? b = some o → h'.get? b = some o)
    (rv : Vals xs its) (ht : PTup h' s.heap.objs.size its.toArray) (hz : xs.length ≤ sizeLine) : Inv X pins σ (upd H s.heap.objs.size (.tup xs)) { s with heap := h', toks := t' } := by
  refine (I.turnedN (t' := t') hf k).trackT (I.hok.fresh (Nat.le_refl _)) I.sz (Nat.ne_of_gt I.lt) (fun x c e => ?_) (fun p hp => ?_) rv ht hz
  · obtain ⟨v, q⟩ := I.cell x c e
    exact Nat.ne_of_lt q.lt
  · exact Nat.ne_of_lt (Heap.lt_size (I.pin p hp).1)
end

def Ite (K : PySem.W.Frag) (a : Addr) : It :=
  ⟨fun i H => ∃ xs x, SqT K H a xs ∧ xs[i]? = some x, fun i H v H' => ∃ t x, H t = none ∧ v = .ref t ∧ H' = upd H t (.tup [.int i, x]) ∧ ∀ xs, SqT K H a xs → xs[i]? = some x, fun i H => ∃ xs, SqT K H a xs ∧ xs.length = i⟩
theorem turn_enumT {P : Program} {w : World} {K : PySem.W.Frag} {els : List Expr} {kx} {tp : Pos} (a e it : Addr) (hne : e ≠ it) : Turn P w K (.Tuple els kx tp) (Ite K a) [e, it] e (fun i h => (∃ old, IsEnum h e it i old) ∧ h.IsTupleIter it a i) where
  mem := by simp
  obj := fun i h st b hb => by
    obtain ⟨⟨old, he⟩, o, ho, hc, hd⟩ := st
    rcases List.mem_cons.mp hb with rfl | hb
    · exact ⟨_, he, fun v z => by cases z⟩
    · rw [List.mem_singleton.mp hb]
      exact ⟨o, ho, fun v z => by rw [hd] at z; cases z⟩
  keep := fun i h h' st k => by
    obtain ⟨⟨old, he⟩, o, ho, r⟩ := st
    exact ⟨⟨old, k e (by simp) _ he⟩, o, k it (by simp) _ ho, r⟩
  item := by
    intro X hP hw hK hc i pins s σ H E I hf st hg
    subst hP hw hK
    obtain ⟨xs, x, hq, hx⟩ := hg
    obtain ⟨its, rv, p, hz⟩ := I.tuple hq
    obtain ⟨u, hu, ru⟩ := rv.get hx
    obtain ⟨⟨old, he⟩, hi⟩ := st
    obtain ⟨o, ho, hcl, hd⟩ := id hi
    have hT : s.heap.IsTuple a its.toArray := p
    have hai : a ≠ it := fun z => by
      obtain ⟨o', e1, e2, _⟩ := p
      rw [z, ho] at e1; cases e1; rw [hcl] at e2; injection e2 with z2; revert z2; decide
    have hae : e ≠ a := fun z => by
      obtain ⟨o', e1, e2, _⟩ := p
      rw [← z, he] at e1; cases e1; injection e2 with z2; revert z2; decide
    have hlt : i < its.toArray.size := by
      have := (List.getElem?_eq_some_iff.mp hu).1
      simpa using this
    have hh : X.A.in1.handled = none := I.ok.hd hc
    refine wpAny_pyNext_enum_itemD (drawsT hh it a hai its.toArray) he ⟨hi, hT⟩ hlt hne (by simp [hne, hae]) fun x' h1 tk hP1 ho1 hs1 hT1 hz1 hk1 => ?_
    have ex : x' = u := by
      have q : its[i]? = some x' := by simpa using hP1
      rw [hu] at q; exact (Option.some.inj q).symm
    subst ex
    refine ⟨_, rfl, wpAny_letOwnedTupleGo_enum ho1 fun h2 he2 hs2 => ?_⟩
    have hne0 : s.heap.objs.size ≠ e := Nat.ne_of_gt (Heap.lt_size he)
    have keep : ∀ b o, b ∉ [e, it] → s.heap.get? b = some o → h2.get? b = some o := fun b o hb e0 => (hs2.2 b fun z => hb (by simp [z])).trans (hk1 b o (fun z => hb (by simp [z])) (fun z => hb (by simp [z])) e0)
    refine ⟨.ref s.heap.objs.size, _, I.turnedT (h' := h2) (t' := tk + 1) (xs := [.int i, x]) hf keep (.cons ⟨tk, rfl⟩ (.cons ru .nil)) ⟨_, (hs2.2 _ hne0).trans hT1, rfl, ⟨_, rfl⟩, rfl, rfl⟩ (by show 2 ≤ sizeLine; decide), rfl, ⟨_, x, I.hok.fresh (Nat.le_refl _), rfl, rfl, fun ys hy => by rw [I.tuple_inj hy hq]; exact hx⟩, ⟨⟨_, by simpa using he2⟩, ?_⟩, fun b hb => ?_⟩
    · obtain ⟨⟨o1, e1, r1⟩, _⟩ := hs1
      exact ⟨o1, (hs2.2 it (Ne.symm hne)).trans e1, r1⟩
    · rcases List.mem_cons.mp hb with rfl | hb'
      · rw [upd_ne (Nat.ne_of_lt (Heap.lt_size he))]; exact (hf _ hb).1
      · have e9 := List.mem_singleton.mp hb'
        subst e9
        rw [upd_ne (Nat.ne_of_lt (Heap.lt_size ho))]; exact (hf _ hb).1
  done := by
    intro X hP hw hK hc i pins s σ H E I hf st hg
    subst hP hw hK
    obtain ⟨xs, hq, hx⟩ := hg
    obtain ⟨its, rv, p, hz⟩ := I.tuple hq
    obtain ⟨⟨old, he⟩, hi⟩ := st
    obtain ⟨o, ho, hcl, hd⟩ := id hi
    have hT : s.heap.IsTuple a its.toArray := p
    have hai : a ≠ it := fun z => by
      obtain ⟨o', e1, e2, _⟩ := p
      rw [z, ho] at e1; cases e1; rw [hcl] at e2; injection e2 with z2; revert z2; decide
    have hh : X.A.in1.handled = none := I.ok.hd hc
    have hl : its.toArray.size = i := by rw [List.size_toArray, ← rv.length, hx]
    refine wpAny_pyNext_enum_endD (drawsT hh it a hai its.toArray) he (by rw [hl]; exact ⟨hi, hT⟩) fun h1 hk => ⟨rfl, ?_⟩
    exact I.turnedN (t' := s.toks) hf fun b o hb e0 => hk b o (fun z => hb (by simp [z])) e0
  self := fun _ _ _ _ _ st h => by
    obtain ⟨⟨old, he⟩, _⟩ := st
    exact wpAny_pyIter_enum he h
section
variable {X : Cx}
def iEnum (K : PySem.W.Frag) (ta : TA) : TI := fun σ H R => ta σ H fun vs H1 => ∃ a, vs = [.ref a] ∧ (∃ xs, SqT K H1 a xs) ∧ R (Ite K a) H1
theorem pi_enumT {els : List Expr} {kx} {tp : Pos} {l : Expr} {ta : TA} {p pos : Pos} (hg : Gl X "enumerate") (hm : X.mg "enumerate" = none) (ha : PA X [l] ta) (hs : starEach [l] X.env = [(false, eval l X.env)] := by rfl) :
    PI X (.Tuple els kx tp) (.Call (.Name "enumerate" p) [l] [] pos) (iEnum X.K ta) := by
  intro pins s σ H R I h
  refine Call_ (ld_blt I hg hm boot_enumerate (PyProof.Rows.callWith_type1 (thn (ha pos pins s σ H _ I h) fun us s1 ⟨vs, H1, I1, r1, q1⟩ => ?_) hs rfl))
  obtain ⟨a, rfl, ⟨xs, hq⟩, q⟩ := q1
  obtain ⟨u, rfl, ru⟩ := vals1 r1
  cases (show u = Value.ref a from ru)
  obtain ⟨its, rv, p', hz⟩ := I1.tuple hq
  refine call_enumT (show s1.heap.IsTuple a its.toArray from p') fun h' he hi hsz hk => wpAny_pyIter_enum he ?_
  have I2 : Inv X pins σ H1 { s1 with heap := h' } := I1.kept (t' := s1.toks) hk
  refine ⟨s1.heap.objs.size + 1, [s1.heap.objs.size + 1, s1.heap.objs.size], _, _, H1, rfl, I2, turn_enumT a _ _ (Nat.ne_of_gt (Nat.lt_succ_self _)), ⟨⟨_, he⟩, hi⟩, fun b hb => ?_, q⟩
  rcases List.mem_cons.mp hb with rfl | hb
  · exact I1.fpOk (Nat.le_succ _) (I1.hok.fresh (Nat.le_succ _))
  · rw [List.mem_singleton.mp hb]
    exact I1.fpOk (Nat.le_refl _) (I1.hok.fresh (Nat.le_refl _))
end
end L2


namespace L2
open PySem PySem.Spec PyProof.Rows

structure ZipT (h : Heap) (z TI TO i1 i2 a b : Addr) (i : Nat) : Prop where
  z : IsZip h z TI TO .none
  ti : IsPair h TI (.ref i1) (.ref i2)
  to : ∃ x y, IsPair h TO x y
  one : h.IsTupleIter i1 a i
  two : h.IsTupleIter i2 b i
structure ZipNe (z TI TO i1 i2 : Addr) : Prop where
  az : TI ≠ z
  bz : TO ≠ z
  cz : i1 ≠ z
  dz : i2 ≠ z
  ab : TI ≠ TO
  ac : TI ≠ i1
  ad : TI ≠ i2
  bc : TO ≠ i1
  bd : TO ≠ i2
  cd : i1 ≠ i2
section
variable {prog : Program} {w : World} {A : Around} {E : Value → Shared → Prop} {s : Shared} {z TI TO i1 i2 a b : Addr} {i : Nat} {xs ys : Array Value}
theorem pairSet {T : Addr} {p q x : Value} {k : Nat} {Q : Unit → Shared → Prop} (hT : IsPair s.heap T p q) (h : ∀ h', h'.get? T = some { cls := .type "tuple", data := .seq ((#[p, q] : Array Value).setIfInBounds k x) } → Heap.SameBut T s.heap h' → Q () { s with heap := h' }) :
    wpAny (model prog w) A (updateSeq T (·.setIfInBounds k x)) Q E s := wpAny_updateSeq_pair hT h

theorem tupNe {h : Heap} {t j : Addr} {k : Nat} {its : Array Value} {u : Addr} (ht : h.IsTuple t its) (hj : h.IsTupleIter j u k) : t ≠ j := fun e => by
  obtain ⟨o, e1, e2, _⟩ := ht
  obtain ⟨o', f1, f2, _⟩ := hj
  rw [e, f1] at e1; cases e1; rw [f2] at e2; injection e2 with z2; revert z2; decide

theorem zipT_item {x y : Value} {Q : Option Value → Shared → Prop} (D : ZipNe z TI TO i1 i2) (S : ZipT s.heap z TI TO i1 i2 a b i) (ha : s.heap.IsTuple a xs) (hb : s.heap.IsTuple b ys) (haz : a ≠ z ∧ a ≠ TO) (hbz : b ≠ z ∧ b ≠ TO) (hx : xs[i]? = some x) (hy : ys[i]? = some y)
    (q : ∀ h', IsZip h' z TI TO (rawInt s.heap.objs.size) → IsPair h' TI (.ref i1) (.ref i2) → IsPair h' TO x y → h'.IsTupleIter i1 a (i + 1) → h'.IsTupleIter i2 b (i + 1) → IsPair h' s.heap.objs.size x y →
      (∀ c o, c ≠ z → c ≠ TO → c ≠ i1 → c ≠ i2 → s.heap.get? c = some o → h'.get? c = some o) → Q (some (.ref s.heap.objs.size)) { s with heap := h' }) :
    wpAny (model prog w) A (pyNext (.ref z)) Q E s := by
  obtain ⟨hz, hti, ⟨p0, p1, hto⟩, h1, h2⟩ := S
  have ai1 := tupNe ha h1
  have ai2 := tupNe ha h2
  have bi1 := tupNe hb h1
  have bi2 := tupNe hb h2
  have hT : s.TypeIs (.ref z) "zip" := ⟨_, hz, rfl⟩
  unfold pyNext
  refine wpAny_bind (wpAny_attempt (wpAny_callSpecial?_slot (name := Str.ofString "__next__") hT F.slot_zip_next (wpAny_call_entry F.slot_zip_next hT F.entry_zip_next ?_ (F.args_zip_next_1 _))))
  show wpAny _ _ (field (.ref z) 2 >>= _) _ _ _
  refine wpAny_bind (wpAny_field hz rfl (x := .bool false) rfl ?_); show wpAny _ _ (field (.ref z) 3 >>= _) _ _ _
  refine wpAny_bind (wpAny_field hz rfl (x := .ref TI) rfl (wpAny_bind (wpAny_seqItems hti rfl ?_)))
  show wpAny _ _ (Builtin.SmallTypes.ownedTupleIsFree (.ref z) >>= _) _ _ _
  refine wpAny_bind ?_
  unfold Builtin.SmallTypes.ownedTupleIsFree
  refine wpAny_bind (wpAny_field hz rfl (x := .none) rfl (wpAny_pure ?_)); simp only [if_true]
  refine wpAny_bind (wpAny_rule (wpAny_bind (wpAny_field hz rfl (x := .ref TO) rfl (wpAny_bind (wpAny_setField_rec hz (by simp) fun g1 k1 s1 => ?_)))))
  replace k1 : IsZip g1 z TI TO .ellipsis := k1
  refine wpAny_bind ?_
  simp only [List.zipIdx_cons, List.zipIdx_nil, List.forIn_cons, List.forIn_nil]
  -- the first
  refine wpAny_bind (wpAny_bind (wpAny_onRaise ?_)); show wpAny _ _ (Builtin.SmallTypes.nextOf (.ref i1) >>= _) _ _ _
  refine wpAny_bind (nextT_item (h1.extBut s1.extBut D.cz) (ha.extBut s1.extBut haz.1) hx fun g2 j2 s2 => wpAny_pure ?_)
  have t2 : IsPair g2 TO p0 p1 := s2.extBut _ _ D.bc (s1.extBut _ _ D.bz hto)
  refine wpAny_bind (wpAny_seqItems t2 rfl (wpAny_bind (pairSet t2 fun g3 t3 s3 => ?_)))
  replace t3 : IsPair g3 TO x p1 := t3
  refine wpAny_bind (wpAny_letGo (wpAny_pure ?_))
  -- the second
  refine wpAny_bind (wpAny_bind (wpAny_onRaise ?_)); show wpAny _ _ (Builtin.SmallTypes.nextOf (.ref i2) >>= _) _ _ _
  have e3 : ∀ c o, c ≠ z → c ≠ i1 → c ≠ TO → s.heap.get? c = some o → g3.get? c = some o := fun c o c1 c2 c3 e => s3.extBut _ _ c3 (s2.extBut _ _ c2 (s1.extBut _ _ c1 e))
  have h23 : g3.IsTupleIter i2 b i := let ⟨o, ho, r⟩ := h2; ⟨o, e3 _ _ D.dz D.cd.symm D.bd.symm ho, r⟩
  have hb3 : g3.IsTuple b ys := let ⟨o, ho, r⟩ := hb; ⟨o, e3 _ _ hbz.1 bi1 hbz.2 ho, r⟩
  refine wpAny_bind (nextT_item h23 hb3 hy fun g4 j4 s4 => wpAny_pure ?_)
  have t4 : IsPair g4 TO x p1 := s4.extBut _ _ D.bd t3
  refine wpAny_bind (wpAny_seqItems t4 rfl (wpAny_bind (pairSet t4 fun g5 t5 s5 => ?_)))
  replace t5 : IsPair g5 TO x y := t5
  refine wpAny_bind (wpAny_letGo (wpAny_pure (wpAny_pure ?_)))
  -- the tuple that is handed out
  refine wpAny_bind (wpAny_seqItems t5 rfl (wpAny_bind (wpAny_newTuple ?_)))
  have z5 : g5.objs.size = s.heap.objs.size := by rw [s5.1, s4.1, s3.1, s2.1, s1.1]
  have e5 : ∀ c o, c ≠ z → c ≠ TO → c ≠ i1 → c ≠ i2 → s.heap.get? c = some o → g5.get? c = some o := fun c o c1 c2 c3 c4 e => s5.extBut _ _ c2 (s4.extBut _ _ c4 (e3 c o c1 c3 c2 e))
  have k5 : IsZip g5 z TI TO .ellipsis := s5.extBut _ _ D.bz.symm (s4.extBut _ _ D.dz.symm (s3.extBut _ _ D.bz.symm (s2.extBut _ _ D.cz.symm k1)))
  have m1 : g5.IsTupleIter i1 a (i + 1) := ((j2.extBut s3.extBut D.bc.symm).extBut s4.extBut D.cd).extBut s5.extBut D.bc.symm
  have m2 : g5.IsTupleIter i2 b (i + 1) := j4.extBut s5.extBut D.bd.symm
  have zlt : z < g5.objs.size := Heap.lt_size k5
  show wpAny _ _ (Builtin.SmallTypes.ownedTupleHandOut (.ref z) (.ref g5.objs.size) >>= _) _ _ _
  refine wpAny_bind ?_
  unfold Builtin.SmallTypes.ownedTupleHandOut
  have k6 : IsZip (g5.push { cls := .type "tuple", data := .seq #[x, y] }) z TI TO .ellipsis := Heap.get?_push_of_some _ k5
  refine wpAny_bind (wpAny_setField_rec k6 (by simp) fun g7 k7 s7 => ?_)
  replace k7 : IsZip g7 z TI TO (rawInt g5.objs.size) := k7
  refine wpAny_setField_rec k7 (by simp) fun g8 k8 s8 => ?_
  replace k8 : IsZip g8 z TI TO (rawInt g5.objs.size) := k8
  have up : ∀ c o, c ≠ z → g5.get? c = some o → g8.get? c = some o := fun c o c1 e => s8.extBut _ _ c1 (s7.extBut _ _ c1 (Heap.get?_push_of_some _ e))
  have t8 : IsPair g8 g5.objs.size x y := s8.extBut _ _ (Nat.ne_of_gt zlt) (s7.extBut _ _ (Nat.ne_of_gt zlt) (Heap.get?_push_size _ rfl))
  rw [z5] at k8 t8
  refine wpAny_pure ⟨_, rfl, wpAny_pure ?_⟩
  show Q (some (.ref g5.objs.size)) _
  rw [z5]
  exact q g8 k8 (up _ _ D.az (e5 _ _ D.az D.ab D.ac D.ad hti)) (up _ _ D.bz t5) (let ⟨o, ho, r⟩ := m1; ⟨o, up _ _ D.cz ho, r⟩) (let ⟨o, ho, r⟩ := m2; ⟨o, up _ _ D.dz ho, r⟩) t8 fun c o c1 c2 c3 c4 e => up c o c1 (e5 c o c1 c2 c3 c4 e)
end
end L2


namespace L2
open PySem PySem.Spec PyProof.Rows
section
variable {prog : Program} {w : World} {A : Around} {E : Value → Shared → Prop} {s : Shared} {z TI TO i1 i2 a b : Addr} {i : Nat} {xs ys : Array Value}
theorem zipT_end {Q : Option Value → Shared → Prop} (hh : A.in1.handled = none) (D : ZipNe z TI TO i1 i2) (S : ZipT s.heap z TI TO i1 i2 a b i) (ha : s.heap.IsTuple a xs) (hb : s.heap.IsTuple b ys) (haz : a ≠ z ∧ a ≠ TO) (hbz : b ≠ z ∧ b ≠ TO) (hend : xs[i]? = none ∨ ys[i]? = none)
    (q : ∀ h', (∀ c o, c ≠ z → c ≠ TO → c ≠ i1 → c ≠ i2 → s.heap.get? c = some o → h'.get? c = some o) → Q none { s with heap := h' }) :
    wpAny (model prog w) A (pyNext (.ref z)) Q E s := by
  obtain ⟨hz, hti, ⟨p0, p1, hto⟩, h1, h2⟩ := S
  have bi1 := tupNe hb h1
  have hT : s.TypeIs (.ref z) "zip" := ⟨_, hz, rfl⟩
  unfold pyNext
  refine wpAny_bind (wpAny_attempt (wpAny_callSpecial?_slot (name := Str.ofString "__next__") hT F.slot_zip_next (wpAny_call_entry F.slot_zip_next hT F.entry_zip_next ?_ (F.args_zip_next_1 _))))
  show wpAny _ _ (field (.ref z) 2 >>= _) _ _ _
  refine wpAny_bind (wpAny_field hz rfl (x := .bool false) rfl ?_); show wpAny _ _ (field (.ref z) 3 >>= _) _ _ _
  refine wpAny_bind (wpAny_field hz rfl (x := .ref TI) rfl (wpAny_bind (wpAny_seqItems hti rfl ?_)))
  show wpAny _ _ (Builtin.SmallTypes.ownedTupleIsFree (.ref z) >>= _) _ _ _
  refine wpAny_bind ?_
  unfold Builtin.SmallTypes.ownedTupleIsFree
  refine wpAny_bind (wpAny_field hz rfl (x := .none) rfl (wpAny_pure ?_)); simp only [if_true]
  refine wpAny_bind (wpAny_rule (wpAny_bind (wpAny_field hz rfl (x := .ref TO) rfl (wpAny_bind (wpAny_setField_rec hz (by simp) fun g1 k1 s1 => ?_)))))
  replace k1 : IsZip g1 z TI TO .ellipsis := k1
  refine wpAny_bind ?_
  simp only [List.zipIdx_cons, List.zipIdx_nil, List.forIn_cons, List.forIn_nil]
  -- what an exception of an iterator's end comes to
  have fin : ∀ (g : Heap) (e : Addr), IsZip g z TI TO .ellipsis → (∀ c o, c ≠ z → c ≠ TO → c ≠ i1 → c ≠ i2 → s.heap.get? c = some o → g.get? c = some o) → (∃ o, g.get? e = some o ∧ o.cls = .type "StopIteration") →
      wpAny (model prog w) A.in1 (setField (.ref z) 0 .none) (fun _ s' => wpAny (model prog w) A (do if ← isInstance (.ref e) (.type "StopIteration") then pure none else throw (Value.ref e)) Q E s') (fun e' s' => wpAny (model prog w) A (do if ← isInstance e' (.type "StopIteration") then pure none else throw e') Q E s') { s with heap := g } := by
    rintro g e kz kk ⟨oe, f1, f2⟩
    have ez : e ≠ z := fun y => by subst y; rw [kz] at f1; cases f1; injection f2 with z2; revert z2; decide
    refine wpAny_setField_rec kz (by simp) fun g' _ s' => ?_
    refine wpAny_bind (wpAny_isInstance (T := "StopIteration") (b := true) ⟨oe, s'.extBut _ _ ez f1, f2⟩ isSubtype_stop ?_)
    exact wpAny_pure (q g' fun c o c1 c2 c3 c4 y => s'.extBut _ _ c1 (kk c o c1 c2 c3 c4 y))
  refine wpAny_bind (wpAny_bind (wpAny_onRaise ?_)); show wpAny _ _ (Builtin.SmallTypes.nextOf (.ref i1) >>= _) _ _ _
  cases hx : xs[i]? with
  | none =>
    refine wpAny_bind (nextT_end hh (h1.extBut s1.extBut D.cz) (ha.extBut s1.extBut haz.1) hx fun g2 e s2 he => ?_)
    exact fin g2 e (s2 _ _ D.cz.symm k1) (fun c o c1 _ c3 _ y => s2 _ _ c3 (s1.extBut _ _ c1 y)) he
  | some x =>
    have hy : ys[i]? = none := by rcases hend with h | h; rw [hx] at h; cases h; exact h
    refine wpAny_bind (nextT_item (h1.extBut s1.extBut D.cz) (ha.extBut s1.extBut haz.1) hx fun g2 j2 s2 => wpAny_pure ?_)
    have t2 : IsPair g2 TO p0 p1 := s2.extBut _ _ D.bc (s1.extBut _ _ D.bz hto)
    refine wpAny_bind (wpAny_seqItems t2 rfl (wpAny_bind (pairSet t2 fun g3 t3 s3 => ?_)))
    refine wpAny_bind (wpAny_letGo (wpAny_pure ?_))
    refine wpAny_bind (wpAny_bind (wpAny_onRaise ?_)); show wpAny _ _ (Builtin.SmallTypes.nextOf (.ref i2) >>= _) _ _ _
    have e3 : ∀ c o, c ≠ z → c ≠ i1 → c ≠ TO → s.heap.get? c = some o → g3.get? c = some o := fun c o c1 c2 c3 e => s3.extBut _ _ c3 (s2.extBut _ _ c2 (s1.extBut _ _ c1 e))
    have h23 : g3.IsTupleIter i2 b i := let ⟨o, ho, r⟩ := h2; ⟨o, e3 _ _ D.dz D.cd.symm D.bd.symm ho, r⟩
    have hb3 : g3.IsTuple b ys := let ⟨o, ho, r⟩ := hb; ⟨o, e3 _ _ hbz.1 bi1 hbz.2 ho, r⟩
    refine wpAny_bind (nextT_end hh h23 hb3 hy fun g4 e s4 he => ?_)
    exact fin g4 e (s4 _ _ D.dz.symm (s3.extBut _ _ D.bz.symm (s2.extBut _ _ D.cz.symm k1))) (fun c o c1 c2 c3 c4 y => s4 _ _ c4 (e3 c o c1 c3 c2 y)) he

abbrev zT1 (h : Heap) (l1 : Addr) : Heap := h.push { cls := .type "tuple_iterator", data := .fields #[.ref l1, .int 0 0] }
abbrev zT2 (h : Heap) (l1 l2 : Addr) : Heap := (zT1 h l1).push { cls := .type "tuple_iterator", data := .fields #[.ref l2, .int 0 0] }
abbrev zT3 (h : Heap) (l1 l2 : Addr) : Heap := (zT2 h l1 l2).push { cls := .type "tuple", data := .seq #[.ref h.objs.size, .ref (zT1 h l1).objs.size] }
abbrev zT4 (h : Heap) (l1 l2 : Addr) : Heap := (zT3 h l1 l2).push { cls := .type "tuple", data := .seq #[.none, .none] }
abbrev zT5 (h : Heap) (l1 l2 : Addr) : Heap := (zT4 h l1 l2).push { cls := .type "zip", data := .fields #[.none, .bool false, .bool false, .ref (zT2 h l1 l2).objs.size, .ref (zT3 h l1 l2).objs.size] }
theorem zip_newT (l1 l2 : Addr) (xs ys : Array Value) :
    Meets (Builtin.«zip.__new__» ⟨[.type "zip", .ref l1, .ref l2], []⟩) (fun _ R s => s.heap.IsTuple l1 xs ∧ s.heap.IsTuple l2 ys ∧ R (.ok (.ret (.ref (zT4 s.heap l1 l2).objs.size))) { s with heap := zT5 s.heap l1 l2 }) :=
  .of_wp fun prog w A R s h => by
    obtain ⟨hp, g, d, tk, os⟩ := s; obtain ⟨hl1, hl2, h⟩ := h
    have hsub := sub_zip
    have hL1 : Heap.IsTuple (Shared.heap ⟨hp, g, d, tk, os⟩) l1 xs := hl1
    have hL2 : Heap.IsTuple (Shared.heap ⟨hp.push { cls := .type "tuple_iterator", data := .fields #[.ref l1, .int 0 0] }, g, d, tk, os⟩) l2 ys := Heap.IsTuple.push hl2 _
    wp_walk using wpAny_pyIter_tuple hL1, wpAny_pyIter_tuple hL2
    exact ⟨_, rfl, h⟩
theorem call_zipT {l1 l2 : Addr} {Q : Value → Shared → Prop} (hl1 : s.heap.IsTuple l1 xs) (hl2 : s.heap.IsTuple l2 ys)
    (h : ∀ h', ZipT h' (s.heap.objs.size + 4) (s.heap.objs.size + 2) (s.heap.objs.size + 3) s.heap.objs.size (s.heap.objs.size + 1) l1 l2 0 → (∀ c o, s.heap.get? c = some o → h'.get? c = some o) → Q (.ref (s.heap.objs.size + 4)) { s with heap := h' }) :
    wpAny (model prog w) A (call (.type "zip") [.ref l1, .ref l2]) Q E s := by
  refine callType_new F.called_zip (by decide) (F.typeCall_zip_2 _ _) (F.newCall_zip_2 _ _) (fun obj => F.args_object_init_3 obj _ _) F.entry_zip_new (zip_newT l1 l2 xs ys) ⟨hl1, hl2, ?_⟩
  have z1 : (zT1 s.heap l1).objs.size = s.heap.objs.size + 1 := Heap.size_push ..
  have z2 : (zT2 s.heap l1 l2).objs.size = s.heap.objs.size + 2 := by rw [Heap.size_push, z1]
  have z3 : (zT3 s.heap l1 l2).objs.size = s.heap.objs.size + 3 := by rw [Heap.size_push, z2]
  have z4 : (zT4 s.heap l1 l2).objs.size = s.heap.objs.size + 4 := by rw [Heap.size_push, z3]
  have p1 : ∀ {g : Heap} {c o u}, g.get? c = some o → (g.push u).get? c = some o := fun e => Heap.get?_push_of_some _ e
  have g5 : (zT5 s.heap l1 l2).get? (zT4 s.heap l1 l2).objs.size = some _ := Heap.get?_push_size _ rfl
  have g4 : (zT5 s.heap l1 l2).get? (zT3 s.heap l1 l2).objs.size = some _ := p1 (Heap.get?_push_size _ rfl)
  have g3 : (zT5 s.heap l1 l2).get? (zT2 s.heap l1 l2).objs.size = some _ := p1 (p1 (Heap.get?_push_size _ rfl))
  have g2 : (zT5 s.heap l1 l2).get? (zT1 s.heap l1).objs.size = some _ := p1 (p1 (p1 (Heap.get?_push_size _ rfl)))
  have g1 : (zT5 s.heap l1 l2).get? s.heap.objs.size = some _ := p1 (p1 (p1 (p1 (Heap.get?_push_size _ rfl))))
  show _ ∧ _
  rw [z2, z3, z4] at g5
  rw [z1, z2] at g3
  rw [z3] at g4
  rw [z1] at g2
  rw [z4]
  exact ⟨⟨_, g5, rfl⟩, h _ ⟨g5, g3, ⟨_, _, g4⟩, ⟨_, g1, rfl, rfl⟩, ⟨_, g2, rfl, rfl⟩⟩ fun c o x => p1 (p1 (p1 (p1 (p1 x))))⟩
end

def Itz (K : PySem.W.Frag) (a b : Addr) : It :=
  ⟨fun i H => ∃ xs ys x y, SqT K H a xs ∧ SqT K H b ys ∧ xs[i]? = some x ∧ ys[i]? = some y, fun i H v H' => ∃ t x y, H t = none ∧ v = .ref t ∧ H' = upd H t (.tup [x, y]) ∧ ∀ xs ys, SqT K H a xs → SqT K H b ys → xs[i]? = some x ∧ ys[i]? = some y,
    fun i H => ∃ xs ys, SqT K H a xs ∧ SqT K H b ys ∧ (xs[i]? = none ∨ ys[i]? = none)⟩
theorem zipNe_of {z TI TO i1 i2 : Addr} {h : Heap} {a b : Addr} {i : Nat} (S : ZipT h z TI TO i1 i2 a b i) (h1 : TI ≠ TO) (h2 : i1 ≠ i2) : ZipNe z TI TO i1 i2 := by
  obtain ⟨hz, hti, ⟨p0, p1, hto⟩, ⟨o1, e1, c1, d1⟩, ⟨o2, e2, c2, d2⟩⟩ := S
  refine ⟨fun e => ?_, fun e => ?_, fun e => ?_, fun e => ?_, h1, fun e => ?_, fun e => ?_, fun e => ?_, fun e => ?_, h2⟩
  · have q := (show h.get? TI = _ from hti); rw [e, show h.get? z = _ from hz] at q; injection q with q; injection q with q1; injection q1 with q2; revert q2; decide
  · have q := (show h.get? TO = _ from hto); rw [e, show h.get? z = _ from hz] at q; injection q with q; injection q with q1; injection q1 with q2; revert q2; decide
  · rw [e, hz] at e1; cases e1; injection c1 with q2; revert q2; decide
  · rw [e, hz] at e2; cases e2; injection c2 with q2; revert q2; decide
  · rw [← e, hti] at e1; cases e1; injection c1 with q2; revert q2; decide
  · rw [← e, hti] at e2; cases e2; injection c2 with q2; revert q2; decide
  · rw [← e, hto] at e1; cases e1; injection c1 with q2; revert q2; decide
  · rw [← e, hto] at e2; cases e2; injection c2 with q2; revert q2; decide
theorem SqT.fpNe {X : Cx} {pins : List (Addr × Obj)} {σ : St} {H : Hp} {s : Shared} {t c : Addr} {zs : List V} (I : Inv X pins σ H s) (hq : SqT X.K H t zs) (f : FpOk X pins H c) : t ≠ c := by
  rintro rfl
  rcases hq with (h | ⟨o, h⟩) | h
  · rw [f.1] at h; cases h
  · rw [f.1] at h; cases h
  · obtain ⟨o, _, _, hl, _⟩ := h
    have e := I.ok.mod.kin _ _ hl
    rcases f.2.2.2.1 with z | z
    · exact I.ok.noex _ _ e z
    · exact absurd (Nat.lt_of_lt_of_le (Heap.lt_size e) (Nat.le_trans I.ok.bsz z)) (Nat.lt_irrefl _)
theorem turn_zipT {P : Program} {w : World} {K : PySem.W.Frag} {els : List Expr} {kx} {tp : Pos} (a b z TI TO i1 i2 : Addr) (h1 : TI ≠ TO) (h2 : i1 ≠ i2) : Turn P w K (.Tuple els kx tp) (Itz K a b) [z, TI, TO, i1, i2] z (fun i h => ZipT h z TI TO i1 i2 a b i) where
  mem := by simp
  obj := fun i h st c hc => by
    obtain ⟨hz, hti, ⟨p0, p1, hto⟩, ⟨o1, e1, c1, d1⟩, ⟨o2, e2, c2, d2⟩⟩ := st
    simp only [List.mem_cons, List.not_mem_nil, or_false] at hc
    rcases hc with rfl | rfl | rfl | rfl | rfl
    · exact ⟨_, hz, fun v q => by cases q⟩
    · exact ⟨_, hti, fun v q => by cases q⟩
    · exact ⟨_, hto, fun v q => by cases q⟩
    · exact ⟨_, e1, fun v q => by rw [d1] at q; cases q⟩
    · exact ⟨_, e2, fun v q => by rw [d2] at q; cases q⟩
  keep := fun i h h' st k => by
    obtain ⟨hz, hti, ⟨p0, p1, hto⟩, ⟨o1, e1, r1⟩, ⟨o2, e2, r2⟩⟩ := st
    exact ⟨k _ (by simp) _ hz, k _ (by simp) _ hti, ⟨p0, p1, k _ (by simp) _ hto⟩, ⟨o1, k _ (by simp) _ e1, r1⟩, ⟨o2, k _ (by simp) _ e2, r2⟩⟩
  item := by
    intro X hP hw hK hc i pins s σ H E I hf st hg
    subst hP hw hK
    obtain ⟨xs, ys, x, y, hqa, hqb, hx, hy⟩ := hg
    obtain ⟨its, rv, p, _⟩ := I.tuple hqa
    obtain ⟨jts, rw', p', _⟩ := I.tuple hqb
    obtain ⟨u, hu, ru⟩ := rv.get hx
    obtain ⟨v, hv, rvv⟩ := rw'.get hy
    have D := zipNe_of st h1 h2
    obtain ⟨hz, hti, ⟨p0, p1, hto⟩, hi1, hi2⟩ := id st
    have apart : ∀ {t : Addr} {zs : List V}, SqT X.K H t zs → t ≠ z ∧ t ≠ TO := fun hq => ⟨SqT.fpNe I hq (hf z (by simp)), SqT.fpNe I hq (hf TO (by simp))⟩
    refine zipT_item D st p p' (apart hqa) (apart hqb) (by simpa using hu) (by simpa using hv) fun g k1 k2 k3 k4 k5 k6 k7 => ?_
    refine ⟨_, rfl, wpAny_letOwnedTupleGo_zip k1 fun g2 l1 s2 => ?_⟩
    have hne0 : s.heap.objs.size ≠ z := Nat.ne_of_gt (Heap.lt_size hz)
    have keep : ∀ c o, c ∉ [z, TI, TO, i1, i2] → s.heap.get? c = some o → g2.get? c = some o := fun c o hc e => s2.extBut _ _ (fun q => hc (by simp [q])) (k7 c o (fun q => hc (by simp [q])) (fun q => hc (by simp [q])) (fun q => hc (by simp [q])) (fun q => hc (by simp [q])) e)
    refine ⟨.ref s.heap.objs.size, _, I.turnedT (h' := g2) (t' := s.toks) (xs := [x, y]) hf keep (.cons ru (.cons rvv .nil)) ⟨_, s2.extBut _ _ hne0 k6, rfl, ⟨_, rfl⟩, rfl, rfl⟩ (by show 2 ≤ sizeLine; decide), rfl,
      ⟨_, x, y, I.hok.fresh (Nat.le_refl _), rfl, rfl, fun as bs ha hb => ⟨by rw [I.tuple_inj ha hqa]; exact hx, by rw [I.tuple_inj hb hqb]; exact hy⟩⟩, ⟨l1, s2.extBut _ _ D.az k2, ⟨_, _, s2.extBut _ _ D.bz k3⟩, k4.extBut s2.extBut D.cz, k5.extBut s2.extBut D.dz⟩, fun c hc => ?_⟩
    have : c < s.heap.objs.size := by
      obtain ⟨o1, e1, _⟩ := hi1
      obtain ⟨o2, e2, _⟩ := hi2
      simp only [List.mem_cons, List.not_mem_nil, or_false] at hc
      rcases hc with rfl | rfl | rfl | rfl | rfl
      · exact Heap.lt_size hz
      · exact Heap.lt_size hti
      · exact Heap.lt_size hto
      · exact Heap.lt_size e1
      · exact Heap.lt_size e2
    rw [upd_ne (Nat.ne_of_lt this)]
    exact (hf c hc).1
  done := by
    intro X hP hw hK hc i pins s σ H E I hf st hg
    subst hP hw hK
    obtain ⟨xs, ys, hqa, hqb, hx⟩ := hg
    obtain ⟨its, rv, p, _⟩ := I.tuple hqa
    obtain ⟨jts, rw', p', _⟩ := I.tuple hqb
    have D := zipNe_of st h1 h2
    have apart : ∀ {t : Addr} {zs : List V}, SqT X.K H t zs → t ≠ z ∧ t ≠ TO := fun hq => ⟨SqT.fpNe I hq (hf z (by simp)), SqT.fpNe I hq (hf TO (by simp))⟩
    refine zipT_end (I.ok.hd hc) D st p p' (apart hqa) (apart hqb) (hx.elim (fun q => .inl (by simpa using rv.none_of q)) fun q => .inr (by simpa using rw'.none_of q)) fun g k => ⟨rfl, ?_⟩
    exact I.turnedN (t' := s.toks) hf fun c o hc e => k c o (fun q => hc (by simp [q])) (fun q => hc (by simp [q])) (fun q => hc (by simp [q])) (fun q => hc (by simp [q])) e
  self := fun _ _ _ _ _ st h => wpAny_pyIter_zip st.z h
section
variable {X : Cx}
def iZip (K : PySem.W.Frag) (ta : TA) : TI := fun σ H R => ta σ H fun vs H1 => ∃ a b, vs = [.ref a, .ref b] ∧ (∃ xs, SqT K H1 a xs) ∧ (∃ ys, SqT K H1 b ys) ∧ R (Itz K a b) H1
theorem pi_zipT {els : List Expr} {kx} {tp : Pos} {l l' : Expr} {ta : TA} {p pos : Pos} (hg : Gl X "zip") (hm : X.mg "zip" = none) (ha : PA X [l, l'] ta) (hs : starEach [l, l'] X.env = [(false, eval l X.env), (false, eval l' X.env)] := by rfl) (hs2 : starEach [l'] X.env = [(false, eval l' X.env)] := by rfl) :
    PI X (.Tuple els kx tp) (.Call (.Name "zip" p) [l, l'] [] pos) (iZip X.K ta) := by
  intro pins s σ H R I h
  refine Call_ (ld_blt I hg hm boot_zip (PyProof.Rows.callWith_type1 (thn (ha pos pins s σ H _ I h) fun us s1 ⟨vs, H1, I1, r1, q1⟩ => ?_) (by rw [hs, hs2]) (by rw [hs2]; rfl)))
  obtain ⟨a, b, rfl, ⟨xs, hqa⟩, ⟨ys, hqb⟩, q⟩ := q1
  obtain ⟨u, v, rfl, ru, rv⟩ := vals2 r1
  cases (show u = Value.ref a from ru)
  cases (show v = Value.ref b from rv)
  obtain ⟨its, _, p1, _⟩ := I1.tuple hqa
  obtain ⟨jts, _, p2, _⟩ := I1.tuple hqb
  refine call_zipT (show s1.heap.IsTuple a its.toArray from p1) (show s1.heap.IsTuple b jts.toArray from p2) fun h' S hk => wpAny_pyIter_zip S.z ?_
  have I2 : Inv X pins σ H1 { s1 with heap := h' } := I1.kept (t' := s1.toks) hk
  refine ⟨_, _, _, _, H1, rfl, I2, turn_zipT a b _ _ _ _ _ (Nat.ne_of_lt (Nat.lt_succ_self _)) (Nat.ne_of_lt (Nat.lt_succ_self _)), S, fun c hc => ?_, q⟩
  have : s1.heap.objs.size ≤ c := by
    simp only [List.mem_cons, List.not_mem_nil, or_false] at hc
    rcases hc with rfl | rfl | rfl | rfl | rfl <;> first | exact Nat.le_refl _ | exact Nat.le_add_right _ _ | exact Nat.le_succ _ | exact Nat.le_succ_of_le (Nat.le_add_right _ _)
  exact I1.fpOk this (I1.hok.fresh this)
end
end L2


namespace L2
open PySem PySem.Spec PyProof.Rows

theorem fm_congr {α β : Type} {f g : α → Option β} : ∀ {l : List α}, (∀ x ∈ l, f x = g x) → l.filterMap f = l.filterMap g
  | [], _ => rfl
  | a :: l, h => by rw [List.filterMap_cons, List.filterMap_cons, h a List.mem_cons_self, fm_congr fun x hx => h x (List.mem_cons_of_mem _ hx)]
theorem rev_pick (its : List Value) : (List.range its.length).filterMap (fun (k : Nat) => its.toArray[its.length - 1 - k]?) = its.reverse := by
  apply List.ext_getElem?
  intro i
  have e : (List.range its.length).filterMap (fun (k : Nat) => its.toArray[its.length - 1 - k]?) = (List.range its.length).map fun k => its.getD (its.length - 1 - k) .none := by
    rw [← List.filterMap_eq_map]
    apply fm_congr
    intro k hk
    have hk' := List.mem_range.mp hk
    have h1 : its.length - 1 - k < its.length := by omega
    simp [h1]
  rw [e, List.getElem?_map]
  by_cases h : i < its.length
  · rw [List.getElem?_range h, List.getElem?_reverse h]
    have h1 : its.length - 1 - i < its.length := by omega
    simp [h1]
  · rw [List.getElem?_eq_none (by simpa using h), List.getElem?_eq_none (by simpa using h)]
    rfl
theorem pick_rev (its : List Value) : slicePick its.toArray none none (some (-1)) = its.reverse.toArray := by
  have hb : sliceBounds none none (some (-1)) its.length = ((its.length : Int) - 1, -1, -1) := by
    unfold sliceBounds; simp
  have hr : ∀ n : Nat, sliceRange ((n : Int) - 1) (-1) (-1) = (List.range n).map fun k => n - 1 - k := by
    intro n
    unfold sliceRange
    have e1 : (if (-1 : Int) > 0 then (if (n : Int) - 1 < -1 then (-1 - ((n : Int) - 1) + -1 - 1) / -1 else 0) else if (n : Int) - 1 > -1 then ((n : Int) - 1 - -1 - -1 - 1) / - -1 else 0).toNat = n := by
      rw [if_neg (by decide)]
      by_cases h : (n : Int) - 1 > -1
      · rw [if_pos h]
        have : ((n : Int) - 1 - -1 - -1 - 1) / - -1 = n := by
          rw [show (- -1 : Int) = 1 by decide, Int.ediv_one]; omega
        rw [this]; rfl
      · rw [if_neg h]; omega
    dsimp only
    rw [e1]
    apply List.map_congr_left
    intro k hk
    have := List.mem_range.mp hk
    omega
  unfold slicePick
  rw [List.size_toArray, hb]
  show (List.filterMap _ (sliceRange ((its.length : Int) - 1) (-1) (-1))).toArray = _
  rw [hr, List.filterMap_map]
  congr 1
  exact rev_pick its
section
variable {X : Cx} {e : Expr} {te : TE} {p2 pos : Pos}
def RvR (X : Cx) (r : V → Hp → VK → Prop) : Prop :=
  ∀ (pins : List (Addr × Obj)) (s : Shared) (σ : St) (H : Hp) (x : V) (v vs : Value) (sl : Addr) (Q : VK), Inv X pins σ H s → RelV x v → s.heap.IsSliceOf sl .none .none vs → IsPart vs (some (-1)) → r x H Q →
    ∃ T id, typeLookup (.type T) "__getitem__" = pure (some (.builtin id)) ∧ s.TypeIs v T ∧ wpAny (model X.prog X.w) X.A (getItem v (.ref sl)) (EP X pins σ Q) X.xe s
theorem pe_rev {r : V → Hp → VK → Prop} {j : Nat} {p3 p4 : Pos} (hr : RvR X r) (he : PE X e te) : PE X (.Subscript e (.Slice none none (some (.UnaryOp .USub (.Constant (.int 1) j p3) p4)) p2) pos) (tUn r te) := by
  intro pins s σ H Q I h
  have hst : PO X (some (.UnaryOp .USub (.Constant (.int 1) j p3) p4)) (tPart (tUn (rU fun i => .int (-i)) (tC (.int 1)))) := po_some (pe_un un_neg pe_int)
  refine Subscript_ (thn (he pins s σ H _ I h) fun v s1 ⟨x, H1, I1, r1, q1⟩ => ?_)
  refine wpAny_Slice (thn (po_none pins s1 σ H1 (fun o H' => o = none ∧ r x H' Q) I1 ⟨rfl, q1⟩) fun vl s2 ⟨l, H2, I2, pl, el, q2⟩ => thn (po_none pins s2 σ H2 (fun o H' => o = none ∧ r x H' Q) I2 ⟨rfl, q2⟩) fun vu s3 ⟨u, H3, I3, pu, eu, q3⟩ => ?_)
  subst el eu
  refine thn (hst pins s3 σ H3 (fun o H' => o = some (-1) ∧ r x H' Q) I3 ⟨1, rfl, -1, rfl, rfl, q3⟩) fun vs s4 ⟨o, H4, I4, ps, eo, q4⟩ => ?_
  subst eo
  cases pl
  cases pu
  have I5 : Inv X pins σ H4 { s4 with heap := s4.heap.push { cls := .type "slice", data := .fields #[.none, .none, vs] } } := I4.kept (t' := s4.toks) fun b ob q => Heap.get?_push_of_some _ q
  obtain ⟨T, id, hT, ht, hg⟩ := hr pins { s4 with heap := s4.heap.push { cls := .type "slice", data := .fields #[.none, .none, vs] } } σ H4 x v vs s4.heap.objs.size Q I5 r1 (Heap.IsSliceOf.new ..) ps q4
  show wpAny (model X.prog X.w) X.A (subscriptTail e (.Slice none none (some (.UnaryOp .USub (.Constant (.int 1) j p3) p4)) p2) v (.ref s4.heap.objs.size)) (EP X pins σ Q) X.xe { s4 with heap := s4.heap.push { cls := .type "slice", data := .fields #[.none, .none, vs] } }
  exact tail_any (ops := [v, .ref s4.heap.objs.size]) ht hT hg (by with_unfolding_all rfl)

def rRvL (K : PySem.W.Frag) : V → Hp → VK → Prop := fun x H Q => ∃ a xs, x = .ref a ∧ SqL K H a xs ∧ ∀ p, H p = none → Q (.ref p) (upd H p (.lst xs.reverse))
theorem rv_list : RvR X (rRvL X.K) := by
  intro pins s σ H x v vs sl Q I rx hs ps h
  obtain ⟨a, xs, rfl, hx, q⟩ := h
  cases rx
  obtain ⟨its, r, ht, hz⟩ := I.list hx
  have hlen := r.length
  refine ⟨"list", _, slot_list_getitem.lookup, ht.isList.typeIs, ?_⟩
  refine wpAny_getItem_list_slice ht.isList hs .none .none ps (by simp) ?_ (by rw [List.size_toArray] <;> omega)
  rw [pick_rev]
  refine ⟨.ref s.heap.objs.size, _, I.laid (t' := s.toks) (o := .lst xs.reverse) (fun b ob q => Heap.get?_push_of_some _ q) (Nat.le_refl _) ?_, rfl, q _ (I.hok.fresh (Nat.le_refl _))⟩
  exact ⟨by rw [List.length_reverse]; exact hz, _, 0, r.reverse, Heap.get?_push_size _ rfl⟩

def rRvT (K : PySem.W.Frag) : V → Hp → VK → Prop := fun x H Q => ∃ a xs, x = .ref a ∧ SqT K H a xs ∧ ∀ p, H p = none → Q (.ref p) (upd H p (.tup xs.reverse))
end
end L2


namespace L2
open PySem PySem.Spec PyProof.Rows
section
variable {X : Cx}
def rRange1 : List V → Hp → VK → Prop := fun xs H Q => ∃ j : Int, xs = [.int j] ∧ ∀ p, H p = none → Q (.ref p) (upd H p (.rng 0 j))
def rListRng : List V → Hp → VK → Prop := fun xs H Q => ∃ (a : Addr) (j : Int), xs = [.ref a] ∧ H a = some (.rng 0 j) ∧ 0 ≤ j ∧ j ≤ 1000 ∧ ∀ p, H p = none → Q (.ref p) (upd H p (.lst (rangeV 0 j.toNat)))
def rCatTT (K : PySem.W.Frag) : R2 := fun x y H Q => ∃ a b xs ys, x = .ref a ∧ y = .ref b ∧ SqT K H a xs ∧ SqT K H b ys ∧ xs.length + ys.length ≤ sizeLine ∧
  ∀ p H', Same H H' → SqT K H' p (xs ++ ys) → (H' p = H p ∨ H' p = some (.tup (xs ++ ys))) → Q (.ref p) H'
end
end L2


namespace L2
open PySem PySem.Spec PyProof.Rows

theorem range_all_getD (f : Nat → Bool) : ∀ (bs : List Bool), (∀ i, i < bs.length → f i = bs.getD i false) → (List.range bs.length).all f = bs.all id := by
  intro bs h
  rw [Bool.eq_iff_iff, List.all_eq_true, List.all_eq_true]
  constructor
  · intro q b hb
    obtain ⟨i, hi, e⟩ := List.getElem_of_mem hb
    have := q i (List.mem_range.mpr hi)
    rw [h i hi, List.getD_eq_getElem?_getD, List.getElem?_eq_getElem hi, e] at this
    exact this
  · intro q i hi
    have hi' := List.mem_range.mp hi
    rw [h i hi', List.getD_eq_getElem?_getD, List.getElem?_eq_getElem hi']
    exact q _ (List.getElem_mem hi')

section
variable {X : Cx}

def rIsi (K : PySem.W.Frag) : List V → Hp → VK → Prop := fun xs H Q => ∃ x T t b, xs = [x, .ty T] ∧ TyOf K H x t ∧ PySem.W.kitOne K t (.type T) = some b ∧ Q (.bl b) H
theorem call_isi : CallR X (.builtin "isinstance") (rIsi X.K) := by
  intro pins s σ H xs us Q I rs h
  obtain ⟨x, T, t, b, rfl, ty, e, q⟩ := h
  obtain ⟨u, c, rfl, ru, rc⟩ := vals2 rs
  cases (show c = Value.type T from rc)
  exact isinst_ok I ru ty e fun tk => ⟨.bl b, H, I.tok tk, rfl, q⟩

def rAll : List V → Hp → VK → Prop := fun xs H Q => ∃ (a : Addr) (bs : List Bool), xs = [.ref a] ∧ H a = some (.lst (bs.map V.bl)) ∧ Q (.bl (bs.all id)) H
theorem call_all (hc : X.calm = true) : CallR X (.builtin "all") rAll := by
  intro pins s σ H xs us Q I rs h
  obtain ⟨a, bs, rfl, ha, q⟩ := h
  obtain ⟨u, rfl, ru⟩ := vals1 rs
  cases (show u = Value.ref a from ru)
  obtain ⟨hz, its, n, rv, ho⟩ := (show ObjOk X.prog X.w H s.heap a (.lst (bs.map V.bl)) from I.hok a _ ha)
  have hl : s.heap.IsList a its.toArray := ⟨_, ho, rfl, n, rfl⟩
  have hh : X.A.in1.handled = none := I.ok.hd hc
  have hlen : its.length = bs.length := by rw [← rv.length, List.length_map]
  have hne : a ≠ s.heap.objs.size := Nat.ne_of_lt (Heap.lt_size ho)
  have hit : ∀ (i : Nat) v, its.toArray[i]? = some v → v = Value.bool (bs.getD i false) := fun i v e => by
    have e' : its[i]? = some v := by simpa using e
    have hi : i < bs.length := by rw [← hlen]; exact (List.getElem?_eq_some_iff.mp e').1
    obtain ⟨u, hu, ru⟩ := rv.get (i := i) (x := V.bl bs[i]) (by rw [List.getElem?_map, List.getElem?_eq_getElem hi]; rfl)
    rw [e'] at hu; cases hu
    cases (show v = Value.bool bs[i] from ru)
    rw [List.getD_eq_getElem?_getD, List.getElem?_eq_getElem hi]
    rfl
  refine call_all_walk (wpAny_pyIter_list hl ⟨s.heap.objs.size, _, _, _, _, _, fun i => bs.getD i false, rfl, Walks.list hh _ a hne its.toArray, ⟨⟨_, Heap.get?_push_size _ rfl, rfl, rfl⟩, hl.push _⟩, ?_, fun h' tk hk => ?_⟩)
  · intro i v s' Q' E' hP hQ
    rw [hit i v hP]
    exact wpAny_truthy_bool hQ
  · refine ⟨.bl (bs.all id), H, I.kept (t' := tk) fun b o e => hk b o ?_ (Heap.get?_push_of_some _ e), ?_, q⟩
    · exact fun hm => absurd (List.mem_singleton.mp hm) (Nat.ne_of_lt (Heap.lt_size e))
    · show Value.bool _ = Value.bool _
      have hs : its.toArray.size = bs.length := by simpa using hlen
      rw [hs, range_all_getD _ bs fun i _ => rfl]

def rInsert : V → List V → Hp → VK → Prop := fun x vs H Q => ∃ l xs i y, x = .ref l ∧ vs = [.int i, y] ∧ H l = some (.lst xs) ∧ 0 ≤ i ∧ i ≤ xs.length ∧ xs.length < sizeLine ∧ Q .non (upd H l (.lst (xs.take i.toNat ++ y :: xs.drop i.toNat)))
end
end L2


namespace L2
open PySem PySem.Spec PyProof.Rows

mutual
inductive Is (H : Hp) : V → PyData → Prop
  | non : Is H .non .none
  | bl (b : Bool) : Is H (.bl b) (.bool b)
  | int (i : Int) : Is H (.int i) (.int i)
  | str (x : Str) : Is H (.str x) (.str x)
  | tup {a : Addr} {vs : List V} {ds : List PyData} : H a = some (.tup vs) → IsAll H vs ds → Is H (.ref a) (.tuple ds)
  | lst {a : Addr} {vs : List V} {ds : List PyData} : H a = some (.lst vs) → IsAll H vs ds → Is H (.ref a) (.list ds)
inductive IsAll (H : Hp) : List V → List PyData → Prop
  | nil : IsAll H [] []
  | cons {v : V} {vs : List V} {d : PyData} {ds : List PyData} : Is H v d → IsAll H vs ds → IsAll H (v :: vs) (d :: ds)
end

theorem IsAll.ints {H : Hp} : ∀ ns : List Int, IsAll H (ns.map V.int) (ns.map PyData.int)
  | [] => .nil
  | n :: r => .cons (.int n) (IsAll.ints r)
section
variable {X : Cx} {pins : List (Addr × Obj)} {σ : St} {H : Hp} {s : Shared}
mutual
theorem Inv.reads (I : Inv X pins σ H s) : ∀ {v : V} {d : PyData} {u : Value}, Is H v d → RelV v u → ∃ as, Reads s.heap u d as
  | _, _, _, .non, r => by cases (show _ = Value.none from r); exact ⟨_, .none⟩
  | _, _, _, .bl b, r => by cases (show _ = Value.bool b from r); exact ⟨_, .bool b⟩
  | _, _, _, .int i, r => by obtain ⟨t, rfl⟩ := r; exact ⟨_, .int i t⟩
  | _, _, _, .str x, r => by obtain ⟨t, rfl⟩ := r; exact ⟨_, .str x t⟩
  | _, _, _, .tup (a := a) (vs := vs) h al, r => by
    cases (show _ = Value.ref a from r)
    obtain ⟨_, its, rv, o, ho, hc, ⟨n, hd⟩, _⟩ := (show ObjOk X.prog X.w H s.heap a (.tup vs) from I.hok a _ h)
    obtain ⟨as, q⟩ := Inv.readsAll I al rv
    exact ⟨as, .tuple ho hc hd (by simpa using q)⟩
  | _, _, _, .lst (a := a) (vs := vs) h al, r => by
    cases (show _ = Value.ref a from r)
    obtain ⟨_, its, n, rv, ho⟩ := (show ObjOk X.prog X.w H s.heap a (.lst vs) from I.hok a _ h)
    obtain ⟨as, q⟩ := Inv.readsAll I al rv
    exact ⟨_, .list ho rfl rfl (by simpa using q)⟩
theorem Inv.readsAll (I : Inv X pins σ H s) : ∀ {vs : List V} {ds : List PyData} {us : List Value}, IsAll H vs ds → Vals vs us → ∃ as, ReadsAll s.heap us ds as
  | _, _, _, .nil, .nil => ⟨_, .nil⟩
  | _, _, _, .cons h al, .cons r rs => by
    obtain ⟨as, q⟩ := Inv.reads I h r
    obtain ⟨bs, q'⟩ := Inv.readsAll I al rs
    exact ⟨_, .cons q q'⟩
end

def rEqD : R2 := fun x y H Q => ∃ d e, Is H x d ∧ Is H y e ∧ SeqAt.shaped d = true ∧ SeqAt.shaped e = true ∧ Q (.bl (PyData.eqv d e)) H
def rNeD : R2 := fun x y H Q => ∃ d e, Is H x d ∧ Is H y e ∧ SeqAt.shaped d = true ∧ SeqAt.shaped e = true ∧ Q (.bl (!PyData.eqv d e)) H
theorem op_neD (hu : X.A.units + 64 < cLine) : OpR X (compareOp .NotEq) rNeD := by
  intro pins s σ H x y v u Q I rx ry h
  obtain ⟨d, e, hd, he, sd, se, q⟩ := h
  obtain ⟨as, ra⟩ := I.reads hd rx
  obtain ⟨bs, rb⟩ := I.reads he ry
  exact ne_dataH ra rb sd se hu ⟨.bl _, H, I, rfl, q⟩
end

theorem lay_ints : ∀ ns : List Int, PyData.canLayAll0 (ns.map PyData.int) = true
  | [] => rfl
  | _ :: r => by simp [PyData.canLayAll0, PyData.canLay0, lay_ints r]
theorem deep_ints : ∀ ns : List Int, PyData.depthAll (ns.map PyData.int) = 0
  | [] => rfl
  | _ :: r => by simp [PyData.depthAll, PyData.depth, deep_ints r]
theorem shaped_tints (ns : List Int) : SeqAt.shaped (.tuple (ns.map PyData.int)) = true := by
  simp [SeqAt.shaped, PyData.canLay0, PyData.depth, lay_ints, deep_ints]
theorem shaped_lints (ns : List Int) : SeqAt.shaped (.list (ns.map PyData.int)) = true := by
  simp [SeqAt.shaped, PyData.canLay0, PyData.depth, lay_ints, deep_ints]
theorem eqv_ints : ∀ ns ms : List Int, PyData.eqvAll (ns.map PyData.int) (ms.map PyData.int) = decide (ns = ms)
  | [], [] => by simp [PyData.eqvAll]
  | [], _ :: _ => by simp [PyData.eqvAll]
  | _ :: _, [] => by simp [PyData.eqvAll]
  | a :: r, b :: t => by
    simp only [List.map_cons, PyData.eqvAll, PyData.eqv, eqv_ints r t]
    by_cases h : a = b <;> by_cases h' : r = t <;> simp [h, h']
end L2


namespace L2
open PySem PySem.Spec PyProof.Rows

def cscopeB (sc : Scope) (N : List Str) (scope : Scope) (N' : List Str) (n : Nat) (ix : List Nat) : Bool :=
  scope.kind == .function && scope.names.all (fun y => y.2 != .cell) && scope.names.all (fun y => y.2 != .local || scope.names.lookup y.1 == some .local) &&
  scope.names.all (fun y => y.2 != .free || (sc.names.lookup y.1 == some .cell || sc.names.lookup y.1 == some .free)) && scope.names.all (fun y => y.2 != .free || scope.names.lookup y.1 != some .local) &&
  N'.length == n + ix.length && (List.range ix.length).all fun j => match ix[j]?, N'[n + j]? with
    | some i, some x => N[i]? == some x && scope.names.contains (x, .free)
    | _, _ => false
theorem CompScope.of {X : Cx} {sc : Scope} {N : List Str} {scope : Scope} {N' : List Str} {n : Nat} {ix : List Nat} (h : cscopeB sc N scope N' n ix = true) (hs : X.env.scope = sc) (hN : X.N = N) : CompScope X scope N' n ix := by
  unfold cscopeB at h
  simp only [Bool.and_eq_true, List.all_eq_true] at h
  obtain ⟨⟨⟨⟨⟨⟨h1, h2⟩, h3⟩, h4⟩, h5⟩, h6⟩, h7⟩ := h
  subst hs hN
  refine ⟨eq_of_beq h1, fun y hy => by simpa using h2 y hy, fun y hy hl => ?_, fun y hy hf => ?_, fun y hy hl => ?_, eq_of_beq h6, fun j i e => ?_⟩
  · have := h3 y hy
    rw [hl] at this
    simpa using this
  · have := h4 y hy
    rw [hf] at this
    simpa using this
  · have := h5 _ hy
    rw [hl] at this
    simp at this
  · have hj : j < ix.length := (List.getElem?_eq_some_iff.mp e).1
    have := h7 j (List.mem_range.mpr hj)
    rw [e] at this
    cases hx : N'[n + j]? with
    | none => rw [hx] at this; simp at this
    | some x =>
      rw [hx] at this
      simp only [Bool.and_eq_true] at this
      exact ⟨x, rfl, eq_of_beq this.1, by simpa using this.2⟩

structure Cal (P : Program) (w : World) (K : PySem.W.Frag) (mg : Str → Option Value) (base : Heap) (k : Nat) (x : Str) (ps : List Str) (sp : Sp) : Prop where
  ex : ∃ f fd, FnOk P w K mg base CX0 k f fd ps sp ∧ mg x = some (.ref f) ∧ PySem.W.keepIn K (.ref f) = true ∧ Binds K fd ps []
section
variable {X : Cx} {k : Nat} {ps : List Str} {sp : Sp} {x : Str} {p pos : Pos} {e : Expr} {es : List Expr} {t : TA}
theorem pe_cal (C : Cal X.prog X.w X.K X.mg X.base k x ps sp) (hr : Room k X.A) (hg : Gl X x) (ha : PA X (e :: es) t) (hdb : (x == ("__debug__" : Str)) = false := by decide) (he : starEach (e :: es) X.env = (false, eval e X.env) :: starEach es X.env := by rfl)
    (hpl : (backTo pos (starEach es X.env)).any (·.1) = false := by rfl) : PE X (.Call (.Name x p) (e :: es) [] pos) (fun σ H Q => t σ H fun vs H1 => sp vs H1 Q E0) := by
  obtain ⟨f, fd, F, hm, hk, hb⟩ := C.ex
  exact (pe_call F hr hg hm hk hb .nil pass0 ha hdb he hpl).mono fun σ H Q q => by
    have e : (fun (vs : List V) (H1 : Hp) => sp (vs ++ []) H1 Q E0) = fun vs H1 => sp vs H1 Q E0 := by funext vs H1; rw [List.append_nil]
    show t σ H fun vs H1 => sp (vs ++ []) H1 Q E0
    rw [e]
    exact q
end
structure Top (mg : Str → Option Value) : Prop where
  n_len : mg "len" = none
  n_tuple : mg "tuple" = none
  n_list : mg "list" = none
  n_range : mg "range" = none
  n_int : mg "int" = none
  n_bool : mg "bool" = none
  n_isinstance : mg "isinstance" = none
  n_all : mg "all" = none
  n_zip : mg "zip" = none
  n_enumerate : mg "enumerate" = none
  n_min : mg "min" = none
  n_sum : mg "sum" = none
  n_max : mg "max" = none
  n_abs : mg "abs" = none
  n_sorted : mg "sorted" = none
end L2


namespace L2
open PySem PySem.Spec PyProof.Rows
section
variable {X : Cx}
def rCat2 : R2 := fun x y H Q => ∃ a b xs ys, x = .ref a ∧ y = .ref b ∧ H a = some (.tup xs) ∧ H b = some (.tup ys) ∧ xs.length + ys.length ≤ sizeLine ∧ ∀ p H', Same H H' → H' p = some (.tup (xs ++ ys)) → Q (.ref p) H'
theorem op_cat2 : OpR X (binaryOp .Add) rCat2 := by
  intro pins s σ H x y v u Q I rx ry h
  obtain ⟨a, b, xs, ys, rfl, rfl, ha, hb, hz, q⟩ := h
  have ha' : SqT X.K H a xs := SqT.of ha
  have hb' : SqT X.K H b ys := SqT.of hb
  by_cases hx : xs = []
  · subst hx
    cases rx
    cases ry
    obtain ⟨its, r1, p1, _⟩ := I.tuple ha'
    obtain ⟨its2, r2, p2, _⟩ := I.tuple hb'
    cases r1
    obtain ⟨⟨cls, dd, data, sl⟩, ho, hc, n, hd⟩ := id p1
    obtain ⟨⟨cls2, dd2, data2, sl2⟩, ho2, hc2, n2, hd2⟩ := id p2
    simp only at hc hd hc2 hd2
    subst hc hd hc2 hd2
    exact concat_meets ⟨_, ho, rfl⟩ ⟨_, ho2, rfl⟩ noFill_tuple_add seq_tuple_add PySem.F.slot_tuple_add PySem.F.entry_tuple_add (PySem.F.args_tuple_add_2 _ _)
      (tuple_addW0 a b #[] its2.toArray n n2 dd dd2 sl sl2 rfl) ⟨ho, ho2, ⟨.ref b, H, I, rfl, q b H (Same.refl H) hb⟩⟩
  · refine op_catT pins s σ H _ _ v u Q I rx ry ⟨a, b, xs, ys, rfl, rfl, ha', hb', hx, hz, fun hy => ?_, fun _ p hp => ?_⟩
    · subst hy
      exact q a H (Same.refl H) (by rw [List.append_nil]; exact ha)
    · exact q p _ (same_upd hp) upd_same
end
def spU (f : List Int → List Int) : Sp := fun vs H Q _ => ∃ (a : Addr) (ns : List Int), vs = [.ref a] ∧ H a = some (.tup (ns.map V.int)) ∧ ns.length ≤ 1000 ∧ ∀ p H', Same H H' → H' p = some (.tup ((f ns).map V.int)) → Q (.ref p) H'
def spUI (f : List Int → Int → List Int) : Sp := fun vs H Q _ => ∃ (a : Addr) (ns : List Int) (k : Int), vs = [.ref a, .int k] ∧ H a = some (.tup (ns.map V.int)) ∧ ns.length ≤ 1000 ∧ ∀ p H', Same H H' → H' p = some (.tup ((f ns k).map V.int)) → Q (.ref p) H'
def spB (f : List Int → List Int → List Int) : Sp := fun vs H Q _ => ∃ (a b : Addr) (ns ms : List Int), vs = [.ref a, .ref b] ∧ H a = some (.tup (ns.map V.int)) ∧ H b = some (.tup (ms.map V.int)) ∧ ns.length ≤ 500 ∧ ms.length ≤ 500 ∧
  ∀ p H', Same H H' → H' p = some (.tup ((f ns ms).map V.int)) → Q (.ref p) H'
theorem small1 {n : Nat} (h : n ≤ 1000) : n < sizeLine := Nat.lt_of_le_of_lt h (by decide)
theorem mapI_len (ns : List Int) : (ns.map V.int).length = ns.length := List.length_map ..
theorem filter_true {α : Type} (l : List α) : l.filter (fun _ => true) = l := by simp
end L2


namespace L2
open PySem PySem.Spec PyProof.Rows
def Hand (H : Hp) (p q : Addr) : Prop := ∃ (ns : List Int) (seed : Int), H p = some (.lst [.ref q, .int seed]) ∧ H q = some (.lst (ns.map V.int)) ∧ (∀ n ∈ ns, 0 ≤ n) ∧ ns.length ≤ 63
def Keep (p q : Addr) (H H' : Hp) : Prop := ∀ b o, H b = some o → b ≠ p → b ≠ q → H' b = some o
theorem Keep.refl (p q : Addr) (H : Hp) : Keep p q H H := fun _ _ h _ _ => h
theorem Keep.trans {p q : Addr} {H H1 H2 : Hp} (a : Keep p q H H1) (b : Keep p q H1 H2) : Keep p q H H2 := fun c o h h1 h2 => b c o (a c o h h1 h2) h1 h2
theorem Same.keep {p q : Addr} {H H' : Hp} (s : Same H H') : Keep p q H H' := fun b o h _ _ => s b o h
def spHand (K : PySem.W.Frag) : Sp := fun vs H Q _ => ∃ (a : Addr) (ns : List Int), vs = [.ref a] ∧ SqL K H a (ns.map V.int) ∧ ns.length ≤ 63 ∧ ∀ p q H', Same H H' → Hand H' p q → H p = none → H q = none → Q (.ref p) H'
def spPick : Sp := fun vs H Q _ => ∃ (p q : Addr) (m : Int), vs = [.ref p, .int m] ∧ 0 < m ∧ m < 1073741824 ∧ Hand H p q ∧ ∀ d H', 0 ≤ d → d < m → Hand H' p q → Keep p q H H' → Q (.int d) H'
def spSize : Sp := fun vs H Q _ => ∃ (p q : Addr) (m : Int), vs = [.ref p, .int m] ∧ 9 ≤ m ∧ m < 1000 ∧ Hand H p q ∧ ∀ d H', 0 ≤ d → d ≤ m → Hand H' p q → Keep p q H H' → Q (.int d) H'
def num0 (n : Nat) : List Int := (List.range n).map fun (i : Nat) => (i : Int)
def spAny : Sp := fun vs H Q _ => ∃ (p q : Addr) (m : Nat), vs = [.ref p, .int m] ∧ m ≤ 500 ∧ Hand H p q ∧ ∀ (l : Addr) (ys : List Int) (H' : Hp), ys.Perm (num0 m) → H l = none → H' l = some (.lst (ys.map V.int)) → Hand H' p q → Keep p q H H' → Q (.ref l) H'
def spOrder : Sp := fun vs H Q _ => ∃ (p q : Addr) (m : Nat), vs = [.ref p, .int m] ∧ m ≤ 500 ∧ Hand H p q ∧ ∀ (l : Addr) (ys : List Int) (H' : Hp), ys.Perm (num0 m) → H' l = some (.tup (ys.map V.int)) → Hand H' p q → Keep p q H H' → Q (.ref l) H'
end L2


namespace L2
open PySem PySem.Spec PyProof.Rows
theorem PS.mono {X : Cx} {st : Stmt} {t t' : TS} (h : PS X st t) (m : ∀ D σ H, t' D σ H → t D σ H) : PS X st t' := fun pins s σ H D I q => h pins s σ H D I (m D σ H q)
theorem rangeV_num0 (n : Nat) : rangeV 0 n = (num0 n).map V.int := by
  unfold rangeV num0
  rw [List.map_map]
  apply List.map_congr_left
  intro i _
  show V.int (0 + (i : Int)) = V.int (i : Int)
  rw [Int.zero_add]
theorem num0_mem {n : Nat} {x : Int} (h : x ∈ num0 n) : 0 ≤ x ∧ x < n := by
  unfold num0 at h
  obtain ⟨i, hi, rfl⟩ := List.mem_map.mp h
  have := List.mem_range.mp hi
  omega
end L2


namespace L2
open PySem PySem.Spec PyProof.Rows
theorem kit_tt {K : PySem.W.Frag} {a b : String} {r : Bool} (h : (if (Value.type a == Value.type b) = true then some true else if PySem.W.kitMeta b = true then (fastBuiltinMro a).map (·.contains (Value.type b)) else none) = some r) : PySem.W.kitOne K (.type a) (.type b) = some r := h
theorem pg_pair {X : Cx} {i j : Nat} {x y : Str} {px py pt : Pos} {kt : Nat} (hc : X.calm = true) (hN : X.N.Nodup) (hi : X.N[i]? = some x) (hj : X.N[j]? = some y) (hx : Loc X.env.scope x) (hy : Loc X.env.scope y) (fx : X.fn x = true ∨ X.env.scope.names.lookup x = some .local) (fy : X.fn y = true ∨ X.env.scope.names.lookup y = some .local) :
    PG X (.Tuple [.Name x px, .Name y py] kt pt) (gTup X.K 2 (gCons (gName i) (gCons (gName j) gNil))) := pg_tup hc (pgs_cons (pg_name hN hi hx fx) (pgs_cons (pg_name hN hj hy fy) pgs_nil))
theorem pg_pairK {X : Cx} (K : PySem.W.Frag) {i j : Nat} {x y : Str} {px py pt : Pos} {kt : Nat} (hK : X.K = K) (hc : X.calm = true) (hN : X.N.Nodup) (hi : X.N[i]? = some x) (hj : X.N[j]? = some y) (hx : Loc X.env.scope x) (hy : Loc X.env.scope y) (fx : X.fn x = true ∨ X.env.scope.names.lookup x = some .local) (fy : X.fn y = true ∨ X.env.scope.names.lookup y = some .local) :
    PG X (.Tuple [.Name x px, .Name y py] kt pt) (gTup K 2 (gCons (gName i) (gCons (gName j) gNil))) := hK ▸ pg_tup hc (pgs_cons (pg_name hN hi hx fx) (pgs_cons (pg_name hN hj hy fy) pgs_nil))
theorem ix_tupK {X : Cx} (K : PySem.W.Frag) (hK : X.K = K) : IxR X (rIxT K) := hK ▸ ix_tup
def Alike (H : Hp) : Nat → V → V → Prop
  | 0, x, y => ∃ a : Int, x = .int a ∧ y = .int a
  | n + 1, x, y => (∃ a : Int, x = .int a ∧ y = .int a) ∨ ∃ a b xs ys, x = .ref a ∧ y = .ref b ∧ H a = some (.tup xs) ∧ H b = some (.tup ys) ∧ xs.length ≤ 1000 ∧ Paired (Alike H n) xs ys
def spSame (n : Nat) : Sp := fun vs H Q _ => ∃ x y, vs = [x, y] ∧ Alike H n x y ∧ ∀ H', Same H H' → Q (.bl true) H'

end L2


namespace L2
open PySem PySem.Spec PyProof.Rows
theorem at_getD {ys : List Int} {i : Int} (h0 : 0 ≤ i) (h1 : i < ys.length) : atI (ys.map V.int) i = some (.int (ys.getD i.toNat 0)) := by
  have hlt : i.toNat < ys.length := by omega
  have e : ((i.toNat : Nat) : Int) = i := by omega
  have := atI_nat (xs := ys.map V.int) (j := i.toNat) (v := .int (ys.getD i.toNat 0)) (by rw [List.getElem?_map, List.getD_eq_getElem?_getD, List.getElem?_eq_getElem hlt]; rfl)
  rwa [e] at this
theorem mem_rangeV {n : Nat} {x : V} (h : x ∈ rangeV 0 n) : ∃ k : Int, x = .int k ∧ 0 ≤ k ∧ k < n := by
  rw [rangeV_num0] at h
  obtain ⟨k, hk, rfl⟩ := List.mem_map.mp h
  exact ⟨k, rfl, num0_mem hk⟩
end L2


namespace L2
open PySem PySem.Spec PyProof.Rows
structure Def (K : PySem.W.Frag) (x : Str) (st : Stmt) : Prop where
  ex : ∃ (f : Addr) (oc : Value) (od an : Option Addr) (kV doc pm cdv ct : Value) (osl : Array (Option Value)), PySem.W.nsIn K mainGlobals x = some (some (.ref f)) ∧
    K.lookup f = some ⟨oc, od, .func (PySem.W.fnOf x x (defArgs st) (defBody st) (defScope st) .none kV doc pm an cdv ct), osl⟩ ∧ PySem.W.codeIn K cdv x = true ∧ PySem.W.keepIn K (.ref f) = true
section
variable {K : PySem.W.Frag} {h : Heap} {mg : Str → Option Value} {x : Str} {st : Stmt}
theorem Def.of {f : Addr} {oc : Value} {od an : Option Addr} {kV doc pm cdv ct : Value} {osl : Array (Option Value)} (a : PySem.W.nsIn K mainGlobals x = some (some (.ref f)))
    (l : K.lookup f = some ⟨oc, od, .func (PySem.W.fnOf x x (defArgs st) (defBody st) (defScope st) .none kV doc pm an cdv ct), osl⟩) (c : PySem.W.codeIn K cdv x = true) (k : PySem.W.keepIn K (.ref f) = true) : Def K x st :=
  ⟨f, oc, od, an, kV, doc, pm, cdv, ct, osl, a, l, c, k⟩
theorem Def.fn (D : Def K x st) (X : K.In h) (G : h.Ns mainGlobals mg) : ∃ f fd, Fun K x x st f fd ∧ mg x = some (.ref f) := by
  obtain ⟨f, oc, od, an, kV, doc, pm, cdv, ct, osl, a, l, c, k⟩ := D.ex
  exact ⟨f, _, fun_mk (st := st) l c k, PySem.W.mg_of X G a⟩
end
structure TopK (K : PySem.W.Frag) : Prop where
  k_len : PySem.W.nsIn K mainGlobals "len" = some none
  k_tuple : PySem.W.nsIn K mainGlobals "tuple" = some none
  k_list : PySem.W.nsIn K mainGlobals "list" = some none
  k_range : PySem.W.nsIn K mainGlobals "range" = some none
  k_int : PySem.W.nsIn K mainGlobals "int" = some none
  k_bool : PySem.W.nsIn K mainGlobals "bool" = some none
  k_isinstance : PySem.W.nsIn K mainGlobals "isinstance" = some none
  k_all : PySem.W.nsIn K mainGlobals "all" = some none
  k_zip : PySem.W.nsIn K mainGlobals "zip" = some none
  k_enumerate : PySem.W.nsIn K mainGlobals "enumerate" = some none
  k_min : PySem.W.nsIn K mainGlobals "min" = some none
  k_sum : PySem.W.nsIn K mainGlobals "sum" = some none
  k_max : PySem.W.nsIn K mainGlobals "max" = some none
  k_abs : PySem.W.nsIn K mainGlobals "abs" = some none
  k_sorted : PySem.W.nsIn K mainGlobals "sorted" = some none
theorem TopK.top {K : PySem.W.Frag} {h : Heap} {mg : Str → Option Value} (T : TopK K) (X : K.In h) (G : h.Ns mainGlobals mg) : Top mg :=
  ⟨PySem.W.mg_none_of X G T.k_len, PySem.W.mg_none_of X G T.k_tuple, PySem.W.mg_none_of X G T.k_list, PySem.W.mg_none_of X G T.k_range, PySem.W.mg_none_of X G T.k_int, PySem.W.mg_none_of X G T.k_bool, PySem.W.mg_none_of X G T.k_isinstance,
   PySem.W.mg_none_of X G T.k_all, PySem.W.mg_none_of X G T.k_zip, PySem.W.mg_none_of X G T.k_enumerate, PySem.W.mg_none_of X G T.k_min, PySem.W.mg_none_of X G T.k_sum, PySem.W.mg_none_of X G T.k_max, PySem.W.mg_none_of X G T.k_abs, PySem.W.mg_none_of X G T.k_sorted⟩
end L2


namespace L2
open PySem PySem.Spec PyProof.Rows
open Sem (wp)
open AutoSeq1 (wpAny_loadPart')
section
variable {prog : Program} {w : World} {A : Around} {E : Value → Shared → Prop} {s : Shared}
theorem wpAny_forR {β : Type} {M : Model} {a b : Nat} {f : Nat → β → Sem (ForInStep β)} (I : Nat → β → Shared → Prop) (Q : β → Shared → Prop)
    (hstep : ∀ i c s, i < b → I i c s → wpAny M A (f i c) (fun r s' => match r with | .yield c' => I (i + 1) c' s' | .done c' => Q c' s') E s)
    (hend : ∀ c s, I b c s → Q c s) (hab : a ≤ b) {c : β} (h : I a c s) : wpAny M A (forIn [a:b] c f) Q E s := by
  rw [Std.Legacy.Range.forIn_eq_forIn_range']
  have hsz : ([a:b] : Std.Legacy.Range).size = b - a := by simp [Std.Legacy.Range.size]
  show wpAny M A (forIn (List.range' a ([a:b] : Std.Legacy.Range).size 1) c f) Q E s
  rw [hsz]
  refine wpAny_forIn_list f (fun l c st => ∃ i, i ≤ b ∧ l = List.range' i (b - i) 1 ∧ I i c st) Q ?_ ?_ _ c ⟨a, hab, rfl, h⟩
  · rintro x rest c st ⟨i, hib, hl, hI⟩
    have hlt : i < b := by
      rcases Nat.lt_or_ge i b with z | z
      · exact z
      · rw [show b - i = 0 by omega] at hl; simp at hl
    obtain ⟨n, hn⟩ : ∃ n, b - i = n + 1 := ⟨b - i - 1, by omega⟩
    rw [hn, List.range'_succ] at hl
    obtain ⟨rfl, rfl⟩ := List.cons.inj hl
    refine wpAny_mono (hstep x c st hlt hI) (fun r st' h' => ?_) fun _ _ z => z
    cases r with
    | done c' => exact h'
    | yield c' => exact ⟨x + 1, by omega, by congr 1; omega, h'⟩
  · rintro c st ⟨i, hib, hl, hI⟩
    have e : i = b := by
      rcases Nat.lt_or_ge i b with z | z
      · obtain ⟨n, hn⟩ : ∃ n, b - i = n + 1 := ⟨b - i - 1, by omega⟩
        rw [hn, List.range'_succ] at hl
        cases hl
      · omega
    subst e
    exact hend c st hI
end
theorem tup_indexAt (l : Addr) (items : Array Value) (n : Nat) (dd : Option Addr) (sl : Array (Option Value)) (x : Value) (e : Value → Bool) (j : Nat) (y0 : Value) (hj : items[j]? = some y0) (hy0 : e y0 = true)
    (hlt : ∀ (i : Nat) y, i < j → items[i]? = some y → e y = false) (he : ∀ y, y ∈ items → MeetsSeq.EqGives y x (e y)) :
    Meets (Builtin.«tuple.index» ⟨[.ref l, x], []⟩)
      (fun A R s => s.heap.get? l = some { cls := .type "tuple", dict := dd, data := .seq items n, slots := sl } ∧ R (.ok (.ret (.int (j : Int) s.toks))) { s with toks := s.toks + 1 }) :=
  .of_wp fun prog w A R s h => by
    obtain ⟨hp, g, d, tk, os⟩ := s; obtain ⟨hl, h⟩ := h
    have hjs : j < items.size := (Array.getElem?_eq_some_iff.mp hj).1
    wp_walk using wpAny_loadPart' hl, wpAny_forR (fun i b s' => b.1 = none ∧ s' = ⟨hp, g, d, tk, os⟩ ∧ i ≤ j) _
    case hstep =>
      rintro i c s' hi ⟨hc, rfl, hij⟩
      have hi' : i < items.size := by omega
      have hg : items[i]? = some items[i] := by simp [hi']
      rw [hg]
      dsimp only
      refine wpAny_bind (he _ (Array.getElem_mem hi') prog w _ _ _ _ ?_)
      by_cases hij' : i = j
      · subst hij'
        have e0 : items[i] = y0 := by rw [hg] at hj; exact Option.some.inj hj
        rw [e0, hy0]
        wp_walk
        exact ⟨_, rfl, h⟩
      · have e0 : e items[i] = false := hlt i _ (by omega) hg
        rw [e0]
        wp_walk
        exact ⟨rfl, rfl, by omega⟩
    case hend =>
      rintro c s' ⟨hc, rfl, hij⟩
      omega
    case hab => exact Nat.zero_le _
    case h => exact ⟨rfl, rfl, Nat.zero_le _⟩
section
variable {X : Cx}
def tBMT (r : V → List V → Hp → VK → Prop) (to : TE) (t : TA) : TE := fun σ H Q => to σ H fun x H1 => (∃ a xs, x = .ref a ∧ H1 a = some (.tup xs)) ∧ t σ H1 fun xs H2 => r x xs H2 Q
theorem pe_bmT {o e : Expr} {es : List Expr} {to : TE} {t : TA} {name : Str} {apos cpos : Pos} {id : String} {r : V → List V → Hp → VK → Prop} (slot : Slot "tuple" name id) (hty : typeOf (.builtin id) = pure (.type "method_descriptor")) (hm : MtR X id r) (ho : PE X o to) (ha : PA X (e :: es) t)
    (hbase : attributeBase o name X.env (eval o X.env) = eval o X.env := by rfl)
    (hfew : ((backTo cpos (starEach (e :: es) X.env)).all (fun x => !x.1) && (backToKw cpos (keywordEach [] X.env)).all (fun x => x.1.isSome)
      && decide ((e :: es).length + ([] : List Keyword).length + (if ([] : List Keyword).isEmpty then 0 else 1) < 30)) = true := by rfl)
    (hline : (apos.endLine == cpos.line) = true := by rfl) (hs : starEach (e :: es) X.env = (false, eval e X.env) :: starEach es X.env := by rfl) (hplain : (backTo cpos (starEach es X.env)).any (·.1) = false := by rfl) :
    PE X (.Call (.Attribute o name apos) (e :: es) [] cpos) (tBMT r to t) := by
  intro pins s σ H Q I h
  refine wpAny_Call_method_late hbase hfew hline rfl (thn (ho pins s σ H _ I h) fun v s1 ⟨x, H1, I1, r1, ⟨a, xs, e1, hH⟩, q1⟩ => ?_)
  subst e1
  cases (show v = Value.ref a from r1)
  obtain ⟨_, its, _, ob, e1, e2, _, e4, _⟩ := (show ObjOk X.prog X.w H1 s1.heap a (.tup xs) from I1.hok a _ hH)
  refine ⟨"tuple", id, PySem.F.plainAttrs_tuple, slot, hty, ⟨ob, e1, e2⟩, fun b eb => by cases eb; exact ⟨ob, e1, e4⟩, ?_⟩
  have hA := ha cpos pins s1 σ H1 _ I1 q1
  rw [hs] at hA ⊢
  refine Calls.callWith_builtin (by show (false || (backTo cpos (starEach es X.env)).any (·.1)) = false; rw [hplain] <;> rfl) (Calls.evalArgs_plain ?_)
  exact thn hA fun us s2 ⟨vs, H2, I2, r2, q2⟩ => hm pins s2 σ H2 (.ref a) vs _ us Q I2 rfl r2 q2
def rTIndex : V → List V → Hp → VK → Prop := fun x vs H Q => ∃ (a : Addr) (ns : List Int) (n : Int), x = .ref a ∧ vs = [.int n] ∧ H a = some (.tup (ns.map V.int)) ∧ n ∈ ns ∧ Q (.int (ns.idxOf n)) H
theorem vals_mem : ∀ {ns : List Int} {its : List Value}, Vals (ns.map V.int) its → ∀ y ∈ its, ∃ n t, n ∈ ns ∧ y = Value.int n t
  | [], _, .nil, _, h => by cases h
  | n :: ns, _, .cons r t, y, h => by
    rcases List.mem_cons.mp h with rfl | h
    · obtain ⟨t, rfl⟩ := r
      exact ⟨n, t, by simp, rfl⟩
    · obtain ⟨m, t', hm, rfl⟩ := vals_mem t y h
      exact ⟨m, t', by simp [hm], rfl⟩
theorem mt_tindex : MtR X "tuple.index" rTIndex := by
  intro pins s σ H x vs v us Q I rx rv h
  obtain ⟨a, ns, n, rfl, rfl, hH, hn, q⟩ := h
  cases rx
  obtain ⟨u, rfl, t, rfl⟩ := vals1 rv
  obtain ⟨hz, its, r, ⟨cls, dd, data, sl⟩, e1, e2, ⟨c, e3⟩, e4, _⟩ := (show ObjOk X.prog X.w H s.heap a (.tup (ns.map V.int)) from I.hok a _ hH)
  dsimp only at e2 e3 e4
  subst e2 e3 e4
  have hidx : ns.idxOf n < ns.length := List.idxOf_lt_length_of_mem hn
  obtain ⟨y0, hy0, ry0⟩ := r.get (i := ns.idxOf n) (x := .int n) (by rw [List.getElem?_map, List.getElem?_eq_getElem hidx, List.getElem_idxOf hidx]; rfl)
  refine call_meets PySem.F.slot_tuple_index ⟨_, e1, rfl⟩ PySem.F.entry_tuple_index (PySem.F.args_tuple_index_2 _ _)
    (tup_indexAt a its.toArray c none sl (.int n t) (fun y => match y with | .int m _ => m == n | _ => false) (ns.idxOf n) y0 (by simpa using hy0) ?_ ?_ ?_) ⟨e1, ⟨.int (ns.idxOf n), H, I.tok _, ⟨_, rfl⟩, q⟩⟩
  · obtain ⟨t', rfl⟩ := ry0
    simp
  · intro i y hi hy
    have hyi : its[i]? = some y := by simpa using hy
    obtain ⟨m, t', hm, rfl⟩ := vals_mem r y (List.mem_of_getElem? hyi)
    have hil : i < ns.length := by omega
    obtain ⟨y1, hy1, ry1⟩ := r.get (i := i) (x := .int ns[i]) (by rw [List.getElem?_map, List.getElem?_eq_getElem hil]; rfl)
    rw [hyi] at hy1
    cases hy1
    obtain ⟨t2, e⟩ := ry1
    injection e with e _
    have hne : ns[i] ≠ n := by
      have := List.not_of_lt_findIdx (p := (· == n)) (xs := ns) (i := i) (by simpa [List.idxOf] using hi)
      simpa using this
    simp [e, hne]
  · intro y hy
    obtain ⟨m, t', _, rfl⟩ := vals_mem r y (by simpa using hy)
    exact MeetsSeq.EqGives.int m n t' t
end
end L2


namespace L2
open PySem PySem.Spec PyProof.Rows
open Sem (wp)
open AutoSeq1 (wpAny_loadPart')
section
variable {prog : Program} {w : World} {A : Around} {E : Value → Shared → Prop} {s : Shared}
end
section
variable {X : Cx} {pos : Pos}
def gLst (K : PySem.W.Frag) (n : Nat) (t : TGs) : TG := fun v σ H Q => ∃ a xs, v = .ref a ∧ SqL K H a xs ∧ xs.length = n ∧ t xs σ H Q
end
section
variable {prog : Program} {w : World} {A : Around} {E : Value → Shared → Prop} {s : Shared}
end
section
variable {X : Cx}
def rTupRng : List V → Hp → VK → Prop := fun xs H Q => ∃ (a : Addr) (j : Int), xs = [.ref a] ∧ H a = some (.rng 0 j) ∧ 0 ≤ j ∧ j ≤ 1000 ∧ ∀ p, H p = none → Q (.ref p) (upd H p (.tup (rangeV 0 j.toNat)))
end
end L2


namespace L2
open PySem PySem.Spec PyProof.Rows
def atO (ns : List Int) (x : Int) : Int := ns.getD x.toNat 0
def invO (ns : List Int) : List Int := (num0 ns.length).map fun x => ((ns.idxOf x : Nat) : Int)
def compO (ns ms : List Int) : List Int := ms.map (atO ns)
def Ord (m : Nat) (ns : List Int) : Prop := ns.Perm (num0 m)
theorem num0_len' (n : Nat) : (num0 n).length = n := by simp [num0]
theorem num0_nodup' (n : Nat) : (num0 n).Nodup := by
  unfold num0
  refine List.Pairwise.map _ (fun a b (h : a ≠ b) => ?_) (List.nodup_range (n := n))
  show (a : Int) ≠ (b : Int)
  omega
theorem mem_num0 {n : Nat} {x : Int} : x ∈ num0 n ↔ 0 ≤ x ∧ x < n := by
  refine ⟨num0_mem, fun ⟨h0, h1⟩ => ?_⟩
  unfold num0
  exact List.mem_map.mpr ⟨x.toNat, List.mem_range.mpr (by omega), by omega⟩
section
variable {m : Nat} {ns ms ks : List Int} {x : Int}
end
theorem for_enum {K : PySem.W.Frag} {a : Addr} {xs : List V} {g : TG} {tb : TS} {D : Ends} {σ : L2.St} {H : Hp} (Pv : Nat → L2.St → Hp → Prop) (h0 : Pv 0 σ H) (hl : ∀ i σ H, i ≤ xs.length → Pv i σ H → SqT K H a xs)
    (hs : ∀ i x t σ H, xs[i]? = some x → Pv i σ H → H t = none → g (.ref t) σ (upd H t (.tup [.int i, x])) fun σ2 H2 => tb { D with nx := Pv (i + 1), ct := Pv (i + 1), bk := D.nx } σ2 H2) (hd : ∀ σ H, Pv xs.length σ H → D.nx σ H) :
    ∃ W : Nat → Nat → L2.St → Hp → Prop, (∃ m, W 0 m σ H) ∧ ∀ i m σ H, W i m σ H →
      ((Ite K a).stop i H ∧ D.nx σ H) ∨ ((Ite K a).go i H ∧ ∃ N : L2.St → Hp → Prop, (∀ σ' H', N σ' H' → ∃ m', m' < m ∧ W (i + 1) m' σ' H') ∧ ∀ x H', (Ite K a).yld i H x H' → g x σ H' fun σ2 H2 => tb { D with nx := N, ct := N, bk := D.nx } σ2 H2) := by
  refine ⟨fun i m σ H => m = xs.length - i ∧ i ≤ xs.length ∧ Pv i σ H, ⟨xs.length, by simp, Nat.zero_le _, h0⟩, ?_⟩
  rintro i m σ H ⟨rfl, hi, p⟩
  have q := hl i σ H hi p
  by_cases hlt : i < xs.length
  · refine .inr ⟨⟨xs, xs[i], q, by simp [hlt]⟩, Pv (i + 1), fun σ' H' p' => ⟨xs.length - (i + 1), by omega, rfl, hlt, p'⟩, fun x H' y => ?_⟩
    obtain ⟨t, x', ht, rfl, rfl, y⟩ := y
    exact hs i x' t σ _ (y xs q) p ht
  · have e : i = xs.length := by omega
    subst e
    exact .inl ⟨⟨xs, q, rfl⟩, hd σ H p⟩
def spUndone : Sp := fun vs H Q _ => ∃ (a : Addr) (ns : List Int) (m : Nat), vs = [.ref a] ∧ H a = some (.tup (ns.map V.int)) ∧ Ord m ns ∧ m ≤ 500 ∧ ∀ p H', Same H H' → H' p = some (.tup ((invO ns).map V.int)) → Q (.ref p) H'
def spAfter : Sp := fun vs H Q _ => ∃ (a b : Addr) (ns ms : List Int), vs = [.ref a, .ref b] ∧ H a = some (.tup (ns.map V.int)) ∧ H b = some (.tup (ms.map V.int)) ∧ ns.length ≤ 500 ∧ ms.length ≤ 500 ∧ (∀ y ∈ ms, 0 ≤ y ∧ y < ns.length) ∧
  ∀ p H', Same H H' → H' p = some (.tup ((compO ns ms).map V.int)) → Q (.ref p) H'
end L2


namespace L2
open PySem PySem.Spec PyProof.Rows
def itO (ns : List Int) (x : Int) : Nat → Int
  | 0 => x
  | k + 1 => atO ns (itO ns x k)
def orbO (ns : List Int) (x : Int) (k : Nat) : List Int := (List.range k).map (itO ns x)
structure IsRound (ns : List Int) (x : Int) (row : List Int) : Prop where
  ex : ∃ k, row = orbO ns x (k + 1) ∧ itO ns x (k + 1) = x
  nd : row.Nodup
theorem len_le {α : Type} [DecidableEq α] : ∀ {l L : List α}, l.Nodup → (∀ y ∈ l, y ∈ L) → l.length ≤ L.length
  | [], _, _, _ => Nat.zero_le _
  | a :: t, L, h, s => by
    have ha := s a (by simp)
    have hn := List.nodup_cons.mp h
    have h1 : t.length ≤ (L.erase a).length := len_le hn.2 fun y hy => by
      have hne : y ≠ a := fun e => hn.1 (e ▸ hy)
      exact (List.mem_erase_of_ne hne).mpr (s y (by simp [hy]))
    have h2 := List.length_erase_of_mem ha
    have h3 : 0 < L.length := List.length_pos_of_mem ha
    simp only [List.length_cons]
    omega
section
variable {m : Nat} {ns : List Int} {x y : Int}
open Classical in
noncomputable def rowO (ns : List Int) (x : Int) : List Int := if h : ∃ row, IsRound ns x row then choose h else []
noncomputable def stepO (ns : List Int) (acc : List (List Int)) (f : Int) : List (List Int) := if f ∈ acc.flatten then acc else acc ++ [rowO ns f]
noncomputable def walkO (ns fs : List Int) : List (List Int) := fs.foldl (stepO ns) []
noncomputable def roundsO (ns : List Int) : List (List Int) := walkO ns (num0 ns.length)
structure MetO (ns : List Int) (m : Nat) (rows : List (List Int)) : Prop where
  nd : rows.flatten.Nodup
  rng : ∀ y ∈ rows.flatten, 0 ≤ y ∧ y < m
  clo : ∀ y ∈ rows.flatten, atO ns y ∈ rows.flatten
  row : ∀ r ∈ rows, ∃ f : Int, 0 ≤ f ∧ f < m ∧ r = rowO ns f
theorem perm_of_nd {l L : List Int} (hl : l.Nodup) (hL : L.Nodup) (e : ∀ y, y ∈ l ↔ y ∈ L) : l.Perm L := (List.perm_ext_iff_of_nodup hl hL).mpr e
def flipO (r : List Int) : List Int := r.take 1 ++ (r.drop 1).reverse
end
end L2


namespace L2
open PySem PySem.Spec PyProof.Rows
section
variable {X : Cx}
def rExtendT : V → List V → Hp → VK → Prop := fun x vs H Q => ∃ l b xs zs, x = .ref l ∧ vs = [.ref b] ∧ H l = some (.lst xs) ∧ H b = some (.tup zs) ∧ xs.length + zs.length ≤ sizeLine ∧ Q .non (upd H l (.lst (xs ++ zs)))
def rSorted : List V → Hp → VK → Prop := fun xs H Q => ∃ (l : Addr) (ns : List Int), xs = [.ref l] ∧ H l = some (.lst (ns.map V.int)) ∧ ns.length < 64 ∧
  ∀ p (ns' : List Int), ns'.Perm ns → ns'.Pairwise (· ≤ ·) → H p = none → Q (.ref p) (upd H p (.lst (ns'.map V.int)))
end
section
variable {prog : Program} {w : World} {A : Around} {E : Value → Shared → Prop} {s : Shared}
theorem getItem_tuple_whole {t sl : Addr} {items : Array Value} {vl vu : Value} {lo hi : Option Int} {Q : Value → Shared → Prop} (ht : IsTup s.heap t items) (hs : s.heap.IsSliceOf sl vl vu .none) (pl : IsPart vl lo) (pu : IsPart vu hi)
    (hw : HT.sIx items.size 0 lo = 0 ∧ HT.sIx items.size items.size hi = items.size) (h : Q (.ref t) s) : wpAny (model prog w) A (getItem (.ref t) (.ref sl)) Q E s := by
  obtain ⟨os, hos, hcs, hds⟩ := id hs
  have hTs : s.TypeIs (.ref sl) "slice" := ⟨os, hos, hcs⟩
  unfold getItem
  try with_reducible refine wpAny_holding ?_
  first | refine wpAny_bind (wpAny_pure ?_) | skip
  refine wpAny_bind (wpAny_sequenceKey ht.typeIs (by decide) ?_)
  refine wpAny_bind (wpAny_callSpecial?_slot (name := Str.ofString "__getitem__") ht.typeIs PyProof.Rows.slot_tuple_getitem
    (wpAny_call_entry PyProof.Rows.slot_tuple_getitem ht.typeIs entry_tuple_getitem ?_ (args_tuple_getitem _ _)))
  show wpAny _ _ (Builtin.Tuple.tupleItemsOf (.ref t) >>= _) _ _ s
  refine wpAny_bind (tupleItemsOf_ ht ?_)
  refine wpAny_bind (wpAny_typeOf hTs ?_)
  rw [if_pos (by decide)]
  refine wpAny_bind (HT.sliceApplied_gen hs pl pu ?_)
  show wpAny _ _ (if (((HT.sIx items.size 0 lo : Nat) : Int) == 0 && (1 : Int) == 1 && (HT.sIx items.size items.size hi - HT.sIx items.size 0 lo) == items.size) = true then _ else _) _ _ s
  rw [if_pos (by rw [hw.1, hw.2]; simp)]
  unfold Builtin.Tuple.tupleIsExact
  refine wpAny_bind (wpAny_bind (wpAny_typeOf ht.typeIs (wpAny_pure ?_)))
  rw [if_pos (by decide)]
  refine wpAny_bind (wpAny_rule ?_)
  exact wpAny_pure ⟨_, rfl, wpAny_pure h⟩
end
section
variable {X : Cx} {e : Expr} {te : TE} {p2 pos : Pos}
def rRv0 : V → Hp → VK → Prop := fun x H Q => ∃ a xs, x = .ref a ∧ H a = some (.tup xs) ∧ 1 ≤ xs.length ∧ ∀ p, H p = none → Q (.ref p) (upd H p (.tup (xs.drop 1).reverse))
def rTake1 : V → Option Int → Option Int → Hp → VK → Prop := fun x lo hi H Q => ∃ a xs, x = .ref a ∧ lo = none ∧ hi = some 1 ∧ H a = some (.tup xs) ∧ 1 ≤ xs.length ∧ ∀ p H', Same H H' → H' p = some (.tup (xs.take 1)) → Q (.ref p) H'
end
end L2


namespace L2
open PySem PySem.Spec PyProof.Rows
abbrev RowsAt (H : Hp) (zs : List Addr) (rows : List (List Int)) : Prop := Paired (fun (z : Addr) (r : List Int) => H z = some (.tup (r.map V.int))) zs rows
theorem RowsAt.sameT {H H' : Hp} {zs : List Addr} {rows : List (List Int)} (h : RowsAt H zs rows) (s : SameT H H') : RowsAt H' zs rows := Paired.mapP h fun _ _ q => s _ _ q
theorem RowsAt.same {H H' : Hp} {zs : List Addr} {rows : List (List Int)} (h : RowsAt H zs rows) (s : Same H H') : RowsAt H' zs rows := h.sameT s.t
structure Bits (bs : List Bool) (m : Nat) (S : List Int) : Prop where
  len : bs.length = m
  bit : ∀ i, i < m → bs[i]? = some (decide ((i : Int) ∈ S))
def spRoundFrom : Sp := fun vs H Q _ => ∃ (a : Addr) (ns : List Int) (m : Nat) (x : Int), vs = [.ref a, .int x] ∧ H a = some (.tup (ns.map V.int)) ∧ Ord m ns ∧ m ≤ 500 ∧ 0 ≤ x ∧ x < m ∧ ∀ p H', Same H H' → H' p = some (.tup ((rowO ns x).map V.int)) → Q (.ref p) H'
def spRoundsMet : Sp := fun vs H Q _ => ∃ (a l : Addr) (ns fs : List Int) (m : Nat), vs = [.ref a, .ref l] ∧ H a = some (.tup (ns.map V.int)) ∧ H l = some (.lst (fs.map V.int)) ∧ Ord m ns ∧ m ≤ 500 ∧ (∀ f ∈ fs, 0 ≤ f ∧ f < m) ∧
  ∀ p zs H', Same H H' → H' p = some (.lst (zs.map V.ref)) → RowsAt H' zs (walkO ns fs) → Q (.ref p) H'
def spRounds : Sp := fun vs H Q _ => ∃ (a : Addr) (ns : List Int) (m : Nat), vs = [.ref a] ∧ H a = some (.tup (ns.map V.int)) ∧ Ord m ns ∧ m ≤ 500 ∧ ∀ p zs H', Same H H' → H' p = some (.tup (zs.map V.ref)) → RowsAt H' zs (roundsO ns) → Q (.ref p) H'
theorem mapR_len (zs : List Addr) : (zs.map V.ref).length = zs.length := List.length_map ..
end L2


namespace L2
open PySem PySem.Spec PyProof.Rows
inductive Ents (P : Params) : List DictEntry → List (Str × Addr) → Prop
  | nil : Ents P [] []
  | cons {x : Str} {t : Tok} {f : Addr} {es : List DictEntry} {kvs : List (Str × Addr)} : Ents P es kvs → Ents P (⟨PyData.keyHash P x, .str x t, .ref f⟩ :: es) ((x, f) :: kvs)
structure GDict (K : PySem.W.Frag) (P : Params) (C : Addr) (kvs : List (Str × Addr)) : Prop where
  ex : ∃ es n, K.lookup C = some { cls := .type "dict", data := .dict es n } ∧ Ents P es.toList kvs
  nd : (kvs.map (·.1)).Nodup
section
variable {X : Cx}
def rGd (K : PySem.W.Frag) (P : Params) : R2 := fun x y H Q => ∃ C kvs z f, x = .ref C ∧ y = .str z ∧ GDict K P C kvs ∧ kvs.lookup z = some f ∧ Q (.ref f) H
end
structure CalF (P : Program) (w : World) (K : PySem.W.Frag) (mg : Str → Option Value) (base : Heap) (k : Nat) (f : Addr) (ps : List Str) (sp : Sp) : Prop where
  ex : ∃ fd, FnOk P w K mg base CX0 k f fd ps sp ∧ PySem.W.keepIn K (.ref f) = true ∧ Binds K fd ps []
section
variable {X : Cx} {k : Nat} {x : Str} {p pos : Pos} {e : Expr} {es : List Expr} {t : TA} {tf : TE}
def tCallV (P : Program) (w : World) (K : PySem.W.Frag) (mg : Str → Option Value) (base : Heap) (k : Nat) (tf : TE) (t : TA) : TE := fun σ H Q => tf σ H fun v H1 => ∃ f ps sp, v = .ref f ∧ CalF P w K mg base k f ps sp ∧ t σ H1 fun vs H2 => sp vs H2 Q E0
def rSumL : List V → Hp → VK → Prop := fun xs H Q => ∃ (l : Addr) (ns : List Int), xs = [.ref l] ∧ H l = some (.lst (ns.map V.int)) ∧ Q (.int ns.sum) H
end
end L2


namespace L2
open PySem PySem.Spec PyProof.Rows
abbrev lc2 (elt tg iter : Expr) (ifs : List Expr) (tg2 iter2 : Expr) (ifs2 : List Expr) (scope : Scope) (pos : Pos) : Expr := .ListComp elt [⟨tg, iter, ifs, 0⟩, ⟨tg2, iter2, ifs2, 0⟩] scope pos
section
variable {prog : Program} {w : World} {A : Around} {R : Result → Shared → Prop} {s : Shared} {elt tg iter tg2 iter2 : Expr} {ifs ifs2 : List Expr} {scope : Scope} {pos : Pos} {it acc : Value} {env : Env}
end
end L2


namespace L2
open PySem PySem.Spec PyProof.Rows
def InW (J : It) (H1 : Hp) (g : TG) (tt : TT) (te : TE) (acc : Addr) (σ : St) (Kt : Hp → Prop) : Prop :=
  ∃ V : Nat → Nat → Hp → Prop, (∃ m, V 0 m H1) ∧ ∀ i m H, V i m H →
    (J.stop i H ∧ Kt H) ∨ (J.go i H ∧ ∀ x H', J.yld i H x H' → g x σ H' fun σ2 H2 => Wk σ σ2 ∧ tt σ2 H2 fun b H3 =>
      if b = true then te σ2 H3 fun v H4 => ∃ ys, H4 acc = some (.lst ys) ∧ ys.length < sizeLine ∧ ∃ m', m' < m ∧ V (i + 1) m' (upd H4 acc (.lst (ys ++ [v])))
      else ∃ m', m' < m ∧ V (i + 1) m' H3)
def LcW2 (J : It) (H1 : Hp) (g : TG) (tt : TT) (wi2 : TI) (g2 : TG) (tt2 : TT) (te : TE) (n : Nat) (ix : List Nat) (σ : St) (Q : VK) : Prop := ∀ acc, H1 acc = none →
  ∃ W : Nat → Nat → Hp → Prop, (∃ m, W 0 m (upd H1 acc (.lst []))) ∧ ∀ i m H, W i m H →
    (J.stop i H ∧ Q (.ref acc) H) ∨ (J.go i H ∧ ∀ x H', J.yld i H x H' → g x (compSt n ix σ) H' fun σ2 H2 => Wk (compSt n ix σ) σ2 ∧ tt σ2 H2 fun b H3 =>
      if b = true then wi2 σ2 H3 fun J2 H4 => InW J2 H4 g2 tt2 te acc σ2 fun H5 => ∃ m', m' < m ∧ W (i + 1) m' H5
      else ∃ m', m' < m ∧ W (i + 1) m' H3)
def tLc2 (wi : TI) (g : TG) (tt : TT) (wi2 : TI) (g2 : TG) (tt2 : TT) (te : TE) (n : Nat) (ix : List Nat) : TE := fun σ H Q => wi σ H fun J H1 => LcW2 J H1 g tt wi2 g2 tt2 te n ix σ Q
section
variable {X : Cx} {elt tg iter tg2 iter2 : Expr} {ifs ifs2 : List Expr} {scope : Scope} {pos : Pos} {wi wi2 : TI} {g g2 : TG} {tt tt2 : TT} {te : TE} {N' : List Str} {n : Nat} {ix : List Nat}
end
end L2


namespace L2
open PySem PySem.Spec PyProof.Rows
def Itel (K : PySem.W.Frag) (a : Addr) : It :=
  ⟨fun i H => ∃ xs x, SqL K H a xs ∧ xs[i]? = some x, fun i H v H' => ∃ t x, H t = none ∧ v = .ref t ∧ H' = upd H t (.tup [.int i, x]) ∧ ∀ xs, SqL K H a xs → xs[i]? = some x, fun i H => ∃ xs, SqL K H a xs ∧ xs.length = i⟩
section
variable {X : Cx}
def iEnumL (K : PySem.W.Frag) (ta : TA) : TI := fun σ H R => ta σ H fun vs H1 => ∃ a, vs = [.ref a] ∧ (∃ xs, SqL K H1 a xs) ∧ R (Itel K a) H1
end
end L2


namespace L2
open PySem PySem.Spec PyProof.Rows
def pairs2 (xs : List V) (ys : V → List V) (p : V → V → Bool) : List (V × V) := xs.flatMap fun x => ((ys x).filter (p x)).map fun y => (x, y)
end L2


namespace L2
open PySem PySem.Spec PyProof.Rows
section
variable {X : Cx}
def rSlA : V → Option Int → Option Int → Hp → VK → Prop := fun x lo hi H Q => ∃ a xs, x = .ref a ∧ H a = some (.tup xs) ∧ ∀ p H', Same H H' → H' p = some (.tup (cutV xs lo hi)) → Q (.ref p) H'
theorem sl_tupA : SlR X rSlA := by
  intro pins s σ H x v vl vu lo hi sl Q I rx hs pl pu h
  obtain ⟨a, xs, rfl, ha, q⟩ := h
  by_cases hw : HT.sIx xs.length 0 lo = 0 ∧ HT.sIx xs.length xs.length hi = xs.length
  · cases rx
    obtain ⟨its, r, ht, hz⟩ := I.tuple (SqT.of (K := X.K) ha)
    have hl : its.toArray.size = xs.length := by rw [List.size_toArray]; exact r.length.symm
    refine ⟨"tuple", _, PyProof.Rows.slot_tuple_getitem.lookup, ht.typeIs, ?_⟩
    refine getItem_tuple_whole ht hs pl pu (by rw [hl]; exact hw) ⟨.ref a, H, I, rfl, q a H (Same.refl H) ?_⟩
    unfold cutV
    rw [hw.1, hw.2, List.drop_zero, Nat.sub_zero, List.take_length]
    exact ha
  · exact sl_tup pins s σ H _ v vl vu lo hi sl Q I rx hs pl pu ⟨a, xs, rfl, SqT.of ha, hw, fun p hp => q p _ (same_upd hp) upd_same⟩
theorem op_is_bl : OpR X (compareOp .Is) (fun x y H Q => ∃ a b, x = .bl a ∧ y = .bl b ∧ Q (.bl (a == b)) H) := by
  intro pins s σ H x y v u Q I rx ry h
  obtain ⟨a, b, rfl, rfl, q⟩ := h
  cases (show v = Value.bool a from rx)
  cases (show u = Value.bool b from ry)
  refine wpAny_pure ⟨.bl (a == b), H, I, ?_, q⟩
  show Value.bool _ = Value.bool _
  cases a <;> cases b <;> rfl
end
section
variable {X : Cx} {elt tg iter tg2 iter2 : Expr} {ifs ifs2 : List Expr} {scope : Scope} {pos : Pos} {wi wi2 : TI} {g g2 : TG} {tt tt2 : TT} {te : TE} {N' : List Str} {n : Nat} {ix : List Nat}
end
end L2


namespace L2
open PySem PySem.Spec PyProof.Rows
def freeO (m : Nat) (b : List Int) : List Int := (num0 m).filter fun x => decide (x ∉ b)
def stepA (m : Nat) (L : List (List Int)) : List (List Int) := L.flatMap fun b => (freeO m b).map fun x => b ++ [x]
def iterA (m : Nat) (L : List (List Int)) : Nat → List (List Int)
  | 0 => L
  | k + 1 => stepA m (iterA m L k)
def allP : Nat → List Int → List (List Int)
  | 0, _ => [[]]
  | n + 1, left => (List.range left.length).flatMap fun k => (allP n (left.take k ++ left.drop (k + 1))).map fun r => left.getD k 0 :: r
theorem free_nodup (m : Nat) (b : List Int) : (freeO m b).Nodup := List.Nodup.sublist List.filter_sublist (num0_nodup' m)
theorem free_snoc (m : Nat) (b : List Int) (x : Int) : freeO m (b ++ [x]) = (freeO m b).filter fun y => decide (y ≠ x) := by
  unfold freeO
  rw [List.filter_filter]
  apply List.filter_congr
  intro y _
  simp [List.mem_append]
  exact Bool.and_comm _ _
theorem filter_ne_mid {A B : List Int} {x : Int} (nd : (A ++ x :: B).Nodup) : (A ++ x :: B).filter (fun y => decide (y ≠ x)) = A ++ B := by
  obtain ⟨n1, n2, n3⟩ := List.nodup_append.mp nd
  have hx1 : ∀ y ∈ A, y ≠ x := fun y hy => n3 y hy x (by simp)
  have hx2 : ∀ y ∈ B, y ≠ x := fun y hy z => (List.nodup_cons.mp n2).1 (z ▸ hy)
  rw [List.filter_append, List.filter_cons]
  simp only [ne_eq, not_true_eq_false, decide_false, Bool.false_eq_true, if_false]
  rw [List.filter_eq_self.mpr fun y hy => by simpa using hx1 y hy, List.filter_eq_self.mpr fun y hy => by simpa using hx2 y hy]
theorem filter_ne_at {L : List Int} (nd : L.Nodup) {k : Nat} (hk : k < L.length) : L.filter (fun y => decide (y ≠ L[k])) = L.take k ++ L.drop (k + 1) := by
  have e : L.take k ++ L[k] :: L.drop (k + 1) = L := by rw [← List.drop_eq_getElem_cons hk, List.take_append_drop]
  have := filter_ne_mid (A := L.take k) (B := L.drop (k + 1)) (x := L[k]) (by rw [e]; exact nd)
  rwa [e] at this
def allA (m : Nat) : List (List Int) := iterA m [[]] m
theorem free_nil (m : Nat) : freeO m [] = num0 m := by
  unfold freeO
  exact List.filter_eq_self.mpr fun y _ => by simp
structure Beg (m k : Nat) (b : List Int) : Prop where
  len : b.length = k
  nd : b.Nodup
  rng : ∀ y ∈ b, 0 ≤ y ∧ y < m
  free : (freeO m b).length + k = m
theorem beg0 (m : Nat) : Beg m 0 [] := ⟨rfl, by simp, by simp, by rw [free_nil, num0_len']; omega⟩
theorem Beg.more {m k : Nat} {b : List Int} (B : Beg m k b) {x : Int} (hx : x ∈ freeO m b) : Beg m (k + 1) (b ++ [x]) := by
  have hx' := List.mem_filter.mp hx
  have hxb : x ∉ b := by simpa using hx'.2
  have hxr := num0_mem hx'.1
  refine ⟨by rw [List.length_append, B.len]; rfl, List.nodup_append.mpr ⟨B.nd, by simp, fun a ha c hc e => ?_⟩, fun y hy => ?_, ?_⟩
  · rw [List.mem_singleton] at hc
    subst hc e
    exact hxb ha
  · rcases List.mem_append.mp hy with hy | hy
    · exact B.rng y hy
    · rw [List.mem_singleton.mp hy]; exact hxr
  · obtain ⟨i, hi⟩ := List.getElem?_of_mem hx
    obtain ⟨hi1, hi2⟩ := List.getElem?_eq_some_iff.mp hi
    have := filter_ne_at (free_nodup m b) hi1
    rw [free_snoc, ← hi2, this, List.length_append, List.length_take, List.length_drop]
    have := B.free
    omega
def facD (m : Nat) : Nat → Nat
  | 0 => 1
  | k + 1 => facD m k * (m - k)
theorem iter_beg (m : Nat) : ∀ k, (∀ b ∈ iterA m [[]] k, Beg m k b) ∧ (iterA m [[]] k).length = facD m k
  | 0 => ⟨fun b hb => by rw [List.mem_singleton.mp hb]; exact beg0 m, rfl⟩
  | k + 1 => by
    obtain ⟨h1, h2⟩ := iter_beg m k
    refine ⟨fun b hb => ?_, ?_⟩
    · obtain ⟨c, hc, hb⟩ := List.mem_flatMap.mp hb
      obtain ⟨x, hx, rfl⟩ := List.mem_map.mp hb
      exact (h1 c hc).more hx
    · show (stepA m (iterA m [[]] k)).length = facD m k * (m - k)
      have key : ∀ L : List (List Int), (∀ b ∈ L, Beg m k b) → (stepA m L).length = L.length * (m - k) := fun L => by
        induction L with
        | nil => intro _; simp [stepA]
        | cons b t ih =>
          intro h
          have hb := (h b (by simp)).free
          have := ih fun c hc => h c (by simp [hc])
          have e : stepA m (b :: t) = ((freeO m b).map fun x => b ++ [x]) ++ stepA m t := by simp [stepA]
          rw [e, List.length_append, List.length_map, this, List.length_cons, Nat.succ_mul]
          omega
      rw [key _ h1, h2]
theorem fac_small : ∀ m < 7, ∀ k < 8, facD m k ≤ 720 := by decide
theorem Beg.ord {m : Nat} {b : List Int} (B : Beg m m b) : Ord m b := by
  refine perm_of_nd B.nd (num0_nodup' m) fun y => ⟨fun hy => mem_num0.mpr (B.rng y hy), fun hy => ?_⟩
  by_cases h : y ∈ b
  · exact h
  · have := len_le (l := y :: b) (L := num0 m) (List.nodup_cons.mpr ⟨h, B.nd⟩) fun z hz => by
      rcases List.mem_cons.mp hz with rfl | hz
      · exact hy
      · exact mem_num0.mpr (B.rng z hz)
    rw [num0_len', List.length_cons, B.len] at this
    omega
end L2


namespace L2
open PySem PySem.Spec PyProof.Rows
theorem inV_ints (n : Int) : ∀ S : List Int, inV (.int n) (S.map V.int) = decide (n ∈ S)
  | [] => by simp [inV]
  | a :: t => by
    have ih := inV_ints n t
    have e : inV (.int n) ((a :: t).map V.int) = ((a == n) || inV (.int n) (t.map V.int)) := rfl
    rw [e, ih]
    by_cases h : a = n
    · subst h
      simp
    · have h' : ¬ n = a := fun z => h z.symm
      rw [beq_eq_false_iff_ne.mpr h, Bool.false_or, decide_eq_decide]
      rw [List.mem_cons]
      exact ⟨.inr, fun z => z.resolve_left h'⟩
end L2
namespace L2
open PySem PySem.Spec PyProof.Rows
theorem RowsAt.get {H : Hp} : ∀ {zs : List Addr} {rows : List (List Int)}, RowsAt H zs rows → ∀ {i : Nat} {z : Addr}, zs[i]? = some z → ∃ r, rows[i]? = some r ∧ H z = some (.tup (r.map V.int))
  | _, _, .nil, _, _, h => by simp at h
  | _, _, .cons r _, 0, _, h => by simp at h; subst h; exact ⟨_, rfl, r⟩
  | _, _, .cons _ t, i + 1, _, h => RowsAt.get t (i := i) (by simpa using h)
def RFlip (x v : V) (H : Hp) : Prop := ∃ (z z' : Addr) (r : List Int), x = .ref z ∧ H z = some (.tup (r.map V.int)) ∧ v = .ref z' ∧ H z' = some (.tup ((flipO r).map V.int))
end L2


namespace L2
open PySem PySem.Spec PyProof.Rows
section
variable {X : Cx}
def rMaxL : List V → Hp → VK → Prop := fun xs H Q => ∃ (l : Addr) (ns : List Int), xs = [.ref l] ∧ H l = some (.lst (ns.map V.int)) ∧ ns ≠ [] ∧ ∀ M, M ∈ ns → (∀ a ∈ ns, a ≤ M) → Q (.int M) H
def rMaxT : List V → Hp → VK → Prop := fun xs H Q => ∃ (l : Addr) (ns : List Int), xs = [.ref l] ∧ H l = some (.tup (ns.map V.int)) ∧ ns ≠ [] ∧ ∀ M, M ∈ ns → (∀ a ∈ ns, a ≤ M) → Q (.int M) H
theorem max_of_best {xs : Array (Int × Tok)} {ns : List Int} (hnum : xs.toList.map (·.1) = ns) (hsz : 0 < xs.size) :
    numAt xs (argBest (fun i j => decide (numAt xs i > numAt xs j)) (xs.size - 1)) ∈ ns ∧ ∀ a ∈ ns, a ≤ numAt xs (argBest (fun i j => decide (numAt xs i > numAt xs j)) (xs.size - 1)) := by
  obtain ⟨h1, h2⟩ := argBest_gt (numAt xs) (xs.size - 1)
  subst hnum
  refine ⟨?_, fun a ha => ?_⟩
  · rw [numAt_eq]; exact getD_mem (by rw [List.length_map, Array.length_toList]; omega)
  · obtain ⟨j, hj, rfl⟩ := mem_getD ha
    rw [List.length_map, Array.length_toList] at hj
    rw [← numAt_eq]; exact h2 j (by omega)
theorem call_maxL (hc : X.calm = true) : CallR X (.builtin "max") rMaxL := by
  intro pins s σ H xs us Q I rs h
  obtain ⟨l, ns, rfl, hH, hne, q⟩ := h
  obtain ⟨u, rfl, ru⟩ := vals1 rs
  cases (show u = Value.ref l from ru)
  obtain ⟨z, its, n, r, hl, e⟩ := I.lstM hH
  have hI := intsAre_of r
  obtain ⟨xs, hxs⟩ := hI.allInts.items
  have hnum : xs.toList.map (·.1) = ns := by rw [← nums_intItems, ← hxs]; exact hI.numsOf
  have hsz : 0 < xs.size := by
    have : ns.length = xs.size := by rw [← hnum, List.length_map, Array.length_toList]
    have := List.length_pos_iff.mpr hne
    omega
  obtain ⟨b1, b2⟩ := max_of_best hnum hsz
  refine max_intList (xs := xs) (I.ok.hd hc) (by rw [← hxs]; exact ⟨_, e, rfl, n, rfl⟩) hsz fun v h' tk hv hk => ?_
  obtain ⟨t, rfl⟩ := intItems_at hv
  exact ⟨.int _, H, I.kept (t' := tk) hk, ⟨_, rfl⟩, q _ b1 b2⟩
end
def enF (p : Nat → V → Bool) (f : Nat → V → V) : Nat → List V → List V
  | _, [] => []
  | i, x :: t => (if p i x then [f i x] else []) ++ enF p f (i + 1) t
end L2


namespace L2
open PySem PySem.Spec PyProof.Rows
def en2 (ys : Nat → V → List V) (p : Nat → V → V → Bool) (c : V) : Nat → List V → List V
  | _, [] => []
  | i, x :: t => ((ys i x).filter (p i x)).map (fun _ => c) ++ en2 ys p c (i + 1) t
end L2


namespace L2
open PySem PySem.Spec PyProof.Rows
def sumR (n : Nat) (g : Nat → Int) : Int := ((List.range n).map g).sum
def staysO (ns : List Int) : Int := sumR ns.length fun k => if atO ns k = k then 1 else 0
def risesO (ns : List Int) : Int := sumR (ns.length - 1) fun k => if atO ns k < atO ns (k + 1 : Nat) then 1 else 0
def highsO (ns : List Int) : Int := sumR ns.length fun k => if (ns.take (k + 1)).all (fun a => decide (a ≤ atO ns k)) then 1 else 0
def crossedO (ns : List Int) : Int := sumR ns.length fun k => (((ns.take k).filter fun a => decide (atO ns k < a)).length : Int)
def patO (L : List Int) (x : Int) : List Int := if L.countP (fun a => decide (a < x)) = L.length then L ++ [x] else L.set (L.countP fun a => decide (a < x)) x
def patsO (ns : List Int) : List Int := ns.foldl patO []
def longestO (ns : List Int) : Int := (patsO ns).length
def qN (q : Nat → Int → Bool) : Nat → V → Bool := fun i v => match v with | .int n => q i n | _ => false
def qZ (q : Int → Int → Bool) : V × V → Bool := fun xy => match xy with | (.int a, .int b) => q a b | _ => false
def qC : Nat → V → V → Bool := fun _ x y => match x, y with | .int a, .int b => decide (a < b) | _, _ => false
structure Heaps (ns : List Int) (L : List Int) (es : List Int) : Prop where
  inc : L.Pairwise (· < ·)
  len : es.length = ns.length
  up : ∀ (j : Nat) a, L[j]? = some a → ∃ k : Nat, ns[k]? = some a ∧ es[k]? = some ((j : Int) + 1)
  dn : ∀ (k : Nat) e, es[k]? = some e → ∃ (j : Nat) (a b : Int), e = (j : Int) + 1 ∧ L[j]? = some a ∧ ns[k]? = some b ∧ a ≤ b
end L2


namespace L2
open PySem PySem.Spec PyProof.Rows
def Cx.compZ (X : Cx) (s₂ : Shared) (H₂ : Hp) (N' : List Str) (scope : Scope) (cl : List (Str × Addr)) (C : Addr) (fp : List Addr) (z : Str) (Z : Addr) : Cx :=
  { X with N := N', s₀ := s₂, H₀ := H₂, env := compEnvC scope ((z, Z) :: cl) C X.env, outer := X.stack, stack := X.stack, ex := fp, fn := fun x => x == z, pn := [], xe := fun _ _ => False }
structure CompScopeZ (X : Cx) (scope : Scope) (N' : List Str) (n : Nat) (ix : List Nat) (z : Str) : Prop where
  kind : scope.kind = .function
  onecell : ∀ y ∈ scope.names, y.2 = .cell → y.1 = z
  nz : ∀ y : Str, (y, NameKind.free) ∈ scope.names → y ≠ z
  cf : ∀ (a : Addr) (cl : List (Str × Addr)), cellsFrom a scope.names cl = (z, a) :: cl
  pc : ∀ h : Heap, pushCells h scope.names = h.push { cls := .type "cell", data := .cell none }
  names : ∀ y ∈ scope.names, y.2 = .local → scope.names.lookup y.1 = some .local
  free : ∀ y ∈ scope.names, y.2 = .free → X.env.scope.names.lookup y.1 = some .cell ∨ X.env.scope.names.lookup y.1 = some .free
  nodup : ∀ y : Str, (y, NameKind.free) ∈ scope.names → scope.names.lookup y = some .local → False
  len : N'.length = n + ix.length
  at_ : ∀ (j i : Nat), ix[j]? = some i → ∃ x, N'[n + j]? = some x ∧ X.N[i]? = some x ∧ (x, NameKind.free) ∈ scope.names
theorem newEnvZ {M : Model} {A : Around} {E : Value → Shared → Prop} {s : Shared} {z : Str} {scope : Scope} {globals : Addr} {cl : List (Str × Addr)} {qual : Str} {env : Env} {Q : Env → Shared → Prop} (hcf : ∀ a, cellsFrom a scope.names cl = (z, a) :: cl)
    (hpc : ∀ h : Heap, pushCells h scope.names = h.push { cls := .type "cell", data := .cell none })
    (hQ : ∀ env' : Env, env' = { scope, locals := s.heap.objs.size, globals, cells := (z, s.heap.objs.size + 1) :: cl, qual, func := none, code := env.code, frame := env.frame, builtins := env.builtins } →
      Q env' { s with heap := (s.heap.push { cls := .type "dict", data := .dict #[] }).push { cls := .type "cell", data := .cell none } }) :
    wpAny M A (newFunctionEnv scope globals cl [] qual none .none (some env)) Q E s := by
  simp only [newFunctionEnv, Option.isSome_some, if_true]
  refine wpAny_bind (wpAny_alloc ?_)
  refine wpAny_bind (wpAny_layCells _ (fun name kind cells => by cases hkc : kind == NameKind.cell <;> simp [hkc]) _ _ _ _ ?_)
  rw [hcf, hpc]
  simp only [List.forIn_nil]
  have hz : (s.heap.push { cls := .type "dict", data := .dict #[] }).objs.size = s.heap.objs.size + 1 := Heap.size_push ..
  refine wpAny_bind (wpAny_pure (wpAny_pure ?_))
  exact hQ _ (by simp only [hz])
section
variable {X : Cx} {pins : List (Addr × Obj)} {σ : St} {H : Hp} {s : Shared}
theorem of_relabelZ {env : Env} {scope : Scope} {x z : Str} (hn : ∀ y ∈ scope.names, y.2 = .cell → y.1 = z) (hxz : x ≠ z) (h : (relabel scope env).names.lookup x = some .cell ∨ (relabel scope env).names.lookup x = some .free) : scope.names.lookup x = some .free := by
  rw [relabel_lookup] at h
  cases e : scope.names.lookup x with
  | none => rw [e] at h; rcases h with h | h <;> cases h
  | some k =>
    rw [e] at h
    have hk : k ≠ .cell := fun q => hxz (hn _ (PySem.mem_of_lookup e) q)
    by_cases hf : k = .free
    · rw [hf]
    · have hb : (k == NameKind.free) = false := by simpa using hf
      have hr : Option.map (fun k => if (k == NameKind.free && env.scope.kind == .function && env.kindOf x == some .cell) = true then NameKind.cell else k) (some k) = some k := by
        show some (ite _ _ _) = _
        rw [if_neg (by rw [hb]; simp)]
      rw [hr] at h
      rcases h with h | h
      · cases h; exact absurd rfl hk
      · exact h

theorem inv_compZ {z : Str} {Z : Addr} {scope : Scope} {N' : List Str} {n : Nat} {ix : List Nat} {cl : List (Str × Addr)} {fp : List Addr} {h₁ : Heap} {acc C : Addr} {na : Nat} {m : Str → Option Value} {tk : Nat}
    (I : Inv X pins σ H s) (S : CompScopeZ X scope N' n ix z) (hcl1 : ∀ x c, cl.lookup x = some c → X.env.cells.lookup x = some c) (hcl2 : ∀ y ∈ scope.names, y.2 = .free → cl.lookup y.1 = X.env.cells.lookup y.1)
    (hf : ∀ b ∈ fp, FpOk X pins H b) (hlt : ∀ b ∈ fp, b < s.heap.objs.size) (ha : s.heap.objs.size ≤ acc) (hC : s.heap.objs.size ≤ C) (hne : C ≠ acc) (hZ : s.heap.objs.size ≤ Z) (hZC : Z ≠ C) (hZa : Z ≠ acc) (hZc : h₁.IsCell Z none)
    (k : ∀ b u, s.heap.get? b = some u → h₁.get? b = some u) (hacc : h₁.get? acc = some { cls := .type "list", data := .seq ([] : List Value).toArray na }) (hns : h₁.Ns C m) :
    Inv (X.compZ s H N' scope cl C fp z Z) [] (compSt n ix σ) (upd H acc (.lst [])) { s with heap := h₁, toks := tk } := by
  have fr : ∀ b : Addr, s.heap.objs.size ≤ b → H b = none := fun b hb => I.hok.fresh hb
  have cellLt : ∀ x c, cl.lookup x = some c → c < s.heap.objs.size := fun x c e => by
    obtain ⟨v, q⟩ := I.cell x c (hcl1 x c e)
    exact q.lt
  have look : ∀ x c, List.lookup x ((z, Z) :: cl) = some c → (x = z ∧ c = Z) ∨ (x ≠ z ∧ cl.lookup x = some c) := fun x c e => by
    rw [List.lookup_cons] at e
    cases hb : x == z with
    | true =>
      rw [hb] at e
      exact .inl ⟨eq_of_beq hb, (Option.some.inj e).symm⟩
    | false =>
      rw [hb] at e
      exact .inr ⟨fun q => by (rw [q, beq_self_eq_true] at hb; cases hb), e⟩
  have look2 : ∀ x, x ≠ z → List.lookup x ((z, Z) :: cl) = cl.lookup x := fun x hx => by
    rw [List.lookup_cons]
    have hb : (x == z) = false := beq_eq_false_iff_ne.mpr hx
    rw [hb]
  have nZ : ∀ x c, cl.lookup x = some c → c ≠ Z := fun x c e q => absurd (cellLt x c e) (by rw [q]; exact Nat.not_lt.mpr hZ)
  refine ⟨⟨I.ok.mod, S.kind, I.ok.glob, I.ok.blt, hC, fun x y c e1 e2 => ?inj, fun x hx => ?has, fun x c e e' => ?cab, I.ok.hd, I.ok.frames, .inl rfl, fun b hb => ⟨Nat.ne_of_lt (Nat.lt_of_lt_of_le (hlt b hb) hC), fun x c e => ?exf⟩,
      I.bs, Nat.le_trans I.ok.bsz I.sz, fun b o e hb => ?noex, fun b hb hs => ?exfs, I.stack, I.stkFree⟩,
    rfl, I.bare, Un.laid k ha (fr acc ha), ⟨m, hns, fun i x v e1 e2 e3 => ?loc⟩, fun x c e => ?cell, ?free, fun x c e => ?freeC, fun p hp => absurd (show p ∈ ([] : List (Addr × Obj)) from hp) (by simp), I.hok.laid k ha ⟨Nat.zero_le _, [], na, .nil, hacc⟩, ?len⟩
  case inj =>
    rcases look x c e1 with ⟨h1, h2⟩ | ⟨h1, h2⟩ <;> rcases look y c e2 with ⟨h3, h4⟩ | ⟨h3, h4⟩
    · rw [h1, h3]
    · exact absurd h2 (nZ y c h4)
    · exact absurd h4 (nZ x c h2)
    · exact I.ok.inj x y c (hcl1 x c h2) (hcl1 y c h4)
  case has =>
    by_cases hxz : x = z
    · exact ⟨Z, by show List.lookup x ((z, Z) :: cl) = _; rw [hxz, List.lookup_cons, beq_self_eq_true]⟩
    · have hx' : scope.names.lookup x = some .free := of_relabelZ (env := X.env) S.onecell hxz hx
      have hm := PySem.mem_of_lookup hx'
      obtain ⟨c, e⟩ := I.ok.has x (S.free _ hm rfl)
      exact ⟨c, by show List.lookup x ((z, Z) :: cl) = _; rw [look2 x hxz]; exact (hcl2 _ hm rfl).trans e⟩
  case cab =>
    rcases look x c e' with ⟨_, h2⟩ | ⟨h1, _⟩
    · rw [h2]; exact hZ
    · exact absurd (eq_of_beq (show (x == z) = true from e)) h1
  case exf =>
    rcases look x c e with ⟨_, h2⟩ | ⟨_, h2⟩
    · rw [h2]; exact Nat.ne_of_gt (Nat.lt_of_lt_of_le (hlt b hb) hZ)
    · exact (hf b hb).2.2.2.2.1 x c (hcl1 x c h2)
  case noex =>
    rcases (hf b hb).2.2.2.1 with z | z
    · exact I.ok.noex b o e z
    · exact absurd (Nat.lt_of_lt_of_le (Heap.lt_size e) (Nat.le_trans I.ok.bsz z)) (Nat.lt_irrefl _)
  case exfs =>
    rcases List.mem_cons.mp (I.stkSub b hs) with z | z
    · exact (hf b hb).2.1 z
    · exact (hf b hb).2.2.1 z
  case loc =>
    have hi : n ≤ i := by
      by_cases hi : n ≤ i
      · exact hi
      · unfold compSt at e2
        rw [List.getElem?_append_left (by simp; omega), List.getElem?_replicate] at e2
        split at e2 <;> cases e2
    obtain ⟨j, rfl⟩ : ∃ j, i = n + j := ⟨i - n, by omega⟩
    unfold compSt at e2
    rw [List.getElem?_append_right (by simp), List.length_replicate, Nat.add_sub_cancel_left, List.getElem?_map] at e2
    cases ej : ix[j]? with
    | none => rw [ej] at e2; cases e2
    | some q =>
      rw [ej] at e2
      have e2' : σ.getD q none = some v := Option.some.inj e2
      have e2'' : σ[q]? = some (some v) := by
        rw [List.getD_eq_getElem?_getD] at e2'
        cases eq : σ[q]? with
        | none => rw [eq] at e2'; cases e2'
        | some z => rw [eq] at e2'; exact congrArg some e2'
      obtain ⟨y, h1, h2, h3⟩ := S.at_ j q ej
      have ey : y = x := Option.some.inj (h1.symm.trans e1)
      subst ey
      have hk := S.free _ h3 rfl
      obtain ⟨mX, _, hl⟩ := I.loc
      obtain ⟨u, r, l⟩ := hl q y v h2 e2'' (.inr hk)
      refine ⟨u, r, .inr ?_⟩
      have hkc : X.env.kindOf y = some .cell ∨ X.env.kindOf y = some .free := hk
      have l' : ∃ c, X.env.cells.lookup y = some c ∧ s.heap.IsCell c (some u) := by
        rcases l with ⟨z, _⟩ | ⟨_, c, ec, hc⟩
        · rcases hkc with q | q <;> (rw [q] at z; cases z)
        · exact ⟨c, ec, hc⟩
      obtain ⟨c, ec, o, ho, hd⟩ := l'
      have e3' : Vis (relabel scope X.env) y := e3
      have hyz : y ≠ z := S.nz y h3
      refine ⟨?_, c, by show List.lookup y ((z, Z) :: cl) = _; rw [look2 y hyz]; exact (hcl2 _ h3 rfl).trans ec, o, k _ _ ho, hd⟩
      -- its kind in the block
      have nl : scope.names.lookup y ≠ some .local := fun z => ?_
      · cases el : scope.names.lookup y with
        | none =>
          have : (relabel scope X.env).names.lookup y = none := by rw [relabel_lookup, el]; rfl
          rcases e3' with z | z | z <;> (rw [this] at z; cases z)
        | some kk =>
          have hmem := PySem.mem_of_lookup el
          have ncell : kk ≠ .cell := fun q => hyz (S.onecell _ hmem q)
          have hr : (relabel scope X.env).names.lookup y = some (if (kk == NameKind.free && X.env.scope.kind == .function && X.env.kindOf y == some .cell) = true then .cell else kk) := by rw [relabel_lookup, el]; rfl
          by_cases hkf : kk = .free
          · subst hkf
            exact relabel_free (env := X.env) el
          · have hb : (kk == NameKind.free) = false := by simpa using hkf
            have hr' : (relabel scope X.env).names.lookup y = some kk := by rw [hr, hb]; rfl
            rcases e3' with z | z | z
            · rw [hr'] at z; cases z; exact absurd el nl
            · rw [hr'] at z; cases z; exact absurd rfl ncell
            · rw [hr'] at z; cases z; exact absurd rfl hkf
      · exact S.nodup _ h3 z
  case cell =>
    rcases look x c e with ⟨_, h2⟩ | ⟨_, h2⟩
    · rw [h2]; exact ⟨none, hZc⟩
    · obtain ⟨v, o, ho, hd⟩ := I.cell x c (hcl1 x c h2)
      exact ⟨v, o, k _ _ ho, hd⟩
  case free =>
    show upd H acc (.lst []) C = none
    rw [upd_ne hne]; exact fr C hC
  case freeC =>
    show upd H acc (.lst []) c = none
    rcases look x c e with ⟨_, h2⟩ | ⟨_, h2⟩
    · rw [h2, upd_ne hZa]; exact fr Z hZ
    · have := cellLt x c h2
      rw [upd_ne (Nat.ne_of_lt (Nat.lt_of_lt_of_le this ha))]
      exact I.freeC x c (hcl1 x c h2)
  case len =>
    show (compSt n ix σ).length = N'.length
    unfold compSt
    rw [List.length_append, List.length_replicate, List.length_map, S.len]
end
section
variable {X : Cx} {elt tg iter : Expr} {ifs : List Expr} {scope : Scope} {pos : Pos} {wi : TI} {g : TG} {tt : TT} {te : TE} {N' : List Str} {n : Nat} {ix : List Nat}
theorem lc_coreZ {z : Str} {pins : List (Addr × Obj)} {σ : St} {H2 : Hp} {s2 : Shared} {cl : List (Str × Addr)} {it : Addr} {fp : List Addr} {tn : Nat → Heap → Prop} {J : It} {Q : VK} {R : Value → Addr → Result → Shared → Prop}
    (hc : X.calm = true) (S : CompScopeZ X scope N' n ix z)
    (hY : ∀ s₂ H₂ cl C fp Z, PG (X.compZ s₂ H₂ N' scope cl C fp z Z) tg g ∧ PTs (X.compZ s₂ H₂ N' scope cl C fp z Z) ifs tt ∧ PE (X.compZ s₂ H₂ N' scope cl C fp z Z) elt te)
    (I2 : Inv X pins σ H2 s2) (hcl1 : ∀ x c, cl.lookup x = some c → X.env.cells.lookup x = some c) (hcl2 : ∀ y ∈ scope.names, y.2 = .free → cl.lookup y.1 = X.env.cells.lookup y.1)
    (T : Turn X.prog X.w X.K tg J fp it tn) (st2 : tn 0 s2.heap) (f2 : ∀ b ∈ fp, FpOk X pins H2 b)
    (hW : LcW J H2 g tt te n ix σ Q)
    (hR : ∀ acc C s' H' m, s'.heap.Ns C m → Inv X pins σ H' s' → H' C = none → C ≠ X.env.locals → (C ∈ X.ex ∨ X.s₀.heap.objs.size ≤ C) → (∀ x c, X.env.cells.lookup x = some c → c ≠ C) → (∀ p ∈ X.pn ++ pins, p.1 ≠ C) → C ∉ X.fs → Q (.ref acc) H' → R (.ref acc) C (.ok .next) s') :
    wpAny (model X.prog X.w) X.A (newList []) (fun acc s₃ => wpAny (model X.prog X.w) X.A (newFunctionEnv scope X.env.globals cl [] X.env.qual none .none (some X.env)) (fun cenv s₄ =>
      codeAny (model X.prog X.w) X.A (.compStart (.ListComp elt [⟨tg, iter, ifs, 0⟩] scope pos) 0 (.ref it) acc { cenv with scope := relabel scope X.env }) (R acc cenv.locals) s₄) X.xe s₃) X.xe s2 := by
  refine wpAny_newObj_type (newEnvZ (z := z) (fun a => S.cf a cl) S.pc fun env' he' => ?_)
  subst he'
  dsimp only
  generalize hH2 : s2.heap.push { cls := .type "list", dict := none, data := .seq ([] : List Value).toArray } = G
  have hC : G.objs.size = s2.heap.objs.size + 1 := by rw [← hH2, Heap.size_push]
  generalize hh1 : (G.push { cls := .type "dict", data := .dict #[] }).push { cls := .type "cell", data := .cell none } = h₁
  have hkp : ∀ b o, G.get? b = some o → h₁.get? b = some o := fun b o e => hh1 ▸ Heap.get?_push_of_some _ (Heap.get?_push_of_some _ e)
  have hns₁ : h₁.Ns G.objs.size fun _ => none := hh1 ▸ (Heap.Ns.new G (.type "dict")).keeps fun b o e => Heap.get?_push_of_some _ e
  have hZc : h₁.IsCell (G.objs.size + 1) none := by
    rw [← hh1]
    refine ⟨{ cls := .type "cell", data := .cell none }, ?_, rfl⟩
    have := Heap.get?_push_size (G.push { cls := .type "dict", data := .dict #[] }) (o := { cls := .type "cell", data := .cell none }) rfl
    rwa [Heap.size_push] at this
  have hlt : ∀ b ∈ fp, b < s2.heap.objs.size := fun b hb => by
    obtain ⟨o, e, _⟩ := T.obj _ _ st2 b hb
    exact Heap.lt_size e
  have old : ∀ b o, s2.heap.get? b = some o → h₁.get? b = some o := fun b o e => hkp b o (hH2 ▸ Heap.get?_push_of_some _ e)
  have hacc : h₁.get? s2.heap.objs.size = some { cls := .type "list", dict := none, data := .seq ([] : List Value).toArray } := hkp _ _ (hH2 ▸ Heap.get?_push_size _ rfl)
  obtain ⟨W, ⟨m0, w0⟩, turn⟩ := hW s2.heap.objs.size (I2.hok.fresh (Nat.le_refl _))
  obtain ⟨hYg, hYt, hYe⟩ := hY s2 H2 cl G.objs.size fp (G.objs.size + 1)
  have fpY : ∀ {H' : Hp}, (∀ b ∈ fp, H' b = none) → ∀ b ∈ fp, FpOk (X.compZ s2 H2 N' scope cl G.objs.size fp z (G.objs.size + 1)) [] H' b := fun {H'} hn b hb => by
    obtain ⟨_, q1, q2, q3, q4, q5⟩ := f2 b hb
    refine ⟨hn b hb, ?_, fun z => ?_, .inl hb, fun x c e => ?_, fun p hp => absurd (show p ∈ ([] : List (Addr × Obj)) from hp) (by simp)⟩
    · show b ≠ G.objs.size
      rw [hC]
      exact Nat.ne_of_lt (Nat.lt_succ_of_lt (hlt b hb))
    · rcases List.mem_cons.mp (I2.stkSub b z) with y | y
      · exact q1 y
      · exact q2 y
    · have e' : List.lookup x ((z, G.objs.size + 1) :: cl) = some c := e
      rw [List.lookup_cons] at e'
      cases hb' : x == z with
      | true =>
        rw [hb'] at e'
        have e2 : G.objs.size + 1 = c := Option.some.inj e'
        rw [← e2, hC]
        have := hlt b hb
        exact Nat.ne_of_gt (Nat.lt_of_lt_of_le this (Nat.le_trans (Nat.le_succ _) (Nat.le_succ _)))
      | false =>
        rw [hb'] at e'
        exact q4 x c (hcl1 x c e')
  have loop : ∀ s₃ : Shared, s₃ = { s2 with heap := h₁ } →
      codeAny (model X.prog X.w) X.A (.compLoop (.ListComp elt [⟨tg, iter, ifs, 0⟩] scope pos) 0 (.ref it) (.ref s2.heap.objs.size) (compEnvC scope ((z, G.objs.size + 1) :: cl) G.objs.size X.env)) (R (.ref s2.heap.objs.size) G.objs.size) s₃ := by
    rintro s₃ rfl
    have I4 := inv_compZ (Z := G.objs.size + 1) (tk := s2.toks) I2 S hcl1 hcl2 f2 hlt (Nat.le_refl _) (by rw [hC]; exact Nat.le_succ _) (by rw [hC]; exact Nat.ne_of_gt (Nat.lt_succ_self _)) (by rw [hC]; exact Nat.le_trans (Nat.le_succ _) (Nat.le_succ _)) (Nat.ne_of_gt (Nat.lt_succ_self _)) (by rw [hC]; exact Nat.ne_of_gt (Nat.lt_succ_of_lt (Nat.lt_succ_self _))) hZc old hacc hns₁
    refine compLoop_gen (fun n' s' => ∃ i H', Inv (X.compZ s2 H2 N' scope cl G.objs.size fp z (G.objs.size + 1)) [] (compSt n ix σ) H' s' ∧ tn i s'.heap ∧ (∀ b ∈ fp, H' b = none) ∧ W i n' H') ?_ m0
      ⟨0, _, I4, T.keep _ _ _ st2 fun b hb o e => old b o e, fun b hb => ?_, w0⟩
    · rintro n' s3 ⟨i, H3, I3, st3, fr3, w3⟩
      rcases turn i n' H3 w3 with ⟨stop, q⟩ | ⟨go, step⟩
      · refine thn (T.done (X.compZ s2 H2 N' scope cl G.objs.size fp z (G.objs.size + 1)) rfl rfl rfl hc i [] s3 _ H3 _ I3 (fpY fr3) st3 stop) fun r s4 ⟨hr, I5⟩ => ?_
        subst hr
        obtain ⟨mC, hnC, _⟩ := I5.loc
        have IX : Inv X pins σ H3 s4 := I2.call' I5.os I5.base I5.hok I5.bare fun b hb => by
          obtain ⟨_, q1, q2, q3, q4, q5⟩ := f2 b hb
          exact ⟨q3, q1, q4, q5⟩
        refine hR _ _ s4 H3 mC hnC IX I5.free ?_ (.inr ?_) (fun x c e z => ?_) (fun p hp z => ?_) (I2.nofs (by rw [hC]; exact Nat.le_succ _)) q
        · rw [hC]
          exact Nat.ne_of_gt (Nat.lt_succ_of_lt I2.lt)
        · rw [hC]
          exact Nat.le_succ_of_le I2.sz
        · obtain ⟨v, q⟩ := I2.cell x c e
          rw [hC] at z
          exact absurd z (Nat.ne_of_lt (Nat.lt_succ_of_lt q.lt))
        · rw [hC] at z
          exact absurd z (Nat.ne_of_lt (Nat.lt_succ_of_lt (Heap.lt_size (I2.pin p hp).1)))
      · refine thn (T.item (X.compZ s2 H2 N' scope cl G.objs.size fp z (G.objs.size + 1)) rfl rfl rfl hc i [] s3 _ H3 _ I3 (fpY fr3) st3 go) fun r s4 ⟨u, hr, h4⟩ => ?_
        subst hr
        refine thn h4 fun _ s5 ⟨x, H5, I5, r5, y5, st5, fr5⟩ => ?_
        have I5' := I5.pinned (fpY fr5) (T.obj _ _ st5)
        refine thn (hYg _ s5 _ H5 x u _ I5' r5 (step x H5 y5)) fun _ s6 ⟨σ6, H6, I6, wk, q6⟩ => ?_
        have back : ∀ {H' : Hp} {s' : Shared}, Inv (X.compZ s2 H2 N' scope cl G.objs.size fp z (G.objs.size + 1)) ([] ++ pinsAt fp s5.heap) σ6 H' s' →
            Inv (X.compZ s2 H2 N' scope cl G.objs.size fp z (G.objs.size + 1)) [] (compSt n ix σ) H' s' ∧ tn (i + 1) s'.heap ∧ ∀ b ∈ fp, H' b = none := fun {H' s'} I7 => by
          refine ⟨I7.unpinned.weak wk.1 wk.2, T.keep _ _ _ st5 fun b hb o e => (I7.pin (b, o) (List.mem_append_right _ (List.mem_append_right _ (mem_pinsAt hb e)))).1, fun b hb => ?_⟩
          obtain ⟨o, e, d⟩ := T.obj _ _ st5 b hb
          exact (I7.pin (b, o) (List.mem_append_right _ (List.mem_append_right _ (mem_pinsAt hb e)))).2.1
        refine thn (hYt _ s6 σ6 H6 _ I6 q6) fun ok s7 ⟨H7, I7, q7⟩ => ?_
        cases ok with
        | false =>
          rw [if_neg Bool.false_ne_true] at q7 ⊢
          obtain ⟨m', hm, w7⟩ := q7
          obtain ⟨b1, b2, b3⟩ := back I7
          exact ⟨m', hm, i + 1, H7, b1, b2, b3, w7⟩
        | true =>
          rw [if_pos rfl] at q7 ⊢
          refine thn (hYe _ s7 σ6 H7 _ I7 q7) fun xv s8 ⟨v8, H8, I8, r8, ys, ha, hz, m', hm, w8⟩ => ?_
          refine thn (mt_append _ s8 σ6 H8 (.ref s2.heap.objs.size) [v8] (.ref s2.heap.objs.size) [xv] (fun _ H' => H' = upd H8 s2.heap.objs.size (.lst (ys ++ [v8]))) I8 rfl (.cons r8 .nil) ⟨_, ys, v8, rfl, rfl, ha, hz, rfl⟩) fun _ s9 ⟨_, H9, I9, _, e9⟩ => ?_
          subst e9
          obtain ⟨b1, b2, b3⟩ := back I9
          exact ⟨m', hm, i + 1, _, b1, b2, b3, w8⟩
    · rw [upd_ne (Nat.ne_of_lt (hlt b hb))]
      exact (f2 b hb).1
  exact codeAny_compStart_list (loop _ rfl) (T.self _ 0 _ _ _ (T.keep _ _ _ st2 fun b hb o e => old b o e) (loop _ rfl))

theorem pe_lcZ {z : Str} (hc : X.calm = true) (S : CompScopeZ X scope N' n ix z) (hi : PI X tg iter wi)
    (hY : ∀ s₂ H₂ cl C fp Z, PG (X.compZ s₂ H₂ N' scope cl C fp z Z) tg g ∧ PTs (X.compZ s₂ H₂ N' scope cl C fp z Z) ifs tt ∧ PE (X.compZ s₂ H₂ N' scope cl C fp z Z) elt te)
    (hs : ∀ x, foldedSetIterable iter X.env x = pure x := by intro _; rfl) : PE X (.ListComp elt [⟨tg, iter, ifs, 0⟩] scope pos) (tLc wi g tt te n ix) := by
  intro pins s σ H Q I h
  obtain ⟨cl, hcl, hcl1, hcl2⟩ := closure_ok (env := X.env) (scope := scope) fun y hy hf => I.ok.has _ (S.free y hy hf)
  rw [eval_ListComp]
  refine wpAny_comprehension_free (use := none) rfl hs hcl S.kind S.names (thn (hi pins s σ H _ I h) fun v s1 h1 => thn h1 fun itv s2 h2 => ?_)
  obtain ⟨it, fp, tn, J, H2, rfl, I2, T, st2, f2, hW⟩ := h2
  refine lc_coreZ (R := fun acc C => compPost (model X.prog X.w) X.A X.xe none (EP X pins σ Q) acc C) hc S hY I2 hcl1 hcl2 T st2 f2 hW ?_
  intro acc C s' H' m hn IX hf hL h1 h2 h3 h4 q
  exact ⟨m, hn, fun h' sb => ⟨.ref acc, H', IX.turned (t' := s'.toks) (fun b o hb e => sb.extBut b o hb e) hf hL h1 h2 h3, rfl, q⟩⟩

end
end L2


namespace L2
open PySem PySem.Spec PyProof.Rows
mutual
inductive IsK (K : PySem.W.Frag) (H : Hp) : V → PyData → Prop
  | non : IsK K H .non .none
  | bl (b : Bool) : IsK K H (.bl b) (.bool b)
  | int (i : Int) : IsK K H (.int i) (.int i)
  | str (x : Str) : IsK K H (.str x) (.str x)
  | tup {a : Addr} {vs : List V} {ds : List PyData} : SqT K H a vs → IsAllK K H vs ds → IsK K H (.ref a) (.tuple ds)
  | lst {a : Addr} {vs : List V} {ds : List PyData} : H a = some (.lst vs) → IsAllK K H vs ds → IsK K H (.ref a) (.list ds)
inductive IsAllK (K : PySem.W.Frag) (H : Hp) : List V → List PyData → Prop
  | nil : IsAllK K H [] []
  | cons {v : V} {vs : List V} {d : PyData} {ds : List PyData} : IsK K H v d → IsAllK K H vs ds → IsAllK K H (v :: vs) (d :: ds)
end

section
variable {X : Cx} {pins : List (Addr × Obj)} {σ : St} {H : Hp} {s : Shared}

def rEqK (K : PySem.W.Frag) : R2 := fun x y H Q => ∃ d e, IsK K H x d ∧ IsK K H y e ∧ SeqAt.shaped d = true ∧ SeqAt.shaped e = true ∧ Q (.bl (PyData.eqv d e)) H
def rNeK (K : PySem.W.Frag) : R2 := fun x y H Q => ∃ d e, IsK K H x d ∧ IsK K H y e ∧ SeqAt.shaped d = true ∧ SeqAt.shaped e = true ∧ Q (.bl (!PyData.eqv d e)) H
end


def rIsiA (K : PySem.W.Frag) : List V → Hp → VK → Prop := fun xs H Q => ∃ x T t b, xs = [x, .ty T] ∧ (TyOf K H x t ∨ ∃ a ys, x = .ref a ∧ SqT K H a ys ∧ t = .type "tuple") ∧ PySem.W.kitOne K t (.type T) = some b ∧ Q (.bl b) H
abbrev RowsK (K : PySem.W.Frag) (H : Hp) (zs : List Addr) (rows : List (List Int)) : Prop := Paired (fun (z : Addr) (r : List Int) => SqT K H z (r.map V.int)) zs rows
def AlikeK (K : PySem.W.Frag) (H : Hp) : Nat → V → V → Prop
  | 0, x, y => ∃ a : Int, x = .int a ∧ y = .int a
  | n + 1, x, y => (∃ a : Int, x = .int a ∧ y = .int a) ∨ ∃ a b xs ys, x = .ref a ∧ y = .ref b ∧ SqT K H a xs ∧ SqT K H b ys ∧ xs.length ≤ 1000 ∧ Paired (AlikeK K H n) xs ys
def spSameK (K : PySem.W.Frag) (n : Nat) : Sp := fun vs H Q _ => ∃ x y, vs = [x, y] ∧ AlikeK K H n x y ∧ ∀ H', Same H H' → Q (.bl true) H'
end L2


namespace L2
open PySem PySem.Spec PyProof.Rows
def Pot (H : Hp) (p q : Addr) : Prop := ∃ (ns : List Int) (seed turn : Int), H p = some (.lst [.ref q, .int seed, .int turn]) ∧ H q = some (.lst (ns.map V.int)) ∧ (∀ n ∈ ns, 0 ≤ n) ∧ ns.length ≤ 63
def spPot (K : PySem.W.Frag) : Sp := fun vs H Q _ => ∃ (a : Addr) (ns : List Int), vs = [.ref a] ∧ SqL K H a (ns.map V.int) ∧ ns.length ≤ 63 ∧ ∀ p q H', Same H H' → Pot H' p q → H p = none → H q = none → Q (.ref p) H'
def spTake : Sp := fun vs H Q _ => ∃ (p q : Addr) (m : Int), vs = [.ref p, .int m] ∧ 0 < m ∧ m < 1073741824 ∧ Pot H p q ∧ ∀ d H', 0 ≤ d → d < m → Pot H' p q → Keep p q H H' → Q (.int d) H'
theorem op_mulW {X : Cx} : OpR X (binaryOp .Mult) (rI (fun i j => IntMulOk i j) fun i j => .int (i * j)) := opI fun _ _ _ _ _ _ _ hc q => mul_int q hc
theorem bits_far : ∀ i : Nat, i ≤ 15 → IntMulOk (((10 : Int) ^ (60 : Int).toNat) ^ i) ((10 : Int) ^ (60 : Int).toNat) := fun i hi => by
  have h10 : Builtin.Int.intBits (10 : Int) ≤ 4 := intBits_le_iff.mpr (by decide)
  have h1 : Builtin.Int.intBits ((10 : Int) ^ (60 : Int).toNat) ≤ 241 := intBits_pow_le h10 60
  have h2 : Builtin.Int.intBits (((10 : Int) ^ (60 : Int).toNat) ^ i) ≤ 241 * i + 1 := intBits_pow_le h1 i
  exact IntMulOk.of_le h2 h1 (by omega)
end L2
namespace L2
open PySem PySem.Spec PyProof.Rows
def atZ (ns : List Int) (k : Int) : Int := if k < 0 then 0 else ns.getD k.toNat 0
def spNumAt (K : PySem.W.Frag) : Sp := fun vs H Q _ => ∃ (a : Addr) (ns : List Int) (k : Int), vs = [.ref a, .int k] ∧ SqT K H a (ns.map V.int) ∧ Q (.int (atZ ns k)) H
end L2
namespace L2
open PySem PySem.Spec PyProof.Rows
def roundsRow (m : Nat) (ns : List Int) : List Int := (num0 (m + 1)).map fun k => atZ ns (k - 1) + ((m : Int) - 1) * atZ ns k
def staysRow (m : Nat) (ns : List Int) : List Int := (num0 (m + 1)).map fun k => atZ ns (k - 1) + ((m : Int) - 1 - k) * atZ ns k + (k + 1) * atZ ns (k + 1)
def risesRow (m : Nat) (ns : List Int) : List Int := (num0 m).map fun k => (k + 1) * atZ ns k + ((m : Int) - k) * atZ ns (k - 1)
def spRow (K : PySem.W.Frag) (B : Nat) (g : Nat → List Int → List Int) : Sp := fun vs H Q _ => ∃ (m : Nat) (a : Addr) (ns : List Int), vs = [.int m, .ref a] ∧ 1 ≤ m ∧ m ≤ B ∧ SqT K H a (ns.map V.int) ∧ ns.length ≤ 1000 ∧ ∀ p H', Same H H' → H' p = some (.tup ((g m ns).map V.int)) → Q (.ref p) H'
end L2
namespace L2
open PySem PySem.Spec PyProof.Rows
section
variable {X : Cx}
def rSlK (K : PySem.W.Frag) : V → Option Int → Option Int → Hp → VK → Prop := fun x lo hi H Q => ∃ a xs, x = .ref a ∧ SqT K H a xs ∧ ∀ p H', Same H H' → SqT K H' p (cutV xs lo hi) → Q (.ref p) H'
def rSumT (K : PySem.W.Frag) : List V → Hp → VK → Prop := fun xs H Q => ∃ (l : Addr) (ns : List Int), xs = [.ref l] ∧ SqT K H l (ns.map V.int) ∧ Q (.int ns.sum) H
end
def win (ns : List Int) (lo : Int) (n : Nat) : Int := ((List.range n).map fun (i : Nat) => atZ ns (lo + (i : Int))).sum
theorem paired_tab {g : Int → Int} : ∀ {l : List Int} {ys : List V}, Paired (fun x v => ∀ k, x = V.int k → v = V.int (g k)) (l.map V.int) ys → ys = (l.map g).map V.int
  | [], _, .nil => rfl
  | a :: l, _, .cons h t => by
    rw [List.map_cons, List.map_cons, ← paired_tab t, h a rfl]
theorem lc_tabG {n : Nat} {te : TE} {ix : List Nat} {σ : L2.St} {H1 : Hp} {Q : VK} (g : Int → Int) (small : n ≤ 1000) (he : ∀ k : Int, 0 ≤ k → k < n → ∀ H, Same H1 H → ∀ Q' : VK, (∀ H', Same H H' → Q' (.int (g k)) H') → te (some (.int k) :: ix.map fun i => σ.getD i none) H Q')
    (fin : ∀ acc H', H1 acc = none → Same H1 H' → H' acc = some (.lst (((num0 n).map g).map V.int)) → Q (.ref acc) H') : LcW (Itr 0 n) H1 (gName 0) tNoTest te 1 ix σ Q := by
  refine lc_grow (yields_range (lo := 0) (n := n)) (small1 (by rw [rangeV_len]; exact small)) (fun x v _ => ∀ k, x = V.int k → v = V.int (g k)) (fun _ _ _ _ _ h => h) (fun _ _ => trivial) (fun x hx H' s' Q' q => ?_) fun acc ys H' hacc sm hys pr => ?_
  · obtain ⟨k, rfl, k0, k1⟩ := mem_rangeV hx
    exact he k k0 k1 H' s' Q' fun H2 s2 => q _ H2 s2 fun k' e => by cases e; rfl
  · rw [rangeV_num0] at pr
    rw [paired_tab pr] at hys
    exact fin acc H' hacc sm hys
end L2
namespace L2
open PySem PySem.Spec PyProof.Rows
def crossedRow (m : Nat) (ns : List Int) : List Int := (num0 (m * (m - 1) / 2 + 1)).map fun k => win ns (k - (m : Int) + 1) m
end L2
namespace L2
open PySem PySem.Spec PyProof.Rows
def kinds5 : List Str := ["rounds", "stays", "rises", "highs", "crossed"]
def rowOf (kind : Str) (m : Nat) (ns : List Int) : List Int :=
  if kind = "crossed" then crossedRow m ns else if kind = "rises" then risesRow m ns else if kind = "stays" then staysRow m ns else roundsRow m ns
def bOf (kind : Str) : Nat := if kind = "crossed" then 24 else 60
def spNext (K : PySem.W.Frag) : Sp := fun vs H Q _ => ∃ (kind : Str) (m : Nat) (a : Addr) (ns : List Int), vs = [.str kind, .int m, .ref a] ∧ kind ∈ kinds5 ∧ 1 ≤ m ∧ m ≤ bOf kind ∧ SqT K H a (ns.map V.int) ∧ ns.length ≤ 1000 ∧ ∀ p H', Same H H' → H' p = some (.tup ((rowOf kind m ns).map V.int)) → Q (.ref p) H'
def rowZ (kind : Str) : Nat → List Int
  | 0 => [1]
  | n + 1 => rowOf kind (n + 1) (rowZ kind n)
def rowsZ (kind : Str) (n : Nat) : List (List Int) := (List.range (n + 1)).map (rowZ kind)
def spSteps (K : PySem.W.Frag) : Sp := fun vs H Q _ => ∃ (kind : Str) (m : Nat), vs = [.str kind, .int m] ∧ kind ∈ kinds5 ∧ m ≤ bOf kind ∧ ∀ p zs H', Same H H' → H' p = some (.tup (zs.map V.ref)) → RowsK K H' zs (rowsZ kind m) → Q (.ref p) H'
def spTold (K : PySem.W.Frag) : Sp := fun vs H Q _ => ∃ (kind : Str) (m : Nat), vs = [.str kind, .int m] ∧ kind ∈ kinds5 ∧ m ≤ bOf kind ∧ ∀ p H', Same H H' → SqT K H' p ((rowZ kind m).map V.int) → Q (.ref p) H'
end L2
namespace L2
theorem atI_neg1 {α : Type} {xs : List α} (h : 0 < xs.length) : atI xs (-1) = xs[xs.length - 1]? := by
  unfold atI ixN
  rw [if_neg (by decide), if_pos (by omega)]
  show xs[((-1 : Int) + xs.length).toNat]? = _
  rw [show ((-1 : Int) + xs.length).toNat = xs.length - 1 by omega]
end L2
namespace L2
open PySem PySem.Spec PyProof.Rows
def wideZ (n : Nat) (ns : List Int) : List Int := List.replicate (n + 1) 0 ++ ns ++ List.replicate (n * (n + 1) + 2) 0
end L2
namespace L2
open PySem PySem.Spec PyProof.Rows
end L2
namespace L2
open PySem PySem.Spec PyProof.Rows
end L2


namespace L2
open PySem PySem.Spec PyProof.Rows
structure TopX (mg : Str → Option Value) : Prop where
  n_str : mg "str" = none
  n_repr : mg "repr" = none
  n_divmod : mg "divmod" = none
structure TopXK (K : PySem.W.Frag) : Prop where
  k_str : PySem.W.nsIn K mainGlobals "str" = some none
  k_repr : PySem.W.nsIn K mainGlobals "repr" = some none
  k_divmod : PySem.W.nsIn K mainGlobals "divmod" = some none
theorem TopXK.top {K : PySem.W.Frag} {h : Heap} {mg : Str → Option Value} (T : TopXK K) (X : K.In h) (G : h.Ns mainGlobals mg) : TopX mg :=
  ⟨PySem.W.mg_none_of X G T.k_str, PySem.W.mg_none_of X G T.k_repr, PySem.W.mg_none_of X G T.k_divmod⟩
def Pot2 (H : Hp) (p : Addr) : Prop := ∃ own mixed : Int, H p = some (.lst [.int own, .int mixed]) ∧ 0 ≤ own ∧ 0 ≤ mixed ∧ mixed < 18446744073709551557
def spPot2 (K : PySem.W.Frag) : Sp := fun vs H Q _ => ∃ (a : Addr) (ns : List Int) (k : Int), vs = [.ref a, .int k] ∧ SqL K H a (ns.map V.int) ∧ 0 ≤ k ∧ k ≤ 1000 ∧ ∀ p H', Same H H' → Pot2 H' p → H p = none → Q (.ref p) H'
def spNext2 : Sp := fun vs H Q _ => ∃ (p : Addr) (m : Int), vs = [.ref p, .int m] ∧ 0 < m ∧ m < 1073741824 ∧ Pot2 H p ∧ ∀ d H', 0 ≤ d → d < m → Pot2 H' p → Keep p p H H' → Q (.int d) H'
def spOf2 : Sp := fun vs H Q _ => ∃ (p l : Addr) (xs : List V), vs = [.ref p, .ref l] ∧ H l = some (.lst xs) ∧ l ≠ p ∧ 0 < xs.length ∧ xs.length ≤ 1000 ∧ Pot2 H p ∧ ∀ x ∈ xs, ∀ H', Pot2 H' p → Keep p p H H' → Q x H'
def spNumber2 : Sp := fun vs H Q _ => ∃ (p l : Addr) (ns : List Int), vs = [.ref p, .ref l] ∧ H l = some (.lst (ns.map V.int)) ∧ l ≠ p ∧ 0 < ns.length ∧ ns.length ≤ 1000 ∧ (∀ n ∈ ns, n < 1073741824) ∧ Pot2 H p ∧ ∀ n ∈ ns, ∀ d H', (0 < n → 0 ≤ d ∧ d < n) → (¬ 0 < n → d = -n) → Pot2 H' p → Keep p p H H' → Q (.int d) H'
end L2
namespace L2
open PySem PySem.Spec PyProof.Rows
def AlikeW (H : Hp) : Nat → V → V → Prop
  | 0, x, y => ∃ a : Int, x = .int a ∧ y = .int a
  | n + 1, x, y => (∃ a : Int, x = .int a ∧ y = .int a) ∨ ∃ a b xs ys, x = .ref a ∧ y = .ref b ∧ H a = some (.tup xs) ∧ H b = some (.tup ys) ∧ xs.length < sizeLine ∧ Paired (AlikeW H n) xs ys
def spSameW (n : Nat) : Sp := fun vs H Q _ => ∃ x y, vs = [x, y] ∧ AlikeW H n x y ∧ ∀ H', Same H H' → Q (.bl true) H'
theorem lc_growF {J : It} {Ok : Hp → Prop} {xs : List V} {tt : TT} {te : TE} {ix : List Nat} {σ : L2.St} {H1 : Hp} {Q : VK} (Y : Yields J Ok xs) (small : xs.length < sizeLine) (p : V → Bool) (R : V → V → Hp → Prop) (hR : ∀ x v H H', SameT H H' → R x v H → R x v H') (hok : ∀ H, Same H1 H → Ok H)
    (ht : ∀ x ∈ xs, ∀ H, Same H1 H → ∀ Q' : Bool → Hp → Prop, Q' (p x) H → tt (some x :: ix.map fun i => σ.getD i none) H Q')
    (he : ∀ x ∈ xs, p x = true → ∀ H, Same H1 H → ∀ Q' : VK, (∀ v H', Same H H' → R x v H' → Q' v H') → te (some x :: ix.map fun i => σ.getD i none) H Q')
    (fin : ∀ acc ys H', H1 acc = none → Same H1 H' → H' acc = some (.lst ys) → Paired (fun x v => R x v H') (xs.filter p) ys → Q (.ref acc) H') :
    LcW J H1 (gName 0) tt te 1 ix σ Q := by
  intro acc ha
  refine ⟨fun i m H => m = xs.length - i ∧ i ≤ xs.length ∧ Same H1 H ∧ ∃ ys, H acc = some (.lst ys) ∧ Paired (fun x v => R x v H) ((xs.take i).filter p) ys, ⟨xs.length, by simp, Nat.zero_le _, same_upd ha, [], upd_same, .nil⟩, ?_⟩
  rintro i m H ⟨rfl, hi, sm, ys, hacc, pr⟩
  have o := hok _ sm
  have hlen : ys.length ≤ i := by
    rw [← Paired.length pr]
    exact Nat.le_trans (List.length_filter_le _ _) (by rw [List.length_take]; omega)
  by_cases hlt : i < xs.length
  · refine .inr ⟨Y.go i _ o hlt, fun x H' y => ?_⟩
    obtain ⟨rfl, hx⟩ := Y.yld i _ x H' o hlt y
    have hmem : x ∈ xs := List.mem_of_getElem? hx
    have htk : xs.take (i + 1) = xs.take i ++ [x] := by
      rw [List.take_succ, hx]; rfl
    refine ⟨⟨rfl, fun j v e => ?_⟩, ?_⟩
    · cases j with
      | zero => cases e
      | succ j => exact e
    · refine ht x hmem _ sm _ ?_
      cases hp : p x with
      | false =>
        rw [if_neg Bool.false_ne_true]
        refine ⟨xs.length - (i + 1), by omega, rfl, hlt, sm, ys, hacc, ?_⟩
        rw [htk, List.filter_append]
        simpa [hp] using pr
      | true =>
        rw [if_pos rfl]
        refine he x hmem hp _ sm _ fun v H4 s4 r4 => ?_
        have h4 : H4 acc = some (.lst ys) := s4 _ _ hacc
        refine ⟨ys, h4, by omega, xs.length - (i + 1), by omega, rfl, hlt, same_updR (sm.trans s4) ha, ys ++ [v], upd_same, ?_⟩
        have st : SameT H4 (upd H4 acc (.lst (ys ++ [v]))) := sameT_lst h4
        rw [htk, List.filter_append, show [x].filter p = [x] by simp [hp]]
        exact Paired.snoc (Paired.mapP pr fun x' v' r' => hR _ _ _ _ (s4.t.trans st) r') (hR _ _ _ _ st r4)
  · have e : i = xs.length := by omega
    subst e
    refine .inl ⟨Y.stop _ o, ?_⟩
    rw [List.take_length] at pr
    exact fin acc ys H ha sm hacc pr
end L2
namespace L2
open PySem PySem.Spec PyProof.Rows
def numF (lo : Int) (n : Nat) : List Int := (List.range n).map fun (i : Nat) => lo + (i : Int)
def prsAt (m : Nat) (k : Int) : List (Int × Int) := (numF (k + 1) ((m : Int) - (k + 1)).toNat).map fun j => (k, j)
def prsZ (m i : Nat) : List (Int × Int) := (num0 i).flatMap (prsAt m)
def rowP (kj : Int × Int) : List Int := [kj.1, kj.2]
def onesZ (n : Nat) : List (List Int) := (num0 n).map fun k => [k]
def partsZ (kind : Str) (m : Nat) : List (List Int) := if kind = "crossed" then (prsZ m m).map rowP else if kind = "rises" then onesZ (m - 1) else onesZ m
def RTab (g : Int → List Int) (x v : V) (H : Hp) : Prop := ∃ (k : Int) (z : Addr), x = .int k ∧ v = .ref z ∧ H z = some (.tup ((g k).map V.int))
theorem tab_rows {H : Hp} {g : Int → List Int} : ∀ {ks : List Int} {vs : List V}, Paired (fun x v => RTab g x v H) (ks.map V.int) vs → ∃ zs : List Addr, vs = zs.map V.ref ∧ RowsAt H zs (ks.map g)
  | [], _, .nil => ⟨[], rfl, .nil⟩
  | k :: ks, _, .cons p t => by
    obtain ⟨k', z, e1, rfl, h⟩ := p
    cases e1
    obtain ⟨zs, rfl, R⟩ := tab_rows t
    exact ⟨z :: zs, rfl, .cons h R⟩
def RPrs (xy : V × V) (v : V) (H : Hp) : Prop := ∃ (k j : Int) (z : Addr), xy = (.int k, .int j) ∧ v = .ref z ∧ H z = some (.tup [.int k, .int j])
def ysP (m : Nat) : V → List V := fun x => match x with | .int k => rangeV (k + 1) ((m : Int) - (k + 1)).toNat | _ => []
def spParts : Sp := fun vs H Q _ => ∃ (kind : Str) (m : Nat), vs = [.str kind, .int m] ∧ kind ∈ kinds5 ∧ m ≤ 60 ∧ ∀ p zs H', Same H H' → H' p = some (.tup (zs.map V.ref)) → RowsAt H' zs (partsZ kind m) → Q (.ref p) H'
def spPart (rows : Nat → List (List Int)) : Sp := fun vs H Q _ => ∃ (m : Nat), vs = [.int m] ∧ m ≤ 60 ∧ ∀ p zs H', Same H H' → H' p = some (.tup (zs.map V.ref)) → RowsAt H' zs (rows m) → Q (.ref p) H'
def spLawParts : Sp := fun vs H Q _ => ∃ (kind : Str) (m : Nat), vs = [.str kind, .int m] ∧ kind ∈ kinds5 ∧ m ≤ 60 ∧ ∀ p zs H', Same H H' → H' p = some (.lst (zs.map V.ref)) → RowsAt H' zs (partsZ kind m) → Q (.ref p) H'
end L2
namespace L2
open PySem PySem.Spec PyProof.Rows
theorem Paired.append {α β : Type} {F : α → β → Prop} : ∀ {l1 l2 : List α} {v1 v2 : List β}, Paired F l1 v1 → Paired F l2 v2 → Paired F (l1 ++ l2) (v1 ++ v2)
  | _, _, _, _, .nil, h => h
  | _, _, _, _, .cons r t, h => .cons r (Paired.append t h)
end L2


namespace L2
open PySem PySem.Spec PyProof.Rows
abbrev Sm (x : Int) (n : Nat) : Prop := Builtin.Int.intBits x ≤ n
theorem Sm.of {x : Int} {n : Nat} (h : x.natAbs < 2 ^ n) : Sm x n := intBits_le_iff.mpr h
theorem Sm.lt {x : Int} {n : Nat} (h : Sm x n) : x.natAbs < 2 ^ n := intBits_le_iff.mp h
theorem Sm.mono {x : Int} {m n : Nat} (h : Sm x m) (k : m ≤ n) : Sm x n := Nat.le_trans h k
theorem Sm.mul {x y : Int} {m n : Nat} (h : Sm x m) (k : Sm y n) : Sm (x * y) (m + n) := by
  refine Sm.of ?_
  rw [Int.natAbs_mul, Nat.pow_add]
  have h1 := h.lt
  have h2 := k.lt
  exact Nat.lt_of_le_of_lt (Nat.mul_le_mul_right _ (Nat.le_of_lt h1)) (Nat.mul_lt_mul_of_pos_left h2 (Nat.two_pow_pos _))
theorem Sm.add {x y : Int} {n : Nat} (h : Sm x n) (k : Sm y n) : Sm (x + y) (n + 1) := by
  refine Sm.of ?_
  have h1 := h.lt
  have h2 := k.lt
  rw [Nat.pow_succ]
  generalize (2 : Nat) ^ n = N at *
  omega
theorem Sm.le {x y : Int} {n : Nat} (h : Sm y n) (k : x.natAbs ≤ y.natAbs) : Sm x n := Sm.of (Nat.lt_of_le_of_lt k h.lt)
theorem op_mulC {X : Cx} : OpR X (binaryOp .Mult) (rI (fun i j => Sm i 8000 ∧ Sm j 8000) fun i j => .int (i * j)) := opI fun _ _ _ _ _ _ _ hc q => mul_int q (IntMulOk.of_le hc.1 hc.2 (by decide))
theorem op_fdivC {X : Cx} : OpR X (binaryOp .FloorDiv) (rI (fun _ j => 0 < j ∧ Sm j 8000) fun i j => .int (i / j)) := opI fun i j _ _ _ _ _ hc q => by
  have e : i / j = i.fdiv j := (Int.fdiv_eq_ediv_of_nonneg _ (Int.le_of_lt hc.1)).symm
  rw [e] at q
  have h1 := hc.1
  refine floordiv_int (by omega) q (.inl (PyProof.noPylong_of_log2 ?_))
  have h0 : j.natAbs ≠ 0 := by omega
  rw [Nat.log2_lt h0]
  exact (hc.2.mono (by decide)).lt
def gcdZ (a b : Int) : Int := (Int.gcd a b : Int)
def lowZ (a b : Int) : Int × Int := (a / gcdZ a b, b / gcdZ a b)
theorem gcdZ_pos {a b : Int} (h : 0 < b) : 0 < gcdZ a b := by
  unfold gcdZ
  have := Int.gcd_pos_of_ne_zero_right (a := a) (b := b) (by omega)
  omega
theorem gcdZ_le {a b : Int} (h : 0 < b) : gcdZ a b ≤ b := Int.le_of_dvd h (Int.gcd_dvd_right ..)
theorem gcdZ_step {a b : Int} (h : 0 < b) : gcdZ b (a % b) = gcdZ a b := by
  unfold gcdZ
  have e : a % b = a + b * (-(a / b)) := by
    have := Int.mul_ediv_add_emod a b
    have e2 : b * (-(a / b)) = -(b * (a / b)) := Int.mul_neg ..
    omega
  rw [e, Int.gcd_add_mul_left_right, Int.gcd_comm]
theorem gcdZ_zero {a : Int} (h : 0 ≤ a) : gcdZ a 0 = a := by
  unfold gcdZ
  rw [Int.gcd_zero_right]
  omega
theorem gcdZ_abs (a b : Int) : gcdZ (if a < 0 then -a else a) b = gcdZ a b := by
  unfold gcdZ Int.gcd
  congr 2
  split <;> omega
theorem low1 {a b : Int} : (lowZ a b).1 * gcdZ a b = a := Int.ediv_mul_cancel (Int.gcd_dvd_left ..)
theorem low2 {a b : Int} : (lowZ a b).2 * gcdZ a b = b := Int.ediv_mul_cancel (Int.gcd_dvd_right ..)
theorem low_pos {a b : Int} (h : 0 < b) : 0 < (lowZ a b).2 := by
  have h1 := gcdZ_pos (a := a) h
  have h2 := low2 (a := a) (b := b)
  refine Int.pos_of_mul_pos_left ?_ h1
  rw [h2]; exact h
theorem low_cross {a b : Int} (h : 0 < b) : (lowZ a b).1 * b = a * (lowZ a b).2 := by
  have h1 := low1 (a := a) (b := b)
  have h2 := low2 (a := a) (b := b)
  generalize (lowZ a b).1 = x at *
  generalize (lowZ a b).2 = y at *
  generalize gcdZ a b = g at *
  subst h1 h2
  rw [Int.mul_assoc, Int.mul_comm g y]
theorem low_scale {a b c : Int} (hb : 0 < b) (hc : 0 < c) : lowZ (a * c) (b * c) = lowZ a b := by
  unfold lowZ gcdZ
  rw [Int.gcd_mul_right]
  have e : (((a.gcd b * c.natAbs : Nat)) : Int) = (a.gcd b : Int) * c := by
    rw [Int.natCast_mul]
    congr 1
    omega
  rw [e, Int.mul_ediv_mul_of_pos_left _ _ hc, Int.mul_ediv_mul_of_pos_left _ _ hc]
theorem low_eq {a b c d : Int} (hb : 0 < b) (hd : 0 < d) (h : a * d = c * b) : lowZ a b = lowZ c d := by
  rw [← low_scale hb hd, ← low_scale hd hb, h, Int.mul_comm b d]
theorem low_low {a b : Int} (hb : 0 < b) : lowZ (lowZ a b).1 (lowZ a b).2 = lowZ a b := low_eq (low_pos hb) hb (low_cross hb)
theorem low_abs1 {a b : Int} (h : 0 < b) : (lowZ a b).1.natAbs ≤ a.natAbs := by
  have h1 := low1 (a := a) (b := b)
  have h2 := gcdZ_pos (a := a) h
  generalize (lowZ a b).1 = x at *
  generalize gcdZ a b = g at *
  subst h1
  rw [Int.natAbs_mul]
  exact Nat.le_mul_of_pos_right _ (by omega)
theorem low_abs2 {a b : Int} (h : 0 < b) : (lowZ a b).2.natAbs ≤ b.natAbs := by
  have h1 := low2 (a := a) (b := b)
  have h2 := gcdZ_pos (a := a) h
  generalize (lowZ a b).2 = x at *
  generalize gcdZ a b = g at *
  subst h1
  rw [Int.natAbs_mul]
  exact Nat.le_mul_of_pos_right _ (by omega)
abbrev Shr (H : Hp) (z : Addr) (p : Int × Int) : Prop := H z = some (.tup [.int p.1, .int p.2])
structure ShB (p : Int × Int) (n : Nat) : Prop where
  pos : 0 < p.2
  s1 : Sm p.1 n
  s2 : Sm p.2 n
theorem ShB.mono {p : Int × Int} {m n : Nat} (h : ShB p m) (k : m ≤ n) : ShB p n := ⟨h.pos, h.s1.mono k, h.s2.mono k⟩
theorem ShB.low {a b : Int} {n : Nat} (h : 0 < b) (ha : Sm a n) (hb : Sm b n) : ShB (lowZ a b) n := ⟨low_pos h, ha.le (low_abs1 h), hb.le (low_abs2 h)⟩
def plZ (p q : Int × Int) : Int × Int := lowZ (p.1 * q.2 + q.1 * p.2) (p.2 * q.2)
def leZ (p q : Int × Int) : Int × Int := lowZ (p.1 * q.2 - q.1 * p.2) (p.2 * q.2)
def tmZ (p q : Int × Int) : Int × Int := lowZ (p.1 * q.1) (p.2 * q.2)
def ptZ (p q : Int × Int) : Int × Int := lowZ (p.1 * q.2) (p.2 * q.1)
def ltZ (p q : Int × Int) : Bool := decide (p.1 * q.2 < q.1 * p.2)
def minZ (p q : Int × Int) : Int × Int := if ltZ q p then q else p
def maxZ (p q : Int × Int) : Int × Int := if ltZ p q then q else p
def spGcd : Sp := fun vs H Q _ => ∃ a b : Int, vs = [.int a, .int b] ∧ 0 < b ∧ Q (.int (gcdZ a b)) H
def spLow : Sp := fun vs H Q _ => ∃ a b : Int, vs = [.int a, .int b] ∧ 0 < b ∧ Sm b 8000 ∧ ∀ z H', Same H H' → Shr H' z (lowZ a b) → Q (.ref z) H'
def spSh (g : Int × Int → Int × Int → Int × Int) : Sp := fun vs H Q _ => ∃ (x y : Addr) (p q : Int × Int), vs = [.ref x, .ref y] ∧ Shr H x p ∧ Shr H y q ∧ ShB p 3900 ∧ ShB q 3900 ∧ ∀ z H', Same H H' → Shr H' z (g p q) → Q (.ref z) H'
def spPt : Sp := fun vs H Q _ => ∃ (x y : Addr) (p q : Int × Int), vs = [.ref x, .ref y] ∧ Shr H x p ∧ Shr H y q ∧ ShB p 3900 ∧ ShB q 3900 ∧ 0 < q.1 ∧ ∀ z H', Same H H' → Shr H' z (ptZ p q) → Q (.ref z) H'
def spLt : Sp := fun vs H Q _ => ∃ (x y : Addr) (p q : Int × Int), vs = [.ref x, .ref y] ∧ Shr H x p ∧ Shr H y q ∧ ShB p 3900 ∧ ShB q 3900 ∧ ∀ H', Same H H' → Q (.bl (ltZ p q)) H'
def spMm (g : Int × Int → Int × Int → Int × Int) : Sp := fun vs H Q _ => ∃ (x y : Addr) (p q : Int × Int), vs = [.ref x, .ref y] ∧ Shr H x p ∧ Shr H y q ∧ ShB p 3900 ∧ ShB q 3900 ∧ ∀ z H', Same H H' → Shr H' z (g p q) → Q (.ref z) H'
def fcZ : Nat → Int
  | 0 => 1
  | n + 1 => fcZ n * ((n : Int) + 1)
def spFc (N : Nat) : Sp := fun vs H Q _ => ∃ m : Nat, vs = [.int m] ∧ m ≤ N ∧ Q (.int (fcZ m)) H
end L2
namespace L2
open PySem PySem.Spec PyProof.Rows
def spPr : Sp := fun vs H Q _ => ∃ n : Nat, vs = [.int 1, .int n] ∧ n ≤ 300 ∧ Q (.int (fcZ n)) H
end L2


namespace L2
open PySem PySem.Spec PyProof.Rows
def tPar3 (i j l : Nat) (ta : TA) : TS := fun D σ H => ta σ H fun vs H1 => ∃ v w u, vs = [v, w, u] ∧ D.nx (((σ.set i (some v)).set j (some w)).set l (some u)) H1
theorem ps_par3 {X : Cx} {pos : Pos} {i j l : Nat} {x y z : Str} {a b c : Expr} {ta : TA} {px py pz pt : Pos} {kt k2 pt2} (hc : X.calm = true) (hN : X.N.Nodup) (hi : X.N[i]? = some x) (hj : X.N[j]? = some y) (hl : X.N[l]? = some z) (hij : i ≠ j) (hil : i ≠ l) (hjl : j ≠ l)
    (hx : X.env.scope.names.lookup x = some .local) (hy : X.env.scope.names.lookup y = some .local) (hz : X.env.scope.names.lookup z = some .local) (ha : PA X [a, b, c] ta)
    (hw : swappedStores [.Tuple [.Name x px, .Name y py, .Name z pz] kt pt] (.Tuple [a, b, c] k2 pt2) X.env = pure (some [x, y, z]))
    (hs : swapsWithSole [.Tuple [.Name x px, .Name y py, .Name z pz] kt pt] (.Tuple [a, b, c] k2 pt2) pos.line X.env = pure false := by rfl) :
    PS X (.Assign [.Tuple [.Name x px, .Name y py, .Name z pz] kt pt] (.Tuple [a, b, c] k2 pt2) pos) (tPar3 i j l ta) := by
  intro pins s σ H D I h
  rw [exec_Assign_arm]
  refine wpAny_bind (wpAny_standAt ?_)
  rw [hs]
  refine wpAny_bind (wpAny_pure ?_)
  rw [if_neg (by decide)]
  refine wpAny_bind (Tuple_ (thn (ha _ pins s σ H _ I h) fun us s1 ⟨vs, H1, I1, r1, q1⟩ => ?_))
  obtain ⟨v, w, u, e1, q1⟩ := q1
  subst e1
  obtain ⟨u1, u2, u3, rfl, rv, rw', ru⟩ : ∃ u1 u2 u3, us = [u1, u2, u3] ∧ RelV v u1 ∧ RelV w u2 ∧ RelV u u3 := by
    cases r1 with
    | cons p q =>
      cases q with
      | cons p' q' =>
        cases q' with
        | cons p'' q'' =>
          cases q''
          exact ⟨_, _, _, rfl, p, p', p''⟩
  refine wpAny_newObj_type ?_ (by show 3 ≤ sizeLine; decide)
  have I2 : Inv X pins σ H1 { s1 with heap := s1.heap.push { cls := .type "tuple", data := .seq [u1, u2, u3].toArray } } := I1.kept (t' := s1.toks) fun b o e => Heap.get?_push_of_some _ e
  rw [hw]
  refine wpAny_bind (wpAny_pure ?_)
  show wpAny (model X.prog X.w) X.A (do rule "assign.swapped-stores"; let items ← unpackItems (.ref s1.heap.objs.size) 3 none; assignInOrder [fun v => bindName X.env z v, fun v => bindName X.env y v, fun v => bindName X.env x v] items.reverse; pure Flow.next) _ _ _
  refine wpAny_bind (wpAny_rule (wpAny_bind (unpackItems_tuple (items := #[u1, u2, u3]) (I.ok.hd hc) (IsTup.new s1.heap _) fun h' hx' => ?_)))
  have I3 := I2.kept (h' := h') (t' := s1.toks) fun b o e => hx' b o (Nat.ne_of_lt (Heap.lt_size e)) e
  show wpAny _ _ (assignInOrder [fun v => bindName X.env z v, fun v => bindName X.env y v, fun v => bindName X.env x v] [u3, u2, u1] >>= fun _ => pure Flow.next) _ _ _
  refine wpAny_bind (assignInOrder_cons (wpAny_bindName (store_ok I3 hN hl (.inl hz) ru (fun s2 I4 => ?_) (.inr hz))))
  refine assignInOrder_cons (wpAny_bindName (store_ok I4 hN hj (.inl hy) rw' (fun s3 I5 => ?_) (.inr hy)))
  refine assignInOrder_cons (wpAny_bindName (store_ok I5 hN hi (.inl hx) rv (fun s4 I6 => assignInOrder_nil (wpAny_pure ?_)) (.inr hx)))
  rw [List.set_comm _ _ (Ne.symm hij), List.set_comm _ _ (Ne.symm hil), List.set_comm _ _ (Ne.symm hjl)] at I6
  exact ⟨_, H1, I6, q1⟩
def rBitLen : V → List V → Hp → VK → Prop := fun x vs H Q => ∃ i, x = .int i ∧ vs = [] ∧ Q (.int (Builtin.Int.intBits i)) H
def spNone : Sp := fun _ _ _ _ => False
def hmZ : Nat → Int × Int
  | 0 => (0, 1)
  | n + 1 => plZ (hmZ n) (1, (n : Int) + 1)
def hnZ : Nat → Int
  | 0 => 0
  | n + 1 => hnZ n * ((n : Int) + 1) + fcZ n
def spPartN : Sp := fun vs H Q _ => ∃ (m : Nat), vs = [.int m] ∧ m ≤ 300 ∧ ∀ p zs H', Same H H' → H' p = some (.tup (zs.map V.ref)) → RowsAt H' zs (onesZ m) → Q (.ref p) H'
def spPartsH : Sp := fun vs H Q _ => ∃ (m : Nat), vs = [.str "highs", .int m] ∧ m ≤ 300 ∧ ∀ p zs H', Same H H' → H' p = some (.tup (zs.map V.ref)) → RowsAt H' zs (onesZ m) → Q (.ref p) H'
def spHiS : Sp := fun vs H Q _ => ∃ (m : Int) (a : Addr) (k : Int), vs = [.int m, .ref a] ∧ H a = some (.tup [.int k]) ∧ ∀ z H', Same H H' → Shr H' z (1, k + 1) → Q (.ref z) H'
def spOneH : Sp := fun vs H Q _ => ∃ (m : Int) (a : Addr) (k : Int), vs = [.str "highs", .int m, .ref a] ∧ H a = some (.tup [.int k]) ∧ ∀ z H', Same H H' → Shr H' z (1, k + 1) → Q (.ref z) H'
def spHm : Sp := fun vs H Q _ => ∃ m : Nat, vs = [.int m] ∧ m ≤ 300 ∧ ∀ z H', Same H H' → Shr H' z (hmZ m) → Q (.ref z) H'
def figZ (x : Int) : Int := (Builtin.Int.intBits x : Int)
end L2


namespace L2
open PySem PySem.Spec PyProof.Rows
def capZ (a b : Int) : Int × Int := if b < a then (1, 1) else lowZ a b
def sZ (N : Int) : Nat → Int
  | 0 => 1
  | i + 1 => sZ N i * (N - (i : Int)) / ((i : Int) + 1)
def mxZ (N : Int) : Int := if N - 1 > 0 then N - 1 else 0
def mnZ (kind : Str) (N : Int) : Int × Int := if kind = "rises" then lowZ (mxZ N) 2 else lowZ (N * (N - 1)) 4
def sdZ (kind : Str) (N : Int) : Int × Int := if kind = "rises" then lowZ ((if decide (1 < N) = true then 1 else 0) * (N + 1)) 12 else lowZ (N * (N - 1) * (2 * N + 5)) 72
def farZ (kind : Str) (N k : Int) : Int := k * (mnZ kind N).2 - (mnZ kind N).1
def ovZ (kind : Str) (N : Int) : Int := (sdZ kind N).1 * (mnZ kind N).2 * (mnZ kind N).2
def unZ (kind : Str) (N k : Int) : Int := (sdZ kind N).2 * farZ kind N k * farZ kind N k
def sbZ (kind : Str) (N k : Int) : Int × Int := if farZ kind N k ≤ 0 then (1, 1) else lowZ (ovZ kind N) (unZ kind N k)
def bSt (N : Int) (k : Nat) : Int × Int := if (k : Int) ≤ N then (1, fcZ k) else (0, 1)
def bLg (N : Int) (k : Nat) : Int × Int := lowZ (sZ N k) (fcZ k)
def bGr (N : Int) (k : Nat) : Int × Int := lowZ (figZ N ^ k) (fcZ k)
def mostZ (kind : Str) (N : Int) (k : Nat) : Int × Int := if k = 0 then (1, 1) else if kind = "stays" then bSt N k else if kind = "longest" then capZ (sZ N k) (fcZ k) else if kind = "rounds" ∨ kind = "highs" then capZ (figZ N ^ k) (fcZ k) else if farZ kind N k ≤ 0 then (1, 1) else capZ (ovZ kind N) (unZ kind N k)
def spLt8 : Sp := fun vs H Q _ => ∃ (x y : Addr) (p q : Int × Int), vs = [.ref x, .ref y] ∧ Shr H x p ∧ Shr H y q ∧ ShB p 8000 ∧ ShB q 8000 ∧ ∀ H', Same H H' → Q (.bl (ltZ p q)) H'
def spMm8 (g : Int × Int → Int × Int → Int × Int) : Sp := fun vs H Q _ => ∃ (x y : Addr) (p q : Int × Int), vs = [.ref x, .ref y] ∧ Shr H x p ∧ Shr H y q ∧ ShB p 8000 ∧ ShB q 8000 ∧ ∀ z H', Same H H' → Shr H' z (g p q) → Q (.ref z) H'
def spN1 (g : Int → Int × Int) : Sp := fun vs H Q _ => ∃ N : Int, vs = [.int N] ∧ 0 ≤ N ∧ N ≤ 10 ^ 30 ∧ ∀ z H', Same H H' → Shr H' z (g N) → Q (.ref z) H'
def spKN (g : Str → Int → Int × Int) : Sp := fun vs H Q _ => ∃ (kind : Str) (N : Int), vs = [.str kind, .int N] ∧ (kind = "rises" ∨ kind = "crossed") ∧ 0 ≤ N ∧ N ≤ 10 ^ 30 ∧ ∀ z H', Same H H' → Shr H' z (g kind N) → Q (.ref z) H'
def spNK (g : Int → Nat → Int × Int) : Sp := fun vs H Q _ => ∃ (N : Int) (k : Nat), vs = [.int N, .int k] ∧ 0 ≤ N ∧ N ≤ 10 ^ 30 ∧ k ≤ 60 ∧ ∀ z H', Same H H' → Shr H' z (g N k) → Q (.ref z) H'
def spKNK : Sp := fun vs H Q _ => ∃ (kind : Str) (N : Int) (k : Nat), vs = [.str kind, .int N, .int k] ∧ (kind = "rises" ∨ kind = "crossed") ∧ 0 ≤ N ∧ N ≤ 10 ^ 30 ∧ k ≤ 60 ∧ ∀ z H', Same H H' → Shr H' z (sbZ kind N k) → Q (.ref z) H'
def kinds6S : List Str := ["rounds", "stays", "rises", "highs", "crossed", "longest"]
def spMost : Sp := fun vs H Q _ => ∃ (kind : Str) (N : Int) (k : Nat), vs = [.str kind, .int N, .int k] ∧ kind ∈ kinds6S ∧ 0 ≤ N ∧ N ≤ 10 ^ 30 ∧ k ≤ 60 ∧ ∀ z H', Same H H' → Shr H' z (mostZ kind N k) → Q (.ref z) H'
def spSets : Sp := fun vs H Q _ => ∃ (N : Int) (k : Nat), vs = [.int N, .int k] ∧ 0 ≤ N ∧ N ≤ 10 ^ 30 ∧ k ≤ 60 ∧ Q (.int (sZ N k)) H
def spPow : Sp := fun vs H Q _ => ∃ (b : Int) (k : Nat), vs = [.int b, .int k] ∧ 0 ≤ b ∧ b ≤ 1000 ∧ k ≤ 60 ∧ Q (.int (b ^ k)) H
def spFig : Sp := fun vs H Q _ => ∃ (N : Int), vs = [.int N] ∧ 0 ≤ N ∧ N ≤ 10 ^ 30 ∧ ∀ H', Same H H' → Q (.int (figZ N)) H'
def spMid : Sp := fun vs H Q _ => ∃ (kind : Str) (N : Int), vs = [.str kind, .int N] ∧ (kind = "rises" ∨ kind = "crossed") ∧ 0 ≤ N ∧ N ≤ 10 ^ 30 ∧ ∀ z x y H', Same H H' → H' z = some (.tup [.ref x, .ref y]) → Shr H' x (mnZ kind N) → Shr H' y (sdZ kind N) → Q (.ref z) H'
def spGreat2 : Sp := fun vs H Q _ => ∃ p : Addr, vs = [.ref p] ∧ Pot2 H p ∧ ∀ x H', 0 ≤ x → x ≤ 10 ^ 30 → Pot2 H' p → Keep p p H H' → Q (.int x) H'
end L2


namespace L2
open PySem PySem.Spec PyProof.Rows
abbrev Sh := Int × Int
def byZ (N i : Int) (f : Sh) : Sh := plZ (lowZ (i + 1) N) f
def frZ (i : Int) (w s : Sh) : Sh := tmZ (plZ (tmZ (i, 1) w) s) (1, i + 1)
def bsZ (N i : Int) (w f : Sh) : Sh := frZ i w (maxZ w (byZ N i f))
def rwZ (N : Nat) (fs : List Sh) : Nat → List Sh
  | 0 => [(0, 1)]
  | j + 1 => bsZ N ((N - 1 - j : Nat) : Int) ((rwZ N fs j).headD (0, 1)) (fs.getD (N - j) (0, 1)) :: rwZ N fs j
def tbZ (N : Nat) : Nat → List Sh
  | 0 => List.replicate (N + 1) (0, 1)
  | h + 1 => rwZ N (tbZ N h) N
theorem rwZ_len (N : Nat) (fs : List Sh) : ∀ j, (rwZ N fs j).length = j + 1
  | 0 => rfl
  | j + 1 => by rw [rwZ, List.length_cons, rwZ_len N fs j]
theorem tbZ_len (N : Nat) : ∀ h, (tbZ N h).length = N + 1
  | 0 => by rw [tbZ, List.length_replicate]
  | h + 1 => by rw [tbZ, rwZ_len]
theorem tb_bd : ∀ N < 42, ∀ h < 6, ∀ p ∈ tbZ N h, p.1.natAbs < 2 ^ 400 ∧ p.2.natAbs < 2 ^ 400 := by decide +kernel
end L2


namespace L2
open PySem PySem.Spec PyProof.Rows
def Vs (p : Sh) (a b : Int) : Prop := 0 < p.2 ∧ 0 < b ∧ p.1 * b = a * p.2
theorem Vs.self {p : Sh} (h : 0 < p.2) : Vs p p.1 p.2 := ⟨h, h, rfl⟩
theorem Vs.low {a b : Int} (h : 0 < b) : Vs (lowZ a b) a b := ⟨low_pos h, h, low_cross h⟩
theorem tm_v {p q : Sh} {a b c d : Int} (h : Vs p a b) (k : Vs q c d) : tmZ p q = lowZ (a * c) (b * d) := by
  obtain ⟨h1, h2, h3⟩ := h
  obtain ⟨k1, k2, k3⟩ := k
  unfold tmZ
  refine low_eq (Int.mul_pos h1 k1) (Int.mul_pos h2 k2) ?_
  grind
theorem pl_v {p q : Sh} {a b c d : Int} (h : Vs p a b) (k : Vs q c d) : plZ p q = lowZ (a * d + c * b) (b * d) := by
  obtain ⟨h1, h2, h3⟩ := h
  obtain ⟨k1, k2, k3⟩ := k
  unfold plZ
  refine low_eq (Int.mul_pos h1 k1) (Int.mul_pos h2 k2) ?_
  grind
theorem by_low {N i : Int} {f : Sh} (hN : 0 < N) (hf : 0 < f.2) : byZ N i f = lowZ ((i + 1) * f.2 + f.1 * N) (N * f.2) := pl_v (Vs.low hN) (Vs.self hf)
theorem fr_v {i : Int} {w s : Sh} {a b : Int} (hi : 0 ≤ i) (hw : 0 < w.2) (hs : Vs s a b) : frZ i w s = lowZ (i * w.1 * b + a * w.2) (w.2 * b * (i + 1)) := by
  have h1 : tmZ (i, 1) w = lowZ (i * w.1) (1 * w.2) := rfl
  have h2 : plZ (tmZ (i, 1) w) s = lowZ (i * w.1 * b + a * (1 * w.2)) (1 * w.2 * b) := by
    rw [h1]
    exact pl_v (Vs.low (by omega)) hs
  have h3 := Int.mul_pos hw hs.2.1
  have h4 : Vs ((1, i + 1) : Sh) 1 (i + 1) := ⟨by show 0 < i + 1; omega, by omega, rfl⟩
  unfold frZ
  rw [h2, Int.one_mul, tm_v (Vs.low h3) h4, Int.mul_one]
theorem plZ_sh {p q : Sh} {m n : Nat} (h : ShB p m) (k : ShB q n) : ShB (plZ p q) (m + n + 1) :=
  ShB.low (Int.mul_pos h.pos k.pos) (Sm.add (h.s1.mul k.s2) (by have := k.s1.mul h.s2; rw [Nat.add_comm] at this; exact this)) ((h.s2.mul k.s2).mono (by omega))
theorem tmZ_sh {p q : Sh} {m n : Nat} (h : ShB p m) (k : ShB q n) : ShB (tmZ p q) (m + n) := ShB.low (Int.mul_pos h.pos k.pos) (h.s1.mul k.s1) (h.s2.mul k.s2)
theorem maxZ_sh {p q : Sh} {m : Nat} (h : ShB p m) (k : ShB q m) : ShB (maxZ p q) m := by
  unfold maxZ
  split
  · exact k
  · exact h
theorem sm_small {i : Int} (h0 : 0 ≤ i) (h1 : i ≤ 100) : Sm i 8 := Sm.of (by
  have : (2 : Nat) ^ 8 = 256 := by decide
  omega)
theorem sh_i {i : Int} (h0 : 0 ≤ i) (h1 : i ≤ 100) : ShB (i, 1) 8 := ⟨by show (0 : Int) < 1; decide, sm_small h0 h1, sm_small (i := 1) (by decide) (by decide)⟩
theorem sh_u {i : Int} (h0 : 0 ≤ i) (h1 : i < 100) : ShB (1, i + 1) 8 := ⟨by show 0 < i + 1; omega, sm_small (i := 1) (by decide) (by decide), sm_small (i := i + 1) (by omega) (by omega)⟩
theorem byZ_sh {N i : Int} {f : Sh} {n : Nat} (hN : 0 < N) (hN2 : N ≤ 100) (hi : 0 ≤ i) (hi2 : i < 100) (h : ShB f n) : ShB (byZ N i f) (n + 9) :=
  (plZ_sh (ShB.low hN (sm_small (i := i + 1) (by omega) (by omega)) (sm_small (by omega) hN2)) h).mono (by omega)
theorem frZ_sh {i : Int} {w s : Sh} {m n : Nat} (hi : 0 ≤ i) (hi2 : i < 100) (h : ShB w m) (k : ShB s n) : ShB (frZ i w s) (m + n + 17) :=
  (tmZ_sh (plZ_sh (tmZ_sh (sh_i hi (by omega)) h) k) (sh_u hi hi2)).mono (by omega)
theorem bsZ_sh {N i : Int} {w f : Sh} {n : Nat} (hN : 0 < N) (hN2 : N ≤ 100) (hi : 0 ≤ i) (hi2 : i < 100) (h : ShB w n) (k : ShB f n) : ShB (bsZ N i w f) (2 * n + 26) :=
  (frZ_sh hi hi2 h (maxZ_sh (h.mono (by omega)) (byZ_sh hN hN2 hi hi2 k))).mono (by omega)
def Lo (p : Sh) : Prop := ∃ a b, 0 < b ∧ p = lowZ a b
theorem Lo.pos {p : Sh} (h : Lo p) : 0 < p.2 := by
  obtain ⟨a, b, hb, rfl⟩ := h
  exact low_pos hb
theorem Lo.self {p : Sh} (h : Lo p) : lowZ p.1 p.2 = p := by
  obtain ⟨a, b, hb, rfl⟩ := h
  exact low_low hb
theorem lo_zero : Lo (0, 1) := ⟨0, 1, by decide, by decide⟩
theorem lo_low {a b : Int} (h : 0 < b) : Lo (lowZ a b) := ⟨a, b, h, rfl⟩
theorem lo_fr {i : Int} {w s : Sh} (hi : 0 ≤ i) (hw : 0 < w.2) (hs : 0 < s.2) : Lo (frZ i w s) := by
  rw [fr_v hi hw (Vs.self hs)]
  exact lo_low (Int.mul_pos (Int.mul_pos hw hs) (by omega))
theorem pos_by {N i : Int} {f : Sh} (hN : 0 < N) (hf : 0 < f.2) : 0 < (byZ N i f).2 := by
  rw [by_low hN hf]
  exact low_pos (Int.mul_pos hN hf)
theorem pos_max {w q : Sh} (hw : 0 < w.2) (hq : 0 < q.2) : 0 < (maxZ w q).2 := by
  unfold maxZ
  split
  · exact hq
  · exact hw
theorem lo_bs {N i : Int} {w f : Sh} (hN : 0 < N) (hi : 0 ≤ i) (hw : 0 < w.2) (hf : 0 < f.2) : Lo (bsZ N i w f) := lo_fr hi hw (pos_max hw (pos_by hN hf))
theorem getD_all {α : Type} {P : α → Prop} {l : List α} {d : α} (h : ∀ x ∈ l, P x) (hd : P d) (k : Nat) : P (l.getD k d) := by
  rw [List.getD_eq_getElem?_getD]
  cases e : l[k]? with
  | none => exact hd
  | some x => exact h x (List.mem_of_getElem? e)
theorem headD_all {α : Type} {P : α → Prop} {l : List α} {d : α} (h : ∀ x ∈ l, P x) (hd : P d) : P (l.headD d) := by
  cases l with
  | nil => exact hd
  | cons x r => exact h x List.mem_cons_self
theorem lo_rw {N : Nat} (hN : 0 < N) {fs : List Sh} (hf : ∀ p ∈ fs, Lo p) : ∀ j, ∀ p ∈ rwZ N fs j, Lo p
  | 0, p, h => by
    rw [rwZ, List.mem_singleton] at h
    rw [h]
    exact lo_zero
  | j + 1, p, h => by
    rw [rwZ] at h
    rcases List.mem_cons.mp h with rfl | h
    · exact lo_bs (by omega) (by omega) (headD_all (lo_rw hN hf j) lo_zero).pos (getD_all hf lo_zero _).pos
    · exact lo_rw hN hf j p h
theorem lo_tb {N : Nat} (hN : 0 < N) : ∀ h, ∀ p ∈ tbZ N h, Lo p
  | 0, p, h => by
    rw [tbZ] at h
    rw [(List.mem_replicate.mp h).2]
    exact lo_zero
  | h + 1, p, hp => lo_rw hN (lo_tb hN h) N p hp
theorem tb_sh {N h : Nat} (h0 : 0 < N) (hN : N < 42) (hh : h < 6) {p : Sh} (hp : p ∈ tbZ N h) : ShB p 400 := by
  have := tb_bd N hN h hh p hp
  exact ⟨(lo_tb h0 h p hp).pos, Sm.of this.1, Sm.of this.2⟩
theorem rw_sub {N : Nat} {fs : List Sh} {j : Nat} : ∀ {n : Nat}, j ≤ n → ∀ p ∈ rwZ N fs j, p ∈ rwZ N fs n
  | 0, h, p, hp => by
    have : j = 0 := by omega
    rw [← this]; exact hp
  | n + 1, h, p, hp => by
    by_cases e : j = n + 1
    · rw [← e]; exact hp
    · rw [rwZ]
      exact List.mem_cons_of_mem _ (rw_sub (by omega) p hp)
theorem rw_at {N : Nat} {fs : List Sh} : ∀ {j k : Nat}, k < j → (rwZ N fs j).getD k (0, 1) = bsZ N ((N - 1 - (j - 1 - k) : Nat) : Int) ((rwZ N fs j).getD (k + 1) (0, 1)) (fs.getD (N - (j - 1 - k)) (0, 1))
  | j + 1, 0, _ => by
    rw [rwZ, List.getD_cons_zero, List.getD_cons_succ]
    simp only [Nat.add_sub_cancel, Nat.sub_zero]
    congr 1
    cases h : rwZ N fs j with
    | nil => rfl
    | cons x r => rfl
  | j + 1, k + 1, h => by
    rw [rwZ, List.getD_cons_succ, List.getD_cons_succ, rw_at (by omega)]
    rw [show j + 1 - 1 - (k + 1) = j - 1 - k by omega]
theorem tb_at {N h i : Nat} (hi : i < N) : (tbZ N (h + 1)).getD i (0, 1) = bsZ N (i : Int) ((tbZ N (h + 1)).getD (i + 1) (0, 1)) ((tbZ N h).getD (i + 1) (0, 1)) := by
  rw [tbZ, rw_at hi]
  rw [show N - 1 - (N - 1 - i) = i by omega, show N - (N - 1 - i) = i + 1 by omega]
theorem rw_last {N : Nat} {fs : List Sh} : ∀ {j : Nat}, (rwZ N fs j).getD j (0, 1) = (0, 1)
  | 0 => rfl
  | j + 1 => by rw [rwZ, List.getD_cons_succ, rw_last]
theorem tb_last {N : Nat} : ∀ {h : Nat}, (tbZ N h).getD N (0, 1) = (0, 1)
  | 0 => by
    rw [tbZ, List.getD_eq_getElem?_getD, List.getElem?_replicate]
    split <;> rfl
  | h + 1 => by rw [tbZ, rw_last]
end L2


namespace L2
open PySem PySem.Spec PyProof.Rows
def Shows (d : PyData) : Prop := d.showable = true ∧ d.depth ≤ 60 ∧ d.shown.length ≤ sizeLine
def rReprK (K : PySem.W.Frag) : List V → Hp → VK → Prop := fun xs H Q => ∃ x d, xs = [x] ∧ IsK K H x d ∧ Shows d ∧ Q (.str d.shown) H
def Shw (n : Int) : Prop := n.natAbs.log2 < 1920
end L2
namespace L2
open PySem PySem.Spec PyProof.Rows
def Pot3 (H : Hp) (p : Addr) (n : Nat) : Prop := ∃ own seed turn : Int, H p = some (.lst [.int own, .int seed, .int turn]) ∧ 0 ≤ own ∧ 0 ≤ seed ∧ seed < 2305843009222000000 ∧ 0 ≤ turn ∧ turn ≤ n
def spBegin (K : PySem.W.Frag) : Sp := fun vs H Q _ => ∃ (a : Addr) (ns : List Int) (k : Int), vs = [.ref a, .int k] ∧ SqL K H a (ns.map V.int) ∧ 0 ≤ k ∧ k ≤ 1000 ∧ ∀ p H', Same H H' → Pot3 H' p 0 → H p = none → Q (.ref p) H'
def spDraw : Sp := fun vs H Q _ => ∃ (p : Addr) (m : Int) (n : Nat), vs = [.ref p, .int m] ∧ 0 < m ∧ m < 10000000000000000000000000000000000000000 ∧ Pot3 H p n ∧ n < 1000000 ∧ ∀ d H', 0 ≤ d → d < m → Pot3 H' p (n + 1) → Keep p p H H' → Q (.int d) H'
end L2


namespace L2
open PySem PySem.Spec PyProof.Rows

section
variable {κ : Type} [DecidableEq κ]
def valV (kvs : List (κ × V)) (k : κ) : Option V := (kvs.find? fun kv => decide (kv.1 = k)).map (·.2)
def putK (kvs : List (κ × V)) (k : κ) (v : V) : List (κ × V) :=
  if (kvs.any fun kv => decide (kv.1 = k)) = true then kvs.map (fun kv => if kv.1 = k then (kv.1, v) else kv) else kvs ++ [(k, v)]
def dropK (kvs : List (κ × V)) (k : κ) : List (κ × V) := kvs.filter fun kv => decide (kv.1 ≠ k)

theorem valV_pos {p : κ × V} {r : List (κ × V)} {k : κ} (e : p.1 = k) : valV (p :: r) k = some p.2 := by simp [valV, List.find?_cons, e]
theorem valV_neg {p : κ × V} {r : List (κ × V)} {k : κ} (e : ¬ p.1 = k) : valV (p :: r) k = valV r k := by simp [valV, List.find?_cons, e]
theorem valV_any (k : κ) : ∀ kvs : List (κ × V), (kvs.any fun kv => decide (kv.1 = k)) = (valV kvs k).isSome
  | [] => rfl
  | p :: r => by
    rw [List.any_cons]
    by_cases e : p.1 = k
    · simp only [valV_pos e, decide_eq_true e, Bool.true_or, Option.isSome_some]
    · rw [valV_neg e, decide_eq_false e, Bool.false_or]; exact valV_any k r
theorem length_putK (kvs : List (κ × V)) (k : κ) (v : V) : (putK kvs k v).length ≤ kvs.length + 1 := by
  unfold putK
  split
  · rw [List.length_map]; omega
  · rw [List.length_append, List.length_cons, List.length_nil]; omega
theorem RelO.isSome_eq {o : Option V} {u : Option Value} (r : RelO o u) : o.isSome = u.isSome := by
  cases o with
  | none => cases u with
    | none => rfl
    | some _ => exact (show False from r).elim
  | some _ => cases u with
    | none => exact (show False from r).elim
    | some _ => rfl
theorem KV.val {kvs : List (κ × V)} {vs : List (κ × Value)} (r : KV kvs vs) (k : κ) : RelO (valV kvs k) (valueAt vs k) := by
  unfold KV at r
  induction r with
  | nil => exact True.intro
  | @cons p q ps qs h t ih =>
    obtain ⟨h1, h2⟩ := h
    by_cases e : p.1 = k
    · have e' : q.1 = k := h1.symm.trans e
      have b : valueAt (q :: qs) k = some q.2 := by simp [valueAt, List.find?_cons, e']
      rw [valV_pos e, b]; exact h2
    · have e' : ¬ q.1 = k := fun z => e (h1.trans z)
      have b : valueAt (q :: qs) k = valueAt qs k := by simp [valueAt, List.find?_cons, e']
      rw [valV_neg e, b]; exact ih
theorem KV.any {kvs : List (κ × V)} {vs : List (κ × Value)} (r : KV kvs vs) (k : κ) : (kvs.any fun kv => decide (kv.1 = k)) = vs.any fun kv => decide (kv.1 = k) := by
  unfold KV at r
  induction r with
  | nil => rfl
  | cons h t ih => rw [List.any_cons, List.any_cons, ih, h.1]
theorem KV.repl {kvs : List (κ × V)} {vs : List (κ × Value)} (r : KV kvs vs) (k : κ) {y : V} {u : Value} (ry : RelV y u) :
    KV (kvs.map fun kv => if kv.1 = k then (kv.1, y) else kv) (vs.map fun kv => if kv.1 = k then (kv.1, u) else kv) := by
  unfold KV at r ⊢
  induction r with
  | nil => exact .nil
  | @cons p q ps qs h t ih =>
    rw [List.map_cons, List.map_cons]
    refine .cons ?_ ih
    obtain ⟨h1, h2⟩ := h
    by_cases e : p.1 = k
    · rw [if_pos e, if_pos (h1.symm.trans e)]; exact ⟨h1, ry⟩
    · rw [if_neg e, if_neg (fun z => e (h1.trans z))]; exact ⟨h1, h2⟩
theorem KV.put {kvs : List (κ × V)} {vs : List (κ × Value)} (r : KV kvs vs) (k : κ) {y : V} {u : Value} (ry : RelV y u) : KV (putK kvs k y) (stored vs k u) := by
  unfold putK stored
  rw [r.any k]
  by_cases e : (vs.any fun kv => decide (kv.1 = k)) = true
  · rw [if_pos e, if_pos e]; exact r.repl k ry
  · rw [if_neg e, if_neg e]; exact Paired.snoc r ⟨rfl, ry⟩
theorem KV.length {kvs : List (κ × V)} {vs : List (κ × Value)} (r : KV kvs vs) : kvs.length = vs.length := Paired.length r
end


theorem kV_is {P : Program} {w : World} {k : Key} {u : Value} (r : RelV (kV k) u) : (mixKind P w).is k u = true := by
  cases k with
  | inl i => obtain ⟨t, e⟩ := (show ∃ t, u = Value.int i t from r); subst e; exact mixKind_int P w i t
  | inr x => obtain ⟨t, e⟩ := (show ∃ t, u = Value.str x t from r); subst e; exact mixKind_str P w x t
theorem items_are {P : Program} {w : World} : ∀ {ks : List Key} {us : List Value}, Vals (ks.map kV) us → ItemsAre (mixKind P w) ks us
  | [], _, r => by rw [List.map_nil] at r; cases r; exact .nil
  | k :: ks, _, r => by
    rw [List.map_cons] at r
    cases r with
    | cons h t => exact .cons (kV_is h) (items_are t)

abbrev KT (H : Hp) : List (List Key × V) → List (List Key × Addr × Value) → Prop := Paired fun p q => p.1 = q.1 ∧ H q.2.1 = some (.tup (p.1.map kV)) ∧ RelV p.2 q.2.2
theorem KT.val {H : Hp} {kvs : List (List Key × V)} {xs : List (List Key × Addr × Value)} (r : KT H kvs xs) (k : List Key) : RelO (valV kvs k) ((atKey xs k).map (·.2)) := by
  induction r with
  | nil => exact True.intro
  | @cons p q ps qs h t ih =>
    obtain ⟨h1, _, h2⟩ := h
    by_cases e : p.1 = k
    · have e' : q.1 = k := h1.symm.trans e
      have b : atKey (q :: qs) k = some q.2 := by simp [atKey, List.find?_cons, e']
      rw [valV_pos e, b]; exact h2
    · have e' : ¬ q.1 = k := fun z => e (h1.trans z)
      have b : atKey (q :: qs) k = atKey qs k := by simp [atKey, List.find?_cons, e']
      rw [valV_neg e, b]; exact ih
theorem KT.repl {H : Hp} {kvs : List (List Key × V)} {xs : List (List Key × Addr × Value)} (r : KT H kvs xs) (k : List Key) {y : V} {u : Value} (ry : RelV y u) :
    KT H (kvs.map fun kv => if kv.1 = k then (kv.1, y) else kv) (xs.map (putAt k u)) := by
  induction r with
  | nil => exact .nil
  | @cons p q ps qs h t ih =>
    rw [List.map_cons, List.map_cons]
    refine .cons ?_ ih
    obtain ⟨h1, h2, h3⟩ := h
    unfold putAt
    by_cases e : p.1 = k
    · rw [if_pos e, if_pos (h1.symm.trans e)]; exact ⟨h1, h2, ry⟩
    · rw [if_neg e, if_neg (fun z => e (h1.trans z))]; exact ⟨h1, h2, h3⟩
theorem KT.put {H : Hp} {kvs : List (List Key × V)} {xs : List (List Key × Addr × Value)} (r : KT H kvs xs) (k : List Key) {b : Addr} {y : V} {u : Value} (hb : H b = some (.tup (k.map kV))) (ry : RelV y u) :
    KT H (putK kvs k y) (storedH xs k b u) := by
  have e : (kvs.any fun kv => decide (kv.1 = k)) = (atKey xs k).isSome := by
    rw [valV_any, (r.val k).isSome_eq, Option.isSome_map]
  unfold putK storedH
  rw [e]
  by_cases q : (atKey xs k).isSome = true
  · rw [if_pos q, if_pos q]; exact r.repl k ry
  · rw [if_neg q, if_neg q]; exact Paired.snoc r ⟨rfl, hb, ry⟩
theorem KT.keeps {H H' : Hp} {kvs : List (List Key × V)} {xs : List (List Key × Addr × Value)} (r : KT H kvs xs) (ht : ∀ b ys, H b = some (.tup ys) → H' b = some (.tup ys)) : KT H' kvs xs :=
  Paired.mapP r fun _ _ z => ⟨z.1, ht _ _ z.2.1, z.2.2⟩

section
variable {P : Program} {w : World} {H : Hp} {h : Heap} {a : Addr}
theorem rd_of {u : HO} (ok : HOk P w H h) (e : Rd H a u) : ObjOk P w H h a u := e.ok ok
theorem dk_rd {kvs : List (Key × V)} (ok : HOk P w H h) (e : Rd H a (.dK kvs)) : kvs.length ≤ sizeLine ∧ (a == sysModules) = false ∧ ∃ vs, KV kvs vs ∧ h.DictOf (mixKind P w) a vs :=
  show ObjOk P w H h a (.dK kvs) from rd_of ok e
theorem dk_of {kvs : List (Key × V)} (ok : HOk P w H h) (e : H a = some (.dK kvs)) : kvs.length ≤ sizeLine ∧ (a == sysModules) = false ∧ ∃ vs, KV kvs vs ∧ h.DictOf (mixKind P w) a vs := dk_rd ok (.inl e)
theorem key_of {ks : List Key} (ok : HOk P w H h) (e : H a = some (.tup (ks.map kV))) : (tupleKind (mixKind P w)).is h ks a := by
  obtain ⟨_, its, r, o, h1, h2, ⟨n, h3⟩, _⟩ := (show ObjOk P w H h a (.tup (ks.map kV)) from ok a _ e)
  exact ⟨o, its.toArray, n, h1, h2, h3, by simpa using items_are r⟩
theorem dt_rd {kvs : List (List Key × V)} (ok : HOk P w H h) (e : Rd H a (.dT kvs)) : kvs.length ≤ sizeLine ∧ (a == sysModules) = false ∧
    ∃ xs, KT H kvs xs ∧ h.DictOfH (tupleKind (mixKind P w)) a xs := by
  obtain ⟨z, y, xs, r, o, es, ep, h1, h2, h3, h4, h5⟩ := (show ObjOk P w H h a (.dT kvs) from rd_of ok e)
  refine ⟨z, y, xs, r, o, es, ep, h1, h2, h3, h4, fun x hx => ?_, h5⟩
  have all : ∀ {l : List (List Key × V)} {m : List (List Key × Addr × Value)}, KT H l m → ∀ x ∈ m, (tupleKind (mixKind P w)).is h x.1 x.2.1 := by
    intro l m q
    induction q with
    | nil => intro x hx; exact nomatch hx
    | @cons p q ps qs hq t ih =>
      intro x hx
      rcases List.mem_cons.mp hx with e | hx
      · subst e
        exact key_of ok (by rw [← hq.1]; exact hq.2.1)
      · exact ih x hx
  exact all r x hx
theorem dt_of {kvs : List (List Key × V)} (ok : HOk P w H h) (e : H a = some (.dT kvs)) : kvs.length ≤ sizeLine ∧ (a == sysModules) = false ∧
    ∃ xs, KT H kvs xs ∧ h.DictOfH (tupleKind (mixKind P w)) a xs := dt_rd ok (.inl e)
end

def DGet (H : Hp) (a : Addr) (y : V) (r : Option V) : Prop :=
  (∃ kvs k, Rd H a (.dK kvs) ∧ y = kV k ∧ r = valV kvs k) ∨ ∃ kvs k b, Rd H a (.dT kvs) ∧ y = .ref b ∧ H b = some (.tup (k.map kV)) ∧ r = valV kvs k
def DPut (H : Hp) (a : Addr) (y v : V) (H' : Hp) : Prop :=
  (∃ kvs k, H a = some (.dK kvs) ∧ y = kV k ∧ kvs.length < sizeLine ∧ H' = upd H a (.dK (putK kvs k v))) ∨
  ∃ kvs k b, H a = some (.dT kvs) ∧ y = .ref b ∧ H b = some (.tup (k.map kV)) ∧ kvs.length < sizeLine ∧ H' = upd H a (.dT (putK kvs k v))
section
variable {X : Cx} {pins : List (Addr × Obj)} {σ : St} {H : Hp} {s : Shared} {a : Addr} {y v : V} {u r : Value} {o : Option V} {A : Around} {E : Value → Shared → Prop}

theorem Inv.big (I : Inv X pins σ H s) : sysModules < s.heap.objs.size := by
  have h : mainGlobals < s.heap.objs.size := (I.mod.glob.keeps I.bk).lt
  exact Nat.lt_trans (by decide) h

theorem d_getItem {Q : Value → Shared → Prop} (hu : A.units + 1 < cLine) (I : Inv X pins σ H s) (g : DGet H a y (some v)) (ry : RelV y u) (h : ∀ w' s', Inv X pins σ H s' → RelV v w' → Q w' s') :
    wpAny (model X.prog X.w) A (getItem (.ref a) u) Q E s := by
  rcases g with ⟨kvs, k, e, ey, l⟩ | ⟨kvs, k, b, e, ey, eb, l⟩
  · subst ey
    obtain ⟨z, hd, vs, rel, dd⟩ := dk_rd I.hok e
    obtain ⟨w', hw, rw'⟩ := RelO.some_of (v := v) (o := valueAt vs k) (by rw [l]; exact rel.val k)
    exact wpAny_getItem_of (kV_is ry) dd.mapOf hw (h w' _ (I.tok _) rw')
  · subst ey
    cases (show u = Value.ref b from ry)
    obtain ⟨z, hd, xs, rel, dd⟩ := dt_rd I.hok e
    obtain ⟨w', hw, rw'⟩ := RelO.some_of (v := v) (o := (atKey xs k).map (·.2)) (by rw [l]; exact rel.val k)
    obtain ⟨p, hp, hp2⟩ := Option.map_eq_some_iff.mp hw
    refine wpAny_getItem_heap (tupleKind_room_in1 hu) (key_of I.hok eb) dd hp ?_
    rw [hp2]
    exact h w' _ (I.tok _) rw'
theorem d_write {h' : Heap} {t' : Nat} {ob : HO} (I : Inv X pins σ H s) (mu : Mut (H a)) (hs : Heap.SameBut a s.heap h') (he : ∃ q, h'.get? a = some q) (new : ObjOk X.prog X.w (upd H a ob) h' a ob) :
    Inv X pins σ (upd H a ob) { s with heap := h', toks := t' } :=
  I.write (x := a) (e := a) mu (.inl rfl) (fun b q hb z => (hs.2 b hb).trans z) he new
theorem dk_new {P : Program} {w : World} {H' : Hp} {h' : Heap} {kvs : List (Key × V)} {vs : List (Key × Value)} (z : kvs.length ≤ sizeLine) (hd : (a == sysModules) = false) (rel : KV kvs vs) (dd : h'.DictOf (mixKind P w) a vs) :
    ObjOk P w H' h' a (.dK kvs) := ⟨z, hd, vs, rel, dd⟩
theorem d_setItem {H' : Hp} {Q : Unit → Shared → Prop} (hu : A.units + 1 < cLine) (I : Inv X pins σ H s) (g : DPut H a y v H') (ry : RelV y u) (rv : RelV v r) (h : ∀ s', Inv X pins σ H' s' → Q () s') :
    wpAny (model X.prog X.w) A (setItem (.ref a) u r) Q E s := by
  rcases g with ⟨kvs, k, e, ey, l, eH⟩ | ⟨kvs, k, b, e, ey, eb, l, eH⟩
  · subst ey eH
    obtain ⟨z, hd, vs, rel, dd⟩ := dk_of I.hok e
    have hz : vs.length ≤ sizeLine := by rw [← rel.length]; exact z
    have hl : (putK kvs k v).length ≤ sizeLine := by have := length_putK kvs k v; omega
    refine wpAny_setItem_pairs (hsz := hz) (kV_is ry) dd fun h' dd' hs => h _ ?_
    have he : ∃ q, h'.get? a = some q := let ⟨q, _, _, hq, _⟩ := dd'; ⟨q, hq⟩
    exact d_write I (by rw [e]; exact True.intro) hs he (dk_new hl hd (rel.put k rv) dd')
  · subst ey eH
    cases (show u = Value.ref b from ry)
    obtain ⟨z, hd, xs, rel, dd⟩ := dt_of I.hok e
    have hz : xs.length ≤ sizeLine := by rw [← Paired.length rel]; exact z
    have hl : (putK kvs k v).length ≤ sizeLine := by have := length_putK kvs k v; omega
    refine wpAny_setItem_heap (hsz := hz) (tupleKind_room_in1 hu) (key_of I.hok eb) dd fun h' dd' hs => h _ ?_
    obtain ⟨q, es, ep, hq, h2, h3, h4, _, h5⟩ := dd'
    refine d_write I (by rw [e]; exact True.intro) hs ⟨q, hq⟩ ⟨hl, hd, _, (rel.put k eb rv).keeps fun c ys ec => ?_, q, es, ep, hq, h2, h3, h4, h5⟩
    rw [upd_ne (ne_of ec e (fun z => nomatch z))]
    exact ec
end

section
variable {X : Cx} {pins : List (Addr × Obj)} {σ : St} {H : Hp} {s : Shared} {a : Addr} {kvs : List (Key × V)} {k : Key} {u : Value} {A : Around} {E : Value → Shared → Prop}
end


def NoSl (i : Expr) : Prop := ∀ ov iv, subscripted i false ov iv = operate [ov, iv] (getItem ov iv)
theorem subD_of {prog : Program} {w : World} {A : Around} {E : Value → Shared → Prop} {s : Shared} {env : Env} {value slice : Expr} {pos : Pos} {T id : String} {Q : Value → Shared → Prop}
    (hl : typeLookup (.type T) "__getitem__" = pure (some (.builtin id))) (hs : NoSl slice)
    (h : wpAny (model prog w) A (eval value env) (fun o s₁ => wpAny (model prog w) A (eval slice env) (fun i s₂ => s₂.TypeIs o T ∧ wpAny (model prog w) A (getItem o i) Q E s₂) E s₁) E s) :
    wpAny (model prog w) A (eval (.Subscript value slice pos) env) Q E s := by
  refine Subscript_ (wpAny_mono h (fun o s₁ h₁ => wpAny_mono h₁ (fun i s₂ h₂ => ?_) fun _ _ x => x) fun _ _ x => x)
  obtain ⟨hT, h₂⟩ := h₂
  unfold subscriptTail
  refine wpAny_bind ?_
  rw [getitemInPython_of_ne hT.not_modules]
  refine wpAny_bind (wpAny_specialOf hT hl ?_)
  have fin : wpAny (model prog w) A (subscripted slice false o i) (fun r s₃ => wpAny (model prog w) A (letTemporaryGo value o r >>= fun _ => pure r) Q E s₃) E s₂ := by
    rw [hs o i]
    exact wpAny_operating (wpAny_mono h₂ (fun r s₃ h₃ => wpAny_bind (wpAny_letTemporaryGo (wpAny_pure h₃))) fun _ _ x => x)
  first
    | exact wpAny_pure (wpAny_bind fin)
    | exact wpAny_bind (wpAny_pure (wpAny_bind fin))
    | exact wpAny_bind fin

theorem dict_typeIs {X : Cx} {pins : List (Addr × Obj)} {σ : St} {H : Hp} {s : Shared} {a : Addr} {y : V} {o : Option V} (I : Inv X pins σ H s) (g : DGet H a y o) : s.TypeIs (.ref a) "dict" := by
  rcases g with ⟨kvs, k, e, _, _⟩ | ⟨kvs, k, b, e, _, _, _⟩
  · obtain ⟨_, _, vs, _, dd⟩ := dk_rd I.hok e
    exact dd.typeIs
  · obtain ⟨_, _, xs, _, dd⟩ := dt_rd I.hok e
    exact dd.typeIs
def tDGet (td ty : TE) : TE := fun σ H Q => td σ H fun x H1 => ty σ H1 fun y H2 => ∃ a v, x = .ref a ∧ DGet H2 a y (some v) ∧ Q v H2
def tDIn (ty td : TE) : TE := fun σ H Q => ty σ H fun y H1 => td σ H1 fun x H2 => ∃ a o, x = .ref a ∧ DGet H2 a y o ∧ Q (.bl o.isSome) H2
def tDNotIn (ty td : TE) : TE := fun σ H Q => ty σ H fun y H1 => td σ H1 fun x H2 => ∃ a o, x = .ref a ∧ DGet H2 a y o ∧ Q (.bl (!o.isSome)) H2
def sDPut (td ty tv : TE) : TS := fun D σ H => tv σ H fun v H1 => td σ H1 fun x H2 => ty σ H2 fun y H3 => ∃ a H4, x = .ref a ∧ DPut H3 a y v H4 ∧ D.nx σ H4
def sDAug (td ty tv : TE) (rd : V → V → Hp → VK → Prop) : TS := fun D σ H => td σ H fun x H1 => ty σ H1 fun y H2 => ∃ a v, x = .ref a ∧ DGet H2 a y (some v) ∧
  tv σ H2 fun y2 H3 => rd v y2 H3 fun z H4 => ∃ H5, DPut H4 a y z H5 ∧ D.nx σ H5
def sDDel (td ty : TE) : TS := fun D σ H => td σ H fun x H1 => ty σ H1 fun y H2 => ∃ a kvs k, x = .ref a ∧ H2 a = some (.dK kvs) ∧ y = kV k ∧ (valV kvs k).isSome = true ∧ D.nx σ (upd H2 a (.dK (dropK kvs k)))

section
variable {X : Cx} {o i e value : Expr} {pos pos' tpos : Pos} {td ty tv : TE}
theorem pe_dget (hu : X.A.units + 1 < cLine) (ho : PE X o td) (hi : PE X i ty) (hs : NoSl i) : PE X (.Subscript o i pos) (tDGet td ty) := by
  intro pins s σ H Q I h
  refine subD_of PySem.F.slot_dict_getitem.lookup hs (thn (ho pins s σ H _ I h) fun u s1 ⟨x, H1, I1, rx, q1⟩ => thn (hi pins s1 σ H1 _ I1 q1) fun iv s2 ⟨y, H2, I2, ry, a, v, ex, g, q2⟩ => ?_)
  subst ex
  obtain rfl : u = Value.ref a := rx
  exact ⟨dict_typeIs I2 g, d_getItem hu I2 g ry fun w' s3 I3 rw' => ⟨v, H2, I3, rw', q2⟩⟩
theorem ps_dput (hu : X.A.units + 1 < cLine) (ho : PE X o td) (hi : PE X i ty) (hv : PE X value tv) (hs : swapsWith value (some (.Subscript o i pos')) pos.line X.env = pure false) :
    PS X (.Assign [.Subscript o i pos'] value pos) (sDPut td ty tv) := by
  intro pins s σ H D I h
  refine wpAny_Assign_Subscript (thn (hv pins s σ H _ I h) fun r s1 ⟨v, H1, I1, rv, q1⟩ => thn (ho pins s1 σ H1 _ I1 q1) fun u s2 ⟨x, H2, I2, rx, q2⟩ => thn (hi pins s2 σ H2 _ I2 q2) fun iv s3 ⟨y, H3, I3, ry, a, H4, ex, g, q3⟩ => ?_) hs
  subst ex
  obtain rfl : u = Value.ref a := rx
  exact d_setItem hu I3 g ry rv fun s4 I4 => ⟨σ, H4, I4, q3⟩
end


theorem dk_empty {P : Program} {w : World} {H : Hp} (h : Heap) (hb : sysModules < h.objs.size) : ObjOk P w H (h.push { cls := .type "dict", data := .dict #[] }) h.objs.size (.dK []) :=
  ⟨Nat.zero_le _, beq_eq_false_iff_ne.mpr (Ne.symm (Nat.ne_of_lt hb)), [], .nil, Heap.DictOf.new h⟩
def tDNewK : TE := fun _ H Q => ∀ p, H p = none → Q (.ref p) (upd H p (.dK []))
def tDNewT : TE := fun _ H Q => ∀ p, H p = none → Q (.ref p) (upd H p (.dT []))
section
variable {X : Cx} {pos : Pos}
end

def tPairs : List (TE × TE) → St → Hp → (List (V × V) → Hp → Prop) → Prop
  | [], _, H, Q => Q [] H
  | (tk, tv) :: r, σ, H, Q => tk σ H fun x H1 => tv σ H1 fun y H2 => tPairs r σ H2 fun ps H3 => Q ((x, y) :: ps) H3
abbrev VV : List (V × V) → List (Value × Value) → Prop := Paired fun p q => RelV p.1 q.1 ∧ RelV p.2 q.2
def PPs (X : Cx) (pos : Pos) (keys : List (Option Expr)) (values : List Expr) (trs : List (TE × TE)) : Prop :=
  ∀ (pins : List (Addr × Obj)) (s : Shared) (σ : St) (H : Hp) (Q : List (V × V) → Hp → Prop), Inv X pins σ H s → tPairs trs σ H Q →
    wpAny (model X.prog X.w) X.A (evalPairs (pairTrees keys values X.env pos)) (fun vs s' => ∃ ps H', Inv X pins σ H' s' ∧ VV ps vs ∧ Q ps H') X.xe s
def mergeK (kvs more : List (Key × V)) : List (Key × V) := more.foldl (fun acc kv => putK acc kv.1 kv.2) kvs
def tDisp (trs : List (TE × TE)) : TE := fun σ H Q => ∀ p, H p = none → tPairs trs σ (upd H p (.dK [])) fun ps H2 => H2 p = some (.dK []) ∧ ∃ kvs : List (Key × V), ps = kvs.map (fun kv => (kV kv.1, kv.2)) ∧ kvs.length ≤ 15 ∧ Q (.ref p) (upd H2 p (.dK (mergeK [] kvs)))
structure M1 (X : Cx) (o : Expr) (m : Str) (apos : Pos) (e : Expr) (cpos : Pos) : Prop where
  base : attributeBase o m X.env (eval o X.env) = eval o X.env
  few : ((backTo cpos (starEach [e] X.env)).all (fun x => !x.1) && (backToKw cpos (keywordEach [] X.env)).all (fun x => x.1.isSome)
    && decide (([e] : List Expr).length + ([] : List Keyword).length + (if ([] : List Keyword).isEmpty then 0 else 1) < 30)) = true
  line : (apos.endLine == cpos.line) = true
  trees : backTo cpos (starEach [e] X.env) = [(false, eval e X.env)]
structure M2 (X : Cx) (o : Expr) (m : Str) (apos : Pos) (e f : Expr) (cpos : Pos) : Prop where
  base : attributeBase o m X.env (eval o X.env) = eval o X.env
  few : ((backTo cpos (starEach [e, f] X.env)).all (fun x => !x.1) && (backToKw cpos (keywordEach [] X.env)).all (fun x => x.1.isSome)
    && decide (([e, f] : List Expr).length + ([] : List Keyword).length + (if ([] : List Keyword).isEmpty then 0 else 1) < 30)) = true
  line : (apos.endLine == cpos.line) = true
  trees : backTo cpos (starEach [e, f] X.env) = [(false, eval e X.env), (false, eval f X.env)]

def IsD (H : Hp) (a : Addr) : Prop := (∃ kvs, Rd H a (.dK kvs)) ∨ ∃ kvs, Rd H a (.dT kvs)
section
variable {X : Cx} {pins : List (Addr × Obj)} {σ : St} {H : Hp} {s : Shared} {a : Addr} {y d : V} {u r : Value} {o : Option V} {A : Around} {E : Value → Shared → Prop}
end

def tDGet1 (td ty : TE) : TE := fun σ H Q => td σ H fun x H1 => ∃ a, x = .ref a ∧ IsD H1 a ∧ ty σ H1 fun y H2 => ∃ o, DGet H2 a y o ∧ Q (o.getD .non) H2
def tDGet2 (td ty tx : TE) : TE := fun σ H Q => td σ H fun x H1 => ∃ a, x = .ref a ∧ IsD H1 a ∧ ty σ H1 fun y H2 => tx σ H2 fun z H3 => ∃ o, DGet H3 a y o ∧ Q (o.getD z) H3
def tDPop1 (td ty : TE) : TE := fun σ H Q => td σ H fun x H1 => ∃ a, x = .ref a ∧ IsD H1 a ∧ ty σ H1 fun y H2 => ∃ kvs k v, H2 a = some (.dK kvs) ∧ y = kV k ∧ valV kvs k = some v ∧ Q v (upd H2 a (.dK (dropK kvs k)))
def tDPop2 (td ty tx : TE) : TE := fun σ H Q => td σ H fun x H1 => ∃ a, x = .ref a ∧ IsD H1 a ∧ ty σ H1 fun y H2 => tx σ H2 fun z H3 => ∃ kvs k, H3 a = some (.dK kvs) ∧ y = kV k ∧
  (∀ v, valV kvs k = some v → Q v (upd H3 a (.dK (dropK kvs k)))) ∧ (valV kvs k = none → Q z H3)
section
variable {X : Cx} {o e f : Expr} {apos cpos : Pos} {td ty tx : TE}
end

section
variable {X : Cx} {pins : List (Addr × Obj)} {σ : St} {H : Hp} {s : Shared} {a : Addr} {kvs : List (Key × V)} {A : Around} {E : Value → Shared → Prop}
end


section
variable {X : Cx} {pins : List (Addr × Obj)} {σ : St} {H : Hp} {s : Shared} {a : Addr} {y : V} {u : Value} {A : Around} {E : Value → Shared → Prop}
end
end L2


namespace L2
open PySem PySem.Spec PyProof.Rows
def kD : Key → PyData
  | .inl i => .int i
  | .inr x => .str x
mutual
inductive IsY (S : Addr → Prop) (H : Hp) : V → PyData → Prop
  | non : IsY S H .non .none
  | bl (b : Bool) : IsY S H (.bl b) (.bool b)
  | int (i : Int) : IsY S H (.int i) (.int i)
  | str (x : Str) : IsY S H (.str x) (.str x)
  | tup {a : Addr} {vs : List V} {ds : List PyData} : H a = some (.tup vs) → IsAllY S H vs ds → IsY S H (.ref a) (.tuple ds)
  | lst {a : Addr} {vs : List V} {ds : List PyData} : H a = some (.lst vs) → S a → IsAllY S H vs ds → IsY S H (.ref a) (.list ds)
  | d0 {a : Addr} : H a = some (.dK []) → IsY S H (.ref a) (.dict [])
  | d1 {a : Addr} {k : Key} {v : V} {d : PyData} : H a = some (.dK [(k, v)]) → IsY S H v d → IsY S H (.ref a) (.dict [(kD k, d)])
inductive IsAllY (S : Addr → Prop) (H : Hp) : List V → List PyData → Prop
  | nil : IsAllY S H [] []
  | cons {v : V} {vs : List V} {d : PyData} {ds : List PyData} : IsY S H v d → IsAllY S H vs ds → IsAllY S H (v :: vs) (d :: ds)
end
def tyD : PyData → String
  | .none => "NoneType" | .bool _ => "bool" | .int _ => "int" | .str _ => "str" | .list _ => "list" | .tuple _ => "tuple" | .dict _ => "dict"
def kinds7 : List String := ["NoneType", "bool", "int", "str", "list", "tuple", "dict"]
theorem tyD_in (d : PyData) : tyD d ∈ kinds7 := by cases d <;> simp [tyD, kinds7]
theorem IsY.ty {K : PySem.W.Frag} {S : Addr → Prop} {H : Hp} {v : V} {d : PyData} (h : IsY S H v d) : TyOf K H v (.type (tyD d)) := by
  cases h with
  | non => exact .non
  | bl b => exact .bl b
  | int i => exact .int i
  | str x => exact .str x
  | tup e _ => exact .tup e
  | lst e _ _ => exact .lst e
  | d0 e => exact .dK e
  | d1 e _ => exact .dK e
theorem kit7 {K : PySem.W.Frag} {t : String} (h : t ∈ kinds7) :
    PySem.W.kitOne K (.type t) (.type "int") = some (t == "bool" || t == "int") ∧ PySem.W.kitOne K (.type t) (.type "bool") = some (t == "bool") ∧ PySem.W.kitOne K (.type t) (.type "tuple") = some (t == "tuple") := by
  have : t = "NoneType" ∨ t = "bool" ∨ t = "int" ∨ t = "str" ∨ t = "list" ∨ t = "tuple" ∨ t = "dict" := by simpa [kinds7] using h
  rcases this with rfl | rfl | rfl | rfl | rfl | rfl | rfl <;> exact ⟨kit_tt (by decide +kernel), kit_tt (by decide +kernel), kit_tt (by decide +kernel)⟩
mutual
theorem IsY.map {S S' : Addr → Prop} {H H' : Hp} (hS : ∀ a, S a → S' a) (ht : ∀ a xs, H a = some (.tup xs) → H' a = some (.tup xs)) (hl : ∀ a xs, S a → H a = some (.lst xs) → H' a = some (.lst xs)) (hd : ∀ a xs, H a = some (.dK xs) → H' a = some (.dK xs)) : ∀ {v : V} {d : PyData}, IsY S H v d → IsY S' H' v d
  | _, _, .non => .non
  | _, _, .bl b => .bl b
  | _, _, .int i => .int i
  | _, _, .str x => .str x
  | _, _, .tup e al => .tup (ht _ _ e) (IsAllY.map hS ht hl hd al)
  | _, _, .lst e s al => .lst (hl _ _ s e) (hS _ s) (IsAllY.map hS ht hl hd al)
  | _, _, .d0 e => .d0 (hd _ _ e)
  | _, _, .d1 e al => .d1 (hd _ _ e) (IsY.map hS ht hl hd al)
theorem IsAllY.map {S S' : Addr → Prop} {H H' : Hp} (hS : ∀ a, S a → S' a) (ht : ∀ a xs, H a = some (.tup xs) → H' a = some (.tup xs)) (hl : ∀ a xs, S a → H a = some (.lst xs) → H' a = some (.lst xs)) (hd : ∀ a xs, H a = some (.dK xs) → H' a = some (.dK xs)) : ∀ {vs : List V} {ds : List PyData}, IsAllY S H vs ds → IsAllY S' H' vs ds
  | _, _, .nil => .nil
  | _, _, .cons h t => .cons (IsY.map hS ht hl hd h) (IsAllY.map hS ht hl hd t)
end
theorem IsY.same {S : Addr → Prop} {H H' : Hp} (s : Same H H') {v : V} {d : PyData} (h : IsY S H v d) : IsY S H' v d := IsY.map (fun _ z => z) (fun a _ => s a _) (fun a _ _ => s a _) (fun a _ => s a _) h
theorem IsAllY.same {S : Addr → Prop} {H H' : Hp} (s : Same H H') {v : List V} {d : List PyData} (h : IsAllY S H v d) : IsAllY S H' v d := IsAllY.map (fun _ z => z) (fun a _ => s a _) (fun a _ _ => s a _) (fun a _ => s a _) h
theorem IsAllY.append {S : Addr → Prop} {H : Hp} : ∀ {v w : List V} {d e : List PyData}, IsAllY S H v d → IsAllY S H w e → IsAllY S H (v ++ w) (d ++ e)
  | _, _, _, _, .nil, h => h
  | _, _, _, _, .cons a t, h => .cons a (IsAllY.append t h)
theorem IsAllY.ints {S : Addr → Prop} {H : Hp} : ∀ ns : List Int, IsAllY S H (ns.map V.int) (ns.map PyData.int)
  | [] => .nil
  | n :: r => .cons (.int n) (IsAllY.ints r)
theorem IsY.intT {S : Addr → Prop} {H : Hp} {a : Addr} {ns : List Int} (h : H a = some (.tup (ns.map V.int))) : IsY S H (.ref a) (.tuple (ns.map PyData.int)) := .tup h (IsAllY.ints ns)
theorem IsAllY.len {S : Addr → Prop} {H : Hp} : ∀ {v : List V} {d : List PyData}, IsAllY S H v d → v.length = d.length
  | _, _, .nil => rfl
  | _, _, .cons _ t => by rw [List.length_cons, List.length_cons, IsAllY.len t]
theorem IsAllY.at {S : Addr → Prop} {H : Hp} : ∀ {v : List V} {d : List PyData} {i : Nat} {x : V}, IsAllY S H v d → v[i]? = some x → ∃ e, d[i]? = some e ∧ IsY S H x e
  | _, _, _, _, .nil, h => by simp at h
  | _, _, 0, _, .cons a _, h => by
    simp at h
    subst h
    exact ⟨_, rfl, a⟩
  | _, _, i + 1, _, .cons _ t, h => by
    obtain ⟨e, h1, h2⟩ := IsAllY.at (i := i) t (by simpa using h)
    exact ⟨e, by simpa using h1, h2⟩
theorem IsAllY.mem {S : Addr → Prop} {H : Hp} {v : List V} {d : List PyData} {x : V} (h : IsAllY S H v d) (hx : x ∈ v) : ∃ e, e ∈ d ∧ IsY S H x e := by
  obtain ⟨i, hi⟩ := List.getElem?_of_mem hx
  obtain ⟨e, h1, h2⟩ := h.at hi
  exact ⟨e, List.mem_of_getElem? h1, h2⟩
def OkD (m k : Nat) (d : PyData) : Prop := d.showable = true ∧ d.leavesShort 1921 = true ∧ d.bulk ≤ m ∧ d.depth ≤ k
def OkDs (m k : Nat) (ds : List PyData) : Prop := PyData.showableAll ds = true ∧ PyData.leavesShortAll 1921 ds = true ∧ PyData.bulkAll ds ≤ m ∧ PyData.depthAll ds ≤ k
theorem OkDs.more {m k m' k' : Nat} {d : List PyData} (h : OkDs m k d) (hm : m ≤ m') (hk : k ≤ k') : OkDs m' k' d := ⟨h.1, h.2.1, Nat.le_trans h.2.2.1 hm, Nat.le_trans h.2.2.2 hk⟩
theorem shw_abs {n : Int} (h : n.natAbs < 2 ^ 1900) : Shw n := by
  unfold Shw
  by_cases h0 : n.natAbs = 0
  · rw [h0]; decide
  · rw [Nat.log2_lt h0]
    exact Nat.lt_of_lt_of_le h (Nat.pow_le_pow_right (by decide) (by decide))
theorem OkD.int {m k : Nat} {n : Int} (h : Shw n) : OkD m k (.int n) := by
  refine ⟨?_, ?_, Nat.zero_le _, Nat.zero_le _⟩
  · simp only [PyData.showable, decide_eq_true_eq]; exact h
  · simp only [PyData.leavesShort, decide_eq_true_eq]; exact int_text_len_1921 h
theorem OkDs.nil {m k : Nat} : OkDs m k [] := ⟨rfl, rfl, Nat.zero_le _, Nat.zero_le _⟩
theorem OkDs.cons {m m' k : Nat} {d : PyData} {ds : List PyData} (h : OkD m k d) (t : OkDs m' k ds) : OkDs (m + 1 + m') k (d :: ds) := by
  obtain ⟨a, b, c, e⟩ := h
  obtain ⟨a', b', c', e'⟩ := t
  refine ⟨?_, ?_, ?_, ?_⟩
  · simp only [PyData.showableAll, a, a', Bool.and_self]
  · simp only [PyData.leavesShortAll, b, b', Bool.and_self]
  · simp only [PyData.bulkAll]; omega
  · simp only [PyData.depthAll]; omega
theorem OkDs.tup {m k : Nat} {ds : List PyData} (h : OkDs m k ds) : OkD m (k + 1) (.tuple ds) := by
  obtain ⟨a, b, c, e⟩ := h
  exact ⟨by simpa only [PyData.showable] using a, by simpa only [PyData.leavesShort] using b, by simpa only [PyData.bulk] using c, by simpa only [PyData.depth] using Nat.succ_le_succ e⟩
theorem OkD.shows {m k : Nat} {d : PyData} (h : OkD m k d) (hm : m ≤ 2000) (hk : k ≤ 60) : Shows d := by
  obtain ⟨a, b, c, e⟩ := h
  refine ⟨a, Nat.le_trans e hk, ?_⟩
  refine Nat.le_trans (PyData.shown_le_bulk 1921 (by decide) d b) (Nat.le_trans (Nat.add_le_add_right (Nat.mul_le_mul_left _ (Nat.le_trans c hm)) _) (by decide))
section
variable {X : Cx} {pins : List (Addr × Obj)} {σ : St} {H : Hp} {s : Shared}
theorem pairs_vals : ∀ {es : List DictEntry} {kvs : List (Key × V)} {vs : List (Key × Value)}, Pairs (mixKind X.prog X.w) es vs → KV kvs vs → Vals (kvs.map fun p => kV p.1) (es.map (·.key)) ∧ Vals (kvs.map (·.2)) (es.map (·.val))
  | _, _, _, .nil, .nil => ⟨.nil, .nil⟩
  | _, _, _, .cons h1 h2 t, .cons r rs => by
    obtain ⟨i1, i2⟩ := pairs_vals t rs
    refine ⟨.cons ?_ i1, .cons (by show RelV _ _; dsimp only; rw [h2]; exact r.2) i2⟩
    rename_i e kv es vs a as
    obtain ⟨k, v⟩ := a
    obtain ⟨k', v'⟩ := kv
    cases (show k = k' from r.1)
    rcases keyIs_shape h1 with ⟨i, t, rfl, e1⟩ | ⟨x, t, rfl, e1⟩
    · exact ⟨t, e1⟩
    · exact ⟨t, e1⟩
mutual
theorem Inv.readsY {S : Addr → Prop} (I : Inv X pins σ H s) : ∀ {v : V} {d : PyData} {u : Value}, IsY S H v d → RelV v u → ∃ as, Reads s.heap u d as ∧ ∀ a ∈ as, a ≠ sysModules ∨ S a
  | _, _, _, .non, r => by cases (show _ = Value.none from r); exact ⟨_, .none, fun _ h => nomatch h⟩
  | _, _, _, .bl b, r => by cases (show _ = Value.bool b from r); exact ⟨_, .bool b, fun _ h => nomatch h⟩
  | _, _, _, .int i, r => by obtain ⟨t, rfl⟩ := r; exact ⟨_, .int i t, fun _ h => nomatch h⟩
  | _, _, _, .str x, r => by obtain ⟨t, rfl⟩ := r; exact ⟨_, .str x t, fun _ h => nomatch h⟩
  | _, _, _, .tup (a := a) (vs := vs) h al, r => by
    cases (show _ = Value.ref a from r)
    obtain ⟨its, rv, ⟨o, ho, hc, n, hd⟩, _⟩ := I.tuple (SqT.of h)
    obtain ⟨as, q, hs⟩ := Inv.readsAllY I al rv
    exact ⟨as, .tuple ho hc hd (by simpa using q), hs⟩
  | _, _, _, .lst (a := a) (vs := vs) h sa al, r => by
    cases (show _ = Value.ref a from r)
    obtain ⟨_, its, n, rv, ho⟩ := (show ObjOk X.prog X.w H s.heap a (.lst vs) from I.hok a _ h)
    obtain ⟨as, q, hs⟩ := Inv.readsAllY I al rv
    refine ⟨_, .list ho rfl rfl (by simpa using q), fun b hb => ?_⟩
    rcases List.mem_cons.mp hb with rfl | hb
    · exact .inr sa
    · exact hs b hb
  | _, _, _, .d0 (a := a) h, r => by
    cases (show _ = Value.ref a from r)
    obtain ⟨_, hne, vs, rk, o, es, ep, ho, hx, hd, _, hp, _⟩ := dk_of I.hok h
    cases rk
    have he : es.toList = [] := List.eq_nil_of_length_eq_zero (by rw [hp.length]; rfl)
    refine ⟨_, .dict (kvs := []) ho hx.1 hd (by rw [he]; exact .nil) (by rw [he]; exact .nil), fun b hb => ?_⟩
    rcases List.mem_cons.mp hb with rfl | hb
    · exact .inl (by simpa using hne)
    · exact absurd hb (by simp)
  | _, _, _, .d1 (a := a) (k := k) (v := v) (d := d) h al, r => by
    cases (show _ = Value.ref a from r)
    obtain ⟨_, hne, vs, rk, o, es, ep, ho, hx, hd, _, hp, _⟩ := dk_of I.hok h
    obtain ⟨p1, p2⟩ := pairs_vals hp rk
    have q1 : IsY S H (kV k) (kD k) := by cases k <;> constructor
    generalize hks : es.toList.map (·.key) = ks at p1
    generalize hvs : es.toList.map (·.val) = ws at p2
    cases p1 with
    | cons r1 t1 =>
      cases t1
      rename_i u1
      cases p2 with
      | cons r2 t2 =>
        cases t2
        obtain ⟨as2, q2, hs2⟩ := Inv.readsY I al r2
        have q3 : ∃ as, Reads s.heap u1 (kD k) as ∧ ∀ a ∈ as, a ≠ sysModules ∨ S a := by
          cases k with
          | inl i => obtain ⟨t, e⟩ := r1; rw [e]; exact ⟨_, .int i t, fun _ h => nomatch h⟩
          | inr x => obtain ⟨t, e⟩ := r1; rw [e]; exact ⟨_, .str x t, fun _ h => nomatch h⟩
        obtain ⟨as1, q1, hs1⟩ := q3
        refine ⟨_, .dict (kvs := [(kD k, d)]) ho hx.1 hd (by rw [hks]; exact .cons q1 .nil) (by rw [hvs]; exact .cons q2 .nil), fun b hb => ?_⟩
        simp only [List.append_nil, List.mem_cons, List.mem_append, List.cons_append] at hb
        rcases hb with rfl | hb | hb
        · exact .inl (by simpa using hne)
        · exact hs1 b hb
        · exact hs2 b hb
theorem Inv.readsAllY {S : Addr → Prop} (I : Inv X pins σ H s) : ∀ {vs : List V} {ds : List PyData} {us : List Value}, IsAllY S H vs ds → Vals vs us → ∃ as, ReadsAll s.heap us ds as ∧ ∀ a ∈ as, a ≠ sysModules ∨ S a
  | _, _, _, .nil, .nil => ⟨_, .nil, fun _ h => nomatch h⟩
  | _, _, _, .cons h al, .cons r rs => by
    obtain ⟨as, q, h1⟩ := Inv.readsY I h r
    obtain ⟨bs, q', h2⟩ := Inv.readsAllY I al rs
    exact ⟨_, .cons q q', fun a ha => (List.mem_append.mp ha).elim (h1 a) (h2 a)⟩
end
end
def rReprD : List V → Hp → VK → Prop := fun xs H Q => ∃ (S : Addr → Prop) (x : V) (d : PyData), xs = [x] ∧ IsY S H x d ∧ (d.hasDict = true → ∀ a, S a → a ≠ sysModules) ∧ Shows d ∧ Q (.str d.shown) H
theorem call_reprD {X : Cx} (hg : X.A.guards = some []) (hu : X.A.units + 64 < cLine) : CallR X (.builtin "repr") rReprD := by
  intro pins s σ H xs us Q I rs h
  obtain ⟨S, x, d, rfl, hd, hS, ⟨hs, hdep, hl⟩, q⟩ := h
  obtain ⟨u, rfl, ru⟩ := vals1 rs
  by_cases hx : ∃ a, x = .ref a
  · obtain ⟨a, rfl⟩ := hx
    cases (show u = Value.ref a from ru)
    obtain ⟨as, r, ha⟩ := I.readsY hd (show RelV (.ref a) (Value.ref a) from rfl)
    exact repr_of_reads' r hs (fun z m => (ha _ m).elim (fun z => z rfl) fun y => hS z _ y rfl) hg (by omega) (fun _ _ e => e) (fun h' u tk hk => ⟨.str _, H, I.kept (t' := tk) hk, ⟨_, rfl⟩, q⟩) hl
  · cases hd with
    | non => cases (show u = Value.none from ru); exact P.repr_of_none ⟨.str PyData.none.shown, H, I.tok _, ⟨_, rfl⟩, q⟩
    | bl b => cases (show u = Value.bool b from ru); exact P.repr_of_bool ⟨.str (PyData.bool b).shown, H, I.tok _, ⟨_, by cases b <;> rfl⟩, q⟩
    | int i =>
      obtain ⟨t, rfl⟩ := ru
      exact P.repr_of_int (by simpa only [PyData.showable, decide_eq_true_eq] using hs) ⟨.str (PyData.int i).shown, H, I.tok _, ⟨_, rfl⟩, q⟩
    | str y =>
      obtain ⟨t, rfl⟩ := ru
      exact P.repr_of_str ⟨.str (PyData.str y).shown, H, I.tok _, ⟨_, rfl⟩, q⟩ hl
    | _ => exact absurd ⟨_, rfl⟩ hx
def tLstN (t : TA) : TE := fun σ H Q => t σ H fun xs H1 => xs.length ≤ sizeLine ∧ ∀ l, H1 l = none → l ≠ sysModules → Q (.ref l) (upd H1 l (.lst xs))
def tD1 (k1 : Str) (t1 : TE) : TE := fun σ H Q => ∀ d, H d = none → t1 σ (upd H d (.dK [])) fun v1 H1 => H1 d = some (.dK []) ∧ Q (.ref d) (upd H1 d (.dK [(.inr k1, v1)]))
end L2
namespace L2
open PySem PySem.Spec PyProof.Rows
theorem atI_any {xs : List V} {d : Int} (h0 : 0 ≤ d) (h1 : d < xs.length) : ∃ x, xs[d.toNat]? = some x ∧ atI xs d = some x := by
  have hd : d.toNat < xs.length := by omega
  refine ⟨xs[d.toNat], List.getElem?_eq_getElem hd, ?_⟩
  have := atI_nat (xs := xs) (j := d.toNat) (v := xs[d.toNat]) (List.getElem?_eq_getElem hd)
  rwa [show ((d.toNat : Nat) : Int) = d by omega] at this
end L2
namespace L2
open PySem PySem.Spec PyProof.Rows
end L2
namespace L2
open PySem PySem.Spec PyProof.Rows
end L2
namespace L2
open PySem PySem.Spec PyProof.Rows
end L2


namespace L2
open PySem PySem.Spec PyProof.Rows
def dieF (S : Int) : List Int → Int → Int → Nat → Option (Int × Nat)
  | [], v, w, t => if w < S then none else some (v, t)
  | c :: cs, v, w, t => if w < S then (if S ≤ 2 * v + c then dieF S cs (2 * v + c - S) (2 * w - S) (t + 1) else dieF S cs (2 * v + c) (2 * w) (t + 1)) else some (v, t)
def dieR (S : Int) (cs : List Int) : Option (Int × Nat) := dieF S cs 0 1 0
def IsDie (H : Hp) (x : V) : Option (Int × Nat) → Prop
  | none => x = .non
  | some (v, t) => ∃ z, x = .ref z ∧ H z = some (.tup ([v, (t : Int)].map V.int))
def dataDie : Option (Int × Nat) → PyData
  | none => .none
  | some (v, t) => .tuple ([v, (t : Int)].map PyData.int)
def Coins (cs : List Int) : Prop := (∀ c ∈ cs, c = 0 ∨ c = 1) ∧ cs.length ≤ 700
def spDie : Sp := fun vs H Q _ => ∃ (S : Int) (a : Addr) (cs : List Int), vs = [.int S, .ref a] ∧ 1 ≤ S ∧ H a = some (.tup (cs.map V.int)) ∧ Coins cs ∧ ∀ x H', Same H H' → IsDie H' x (dieR S cs) → Q x H'
def spSides : Sp := fun vs H Q _ => ∃ (p : Addr) (n : Nat), vs = [.ref p] ∧ Pot3 H p n ∧ n < 900000 ∧ ∀ S H', 1 ≤ S → S ≤ 1000000000000000000000000000000 → Pot3 H' p (n + 8) → Keep p p H H' → Q (.int S) H'
def spCoins : Sp := fun vs H Q _ => ∃ (p : Addr) (n : Nat) (top : Int), vs = [.ref p, .int top] ∧ 0 ≤ top ∧ top ≤ 600 ∧ Pot3 H p n ∧ n < 900000 ∧ ∀ (z : Addr) (cs : List Int) (H' : Hp), H' z = some (.tup (cs.map V.int)) → (∀ c ∈ cs, c = 0 ∨ c = 1) → cs.length ≤ 600 → Pot3 H' p (n + 2000) → Keep p p H H' → Q (.ref z) H'
end L2
namespace L2
open PySem PySem.Spec PyProof.Rows
theorem take_min {α : Type} (l : List α) (k : Nat) : l.take (min k l.length) = l.take k := by
  by_cases h : k ≤ l.length
  · rw [Nat.min_eq_left h]
  · rw [Nat.min_eq_right (by omega), List.take_length, List.take_of_length_le (by omega)]
theorem cutV_takeI (ns : List Int) (k : Nat) : cutV (ns.map V.int) none (some (k : Int)) = (ns.take k).map V.int := by
  unfold cutV
  rw [HT.sIx_none, HT.sIx_nat, List.drop_zero, Nat.sub_zero, take_min, List.map_take]
end L2


namespace L2
open PySem PySem.Spec PyProof.Rows
def rLCount : V → List V → Hp → VK → Prop := fun x vs H Q => ∃ (a : Addr) (ns : List Int) (n : Int), x = .ref a ∧ vs = [.int n] ∧ H a = some (.lst (ns.map V.int)) ∧ Q (.int (ns.countP fun m => m == n : Nat)) H
open Classical in
noncomputable def ordV (ys : List V) : Bool := decide (∃ ns : List Int, ys = ns.map V.int ∧ ns.Perm (num0 ns.length))
def Kn (K : PySem.W.Frag) (H : Hp) (y : V) : Prop := ∃ t : String, TyOf K H y (.type t) ∧ t ∈ kinds7
theorem IsY.kn {K : PySem.W.Frag} {S : Addr → Prop} {H : Hp} {x : V} {d : PyData} (h : IsY S H x d) : Kn K H x := ⟨_, h.ty, tyD_in d⟩
theorem tyI {K : PySem.W.Frag} {H : Hp} {y : V} {t : String} (h : TyOf K H y (.type t)) : t = "int" ↔ ∃ n : Int, y = .int n := by
  cases h <;> simp
def isIv : V → Bool
  | .int _ => true
  | _ => false
def spWhA (K : PySem.W.Frag) : Sp := fun vs H Q _ => ∃ x, vs = [x] ∧ Kn K H x ∧ Q (.bl (isIv x)) H
theorem isIv_iff {y : V} : isIv y = true ↔ ∃ n : Int, y = .int n := by
  cases y <;> simp [isIv]
def AnyT (p q : Addr) (H : Hp) (x : V) : Prop := ∃ S d, IsY S H x d ∧ OkD 400 60 d ∧ (∀ a, S a → a ≠ p ∧ a ≠ q) ∧ (d.hasDict = true → ∀ a, S a → a ≠ sysModules)
def notStar : Expr → Bool
  | .Starred _ _ => false
  | _ => true
end L2


namespace L2
open PySem PySem.Spec PyProof.Rows
def lit : Nat → Expr → Option PyData
  | 0, _ => none
  | _ + 1, .Constant .none _ _ => some .none
  | _ + 1, .Constant (.bool b) _ _ => some (.bool b)
  | _ + 1, .Constant (.int i) _ _ => some (.int i)
  | _ + 1, .Constant (.str x) _ _ => some (.str x)
  | _ + 1, .UnaryOp .USub (.Constant (.int i) _ _) _ => some (.int (-i))
  | n + 1, .Tuple es _ _ => if es.length ≤ 100 then (es.mapM (lit n)).map PyData.tuple else none
  | n + 1, .List es _ => if es.length ≤ 100 then (es.mapM (lit n)).map PyData.list else none
  | _ + 1, .Dict [] [] _ => some (.dict [])
  | _ + 1, _ => none
def Fr (H : Hp) : Addr → Prop := fun a => H a = none ∧ a ≠ sysModules
def tLit (d : PyData) : TE := fun _ H Q => ∀ x H', Same H H' → IsY (Fr H) H' x d → Q x H'
def tLits (ds : List PyData) : TA := fun _ H Q => ∀ xs H', Same H H' → IsAllY (Fr H) H' xs ds → Q xs H'
theorem IsAllY.wide {S S' : Addr → Prop} {H : Hp} (hS : ∀ a, S a → S' a) {v : List V} {d : List PyData} (h : IsAllY S H v d) : IsAllY S' H v d := IsAllY.map hS (fun _ _ e => e) (fun _ _ _ e => e) (fun _ _ e => e) h
end L2


namespace L2
open PySem PySem.Spec PyProof.Rows
theorem lc_growI {J : It} {Ok : Hp → Prop} {xs : List V} {te : TE} {ix : List Nat} {σ : L2.St} {H1 : Hp} {Q : VK} (Y : Yields J Ok xs) (small : xs.length < sizeLine) (bs : List Bool) (hbs : bs.length = xs.length) (hok : ∀ H, Same H1 H → Ok H)
    (he : ∀ (i : Nat) (x : V) (b : Bool) (H : Hp), xs[i]? = some x → bs[i]? = some b → Same H1 H → ∀ (QT : VK), (∀ H', Same H H' → QT (.bl b) H') → te (some x :: ix.map fun i => σ.getD i none) H QT)
    (fin : ∀ acc H', H1 acc = none → Same H1 H' → H' acc = some (.lst (bs.map V.bl)) → Q (.ref acc) H') :
    LcW J H1 (gName 0) tNoTest te 1 ix σ Q := by
  intro acc ha
  refine ⟨fun i m H => m = xs.length - i ∧ i ≤ xs.length ∧ Same H1 H ∧ H acc = some (.lst ((bs.take i).map V.bl)), ⟨xs.length, by simp, Nat.zero_le _, same_upd ha, upd_same⟩, ?_⟩
  rintro i m H ⟨rfl, hi, sm, hacc⟩
  have o := hok _ sm
  by_cases hlt : i < xs.length
  · refine .inr ⟨Y.go i _ o hlt, fun x H' y => ?_⟩
    obtain ⟨rfl, hx⟩ := Y.yld i _ x H' o hlt y
    refine ⟨⟨rfl, fun j v e => ?_⟩, ?_⟩
    · cases j with
      | zero => cases e
      | succ j => exact e
    · unfold tNoTest
      dsimp only
      rw [if_pos rfl]
      have hb : bs[i]? = some bs[i] := List.getElem?_eq_getElem (by omega)
      refine he i x bs[i] H' hx hb sm _ (fun H4 s4 => ?_)
      have h4 := s4 _ _ hacc
      refine ⟨_, h4, by rw [List.length_map, List.length_take]; omega, xs.length - (i + 1), by omega, rfl, hlt, fun b o' hb' => ?_, ?_⟩
      · have hba : b ≠ acc := fun e => by rw [e, ha] at hb'; cases hb'
        rw [upd_ne hba]
        exact s4 b _ (sm b _ hb')
      · rw [upd_same, List.take_succ, hb, List.map_append]
        rfl
  · have e : i = xs.length := by omega
    subst e
    rw [← hbs, List.take_length] at hacc
    exact .inl ⟨Y.stop _ o, fin acc H ha sm hacc⟩
def whD : PyData → Bool
  | .int _ => true
  | _ => false
def inD (m : Int) : PyData → Bool
  | .int n => decide (0 ≤ n) && decide (n < m)
  | _ => false
def wholesD : PyData → Bool
  | .tuple ds => ds.all whD
  | _ => false
def belowD (m : Int) : PyData → Bool
  | .tuple ds => ds.all (inD m)
  | _ => false
def rowD (m : Int) : PyData → Bool
  | .tuple ds => ds.all (inD m) && decide (ds.length = 4)
  | _ => false
def risL : List Int → Bool
  | a :: b :: r => decide (a < b) && risL (b :: r)
  | _ => true
def asI : PyData → Int
  | .int n => n
  | _ => 0
def risD : PyData → Bool
  | .tuple es => risL (es.map asI)
  | _ => false
def machD : PyData → Bool
  | .tuple [.tuple rows, e] => rows.all (rowD rows.length) && (decide (0 < rows.length) && (belowD rows.length e && risD e))
  | _ => false
theorem ints_of {S : Addr → Prop} {H : Hp} : ∀ {vs : List V} {ds : List PyData}, IsAllY S H vs ds → ds.all whD = true → vs = (ds.map asI).map V.int
  | _, _, .nil, _ => rfl
  | _, _, .cons (d := d) h t, a => by
    rw [List.all_cons, Bool.and_eq_true] at a
    rw [ints_of t a.2]
    cases h with
    | int i => rfl
    | _ => cases a.1
def Sz (n : Nat) (d : PyData) : Prop := d.bulk ≤ n
theorem bulk_lenY : ∀ ds : List PyData, ds.length ≤ PyData.bulkAll ds
  | [] => Nat.zero_le _
  | d :: r => by
    have := bulk_lenY r
    simp only [PyData.bulkAll, List.length_cons]; omega
theorem Sz.tup {n : Nat} {ds : List PyData} (h : Sz n (.tuple ds)) : ds.length ≤ n ∧ ∀ d ∈ ds, Sz n d := by
  have h : PyData.bulkAll ds ≤ n := by simpa only [Sz, PyData.bulk] using h
  induction ds with
  | nil => exact ⟨Nat.zero_le _, fun _ h => by cases h⟩
  | cons d r ih =>
    simp only [PyData.bulkAll] at h
    have := ih (by simpa only [Sz, PyData.bulk] using (by omega : PyData.bulkAll r ≤ n)) (by omega)
    have hl := bulk_lenY r
    refine ⟨by rw [List.length_cons]; omega, fun e he => ?_⟩
    rcases List.mem_cons.mp he with rfl | he
    · show e.bulk ≤ n
      omega
    · exact this.2 e he
def spWhsD : Sp := fun vs H Q _ => ∃ S x d, vs = [x] ∧ IsY S H x d ∧ Sz 1000 d ∧ ∀ H', Same H H' → Q (.bl (wholesD d)) H'
def spBelD : Sp := fun vs H Q _ => ∃ S x d m, vs = [x, .int m] ∧ IsY S H x d ∧ Sz 1000 d ∧ ∀ H', Same H H' → Q (.bl (belowD m d)) H'
def spRisL : Sp := fun vs H Q _ => ∃ (a : Addr) (ns : List Int), vs = [.ref a] ∧ H a = some (.tup (ns.map V.int)) ∧ ns.length ≤ 1000 ∧ ∀ H', Same H H' → Q (.bl (risL ns)) H'
def spMaD : Sp := fun vs H Q _ => ∃ S x d, vs = [x] ∧ IsY S H x d ∧ Sz 1000 d ∧ ∀ H', Same H H' → Q (.bl (machD d)) H'
theorem IsY.isT {S : Addr → Prop} {H : Hp} {x : V} {d : PyData} (h : IsY S H x d) : (∃ a vs ds, x = .ref a ∧ d = .tuple ds ∧ H a = some (.tup vs) ∧ IsAllY S H vs ds) ∨ (tyD d ≠ "tuple" ∧ ∀ ds, d ≠ .tuple ds) := by
  cases h with
  | tup e al => exact .inl ⟨_, _, _, rfl, rfl, e, al⟩
  | _ => exact .inr ⟨(by simp [tyD]), fun _ => (by intro z; cases z)⟩
def ltP : V × V → Bool
  | (.int a, .int b) => decide (a < b)
  | _ => false
end L2


namespace L2
open PySem PySem.Spec PyProof.Rows
structure PEw (X : Cx) (e : Expr) (t : TE) : Prop where
  h : PE X e t
structure PAw (X : Cx) (e : List Expr) (t : TA) : Prop where
  h : PA X e t
structure PTw (X : Cx) (e : Expr) (t : TT) : Prop where
  h : PT X e t
structure PWw (X : Cx) (e : Expr) (t : TT) : Prop where
  h : PW X e t
structure PSw (X : Cx) (e : Stmt) (t : TS) : Prop where
  h : PS X e t
structure PSsw (X : Cx) (e : List Stmt) (t : TS) : Prop where
  h : PSs X e t
end L2
namespace Wr
open PySem PySem.Spec PyProof.Rows L2
end Wr


namespace L2
open PySem PySem.Spec PyProof.Rows
structure TopY (mg : Str → Option Value) : Prop where
  n_any : mg "any" = none
structure TopYK (K : PySem.W.Frag) : Prop where
  k_any : PySem.W.nsIn K mainGlobals "any" = some none
theorem TopYK.top {K : PySem.W.Frag} {h : Heap} {mg : Str → Option Value} (T : TopYK K) (X : K.In h) (G : h.Ns mainGlobals mg) : TopY mg := ⟨PySem.W.mg_none_of X G T.k_any⟩
theorem range_any_getD (f : Nat → Bool) (bs : List Bool) (h : ∀ i, i < bs.length → f i = bs.getD i false) : (List.range bs.length).any f = bs.any id := by
  rw [Bool.eq_iff_iff, List.any_eq_true, List.any_eq_true]
  constructor
  · rintro ⟨i, hi, e⟩
    have hi := List.mem_range.mp hi
    rw [h i hi, List.getD_eq_getElem?_getD, List.getElem?_eq_getElem hi] at e
    exact ⟨_, List.getElem_mem hi, e⟩
  · rintro ⟨b, hb, e⟩
    obtain ⟨i, hi, e'⟩ := List.getElem_of_mem hb
    refine ⟨i, List.mem_range.mpr hi, ?_⟩
    rw [h i hi, List.getD_eq_getElem?_getD, List.getElem?_eq_getElem hi, e']
    exact e
def rAny : List V → Hp → VK → Prop := fun xs H Q => ∃ (a : Addr) (bs : List Bool), xs = [.ref a] ∧ H a = some (.lst (bs.map V.bl)) ∧ Q (.bl (bs.any id)) H
theorem call_any {X : Cx} (hc : X.calm = true) : CallR X (.builtin "any") rAny := by
  intro pins s σ H xs us Q I rs h
  obtain ⟨a, bs, rfl, ha, q⟩ := h
  obtain ⟨u, rfl, ru⟩ := vals1 rs
  cases (show u = Value.ref a from ru)
  obtain ⟨hz, its, n, rv, ho⟩ := (show ObjOk X.prog X.w H s.heap a (.lst (bs.map V.bl)) from I.hok a _ ha)
  have hl : s.heap.IsList a its.toArray := ⟨_, ho, rfl, n, rfl⟩
  have hh : X.A.in1.handled = none := I.ok.hd hc
  have hlen : its.length = bs.length := by rw [← rv.length, List.length_map]
  have hne : a ≠ s.heap.objs.size := Nat.ne_of_lt (Heap.lt_size ho)
  have hit : ∀ (i : Nat) v, its.toArray[i]? = some v → v = Value.bool (bs.getD i false) := fun i v e => by
    have e' : its[i]? = some v := by simpa using e
    have hi : i < bs.length := by rw [← hlen]; exact (List.getElem?_eq_some_iff.mp e').1
    obtain ⟨u, hu, ru⟩ := rv.get (i := i) (x := V.bl bs[i]) (by rw [List.getElem?_map, List.getElem?_eq_getElem hi]; rfl)
    rw [e'] at hu; cases hu
    cases (show v = Value.bool bs[i] from ru)
    rw [List.getD_eq_getElem?_getD, List.getElem?_eq_getElem hi]
    rfl
  refine call_any_walk (wpAny_pyIter_list hl ⟨s.heap.objs.size, _, _, _, _, _, fun i => bs.getD i false, rfl, Walks.list hh _ a hne its.toArray, ⟨⟨_, Heap.get?_push_size _ rfl, rfl, rfl⟩, hl.push _⟩, ?_, fun h' tk hk => ?_⟩)
  · intro i v s' Q' E' hP hQ
    rw [hit i v hP]
    exact wpAny_truthy_bool hQ
  · refine ⟨.bl (bs.any id), H, I.kept (t' := tk) fun b o e => hk b o ?_ (Heap.get?_push_of_some _ e), ?_, q⟩
    · exact fun hm => absurd (List.mem_singleton.mp hm) (Nat.ne_of_lt (Heap.lt_size e))
    · show Value.bool _ = Value.bool _
      have hs : its.toArray.size = bs.length := by simpa using hlen
      rw [hs, range_any_getD _ bs fun i _ => rfl]
def NoS : Addr → Prop := fun _ => False
def shD (p : Sh) : PyData := .tuple [.int p.1, .int p.2]
def rowDt (ps : List Sh) : PyData := .tuple (ps.map shD)
theorem Shr.isY {S : Addr → Prop} {H : Hp} {z : Addr} {p : Sh} (h : Shr H z p) : IsY S H (.ref z) (shD p) := .tup h (.cons (.int _) (.cons (.int _) .nil))
theorem isY_shr {S : Addr → Prop} {H : Hp} {x : V} {p : Sh} (h : IsY S H x (shD p)) : ∃ z, x = .ref z ∧ Shr H z p := by
  cases h with
  | tup e al =>
    cases al with
    | cons h1 t1 =>
      cases t1 with
      | cons h2 t2 =>
        cases t2
        cases h1
        cases h2
        exact ⟨_, rfl, e⟩
theorem shs_at {S : Addr → Prop} {H : Hp} : ∀ {vs : List V} {ps : List Sh} {i : Nat}, IsAllY S H vs (ps.map shD) → i < ps.length → ∃ z, vs[i]? = some (.ref z) ∧ Shr H z (ps.getD i (0, 1))
  | _ :: _, p :: ps, 0, .cons h _, _ => by
    obtain ⟨z, rfl, hz⟩ := isY_shr h
    exact ⟨z, rfl, hz⟩
  | _ :: _, p :: ps, i + 1, .cons _ t, hi => by
    obtain ⟨z, h1, h2⟩ := shs_at (i := i) t (by simpa using hi)
    exact ⟨z, by simpa using h1, h2⟩
  | _, [], _, _, hi => by simp at hi
theorem shs_no {S : Addr → Prop} {H : Hp} : ∀ {vs : List V} {ps : List Sh}, IsAllY S H vs (ps.map shD) → IsAllY NoS H vs (ps.map shD)
  | _, [], .nil => .nil
  | _, _ :: _, .cons h t => by
    obtain ⟨z, rfl, hz⟩ := isY_shr h
    exact .cons hz.isY (shs_no t)
theorem row_isY {S : Addr → Prop} {H : Hp} {x : V} {ps : List Sh} (h : IsY S H x (rowDt ps)) : ∃ a vs, x = .ref a ∧ H a = some (.tup vs) ∧ IsAllY NoS H vs (ps.map shD) := by
  cases h with
  | tup e al => exact ⟨_, _, rfl, e, shs_no al⟩
theorem rows_at {S : Addr → Prop} {H : Hp} : ∀ {vs : List V} {rows : List (List Sh)} {i : Nat}, IsAllY S H vs (rows.map rowDt) → i < rows.length → ∃ a ws, vs[i]? = some (.ref a) ∧ H a = some (.tup ws) ∧ IsAllY NoS H ws ((rows.getD i []).map shD)
  | _ :: _, p :: ps, 0, .cons h _, _ => by
    obtain ⟨a, ws, rfl, h1, h2⟩ := row_isY h
    exact ⟨a, ws, rfl, h1, h2⟩
  | _ :: _, p :: ps, i + 1, .cons _ t, hi => by
    obtain ⟨a, ws, h1, h2⟩ := rows_at (i := i) t (by simpa using hi)
    exact ⟨a, ws, by simpa using h1, h2⟩
  | _, [], _, _, hi => by simp at hi
def isShD : PyData → Bool
  | .tuple [.int a, .int b] => decide (1 ≤ b) && decide (gcdZ a b = 1)
  | _ => false
def toSh : PyData → Sh
  | .tuple [.int a, .int b] => (a, b)
  | _ => (0, 1)
theorem isShD_eq {d : PyData} (h : isShD d = true) : d = shD (toSh d) ∧ 0 < (toSh d).2 := by
  unfold isShD at h
  split at h
  · rename_i a b
    rw [Bool.and_eq_true, decide_eq_true_eq] at h
    exact ⟨rfl, by show (0 : Int) < b; omega⟩
  · cases h
def shsD (n : Int) : PyData → Bool
  | .tuple ds => decide ((ds.length : Int) = n) && ds.all isShD
  | _ => false
def toRow : PyData → List Sh
  | .tuple ds => ds.map toSh
  | _ => []
theorem all_shD : ∀ {ds : List PyData}, ds.all isShD = true → ds = (ds.map toSh).map shD
  | [], _ => rfl
  | d :: r, h => by
    rw [List.all_cons, Bool.and_eq_true] at h
    rw [List.map_cons, List.map_cons, ← all_shD h.2, ← (isShD_eq h.1).1]
theorem shsD_eq {n : Nat} {d : PyData} (h : shsD n d = true) : d = rowDt (toRow d) ∧ (toRow d).length = n ∧ ∀ p ∈ toRow d, 0 < p.2 := by
  unfold shsD at h
  split at h
  · rename_i ds
    rw [Bool.and_eq_true, decide_eq_true_eq] at h
    refine ⟨congrArg PyData.tuple (all_shD h.2), by show (ds.map toSh).length = n; rw [List.length_map]; omega, fun p hp => ?_⟩
    obtain ⟨d, hd, rfl⟩ := List.mem_map.mp hp
    exact (isShD_eq (List.all_eq_true.mp h.2 d hd)).2
  · cases h
def enZ (N : Nat) (row fewer : List Sh) : Bool := decide (0 ≤ (row.getD N (0, 1)).1) && !((List.range N).any fun i => ltZ (row.getD i (0, 1)) (bsZ N (i : Int) (row.getD (i + 1) (0, 1)) (fewer.getD (i + 1) (0, 1))))
def snbR (N : Nat) (rows : List (List Sh)) : Bool := !((rows.headD []).any fun p => decide (p.1 < 0)) && ((rows.zip rows.tail).all fun p => enZ N p.2 p.1)
def snbD (N h : Nat) : PyData → Bool
  | .tuple ds => decide (ds.length = h + 1) && (ds.all (shsD ((N + 1 : Nat) : Int)) && snbR N (ds.map toRow))
  | _ => false
def ShsB (d : PyData) : Prop := ∀ a b, d = .tuple [.int a, .int b] → Sm a 1000 ∧ Sm b 1000
def ThB (d : PyData) : Prop := ∀ ds, d = .tuple ds → ∀ e ∈ ds, ∀ fs, e = .tuple fs → ∀ g ∈ fs, ShsB g
def spIsSh : Sp := fun vs H Q _ => ∃ S x d, vs = [x] ∧ IsY S H x d ∧ Sz 1000 d ∧ ∀ H', Same H H' → Q (.bl (isShD d)) H'
def spShs : Sp := fun vs H Q _ => ∃ S x d n, vs = [x, .int n] ∧ IsY S H x d ∧ Sz 1000 d ∧ ∀ H', Same H H' → Q (.bl (shsD n d)) H'
def RowB (n N : Nat) (ps : List Sh) : Prop := ps.length = N + 1 ∧ ∀ p ∈ ps, ShB p n
def spEn : Sp := fun vs H Q _ => ∃ (N : Nat) (a b : Addr) (us ws : List V) (row fewer : List Sh), vs = [.int N, .ref a, .ref b] ∧ H a = some (.tup us) ∧ IsAllY NoS H us (row.map shD) ∧ H b = some (.tup ws) ∧ IsAllY NoS H ws (fewer.map shD) ∧ RowB 1000 N row ∧ RowB 1000 N fewer ∧ 0 < N ∧ N < 100 ∧ ∀ H', Same H H' → Q (.bl (enZ N row fewer)) H'
def spSnb : Sp := fun vs H Q _ => ∃ S x d N h, vs = [.int (N : Nat), .int (h : Nat), x] ∧ IsY S H x d ∧ Sz 1000 d ∧ ThB d ∧ 0 < N ∧ N < 100 ∧ h < 100 ∧ ∀ H', Same H H' → Q (.bl (snbD N h d)) H'
def spBest : Sp := fun vs H Q _ => ∃ (N i : Int) (x y : Addr) (p q : Sh), vs = [.int N, .int i, .ref x, .ref y] ∧ 0 < N ∧ N < 100 ∧ 0 ≤ i ∧ i < 100 ∧ Shr H x p ∧ Shr H y q ∧ ShB p 1000 ∧ ShB q 1000 ∧ ∀ z H', Same H H' → Shr H' z (bsZ N i p q) → Q (.ref z) H'
def spFrom : Sp := fun vs H Q _ => ∃ (i : Int) (x y : Addr) (p q : Sh), vs = [.int i, .ref x, .ref y] ∧ 0 ≤ i ∧ i < 100 ∧ Shr H x p ∧ Shr H y q ∧ ShB p 1000 ∧ ShB q 1100 ∧ ∀ z H', Same H H' → Shr H' z (frZ i p q) → Q (.ref z) H'
def spBy : Sp := fun vs H Q _ => ∃ (N i : Int) (y : Addr) (q : Sh), vs = [.int N, .int i, .ref y] ∧ 0 < N ∧ N < 100 ∧ 0 ≤ i ∧ i < 100 ∧ Shr H y q ∧ ShB q 1000 ∧ ∀ z H', Same H H' → Shr H' z (byZ N i q) → Q (.ref z) H'
def RowT (H : Hp) (a : Addr) (ps : List Sh) : Prop := ∃ us, H a = some (.tup us) ∧ IsAllY NoS H us (ps.map shD)
theorem RowT.isY {S : Addr → Prop} {H : Hp} {a : Addr} {ps : List Sh} (h : RowT H a ps) : IsY S H (.ref a) (rowDt ps) := by
  obtain ⟨us, h1, h2⟩ := h
  exact .tup h1 (h2.wide fun _ z => z.elim)
def spRow1 : Sp := fun vs H Q _ => ∃ (N : Nat) (a : Addr) (fs : List Sh), vs = [.int N, .ref a] ∧ 0 < N ∧ N < 100 ∧ RowT H a fs ∧ RowB 1000 N fs ∧ RowB 1000 N (rwZ N fs N) ∧ ∀ z H', Same H H' → RowT H' z (rwZ N fs N) → Q (.ref z) H'
def tabL (N h : Nat) : List (List Sh) := (List.range h).map (tbZ N)
def tabDt (rows : List (List Sh)) : PyData := .tuple (rows.map rowDt)
def TabT (H : Hp) (a : Addr) (rows : List (List Sh)) : Prop := ∃ us, H a = some (.tup us) ∧ IsAllY NoS H us (rows.map rowDt)
theorem TabT.isY {S : Addr → Prop} {H : Hp} {a : Addr} {rows : List (List Sh)} (h : TabT H a rows) : IsY S H (.ref a) (tabDt rows) := by
  obtain ⟨us, h1, h2⟩ := h
  exact .tup h1 (h2.wide fun _ z => z.elim)
def spTable : Sp := fun vs H Q _ => ∃ (N h : Nat), vs = [.int N, .int h] ∧ 0 < N ∧ N < 42 ∧ h < 6 ∧ ∀ z H', Same H H' → TabT H' z (tabL N (h + 1)) → Q (.ref z) H'
def spBestS : Sp := fun vs H Q _ => ∃ (N h : Nat), vs = [.int N, .int h] ∧ 0 < N ∧ N < 42 ∧ h < 6 ∧ ∀ z H', Same H H' → Shr H' z ((tbZ N h).getD 0 (0, 1)) → Q (.ref z) H'
def layZ (N : Nat) (row fewer : List Sh) : List Int := (num0 N).filter fun i => !ltZ (byZ N i (fewer.getD (i.toNat + 1) (0, 1))) (row.getD (i.toNat + 1) (0, 1))
def ruleZ (N h : Nat) : List (List Int) := (List.range h).map fun k => layZ N (tbZ N (k + 1)) (tbZ N k)
def intsD (ns : List Int) : PyData := .tuple (ns.map PyData.int)
def spLay : Sp := fun vs H Q _ => ∃ (N : Nat) (a b : Addr) (row fewer : List Sh), vs = [.int N, .ref a, .ref b] ∧ 0 < N ∧ N < 100 ∧ RowT H a row ∧ RowT H b fewer ∧ RowB 1000 N row ∧ RowB 1000 N fewer ∧ ∀ z H', Same H H' → H' z = some (.tup ((layZ N row fewer).map V.int)) → Q (.ref z) H'
def spRule : Sp := fun vs H Q _ => ∃ (N h : Nat), vs = [.int N, .int h] ∧ 0 < N ∧ N < 42 ∧ h < 6 ∧ ∀ z us H', Same H H' → H' z = some (.tup us) → IsAllY NoS H' us ((ruleZ N h).map intsD) → Q (.ref z) H'
theorem tb_row {N h : Nat} (h0 : 0 < N) (hN : N < 42) (hh : h < 6) : RowB 400 N (tbZ N h) := ⟨tbZ_len N h, fun _ hp => tb_sh h0 hN hh hp⟩
theorem RowB.mono {m n N : Nat} {ps : List Sh} (h : RowB m N ps) (k : m ≤ n) : RowB n N ps := ⟨h.1, fun p hp => (h.2 p hp).mono k⟩
theorem RowB.at {n N i : Nat} {ps : List Sh} (h : RowB n N ps) (hi : i ≤ N) : ShB (ps.getD i (0, 1)) n := by
  rw [List.getD_eq_getElem?_getD, List.getElem?_eq_getElem (by rw [h.1]; omega)]
  exact h.2 _ (List.getElem_mem _)
end L2


namespace L2
open PySem PySem.Spec PyProof.Rows
def tD3 (k1 k2 k3 : Str) (t1 t2 t3 : TE) : TE := fun σ H Q => ∀ d, H d = none → t1 σ (upd H d (.dK [])) fun v1 H1 => t2 σ H1 fun v2 H2 => t3 σ H2 fun v3 H3 => H3 d = some (.dK []) ∧ Q (.ref d) (upd H3 d (.dK [(.inr k1, v1), (.inr k2, v2), (.inr k3, v3)]))
theorem pe_dict3 {X : Cx} {pos : Pos} {k1 k2 k3 : Str} {a1 a2 a3 b1 b2 b3 : Expr} {t1 t2 t3 : TE} (n12 : k1 ≠ k2) (n13 : k1 ≠ k3) (n23 : k2 ≠ k3) (q1 : PE X a1 (tC (.str k1))) (q2 : PE X a2 (tC (.str k2))) (q3 : PE X a3 (tC (.str k3))) (p1 : PE X b1 t1) (p2 : PE X b2 t2) (p3 : PE X b3 t3) :
    PE X (.Dict [some a1, some a2, some a3] [b1, b2, b3] pos) (tD3 k1 k2 k3 t1 t2 t3) := by
  intro pins s σ H Q I h
  have hd0 : H s.heap.objs.size = none := I.hok.fresh (Nat.le_refl _)
  have h := h _ hd0
  refine wpAny_Dict_walk (knd := mixKind X.prog X.w) rfl rfl (by simp) (by show 3 ≤ 15; decide) ?_
  have I0 : Inv X pins σ (upd H s.heap.objs.size (.dK [])) { s with heap := s.heap.push { cls := .type "dict", data := .dict #[] } } := I.laid (a := s.heap.objs.size) (o := .dK []) (t' := s.toks) (fun _ _ q => Heap.get?_push_of_some _ q) (Nat.le_refl _) (dk_empty s.heap I.big)
  refine evalPairs_cons (thn (q1 pins _ σ _ (fun x H' => x = .str k1 ∧ H' = upd H s.heap.objs.size (.dK [])) I0 ⟨rfl, rfl⟩) fun u1 s1 ⟨x1, H1, I1, r1, e1, e1'⟩ => ?_)
  subst e1 e1'
  refine wpAny_bind (thn (p1 pins s1 σ _ _ I1 h) fun w1 s2 ⟨v1, H2, I2, rv1, h⟩ => wpAny_bind (wpAny_standAt (wpAny_pure ?_)))
  refine evalPairs_cons (thn (q2 pins s2 σ _ (fun x H' => x = .str k2 ∧ H' = H2) I2 ⟨rfl, rfl⟩) fun u2 s3 ⟨x2, H3, I3, r2, e2, e2'⟩ => ?_)
  subst e2 e2'
  refine wpAny_bind (thn (p2 pins s3 σ _ _ I3 h) fun w2 s4 ⟨v2, H4, I4, rv2, h⟩ => wpAny_bind (wpAny_standAt (wpAny_pure ?_)))
  refine evalPairs_cons (thn (q3 pins s4 σ _ (fun x H' => x = .str k3 ∧ H' = H4) I4 ⟨rfl, rfl⟩) fun u3 s5 ⟨x3, H5, I5, r3, e3, e3'⟩ => ?_)
  subst e3 e3'
  refine wpAny_bind (thn (p3 pins s5 σ _ _ I5 h) fun w3 s6 ⟨v3, H6, I6, rv3, hd6, h⟩ => wpAny_bind (wpAny_standAt (wpAny_pure (evalPairs_nil ?_))))
  refine ⟨[(.inr k1, w1), (.inr k2, w2), (.inr k3, w3)], ⟨kV_is (k := .inr k1) r1, rfl, kV_is (k := .inr k2) r2, rfl, kV_is (k := .inr k3) r3, rfl, trivial⟩, ?_, fun h' dd' hs => ?_⟩
  · obtain ⟨z, hd, vs, rel, dd⟩ := dk_of I6.hok hd6
    cases rel
    exact dd
  · have em : merged [] [((Sum.inr k1 : Key), w1), (.inr k2, w2), (.inr k3, w3)] = [(.inr k1, w1), (.inr k2, w2), (.inr k3, w3)] := by
      unfold merged stored
      have a12 : ¬ (Sum.inr k1 : Key) = .inr k2 := fun z => n12 (Sum.inr.inj z)
      have a13 : ¬ (Sum.inr k1 : Key) = .inr k3 := fun z => n13 (Sum.inr.inj z)
      have a23 : ¬ (Sum.inr k2 : Key) = .inr k3 := fun z => n23 (Sum.inr.inj z)
      simp [n12, n13, n23]
    rw [em] at dd'
    obtain ⟨z, hd, vs, rel, dd⟩ := dk_of I6.hok hd6
    have he : ∃ q, h'.get? s.heap.objs.size = some q := let ⟨q, _, _, hq, _⟩ := dd'; ⟨q, hq⟩
    refine ⟨.ref s.heap.objs.size, _, d_write I6 (by rw [hd6]; exact True.intro) hs he (dk_new (by show 3 ≤ sizeLine; decide) hd (.cons ⟨rfl, rv1⟩ (.cons ⟨rfl, rv2⟩ (.cons ⟨rfl, rv3⟩ .nil))) dd'), rfl, h⟩
end L2


namespace L2
open PySem PySem.Spec PyProof.Rows
def sprD (q : Addr) (s t : Int) : List (Key × V) := [(.inr "own", .ref q), (.inr "seed", .int s), (.inr "turn", .int t)]
def Spring (H : Hp) (p q : Addr) (n : Nat) : Prop := ∃ (ns : List Int) (s t : Int), H p = some (.dK (sprD q s t)) ∧ H q = some (.lst (ns.map V.int)) ∧ (∀ m ∈ ns, 0 ≤ m) ∧ ns.length ≤ 63 ∧ 0 ≤ s ∧ s < 2305843009213693951 ∧ 0 ≤ t ∧ t ≤ n
theorem Spring.same {H H' : Hp} {p q : Addr} {n : Nat} (h : Spring H p q n) (sm : Same H H') : Spring H' p q n := by
  obtain ⟨ns, s, t, h1, h2, h3⟩ := h
  exact ⟨ns, s, t, sm _ _ h1, sm _ _ h2, h3⟩
theorem Spring.more {H : Hp} {p q : Addr} {n m : Nat} (h : Spring H p q n) (l : n ≤ m) : Spring H p q m := by
  obtain ⟨ns, s, t, h1, h2, h3, h4, h5, h6, h7, h8⟩ := h
  exact ⟨ns, s, t, h1, h2, h3, h4, h5, h6, h7, by omega⟩
theorem Spring.new {H : Hp} {p q a : Addr} {n : Nat} (h : Spring H p q n) (e : H a = none) : a ≠ p ∧ a ≠ q := by
  obtain ⟨ns, s, t, h1, h2, _⟩ := h
  exact ⟨(fun z => by rw [z, h1] at e; cases e), (fun z => by rw [z, h2] at e; cases e)⟩
theorem Spring.tup_ne {H : Hp} {p q a : Addr} {n : Nat} {xs : List V} (h : Spring H p q n) (e : H a = some (.tup xs)) : a ≠ p ∧ a ≠ q := by
  obtain ⟨ns, s, t, h1, h2, _⟩ := h
  exact ⟨ne_of e h1 (by intro z; cases z), ne_of e h2 (by intro z; cases z)⟩
theorem spr_own {H : Hp} {p q : Addr} {s t : Int} (h : H p = some (.dK (sprD q s t))) : DGet H p (.str "own") (some (.ref q)) := .inl ⟨_, .inr "own", .inl h, rfl, by unfold sprD valV; rfl⟩
theorem spr_seed {H : Hp} {p q : Addr} {s t : Int} (h : H p = some (.dK (sprD q s t))) : DGet H p (.str "seed") (some (.int s)) := .inl ⟨_, .inr "seed", .inl h, rfl, by unfold sprD valV; rfl⟩
theorem spr_turn {H : Hp} {p q : Addr} {s t : Int} (h : H p = some (.dK (sprD q s t))) : DGet H p (.str "turn") (some (.int t)) := .inl ⟨_, .inr "turn", .inl h, rfl, by unfold sprD valV; rfl⟩
theorem spr_put {H : Hp} {p q : Addr} {s t u : Int} (h : H p = some (.dK (sprD q s t))) : DPut H p (.str "turn") (.int u) (upd H p (.dK (sprD q s u))) := .inl ⟨_, .inr "turn", h, rfl, by show 3 < sizeLine; decide, by congr 2⟩
def spSpring (K : PySem.W.Frag) : Sp := fun vs H Q _ => ∃ (a : Addr) (ns : List Int), vs = [.ref a] ∧ SqL K H a (ns.map V.int) ∧ ns.length ≤ 63 ∧ ∀ p q H', Same H H' → Spring H' p q 0 → H p = none → H q = none → Q (.ref p) H'
def spTakeS : Sp := fun vs H Q _ => ∃ (p q : Addr) (m : Int) (n : Nat), vs = [.ref p, .int m] ∧ 0 < m ∧ m < 1073741824 ∧ Spring H p q n ∧ n < 1000000 ∧ ∀ d H', 0 ≤ d → d < m → Spring H' p q (n + 1) → Keep p q H H' → Q (.int d) H'
theorem neNilS {H : Hp} {q e : Addr} {ns : List Int} {Q : VK} (hq : H q = some (.lst (ns.map V.int))) (he : H e = none) (h : Q (.bl (!ns.isEmpty)) (upd H e (.lst []))) : rNeD (.ref q) (.ref e) (upd H e (.lst [])) Q := by
  have hq' : (upd H e (.lst [])) q = some (.lst (ns.map V.int)) := by rw [upd_ne (ne_of_none hq he)]; exact hq
  refine ⟨_, _, .lst hq' (IsAll.ints ns), .lst (vs := []) upd_same .nil, shaped_lints ns, shaped_lints [], ?_⟩
  have : PyData.eqv (.list (ns.map PyData.int)) (.list []) = ns.isEmpty := by
    have := eqv_ints ns []
    show PyData.eqvAll (ns.map PyData.int) [] = _
    rw [show ([] : List PyData) = ([] : List Int).map PyData.int from rfl, this]
    cases ns <;> simp
  rw [this]
  exact h
end L2


namespace L2
open PySem PySem.Spec PyProof.Rows
structure ZipM (h : Heap) (z TI TO i1 i2 a b : Addr) (i : Nat) : Prop where
  z : IsZip h z TI TO .none
  ti : IsPair h TI (.ref i1) (.ref i2)
  to : ∃ x y, IsPair h TO x y
  one : h.IsTupleIter i1 a i
  two : h.IsListIter i2 b i
section
variable {prog : Program} {w : World} {A : Around} {E : Value → Shared → Prop} {s : Shared} {z TI TO i1 i2 a b : Addr} {i : Nat} {xs ys : Array Value}
abbrev zM1 (h : Heap) (l1 : Addr) : Heap := h.push { cls := .type "tuple_iterator", data := .fields #[.ref l1, .int 0 0] }
abbrev zM2 (h : Heap) (l1 l2 : Addr) : Heap := (zM1 h l1).push { cls := .type "list_iterator", data := .fields #[.ref l2, .int 0 0] }
abbrev zM3 (h : Heap) (l1 l2 : Addr) : Heap := (zM2 h l1 l2).push { cls := .type "tuple", data := .seq #[.ref h.objs.size, .ref (zM1 h l1).objs.size] }
abbrev zM4 (h : Heap) (l1 l2 : Addr) : Heap := (zM3 h l1 l2).push { cls := .type "tuple", data := .seq #[.none, .none] }
abbrev zM5 (h : Heap) (l1 l2 : Addr) : Heap := (zM4 h l1 l2).push { cls := .type "zip", data := .fields #[.none, .bool false, .bool false, .ref (zM2 h l1 l2).objs.size, .ref (zM3 h l1 l2).objs.size] }
end

def Itm (K : PySem.W.Frag) (a b : Addr) : It :=
  ⟨fun i H => ∃ xs ys x y, SqT K H a xs ∧ SqL K H b ys ∧ xs[i]? = some x ∧ ys[i]? = some y, fun i H v H' => ∃ t x y, H t = none ∧ v = .ref t ∧ H' = upd H t (.tup [x, y]) ∧ ∀ xs ys, SqT K H a xs → SqL K H b ys → xs[i]? = some x ∧ ys[i]? = some y,
    fun i H => ∃ xs ys, SqT K H a xs ∧ SqL K H b ys ∧ (xs[i]? = none ∨ ys[i]? = none)⟩
section
variable {X : Cx}
def iZipM (K : PySem.W.Frag) (ta : TA) : TI := fun σ H R => ta σ H fun vs H1 => ∃ a b, vs = [.ref a, .ref b] ∧ (∃ xs, SqT K H1 a xs) ∧ (∃ ys, SqL K H1 b ys) ∧ R (Itm K a b) H1
end
end L2


namespace L2
open PySem PySem.Spec PyProof.Rows
theorem noFill_tuple_mul : fillsNumberSlot (.type "tuple") "mul" = pure false :=
  PySem.fillsNumberSlot_seq (id := "tuple.__mul__") (r := some (.builtin "tuple.__rmul__")) PySem.F.slot_tuple_mul.lookup (by decide +kernel) PySem.F.slot_tuple_rmul.lookup (by decide +kernel)
theorem repeat_tuple : seqRepeat? (.type "tuple") = pure (some (.builtin "tuple.__mul__")) := by
  unfold seqRepeat?
  rw [PySem.seqSlot_of (T := "tuple") (name := "__mul__") (id := "tuple.__mul__") PySem.F.slot_tuple_mul.lookup (by decide +kernel), PySem.seqSlot_of (T := "tuple") (name := "__rmul__") (id := "tuple.__rmul__") PySem.F.slot_tuple_rmul.lookup (by decide +kernel)]
  rfl
theorem int_rmul_tuple (a : Int) (t : Tok) (l : Addr) (items : Array Value) (n : Nat) (dd : Option Addr) (sl : Array (Option Value)) :
    Meets (Builtin.«int.__rmul__» ⟨[.int a t, .ref l], []⟩) (fun _ R s => s.heap.get? l = some { cls := .type "tuple", dict := dd, data := .seq items n, slots := sl } ∧ R (.ok (.ret Value.notImplemented)) s) :=
  .of_wp fun prog w A R s h => by obtain ⟨hp, g, d, tk, os⟩ := s; obtain ⟨hl, h⟩ := h; wp_walk; exact ⟨_, rfl, h⟩
theorem tuple_mulW1 (l : Addr) (x : Value) (n : Nat) (dd : Option Addr) (sl : Array (Option Value)) (u : Tok) :
    Meets (Builtin.«tuple.__mul__» ⟨[.ref l, .int 1 u], []⟩) (fun _ R s => s.heap.get? l = some { cls := .type "tuple", dict := dd, data := .seq #[x] n, slots := sl } ∧ R (.ok (.ret (.ref l))) s) :=
  .of_wp fun prog w A R s h => by obtain ⟨hp, g, d, tk, os⟩ := s; obtain ⟨hl, h⟩ := h; have f1 := AutoSeq1.idx_int; have f2 := AutoSeq1.sub_tuple_tuple; wp_walk using wpAny_loadPart' hl; exact ⟨_, rfl, h⟩
theorem tuple_mulW0 (l : Addr) (x : Value) (n : Nat) (dd : Option Addr) (sl : Array (Option Value)) (u : Tok) :
    Meets (Builtin.«tuple.__mul__» ⟨[.ref l, .int 0 u], []⟩) (fun _ R s => s.heap.get? l = some { cls := .type "tuple", dict := dd, data := .seq #[x] n, slots := sl } ∧ R (.ok (.ret (.ref s.heap.objs.size))) { s with heap := s.heap.push { cls := Value.type "tuple", data := Data.seq #[] }, toks := s.toks }) :=
  .of_wp fun prog w A R s h => by obtain ⟨hp, g, d, tk, os⟩ := s; obtain ⟨hl, h⟩ := h; have f1 := AutoSeq1.idx_int; have f2 := AutoSeq1.sub_tuple_tuple; wp_walk using wpAny_loadPart' hl; exact ⟨_, rfl, h⟩
theorem tuple_mulW2 (l : Addr) (x : Value) (n : Nat) (dd : Option Addr) (sl : Array (Option Value)) (k : Int) (u : Tok) (h2 : 2 ≤ k) (h3 : k ≤ 1000) :
    Meets (Builtin.«tuple.__mul__» ⟨[.ref l, .int k u], []⟩) (fun _ R s => s.heap.get? l = some { cls := .type "tuple", dict := dd, data := .seq #[x] n, slots := sl } ∧ R (.ok (.ret (.ref s.heap.objs.size))) { s with heap := s.heap.push { cls := Value.type "tuple", data := Data.seq (List.foldl (fun x1 x2 => x1 ++ x2) #[] (List.replicate k.toNat #[x])) }, toks := s.toks }) :=
  .of_wp fun prog w A R s h => by
    obtain ⟨hp, g, d, tk, os⟩ := s; obtain ⟨hl, h⟩ := h
    have f1 := AutoSeq1.idx_int; have f2 := AutoSeq1.sub_tuple_tuple
    have c0 : ¬ (decide (k < -(2 ^ 63)) || decide (k ≥ 2 ^ 63)) = true := by simp; omega
    have c1 : ¬ ((#[x] : Array Value).isEmpty || k == 1) = true := by simp; omega
    have c2 : ¬ (decide (k ≤ 0) || (#[x] : Array Value).isEmpty) = true := by simp; omega
    have c3 : ¬ (((#[x] : Array Value).size : Int) * k > (2 ^ 63 - 1) / 8) := by simp; omega
    have c4 : ¬ Builtin.Tuple.tupleTooMany (((#[x] : Array Value).size : Int) * k) = true := by simp [Builtin.Tuple.tupleTooMany, sizeLine]; omega
    have c5 : ¬ (List.foldl (fun x1 x2 => x1 ++ x2) #[] (List.replicate k.toNat (#[x] : Array Value))).size > sizeLine := by
      have f0 : ∀ (m : Nat) (b : Array Value), (List.foldl (fun x1 x2 => x1 ++ x2) b (List.replicate m (#[x] : Array Value))).size = b.size + m := by
        intro m
        induction m with
        | zero => intro b; simp
        | succ m ih => intro b; rw [List.replicate_succ, List.foldl_cons, ih]; simp; omega
      rw [f0]
      have : (1000 : Nat) ≤ sizeLine := by decide
      simp
      omega
    wp_walk using wpAny_loadPart' hl
    rw [if_neg c0]
    wp_walk using wpAny_loadPart' hl
    rw [if_neg c1]
    wp_walk using wpAny_loadPart' hl
    rw [if_neg c2]
    wp_walk using wpAny_loadPart' hl
    rw [if_neg c3]
    wp_walk using wpAny_loadPart' hl
    rw [if_neg c4]
    wp_walk using wpAny_loadPart' hl
    exact ⟨_, rfl, h⟩
def rRepT : R2 := fun x y H Q => ∃ l k v, x = .ref l ∧ y = .int k ∧ H l = some (.tup [v]) ∧ 0 ≤ k ∧ k ≤ 1000 ∧ ∀ p H', Same H H' → H' p = some (.tup (List.replicate k.toNat v)) → Q (.ref p) H'
theorem vals_rep {v : V} {u : Value} (r : RelV v u) : ∀ k : Nat, Vals (List.replicate k v) (List.replicate k u)
  | 0 => .nil
  | k + 1 => .cons r (vals_rep r k)
theorem foldl_one (u : Value) : ∀ (m : Nat) (b : List Value), List.foldl (fun x1 x2 => x1 ++ x2) b.toArray (List.replicate m (#[u] : Array Value)) = (b ++ List.replicate m u).toArray
  | 0, b => by simp
  | m + 1, b => by
    rw [List.replicate_succ, List.foldl_cons, show b.toArray ++ #[u] = (b ++ [u]).toArray by simp, foldl_one u m]
    simp [List.replicate_succ]
theorem op_repT {X : Cx} : OpR X (binaryOp .Mult) rRepT := by
  intro pins s σ H x y v u Q I rx ry h
  obtain ⟨l, k, w, rfl, rfl, hH, k0, k1, q⟩ := h
  cases rx
  obtain ⟨t, rfl⟩ := ry
  obtain ⟨its, r, p1, _⟩ := I.tuple (SqT.of hH)
  obtain ⟨c, rfl, rc⟩ := vals1 r
  obtain ⟨⟨cls, dd, data, sl⟩, ho, hc, n, hd⟩ := id p1
  simp only at hc hd
  subst hc hd
  refine wpAny_binaryOp_repeat_ref (T := "tuple") (U := "int") (by decide) ⟨_, ho, rfl⟩ (fun s' => typeIs_int s' k t) noFill_tuple_mul PySem.F.fills_int_mul PySem.F.slot_int_rmul repeat_tuple PySem.F.slot_int_index.lookup
    (call_meets PySem.F.slot_int_rmul (typeIs_int s k t) PySem.F.entry_int_rmul (PySem.F.args_int_rmul_2 _ _) (int_rmul_tuple k t l _ n dd sl) ⟨ho, rfl, ⟨_, ho, rfl⟩, ?_⟩)
  have new : ∀ ys : List Value, Vals (List.replicate k.toNat w) ys → EP X pins σ Q (.ref s.heap.objs.size) { s with heap := s.heap.push { cls := Value.type "tuple", data := Data.seq ys.toArray }, toks := s.toks } := fun ys hv => by
    refine ⟨.ref s.heap.objs.size, _, I.laid (t' := s.toks) (o := .tup (List.replicate k.toNat w)) (fun b ob q => Heap.get?_push_of_some _ q) (Nat.le_refl _) ?_, rfl, q _ _ (same_upd (I.hok.fresh (Nat.le_refl _))) upd_same⟩
    exact ⟨by rw [List.length_replicate]; exact Nat.le_trans (show k.toNat ≤ 1000 by omega) (by decide), _, hv, PTup.new⟩
  obtain h0 | h0 | h0 : k = 0 ∨ k = 1 ∨ 2 ≤ k := by omega
  · subst h0
    exact call_meets PySem.F.slot_tuple_mul ⟨_, ho, rfl⟩ PySem.F.entry_tuple_mul (PySem.F.args_tuple_mul_2 _ _) (tuple_mulW0 l c n dd sl t) ⟨ho, new [] .nil⟩
  · subst h0
    exact call_meets PySem.F.slot_tuple_mul ⟨_, ho, rfl⟩ PySem.F.entry_tuple_mul (PySem.F.args_tuple_mul_2 _ _) (tuple_mulW1 l c n dd sl t) ⟨ho, ⟨.ref l, H, I, rfl, q l H (Same.refl H) hH⟩⟩
  · refine call_meets PySem.F.slot_tuple_mul ⟨_, ho, rfl⟩ PySem.F.entry_tuple_mul (PySem.F.args_tuple_mul_2 _ _) (tuple_mulW2 l c n dd sl k t h0 k1) ⟨ho, ?_⟩
    have e := foldl_one c k.toNat []
    rw [List.nil_append] at e
    rw [show (#[] : Array Value) = ([] : List Value).toArray from rfl, e]
    exact new _ (vals_rep rc k.toNat)
end L2


namespace L2
open PySem PySem.Spec PyProof.Rows
theorem lc_growP {K : PySem.W.Frag} {J : It} {Ok : Hp → Prop} {xs : List V} {te : TE} {ix : List Nat} {σ : L2.St} {H1 : Hp} {Q : VK} (Y : Yields J Ok xs) (small : xs.length < sizeLine) (R : V → V → Hp → Prop) (hR : ∀ x v H H', SameT H H' → R x v H → R x v H') (hok : ∀ H, Same H1 H → Ok H)
    (hp : ∀ x ∈ xs, ∃ (a : Addr) (u v : V), x = .ref a ∧ H1 a = some (.tup [u, v]))
    (he : ∀ x ∈ xs, ∀ (a : Addr) (u v : V), x = .ref a → H1 a = some (.tup [u, v]) → ∀ H, Same H1 H → ∀ Q' : VK, (∀ w H', Same H H' → R x w H' → Q' w H') → te (some u :: some v :: ix.map fun i => σ.getD i none) H Q')
    (fin : ∀ acc ys H', H1 acc = none → Same H1 H' → H' acc = some (.lst ys) → Paired (fun x v => R x v H') xs ys → Q (.ref acc) H') :
    LcW J H1 (gTup K 2 (gCons (gName 0) (gCons (gName 1) gNil))) tNoTest te 2 ix σ Q := by
  intro acc ha
  refine ⟨fun i m H => m = xs.length - i ∧ i ≤ xs.length ∧ Same H1 H ∧ ∃ ys, H acc = some (.lst ys) ∧ Paired (fun x v => R x v H) (xs.take i) ys, ⟨xs.length, by simp, Nat.zero_le _, same_upd ha, [], upd_same, .nil⟩, ?_⟩
  rintro i m H ⟨rfl, hi, sm, ys, hacc, pr⟩
  have o := hok _ sm
  have hlen : ys.length = i := by rw [← Paired.length pr, List.length_take]; omega
  by_cases hlt : i < xs.length
  · refine .inr ⟨Y.go i _ o hlt, fun x H' y => ?_⟩
    obtain ⟨rfl, hx⟩ := Y.yld i _ x H' o hlt y
    have hmem : x ∈ xs := List.mem_of_getElem? hx
    have htk : xs.take (i + 1) = xs.take i ++ [x] := by
      rw [List.take_succ, hx]; rfl
    obtain ⟨a, u, v, rfl, hav⟩ := hp x hmem
    refine ⟨a, _, rfl, SqT.of (sm _ _ hav), rfl, u, _, rfl, v, _, rfl, rfl, ⟨rfl, fun j v e => ?_⟩, ?_⟩
    · match j, e with
      | 0, e => cases e
      | 1, e => cases e
      | j + 2, e => exact e
    · unfold tNoTest
      dsimp only
      rw [if_pos rfl]
      refine he _ hmem a u v rfl hav _ sm _ fun w H4 s4 r4 => ?_
      have h4 : H4 acc = some (.lst ys) := s4 _ _ hacc
      refine ⟨ys, h4, by omega, xs.length - (i + 1), by omega, rfl, hlt, same_updR (sm.trans s4) ha, ys ++ [w], upd_same, ?_⟩
      rw [htk]
      have st : SameT H4 (upd H4 acc (.lst (ys ++ [w]))) := sameT_lst h4
      exact Paired.snoc (Paired.mapP pr fun x' v' r' => hR _ _ _ _ (s4.t.trans st) r') (hR _ _ _ _ st r4)
  · have e : i = xs.length := by omega
    subst e
    refine .inl ⟨Y.stop _ o, ?_⟩
    rw [List.take_length] at pr
    exact fin acc ys H ha sm hacc pr
end L2


namespace L2
open PySem PySem.Spec PyProof.Rows
def waysZ (S : Int) (m : Nat) : List Int := [2 ^ m / S, 2 ^ m % S]
def spWays : Sp := fun vs H Q _ => ∃ (S : Int) (m : Nat), vs = [.int S, .int m] ∧ 1 ≤ S ∧ S < 10000000000000000000000000000000000000000 ∧ m ≤ 1000 ∧ ∀ z H', Same H H' → H' z = some (.tup ((waysZ S m).map V.int)) → Q (.ref z) H'
def bitsZ (m : Nat) (n : Int) : List Int := (num0 m).map fun p => Builtin.bitAnd (n / 2 ^ p.toNat) 1
def atD (S : Int) : Option (Int × Nat) → Int
  | none => S
  | some (v, _) => v
def goneZ (S : Int) (m : Nat) : Nat → List Int
  | 0 => List.replicate (S.toNat + 1) 0
  | i + 1 => (goneZ S m i).set (atD S (dieR S (bitsZ m i))).toNat ((goneZ S m i).getD (atD S (dieR S (bitsZ m i))).toNat 0 + 1)
def spGone : Sp := fun vs H Q _ => ∃ (S : Int) (m : Nat), vs = [.int S, .int m] ∧ 1 ≤ S ∧ S ≤ 100 ∧ m ≤ 10 ∧ ∀ z H', Same H H' → H' z = some (.lst ((goneZ S m (2 ^ m)).map V.int)) → Q (.ref z) H'
end L2


namespace L2
open PySem PySem.Spec PyProof.Rows
def Itd (hi : Int) (n : Nat) : It := ⟨fun i _ => i < n, fun i H x H' => H' = H ∧ x = .int (hi - i), fun i _ => n ≤ i⟩
theorem turn_down {P : Program} {w : World} {K : PySem.W.Frag} {tg : Expr} (it : Addr) (hi : Int) (n : Nat) : Turn P w K tg (Itd hi n) [it] it (fun i h => IsRangeIter h it (hi + (i : Nat) * (-1)) ((n : Int) - (i : Nat)) (-1)) where
  mem := by simp
  obj := fun i h st b hb => by
    have e : b = it := by simpa using hb
    subst e
    exact ⟨_, st, fun v z => by
      have z' : Data.fields _ = Data.cell v := z
      cases z'⟩
  keep := fun i h h' st k => k it (by simp) _ st
  item := by
    intro X hP hw hK hc i pins s σ H E I hf st hg
    subst hP hw hK
    obtain ⟨f0, f1, f2, f3, f4, f5⟩ := hf it (by simp)
    have W := Walks.range (prog := X.prog) (w := X.w) (I.ok.hd hc) it hi (-1) n
    refine W.item i s _ _ hg st fun v h' tk hv st' kk => ?_
    obtain ⟨t, rfl⟩ := hv
    have I1 : Inv X pins σ H { s with heap := h', toks := tk } := I.turned (fun b o hb e => kk b o (by simpa using hb) e) f0 f1 f3 f4 f5
    refine ⟨_, rfl, go_of (s := { s with heap := h', toks := tk }) (n := "range_iterator") st' rfl rfl (by decide) ⟨.int (hi - i), H, I1, ⟨t, ?_⟩, ⟨rfl, rfl⟩, st', fun b hb => (hf b hb).1⟩⟩
    rw [Int.mul_neg, Int.mul_one]
    rfl
  done := by
    intro X hP hw hK hc i pins s σ H E I hf st hg
    subst hP hw hK
    obtain ⟨f0, f1, f2, f3, f4, f5⟩ := hf it (by simp)
    exact wpAny_pyNext_range_end (I.ok.hd hc) st (by have : n ≤ i := hg; omega) fun h' eb => ⟨rfl, I.turned (t' := s.toks) (fun b o hb e => eb b o hb e) f0 f1 f3 f4 f5⟩
  self := fun _ _ _ _ _ st h => wpAny_pyIter_rangeiter st h
section
variable {X : Cx} {tg : Expr}
theorem size_down (a b : Int) : Builtin.Range.rangeSize a b (-1) = (((a - b).toNat : Nat) : Int) := by
  unfold Builtin.Range.rangeSize
  rw [if_neg (by decide)]
  split
  · rw [show (-(-1 : Int)) = 1 from rfl, Int.ediv_one]; omega
  · omega
theorem range_itd {pins : List (Addr × Obj)} {σ : St} {H : Hp} {s : Shared} {R : It → Hp → Prop} {E : Value → Shared → Prop} {lo hi : Int} {t u v : Tok} {tk : Nat} (I : Inv X pins σ H s) (h1 : -(2 ^ 62) ≤ lo) (h2 : lo < 2 ^ 62) (h3 : -(2 ^ 62) ≤ hi) (h4 : hi < 2 ^ 62)
    (q : R (Itd hi (hi - lo).toNat) H) : wpAny (model X.prog X.w) X.A (pyIter (.ref s.heap.objs.size)) (PIE X pins σ tg R) E { s with heap := s.heap.push { cls := .type "range", data := .fields #[.int hi t, .int lo u, .int (-1) v] }, toks := tk } := by
  refine wpAny_pyIter_range (IsRange.new ..) (PySem.W.small_down h3 h4 h1 h2) ?_
  have I1 : Inv X pins σ H { s with heap := s.heap.push { cls := .type "range", data := .fields #[.int hi t, .int lo u, .int (-1) v] }, toks := tk } := I.kept fun b o e => Heap.get?_push_of_some _ e
  refine ⟨(s.heap.push { cls := .type "range", data := .fields #[.int hi t, .int lo u, .int (-1) v] }).objs.size, [(s.heap.push { cls := .type "range", data := .fields #[.int hi t, .int lo u, .int (-1) v] }).objs.size], _, _, H, rfl,
    I1.kept (t' := tk) fun b o e => Heap.get?_push_of_some _ e, turn_down _ hi (hi - lo).toNat, ?_, fun b hb => ?_, q⟩
  · have e1 : hi + ((0 : Nat) : Int) * (-1) = hi := by simp
    have e2 : (((hi - lo).toNat : Nat) : Int) - ((0 : Nat) : Int) = Builtin.Range.rangeSize hi lo (-1) := by rw [size_down]; omega
    show IsRangeIter _ _ (hi + ((0 : Nat) : Int) * (-1)) ((((hi - lo).toNat : Nat) : Int) - ((0 : Nat) : Int)) (-1)
    rw [e1, e2]
    exact Heap.get?_push_size _ rfl
  · have e : b = (s.heap.push { cls := .type "range", data := .fields #[.int hi t, .int lo u, .int (-1) v] }).objs.size := by simpa using hb
    subst e
    exact I1.fpOk (Nat.le_refl _) (I1.hok.fresh (Nat.le_refl _))
def iRngD (ta : TA) : TI := fun σ H R => ta σ H fun vs H1 => ∃ i j : Int, vs = [.int i, .int j, .int (-1)] ∧ (-(2 ^ 62) ≤ i ∧ i < 2 ^ 62 ∧ -(2 ^ 62) ≤ j ∧ j < 2 ^ 62) ∧ R (Itd i (i - j).toNat) H1
theorem pi_rangeD {a b c : Expr} {ta : TA} {p pos : Pos} (hg : Gl X "range") (hm : X.mg "range" = none) (ha : PA X [a, b, c] ta) (hs : starEach [a, b, c] X.env = [(false, eval a X.env), (false, eval b X.env), (false, eval c X.env)] := by rfl) (hs2 : starEach [b, c] X.env = [(false, eval b X.env), (false, eval c X.env)] := by rfl) :
    PI X tg (.Call (.Name "range" p) [a, b, c] [] pos) (iRngD ta) := by
  intro pins s σ H R I h
  refine Call_ (ld_blt I hg hm boot_range (PyProof.Rows.callWith_type1 (thn (ha pos pins s σ H _ I h) fun us s1 ⟨vs, H1, I1, r1, q1⟩ => ?_) (by rw [hs, hs2]) (by rw [hs2]; rfl)))
  obtain ⟨i, j, e, ⟨q1, q2, q3, q4⟩, q⟩ := q1
  subst e
  cases r1 with
  | cons r rr =>
    cases rr with
    | cons r' rr =>
      cases rr with
      | cons r'' rr =>
        cases rr
        obtain ⟨t, rfl⟩ := r
        obtain ⟨t', rfl⟩ := r'
        obtain ⟨t'', rfl⟩ := r''
        exact call_range_3 (by decide) (range_itd I1 q3 q4 q1 q2 q) (.inl (PyProof.noPylong_small (by decide)))
end
theorem for_down {hi : Int} {n : Nat} {g : TG} {tb : TS} {D : Ends} {σ : L2.St} {H : Hp} (Pv : Nat → L2.St → Hp → Prop) (h0 : Pv 0 σ H)
    (hs : ∀ i σ H, i < n → Pv i σ H → g (.int (hi - i)) σ H fun σ2 H2 => tb { D with nx := Pv (i + 1), ct := Pv (i + 1), bk := D.nx } σ2 H2) (hd : ∀ σ H, Pv n σ H → D.nx σ H) :
    ∃ W : Nat → Nat → L2.St → Hp → Prop, (∃ m, W 0 m σ H) ∧ ∀ i m σ H, W i m σ H →
      ((Itd hi n).stop i H ∧ D.nx σ H) ∨ ((Itd hi n).go i H ∧ ∃ N : L2.St → Hp → Prop, (∀ σ' H', N σ' H' → ∃ m', m' < m ∧ W (i + 1) m' σ' H') ∧ ∀ x H', (Itd hi n).yld i H x H' → g x σ H' fun σ2 H2 => tb { D with nx := N, ct := N, bk := D.nx } σ2 H2) := by
  refine ⟨fun i m σ H => m = n - i ∧ i ≤ n ∧ Pv i σ H, ⟨n, by simp, Nat.zero_le _, h0⟩, ?_⟩
  rintro i m σ H ⟨rfl, hi', p⟩
  by_cases hlt : i < n
  · refine .inr ⟨hlt, Pv (i + 1), fun σ' H' p' => ⟨n - (i + 1), by omega, rfl, hlt, p'⟩, fun x H' y => ?_⟩
    obtain ⟨e, y⟩ := y
    subst e y
    exact hs i σ _ hlt p
  · have e : i = n := by omega
    subst e
    exact .inl ⟨Nat.le_refl _, hd σ H p⟩
section
variable {X : Cx}
def rLIndex : V → List V → Hp → VK → Prop := fun x vs H Q => ∃ (a : Addr) (ns : List Int) (n : Int), x = .ref a ∧ vs = [.int n] ∧ H a = some (.lst (ns.map V.int)) ∧ n ∈ ns ∧ ns.length ≤ 100000 ∧ Q (.int (ns.idxOf n)) H
end
end L2


namespace L2
open PySem PySem.Spec PyProof.Rows
def zscopeB (sc : Scope) (N : List Str) (scope : Scope) (N' : List Str) (n : Nat) (ix : List Nat) (z : Str) : Bool :=
  scope.kind == .function && scope.names.all (fun y => y.2 != .cell || y.1 == z) && scope.names.all (fun y => y.2 != .free || y.1 != z) && scope.names.all (fun y => y.2 != .local || scope.names.lookup y.1 == some .local) &&
  scope.names.all (fun y => y.2 != .free || (sc.names.lookup y.1 == some .cell || sc.names.lookup y.1 == some .free)) && scope.names.all (fun y => y.2 != .free || scope.names.lookup y.1 != some .local) &&
  N'.length == n + ix.length && (List.range ix.length).all fun j => match ix[j]?, N'[n + j]? with
    | some i, some x => N[i]? == some x && scope.names.contains (x, .free)
    | _, _ => false
theorem CompScopeZ.of {X : Cx} {sc : Scope} {N : List Str} {scope : Scope} {N' : List Str} {n : Nat} {ix : List Nat} {z : Str} (h : zscopeB sc N scope N' n ix z = true) (hs : X.env.scope = sc) (hN : X.N = N) (hcf : ∀ (a : Addr) (cl : List (Str × Addr)), cellsFrom a scope.names cl = (z, a) :: cl)
    (hpc : ∀ h : Heap, pushCells h scope.names = h.push { cls := .type "cell", data := .cell none }) : CompScopeZ X scope N' n ix z := by
  unfold zscopeB at h
  simp only [Bool.and_eq_true, List.all_eq_true] at h
  obtain ⟨⟨⟨⟨⟨⟨⟨h1, h2⟩, h2'⟩, h3⟩, h4⟩, h5⟩, h6⟩, h7⟩ := h
  subst hs hN
  refine ⟨eq_of_beq h1, fun y hy hc => ?_, fun y hy => ?_, hcf, hpc, fun y hy hl => ?_, fun y hy hf => ?_, fun y hy hl => ?_, eq_of_beq h6, fun j i e => ?_⟩
  · have := h2 y hy
    rw [hc] at this
    simpa using this
  · have := h2' _ hy
    simpa using this
  · have := h3 y hy
    rw [hl] at this
    simpa using this
  · have := h4 y hy
    rw [hf] at this
    simpa using this
  · have := h5 _ hy
    rw [hl] at this
    simp at this
  · have hj : j < ix.length := (List.getElem?_eq_some_iff.mp e).1
    have := h7 j (List.mem_range.mpr hj)
    rw [e] at this
    cases hx : N'[n + j]? with
    | none => rw [hx] at this; simp at this
    | some x =>
      rw [hx] at this
      simp only [Bool.and_eq_true] at this
      exact ⟨x, rfl, eq_of_beq this.1, by simpa using this.2⟩
theorem call_len_seqK {X : Cx} (K : PySem.W.Frag) (hK : X.K = K) : CallR X (.builtin "len") (fun xs H Q => ∃ p ys, xs = [.ref p] ∧ (SqL K H p ys ∨ SqT K H p ys) ∧ Q (.int ys.length) H) := hK ▸ call_len_seq
theorem piK_tup {X : Cx} {tg l : Expr} {tl : TE} (K : PySem.W.Frag) (hK : X.K = K) (hl : PE X l tl) : PI X tg l (iTup K tl) := hK ▸ pi_tup hl
theorem lc_growTF {J : It} {Ok : Hp → Prop} {xs : List V} {tt : TT} {te : TE} {ix : List Nat} {σ : L2.St} {H1 : Hp} {Q : VK} (Y : Yields J Ok xs) (small : xs.length < sizeLine) (p : V → Bool) (R : V → V → Hp → Prop) (hR : ∀ x v H H', SameT H H' → R x v H → R x v H') (hok : ∀ H, Same H1 H → Ok H)
    (ht : ∀ x ∈ xs, ∀ H, Same H1 H → ∀ Q' : Bool → Hp → Prop, (∀ H', Same H H' → Q' (p x) H') → tt (some x :: ix.map fun i => σ.getD i none) H Q')
    (he : ∀ x ∈ xs, p x = true → ∀ H, Same H1 H → ∀ Q' : VK, (∀ v H', Same H H' → R x v H' → Q' v H') → te (some x :: ix.map fun i => σ.getD i none) H Q')
    (fin : ∀ acc ys H', H1 acc = none → Same H1 H' → H' acc = some (.lst ys) → Paired (fun x v => R x v H') (xs.filter p) ys → Q (.ref acc) H') :
    LcW J H1 (gName 0) tt te 1 ix σ Q := by
  intro acc ha
  refine ⟨fun i m H => m = xs.length - i ∧ i ≤ xs.length ∧ Same H1 H ∧ ∃ ys, H acc = some (.lst ys) ∧ Paired (fun x v => R x v H) ((xs.take i).filter p) ys, ⟨xs.length, by simp, Nat.zero_le _, same_upd ha, [], upd_same, .nil⟩, ?_⟩
  rintro i m H ⟨rfl, hi, sm, ys, hacc, pr⟩
  have o := hok _ sm
  have hlen : ys.length ≤ i := by
    rw [← Paired.length pr]
    exact Nat.le_trans (List.length_filter_le _ _) (by rw [List.length_take]; omega)
  by_cases hlt : i < xs.length
  · refine .inr ⟨Y.go i _ o hlt, fun x H' y => ?_⟩
    obtain ⟨rfl, hx⟩ := Y.yld i _ x H' o hlt y
    have hmem : x ∈ xs := List.mem_of_getElem? hx
    have htk : xs.take (i + 1) = xs.take i ++ [x] := by
      rw [List.take_succ, hx]; rfl
    refine ⟨⟨rfl, fun j v e => ?_⟩, ?_⟩
    · cases j with
      | zero => cases e
      | succ j => exact e
    · refine ht x hmem _ sm _ fun H3 s3 => ?_
      have sm := sm.trans s3
      have hacc := s3 _ _ hacc
      have pr := Paired.mapP pr fun x' v' r' => hR _ _ _ _ s3.t r'
      cases hp : p x with
      | false =>
        rw [if_neg Bool.false_ne_true]
        refine ⟨xs.length - (i + 1), by omega, rfl, hlt, sm, ys, hacc, ?_⟩
        rw [htk, List.filter_append]
        simpa [hp] using pr
      | true =>
        rw [if_pos rfl]
        refine he x hmem hp _ sm _ fun v H4 s4 r4 => ?_
        have h4 : H4 acc = some (.lst ys) := s4 _ _ hacc
        refine ⟨ys, h4, by omega, xs.length - (i + 1), by omega, rfl, hlt, same_updR (sm.trans s4) ha, ys ++ [v], upd_same, ?_⟩
        have st : SameT H4 (upd H4 acc (.lst (ys ++ [v]))) := sameT_lst h4
        rw [htk, List.filter_append, show [x].filter p = [x] by simp [hp]]
        exact Paired.snoc (Paired.mapP pr fun x' v' r' => hR _ _ _ _ (s4.t.trans st) r') (hR _ _ _ _ st r4)
  · have e : i = xs.length := by omega
    subst e
    refine .inl ⟨Y.stop _ o, ?_⟩
    rw [List.take_length] at pr
    exact fin acc ys H ha sm hacc pr
def insZ (o : List Int) (k : Nat) (i : Nat) : List Int := o.take i ++ [(k : Int)] ++ o.drop i
def insR (k : Nat) (o : List Int) : List (List Int) := (List.range (k + 1)).map (insZ o k)
def allI : Nat → List (List Int)
  | 0 => [[]]
  | k + 1 => (allI k).flatMap (insR k)
def rndF (o : List Int) (k : Int) : Nat → Int → List Int → Option (List Int)
  | 0, _, _ => none
  | f + 1, x, acc => if x = k then some acc else if 0 ≤ x ∧ x < o.length then rndF o k f (o.getD x.toNat 0) (acc ++ [x]) else none
def rndZ (o : List Int) (k : Int) : Option (List Int) := rndF o k 10 (o.getD k.toNat 0) [k]
def hasZ (kind : Str) (p : List Int) (o : List Int) : Bool :=
  let k := p.getD 0 0
  if kind = "rounds" then ((rndZ o k).getD []).all fun y => decide (y ≤ k)
  else if kind = "stays" then decide (o.getD k.toNat 0 = k)
  else if kind = "rises" then decide (o.getD k.toNat 0 < o.getD (k.toNat + 1) 0)
  else if kind = "highs" then (o.take (k.toNat + 1)).all fun y => decide (y ≤ o.getD k.toNat 0)
  else decide (o.getD (p.getD 1 0).toNat 0 < o.getD k.toNat 0)
def PartOk (kind : Str) (p : List Int) (n : Nat) : Prop := (∃ k : Nat, p.getD 0 0 = (k : Int) ∧ 0 < p.length ∧ k < n ∧ (kind = "rises" → k + 1 < n)) ∧ (kind = "crossed" → ∃ j : Nat, p.getD 1 0 = (j : Int) ∧ 1 < p.length ∧ j < n)
def totZ (kind : Str) (n : Nat) : Int := ((partsZ kind n).map fun p => (((allI n).filter (hasZ kind p)).length : Int)).sum
def meanA (kind : Str) (N : Int) : Int × Int := if kind = "rounds" ∨ kind = "highs" then hmZ N.toNat else if kind = "stays" then (if 0 < N then (1, 1) else (0, 1)) else mnZ kind N
def spAllI : Sp := fun vs H Q _ => ∃ n : Nat, vs = [.int n] ∧ n < 6 ∧ ∀ p zs H', Same H H' → H' p = some (.lst (zs.map V.ref)) → RowsAt H' zs (allI n) → Q (.ref p) H'
def spRnd : Sp := fun vs H Q _ => ∃ (a : Addr) (o : List Int) (k : Nat) (r : List Int), vs = [.ref a, .int k] ∧ H a = some (.tup (o.map V.int)) ∧ k < o.length ∧ rndZ o k = some r ∧ ∀ L H', Same H H' → H' L = some (.lst (r.map V.int)) → Q (.ref L) H'
def spHas : Sp := fun vs H Q _ => ∃ (kind : Str) (p a : Addr) (ps o : List Int), vs = [.str kind, .ref p, .ref a] ∧ kind ∈ kinds5 ∧ H p = some (.tup (ps.map V.int)) ∧ H a = some (.tup (o.map V.int)) ∧ PartOk kind ps o.length ∧ (kind = "rounds" → (rndZ o (ps.getD 0 0)).isSome = true) ∧ ∀ H', Same H H' → Q (.bl (hasZ kind ps o)) H'
def spMoa : Sp := fun vs H Q _ => ∃ (kind : Str) (n : Nat), vs = [.str kind, .int n] ∧ kind ∈ kinds5 ∧ n < 6 ∧ ∀ z H', Same H H' → Shr H' z (meanA kind n) → Q (.ref z) H'
def spSumTo : Sp := fun vs H Q _ => ∃ m : Nat, vs = [.int m] ∧ m ≤ 300 ∧ ∀ z H', Same H H' → Shr H' z (hmZ m) → Q (.ref z) H'
end L2


namespace L2
open PySem PySem.Spec PyProof.Rows
def ltV (m : Int) : V → Bool
  | .int n => decide (0 ≤ n) && decide (n < m)
  | _ => false
theorem wh_int {S : Addr → Prop} {H : Hp} {x : V} {d : PyData} (h : IsY S H x d) : isIv x = whD d := by
  cases h <;> rfl
end L2


namespace L2
open PySem PySem.Spec PyProof.Rows
theorem noS_upd {H : Hp} {L : Addr} {xs : List V} {o : HO} (hL : H L = some (.lst xs)) {vs : List V} {ds : List PyData} (h : IsAllY NoS H vs ds) : IsAllY NoS (upd H L o) vs ds :=
  IsAllY.map (fun _ z => z) (fun a _ e => by rw [upd_ne (ne_of e hL (by intro z; cases z))]; exact e) (fun _ _ s => s.elim) (fun a _ e => by rw [upd_ne (ne_of e hL (by intro z; cases z))]; exact e) h
theorem noS_upd1 {H : Hp} {L : Addr} {xs : List V} {o : HO} (hL : H L = some (.lst xs)) {v : V} {d : PyData} (h : IsY NoS H v d) : IsY NoS (upd H L o) v d :=
  IsY.map (fun _ z => z) (fun a _ e => by rw [upd_ne (ne_of e hL (by intro z; cases z))]; exact e) (fun _ _ s => s.elim) (fun a _ e => by rw [upd_ne (ne_of e hL (by intro z; cases z))]; exact e) h
theorem shr_upd {H : Hp} {L z : Addr} {xs : List V} {o : HO} {p : Sh} (hL : H L = some (.lst xs)) (h : Shr H z p) : Shr (upd H L o) z p := by
  show upd H L o z = _
  rw [upd_ne (ne_of h hL (by intro z; cases z))]
  exact h
theorem atI_rev {x : V} {r : List V} : atI (x :: r).reverse (-1) = some x := by
  rw [atI_neg1 (by simp), List.reverse_cons]
  rw [List.getElem?_append_right (by simp)]
  simp
theorem getD_head {α : Type} {l : List α} {d : α} : l.headD d = l.getD 0 d := by cases l <;> rfl
theorem IsAllY.rep {S : Addr → Prop} {H : Hp} {v : V} {d : PyData} (h : IsY S H v d) : ∀ n, IsAllY S H (List.replicate n v) (List.replicate n d)
  | 0 => .nil
  | n + 1 => .cons h (IsAllY.rep h n)
theorem map_rep {α β : Type} (f : α → β) (n : Nat) (x : α) : (List.replicate n x).map f = List.replicate n (f x) := by
  induction n with
  | zero => rfl
  | succ n ih => rw [List.replicate_succ, List.map_cons, ih, List.replicate_succ]
theorem IsAllY.snoc {S : Addr → Prop} {H : Hp} {vs : List V} {ds : List PyData} {v : V} {d : PyData} (h : IsAllY S H vs ds) (k : IsY S H v d) : IsAllY S H (vs ++ [v]) (ds ++ [d]) := h.append (.cons k .nil)
theorem tabL_succ (N h : Nat) : tabL N (h + 1) = tabL N h ++ [tbZ N h] := by
  unfold tabL
  rw [List.range_succ, List.map_append]
  rfl
theorem tabL_len (N h : Nat) : (tabL N h).length = h := by
  unfold tabL
  rw [List.length_map, List.length_range]
theorem tabL_at {N h i : Nat} (hi : i < h) : (tabL N h).getD i [] = tbZ N i := by
  unfold tabL
  rw [List.getD_eq_getElem?_getD, List.getElem?_map, List.getElem?_range hi]
  rfl
theorem tabL_get {N h i : Nat} (hi : i < h) : (tabL N h)[i]? = some (tbZ N i) := by
  unfold tabL
  rw [List.getElem?_map, List.getElem?_range hi]
  rfl
end L2


namespace L2
open PySem PySem.Spec PyProof.Rows
theorem lc_zipG {K : PySem.W.Frag} {a b : Addr} {xs ys : List V} {te : TE} {ix : List Nat} {σ : L2.St} {H1 : Hp} {Q : VK} (Fx : ∀ {H}, Same H1 H → SqT K H a xs) (Fy : ∀ {H}, Same H1 H → SqT K H b ys) (small : (xs.zip ys).length ≤ 1000) (R : Nat → V → Hp → Prop) (hR : ∀ i v H H', SameT H H' → R i v H → R i v H')
    (he : ∀ (i : Nat) (x y : V), xs[i]? = some x → ys[i]? = some y → ∀ H, Same H1 H → ∀ Q' : VK, (∀ w H', Same H H' → R i w H' → Q' w H') → te (some x :: some y :: ix.map fun i => σ.getD i none) H Q')
    (fin : ∀ acc vs H', H1 acc = none → Same H1 H' → H' acc = some (.lst vs) → vs.length = (xs.zip ys).length → (∀ i v, vs[i]? = some v → R i v H') → Q (.ref acc) H') :
    LcW (Itz K a b) H1 (gTup K 2 (gCons (gName 0) (gCons (gName 1) gNil))) tNoTest te 2 ix σ Q := by
  intro acc ha
  refine ⟨fun i m H => m = (xs.zip ys).length - i ∧ i ≤ (xs.zip ys).length ∧ Same H1 H ∧ ∃ vs, H acc = some (.lst vs) ∧ vs.length = i ∧ ∀ j v, vs[j]? = some v → R j v H, ⟨(xs.zip ys).length, by simp, Nat.zero_le _, same_upd ha, [], upd_same, rfl, fun _ _ h => by simp at h⟩, ?_⟩
  rintro i m H ⟨rfl, hi, sm, vs, hacc, hl, hv0⟩
  by_cases hlt : i < (xs.zip ys).length
  · have hl2 : i < xs.length ∧ i < ys.length := by rw [List.length_zip] at hlt; omega
    refine .inr ⟨⟨xs, ys, xs[i], ys[i], Fx sm, Fy sm, List.getElem?_eq_getElem hl2.1, List.getElem?_eq_getElem hl2.2⟩, fun v H' y => ?_⟩
    obtain ⟨t, x, y, hn, rfl, rfl, hv⟩ := y
    obtain ⟨e1, e2⟩ := hv xs ys (Fx sm) (Fy sm)
    refine ⟨t, _, rfl, SqT.of upd_same, rfl, x, _, rfl, y, _, rfl, rfl, ⟨rfl, fun j v e => ?_⟩, ?_⟩
    · match j, e with
      | 0, e => cases e
      | 1, e => cases e
      | j + 2, e => exact e
    · have st := same_upd (o := .tup [x, y]) hn
      have sm2 := sm.trans st
      have hacc2 := st _ _ hacc
      unfold tNoTest
      dsimp only
      rw [if_pos rfl]
      refine he i x y e1 e2 _ sm2 _ fun w H4 s4 r4 => ?_
      have h4 := s4 _ _ hacc2
      refine ⟨vs, h4, small1 (by omega), (xs.zip ys).length - (i + 1), by omega, rfl, hlt, same_updR (sm2.trans s4) ha, vs ++ [w], upd_same, by simp; omega, fun j v hj => ?_⟩
      have st2 : SameT H4 (upd H4 acc (.lst (vs ++ [w]))) := sameT_lst h4
      by_cases hj' : j < vs.length
      · rw [List.getElem?_append_left hj'] at hj
        exact hR _ _ _ _ ((st.trans s4).t.trans st2) (hv0 j v hj)
      · rw [List.getElem?_append_right (by omega)] at hj
        have : j - vs.length = 0 := by
          rcases Nat.eq_zero_or_pos (j - vs.length) with h | h
          · exact h
          · rw [List.getElem?_eq_none (by show 1 ≤ _; omega)] at hj; cases hj
        rw [this] at hj
        cases hj
        rw [show j = i by omega]
        exact hR _ _ _ _ st2 r4
  · have e : i = (xs.zip ys).length := by omega
    subst e
    refine .inl ⟨⟨xs, ys, Fx sm, Fy sm, ?_⟩, fin acc vs H ha sm hacc hl hv0⟩
    rw [List.length_zip]
    rcases Nat.le_total xs.length ys.length with h | h
    · exact .inl (List.getElem?_eq_none (by omega))
    · exact .inr (List.getElem?_eq_none (by omega))
theorem cut1 (xs : List V) : cutV xs (some 1) none = xs.drop 1 := by
  unfold cutV
  rw [show (1 : Int) = ((1 : Nat) : Int) from rfl, HT.sIx_nat, HT.sIx_none]
  cases xs with
  | nil => rfl
  | cons x t =>
    rw [Nat.min_eq_left (by simp), List.take_of_length_le (by simp)]
end L2


namespace L2
open PySem PySem.Spec PyProof.Rows
theorem cut1_ne {n : Nat} {hi : Option Int} {m : Nat} (h : 0 < n) : ¬(HT.sIx n 0 (some 1) = 0 ∧ HT.sIx n n hi = m) := fun z => by
  have := z.1
  rw [show (1 : Int) = ((1 : Nat) : Int) from rfl, HT.sIx_nat] at this
  omega
theorem paired_eq {xs ys : List V} {R : V → V → Prop} (h : Paired R xs ys) (e : ∀ x v, R x v → v = x) : ys = xs := by
  induction h with
  | nil => rfl
  | cons r _ ih => rw [e _ _ r, ih]
def layV (N : Nat) (row fewer : List Sh) : V → Bool
  | .int i => !ltZ (byZ N i (fewer.getD (i.toNat + 1) (0, 1))) (row.getD (i.toNat + 1) (0, 1))
  | _ => false
theorem lay_list (N : Nat) (row fewer : List Sh) : (rangeV 0 N).filter (layV N row fewer) = (layZ N row fewer).map V.int := by
  rw [rangeV_num0, List.filter_map]
  rfl
theorem ints_rows {H : Hp} : ∀ {us : List V} {rows : List (List Int)}, (us.length = rows.length) → (∀ i v, us[i]? = some v → ∃ z, v = .ref z ∧ H z = some (.tup ((rows.getD i []).map V.int))) → IsAllY NoS H us (rows.map intsD)
  | [], [], _, _ => .nil
  | u :: us, r :: rows, hl, h => by
    obtain ⟨z, rfl, hz⟩ := h 0 u rfl
    refine .cons (IsY.intT hz) (ints_rows (by simpa using hl) fun i v hv => ?_)
    exact h (i + 1) v (by simpa using hv)
  | [], _ :: _, hl, _ => by simp at hl
  | _ :: _, [], hl, _ => by simp at hl
theorem bools_at {us : List V} {bs : List Bool} (hl : us.length = bs.length) (h : ∀ (i : Nat) (v : V), us[i]? = some v → v = V.bl (bs.getD i false)) : us = bs.map V.bl := by
  refine List.ext_getElem? fun i => ?_
  by_cases hi : i < us.length
  · rw [List.getElem?_eq_getElem hi, List.getElem?_map, List.getElem?_eq_getElem (by omega)]
    have := h i _ (List.getElem?_eq_getElem hi)
    rw [this, List.getD_eq_getElem?_getD, List.getElem?_eq_getElem (by omega)]
    rfl
  · rw [List.getElem?_eq_none (by omega), List.getElem?_eq_none (by rw [List.length_map]; omega)]
theorem ruleZ_len (N h : Nat) : (ruleZ N h).length = h := by
  unfold ruleZ
  rw [List.length_map, List.length_range]
theorem ruleZ_at {N h i : Nat} (hi : i < h) : (ruleZ N h).getD i [] = layZ N (tbZ N (i + 1)) (tbZ N i) := by
  unfold ruleZ
  rw [List.getD_eq_getElem?_getD, List.getElem?_map, List.getElem?_range hi]
  rfl
end L2


namespace L2
open PySem PySem.Spec PyProof.Rows
def NegR (x v : V) (H : Hp) : Prop := ∃ z p, x = .ref z ∧ Shr H z p ∧ v = .bl (decide (p.1 < 0))
theorem neg_list {S : Addr → Prop} {H : Hp} : ∀ {vs ys : List V} {ps : List Sh}, IsAllY S H vs (ps.map shD) → Paired (fun x v => NegR x v H) vs ys → ys = (ps.map fun p => decide (p.1 < 0)).map V.bl
  | _, _, [], .nil, .nil => rfl
  | _, _, p :: ps, .cons h t, .cons r q => by
    obtain ⟨z, q', rfl, hz, rfl⟩ := r
    obtain ⟨z', e, hz'⟩ := isY_shr h
    cases e
    have : some (HO.tup [V.int q'.1, V.int q'.2]) = some (HO.tup [V.int p.1, V.int p.2]) := hz.symm.trans hz'
    have e1 : q'.1 = p.1 := by
      simp only [Option.some.injEq, HO.tup.injEq, List.cons.injEq, V.int.injEq] at this
      exact this.1
    rw [neg_list t q, e1]
    rfl
theorem rows_D {n : Nat} : ∀ {ds : List PyData}, ds.all (shsD (n : Int)) = true → ds = (ds.map toRow).map rowDt ∧ ∀ r ∈ ds.map toRow, r.length = n ∧ ∀ p ∈ r, 0 < p.2
  | [], _ => ⟨rfl, fun _ h => by cases h⟩
  | d :: r, h => by
    rw [List.all_cons, Bool.and_eq_true] at h
    obtain ⟨e1, e2⟩ := rows_D h.2
    obtain ⟨f1, f2, f3⟩ := shsD_eq h.1
    refine ⟨?_, fun x hx => ?_⟩
    · rw [List.map_cons, List.map_cons, ← e1, ← f1]
    · rw [List.map_cons] at hx
      rcases List.mem_cons.mp hx with rfl | hx
      · exact ⟨f2, f3⟩
      · exact e2 x hx
theorem rows_B {N : Nat} {ds : List PyData} (h : ds.all (shsD ((N + 1 : Nat) : Int)) = true) (tb : ThB (.tuple ds)) : ∀ r ∈ ds.map toRow, RowB 1000 N r := by
  intro r hr
  have h2 := (rows_D h).2 r hr
  refine ⟨h2.1, fun p hp => ?_⟩
  obtain ⟨d, hd, rfl⟩ := List.mem_map.mp hr
  have hs := shsD_eq (List.all_eq_true.mp h d hd)
  have hb := tb ds rfl d hd (((toRow d)).map shD) hs.1 (shD p) (List.mem_map.mpr ⟨p, hp, rfl⟩) p.1 p.2 rfl
  exact ⟨h2.2 p hp, hb.1, hb.2⟩
theorem range_any_map (n : Nat) (f : Nat → Bool) : ((List.range n).map f).any id = (List.range n).any f := by
  rw [List.any_map]
  rfl
theorem enZ_zip (N : Nat) (rows : List (List Sh)) (i : Nat) (hi : i + 1 < rows.length) : ((rows.zip rows.tail).map fun p => enZ N p.2 p.1).getD i false = enZ N (rows.getD (1 + i) []) (rows.getD i []) := by
  rw [List.getD_eq_getElem?_getD, List.getElem?_map]
  have h1 : rows[i]? = some (rows[i]) := List.getElem?_eq_getElem (by omega)
  have h2 : rows.tail[i]? = some (rows[1 + i]'(by omega)) := by
    rw [List.getElem?_tail, Nat.add_comm]
    exact List.getElem?_eq_getElem _
  have h3 : (rows.zip rows.tail)[i]? = some (rows[i], rows[1 + i]'(by omega)) := by
    rw [List.getElem?_zip_eq_some]
    exact ⟨h1, h2⟩
  rw [h3, List.getD_eq_getElem?_getD, List.getD_eq_getElem?_getD, h1, List.getElem?_eq_getElem (by omega)]
  rfl
theorem rows_getB {N : Nat} {rows : List (List Sh)} (h : ∀ r ∈ rows, RowB 1000 N r) {i : Nat} (hi : i < rows.length) : RowB 1000 N (rows.getD i []) := by
  rw [List.getD_eq_getElem?_getD, List.getElem?_eq_getElem hi]
  exact h _ (List.getElem_mem hi)
end L2


namespace L2
open PySem PySem.Spec PyProof.Rows
def LsY (H : Hp) (rs : List Addr) (rows : List (List Sh)) : Prop := rs.length = rows.length ∧ ∀ k, k < rows.length → ∃ r us, rs[k]? = some r ∧ H r = some (.lst us) ∧ IsAllY NoS H us ((rows.getD k []).map shD)
def spOwnT : Sp := fun vs H Q _ => ∃ (N h : Nat), vs = [.int N, .int h] ∧ 0 < N ∧ N < 42 ∧ h < 6 ∧ ∀ l rs G, Same H G → G l = some (.lst (rs.map V.ref)) → LsY G rs (tabL N (h + 1)) → H l = none → (∀ r ∈ rs, H r = none ∧ r ≠ l) → Q (.ref l) G
def bestT : TS := fun D σ H => ∃ (y x : Addr) (q p : Sh), σ[8]? = some (some (.ref y)) ∧ σ[6]? = some (some (.ref x)) ∧ Shr H y q ∧ Shr H x p ∧ Sm q.1 4000 ∧ Sm q.2 4000 ∧ Sm p.1 4000 ∧ Sm p.2 4000 ∧ ∀ z, Shr H z (if q.1 * p.2 > p.1 * q.2 then q else p) → D.nx (σ.set 9 (some (.ref z))) H
end L2


namespace L2
open PySem PySem.Spec PyProof.Rows
structure ZipL2 (h : Heap) (z TI TO i1 i2 a b : Addr) (i : Nat) : Prop where
  z : IsZip h z TI TO .none
  ti : IsPair h TI (.ref i1) (.ref i2)
  to : ∃ x y, IsPair h TO x y
  one : h.IsListIter i1 a i
  two : h.IsListIter i2 b i
section
variable {prog : Program} {w : World} {A : Around} {E : Value → Shared → Prop} {s : Shared} {z TI TO i1 i2 a b : Addr} {i : Nat} {xs ys : Array Value}
abbrev zL1 (h : Heap) (l1 : Addr) : Heap := h.push { cls := .type "list_iterator", data := .fields #[.ref l1, .int 0 0] }
abbrev zL2 (h : Heap) (l1 l2 : Addr) : Heap := (zL1 h l1).push { cls := .type "list_iterator", data := .fields #[.ref l2, .int 0 0] }
abbrev zL3 (h : Heap) (l1 l2 : Addr) : Heap := (zL2 h l1 l2).push { cls := .type "tuple", data := .seq #[.ref h.objs.size, .ref (zL1 h l1).objs.size] }
abbrev zL4 (h : Heap) (l1 l2 : Addr) : Heap := (zL3 h l1 l2).push { cls := .type "tuple", data := .seq #[.none, .none] }
abbrev zL5 (h : Heap) (l1 l2 : Addr) : Heap := (zL4 h l1 l2).push { cls := .type "zip", data := .fields #[.none, .bool false, .bool false, .ref (zL2 h l1 l2).objs.size, .ref (zL3 h l1 l2).objs.size] }
end

def Itll (K : PySem.W.Frag) (a b : Addr) : It :=
  ⟨fun i H => ∃ xs ys x y, SqL K H a xs ∧ SqL K H b ys ∧ xs[i]? = some x ∧ ys[i]? = some y, fun i H v H' => ∃ t x y, H t = none ∧ v = .ref t ∧ H' = upd H t (.tup [x, y]) ∧ ∀ xs ys, SqL K H a xs → SqL K H b ys → xs[i]? = some x ∧ ys[i]? = some y,
    fun i H => ∃ xs ys, SqL K H a xs ∧ SqL K H b ys ∧ (xs[i]? = none ∨ ys[i]? = none)⟩
section
variable {X : Cx}
def iZipLL (K : PySem.W.Frag) (ta : TA) : TI := fun σ H R => ta σ H fun vs H1 => ∃ a b, vs = [.ref a, .ref b] ∧ (∃ xs, SqL K H1 a xs) ∧ (∃ ys, SqL K H1 b ys) ∧ R (Itll K a b) H1
end
end L2


namespace L2
open PySem PySem.Spec PyProof.Rows
end L2


namespace L2
open PySem PySem.Spec PyProof.Rows
theorem toSh_shD (p : Sh) : toSh (shD p) = p := rfl
theorem toRow_rowDt (ps : List Sh) : toRow (rowDt ps) = ps := by
  show (ps.map shD).map toSh = ps
  rw [List.map_map, show toSh ∘ shD = id from funext toSh_shD, List.map_id]
theorem toRows (rows : List (List Sh)) : (rows.map rowDt).map toRow = rows := by
  rw [List.map_map, show toRow ∘ rowDt = id from funext toRow_rowDt, List.map_id]
theorem Lo.gcd {p : Sh} (h : Lo p) : gcdZ p.1 p.2 = 1 := by
  have h1 := h.self
  have h2 := h.pos
  have h3 := gcdZ_pos (a := p.1) h2
  have h4 : p.2 / gcdZ p.1 p.2 = p.2 := congrArg Prod.snd h1
  rcases Int.lt_or_le 1 (gcdZ p.1 p.2) with h5 | h5
  · have := Int.ediv_lt_self_of_pos_of_ne_one h2 (by omega : gcdZ p.1 p.2 ≠ 1)
    omega
  · omega
theorem Lo.isSh {p : Sh} (h : Lo p) : isShD (shD p) = true := by
  show (decide (1 ≤ p.2) && decide (gcdZ p.1 p.2 = 1)) = true
  have := h.pos
  rw [decide_eq_true (by omega), decide_eq_true h.gcd]
  rfl
theorem shs_lo {N : Nat} {ps : List Sh} (hl : ps.length = N + 1) (h : ∀ p ∈ ps, Lo p) : shsD ((N + 1 : Nat) : Int) (rowDt ps) = true := by
  show (decide (((ps.map shD).length : Int) = _) && (ps.map shD).all isShD) = true
  rw [List.length_map, decide_eq_true (by omega), Bool.true_and, List.all_map, List.all_eq_true]
  exact fun p hp => (h p hp).isSh
theorem snbD_tab {N h : Nat} {rows : List (List Sh)} (hl : rows.length = h + 1) (hr : ∀ r ∈ rows, r.length = N + 1 ∧ ∀ p ∈ r, Lo p) : snbD N h (tabDt rows) = snbR N rows := by
  show (decide ((rows.map rowDt).length = h + 1) && ((rows.map rowDt).all (shsD ((N + 1 : Nat) : Int)) && snbR N ((rows.map rowDt).map toRow))) = _
  rw [List.length_map, decide_eq_true hl, Bool.true_and, toRows]
  have : (rows.map rowDt).all (shsD ((N + 1 : Nat) : Int)) = true := by
    rw [List.all_map, List.all_eq_true]
    exact fun r hr' => shs_lo (hr r hr').1 (hr r hr').2
  rw [this, Bool.true_and]
theorem tabL_rows {N h : Nat} (hN : 0 < N) : ∀ r ∈ tabL N h, r.length = N + 1 ∧ ∀ p ∈ r, Lo p := by
  intro r hr
  obtain ⟨k, _, rfl⟩ := List.mem_map.mp hr
  exact ⟨tbZ_len N k, lo_tb hN k⟩
theorem ltZ_self (p : Sh) : ltZ p p = false := by
  unfold ltZ
  exact decide_eq_false (by omega)
theorem enZ_tb {N k : Nat} : enZ N (tbZ N (k + 1)) (tbZ N k) = true := by
  unfold enZ
  rw [tb_last]
  rw [show decide ((0 : Int) ≤ ((0, 1) : Sh).1) = true from rfl, Bool.true_and, Bool.not_eq_true', Bool.eq_false_iff]
  intro z
  obtain ⟨i, hi, e⟩ := List.any_eq_true.mp z
  rw [← tb_at (List.mem_range.mp hi), ltZ_self] at e
  cases e
theorem neg_tb0 {N : Nat} : ((tbZ N 0).any fun p => decide (p.1 < 0)) = false := by
  rw [Bool.eq_false_iff]
  intro z
  obtain ⟨p, hp, e⟩ := List.any_eq_true.mp z
  rw [tbZ] at hp
  rw [(List.mem_replicate.mp hp).2] at e
  cases e
theorem zip_tail {α : Type} {rows : List α} {x y : α} (h : (x, y) ∈ rows.zip rows.tail) : ∃ k, rows[k]? = some x ∧ rows[k + 1]? = some y := by
  obtain ⟨k, hk⟩ := List.getElem?_of_mem h
  rw [List.getElem?_zip_eq_some] at hk
  exact ⟨k, hk.1, by rw [← List.getElem?_tail]; exact hk.2⟩
theorem snb_tab {N h : Nat} (hN : 0 < N) : snbD N h (tabDt (tabL N (h + 1))) = true := by
  rw [snbD_tab (tabL_len N _) (tabL_rows hN)]
  unfold snbR
  have e0 : (tabL N (h + 1)).headD [] = tbZ N 0 := by rw [getD_head, tabL_at (by omega)]
  rw [e0, neg_tb0, Bool.not_false, Bool.true_and, List.all_eq_true]
  rintro ⟨x, y⟩ hxy
  obtain ⟨k, h1, h2⟩ := zip_tail hxy
  have hk := (List.getElem?_eq_some_iff.mp h2).1
  rw [tabL_len] at hk
  rw [tabL_get (by omega)] at h1
  rw [tabL_get (by omega)] at h2
  cases h1
  cases h2
  exact enZ_tb
def lsZ (p : Sh) (far : Int) : Sh := lowZ (p.1 * far - p.2) (p.2 * far)
theorem thB_tab {n N : Nat} {rows : List (List Sh)} (hn : n ≤ 1000) (h : ∀ r ∈ rows, RowB n N r) : ThB (tabDt rows) := by
  intro ds hd e he fs hf g hg a b hab
  cases hd
  obtain ⟨r, hr, rfl⟩ := List.mem_map.mp he
  cases hf
  obtain ⟨p, hp, rfl⟩ := List.mem_map.mp hg
  cases hab
  have := (h r hr).2 p hp
  exact ⟨this.s1.mono hn, this.s2.mono hn⟩
theorem bulk_sh (ps : List Sh) : PyData.bulkAll (ps.map shD) = 3 * ps.length := by
  induction ps with
  | nil => rfl
  | cons p r ih =>
    rw [List.map_cons]
    simp only [PyData.bulkAll, ih, List.length_cons]
    show (shD p).bulk + 1 + 3 * r.length = _
    have : (shD p).bulk = 2 := by simp [shD, PyData.bulk, PyData.bulkAll]
    omega
theorem bulk_tab {m : Nat} : ∀ {rows : List (List Sh)}, (∀ r ∈ rows, r.length = m) → PyData.bulkAll (rows.map rowDt) = rows.length * (3 * m + 1)
  | [], _ => by simp [PyData.bulkAll]
  | r :: rows, h => by
    rw [List.map_cons]
    simp only [PyData.bulkAll, bulk_tab (rows := rows) fun x hx => h x (List.mem_cons_of_mem _ hx), List.length_cons]
    have : (rowDt r).bulk = 3 * m := by
      simp only [rowDt, PyData.bulk, bulk_sh, h r List.mem_cons_self]
    rw [this, Nat.add_mul, Nat.one_mul]
    omega
theorem sz_tab {m : Nat} {rows : List (List Sh)} (h : ∀ r ∈ rows, r.length = m) (hb : rows.length * (3 * m + 1) ≤ 1000) : Sz 1000 (tabDt rows) := by
  show (tabDt rows).bulk ≤ 1000
  simp only [tabDt, PyData.bulk, bulk_tab h]
  exact hb
end L2


namespace L2
open PySem PySem.Spec PyProof.Rows
theorem Spring.keepT {H H' : Hp} {p q a : Addr} {n : Nat} {xs : List V} (h : Spring H p q n) (k : Keep p q H H') (e : H a = some (.tup xs)) : H' a = some (.tup xs) := k a _ e (h.tup_ne e).1 (h.tup_ne e).2
end L2


namespace L2
open PySem PySem.Spec PyProof.Rows
def TupR (G0 : Hp) (x v : V) (H : Hp) : Prop := ∃ r us z, x = .ref r ∧ G0 r = some (.lst us) ∧ v = .ref z ∧ H z = some (.tup us)
theorem shw_sm {x : Int} {n : Nat} (h : Sm x n) (hn : n ≤ 1900) : Shw x := shw_abs (Nat.lt_of_lt_of_le h.lt (Nat.pow_le_pow_right (by decide) hn))
theorem okd_sh {p : Sh} {n : Nat} (h : ShB p n) (hn : n ≤ 1900) : OkD 2 1 (shD p) :=
  ((OkDs.cons (m := 0) (m' := 1) (OkD.int (shw_sm h.s1 hn)) ((OkDs.cons (m := 0) (m' := 0) (k := 0) (OkD.int (shw_sm h.s2 hn)) OkDs.nil).more (by decide) (Nat.le_refl _))).more (by decide) (Nat.le_refl _)).tup
theorem tabL_B {N h : Nat} (h0 : 0 < N) (hN : N < 42) (hh : h ≤ 6) : ∀ r ∈ tabL N h, RowB 400 N r := by
  intro r hr
  obtain ⟨k, hk, rfl⟩ := List.mem_map.mp hr
  exact tb_row h0 hN (by have := List.mem_range.mp hk; omega)
end L2


namespace L2
open PySem PySem.Spec PyProof.Rows
def inP (pl : List Int) (i : Nat) : Bool := pl.contains (i : Int)
def seenZ (N : Nat) (pl : List Int) (i : Nat) (w f : Sh) : Sh := if inP pl i then byZ N (i : Int) f else w
def rpZ (N : Nat) (pl : List Int) (fs : List Sh) : Nat → List Sh
  | 0 => [(0, 1)]
  | j + 1 => frZ ((N - 1 - j : Nat) : Int) ((rpZ N pl fs j).headD (0, 1)) (seenZ N pl (N - 1 - j) ((rpZ N pl fs j).headD (0, 1)) (fs.getD (N - j) (0, 1))) :: rpZ N pl fs j
theorem rpZ_len (N : Nat) (pl : List Int) (fs : List Sh) : ∀ j, (rpZ N pl fs j).length = j + 1
  | 0 => rfl
  | j + 1 => by rw [rpZ, List.length_cons, rpZ_len N pl fs j]
def rsR (N : Nat) (plan : List (List Int)) : List Sh := plan.foldl (fun row pl => rpZ N pl row N) (List.replicate (N + 1) (0, 1))
theorem rpZ_sub {N : Nat} {pl : List Int} {fs : List Sh} : ∀ {n j : Nat}, j ≤ n → (rpZ N pl fs n).getD (n - j) (0, 1) = (rpZ N pl fs j).headD (0, 1)
  | 0, j, h => by
    have : j = 0 := by omega
    subst this
    rfl
  | n + 1, j, h => by
    by_cases e : j = n + 1
    · subst e
      rw [Nat.sub_self, getD_head]
    · rw [show n + 1 - j = (n - j) + 1 by omega, rpZ, List.getD_cons_succ, rpZ_sub (by omega)]
def gd (N : Nat) : Nat → Int
  | 0 => 1
  | d + 1 => gd N d * ((N - 1 - d : Nat) : Int)
def td (N : Nat) : Nat → Int
  | 0 => 1
  | d + 1 => td N d * ((N - d : Nat) : Int)
theorem td_pos {N : Nat} : ∀ {d : Nat}, d ≤ N → 0 < td N d
  | 0, _ => by show (0 : Int) < 1; decide
  | d + 1, h => Int.mul_pos (td_pos (by omega)) (by omega)
theorem gd_nn (N : Nat) : ∀ d, 0 ≤ gd N d
  | 0 => by show (0 : Int) ≤ 1; decide
  | d + 1 => Int.mul_nonneg (gd_nn N d) (by omega)
theorem g_t {N : Nat} : ∀ {d : Nat}, d < N → (N : Int) * gd N d = ((N - d : Nat) : Int) * td N d
  | 0, _ => by simp [gd, td]
  | d + 1, h => by
    have ih := g_t (N := N) (d := d) (by omega)
    rw [gd, td, ← Int.mul_assoc, ih, Int.mul_comm ((N - (d + 1) : Nat) : Int), show N - 1 - d = N - (d + 1) by omega]
    rw [Int.mul_comm ((N - d : Nat) : Int) (td N d)]
def cd (N : Nat) (pl : List Int) (cf : Nat → Int) : Nat → Int
  | 0 => 0
  | d + 1 => ((N - 1 - d : Nat) : Int) * cd N pl cf d + if inP pl (N - 1 - d) then gd N d + cf d else cd N pl cf d
theorem fr_vv {i : Int} {w s : Sh} {a c t : Int} (hi : 0 ≤ i) (hw : Vs w a t) (hs : Vs s c t) : frZ i w s = lowZ (i * a + c) (t * (i + 1)) := by
  rw [fr_v hi hw.1 hs]
  obtain ⟨h1, h2, h3⟩ := hw
  refine low_eq (Int.mul_pos (Int.mul_pos h1 hs.2.1) (by omega)) (Int.mul_pos h2 (by omega)) ?_
  grind
theorem by_vv {N i : Int} {f : Sh} {c t g : Int} (hN : 0 < N) (hf : Vs f c t) (hg : N * g = (i + 1) * t) : Vs (byZ N i f) (g + c) t := by
  have h1 : byZ N i f = lowZ ((i + 1) * t + c * N) (N * t) := pl_v (Vs.low hN) hf
  obtain ⟨f1, f2, f3⟩ := hf
  rw [h1]
  have h2 := Vs.low (a := (i + 1) * t + c * N) (b := N * t) (Int.mul_pos hN f2)
  refine ⟨h2.1, f2, ?_⟩
  have h3 := h2.2.2
  have h4 : (lowZ ((i + 1) * t + c * N) (N * t)).1 * t * N = (g + c) * (lowZ ((i + 1) * t + c * N) (N * t)).2 * N := by grind
  exact Int.eq_of_mul_eq_mul_right (by omega) h4
theorem rp_low {N : Nat} {pl : List Int} {fs : List Sh} {cf : Nat → Int} (hf : ∀ d, d ≤ N → fs.getD (N - d) (0, 1) = lowZ (cf d) (td N d)) : ∀ {d : Nat}, d ≤ N → (rpZ N pl fs d).headD (0, 1) = lowZ (cd N pl cf d) (td N d)
  | 0, _ => by
    show ((0, 1) : Sh) = lowZ 0 1
    decide
  | d + 1, h => by
    have ih := rp_low (pl := pl) hf (d := d) (by omega)
    have hT := td_pos (N := N) (d := d) (by omega)
    have hw : Vs ((rpZ N pl fs d).headD (0, 1)) (cd N pl cf d) (td N d) := by
      rw [ih]
      exact Vs.low hT
    have hs : Vs (seenZ N pl (N - 1 - d) ((rpZ N pl fs d).headD (0, 1)) (fs.getD (N - d) (0, 1))) (if inP pl (N - 1 - d) then gd N d + cf d else cd N pl cf d) (td N d) := by
      unfold seenZ
      cases inP pl (N - 1 - d) with
      | true =>
        rw [if_pos rfl, if_pos rfl]
        refine by_vv (by omega) (by rw [hf d (by omega)]; exact Vs.low hT) ?_
        have := g_t (N := N) (d := d) (by omega)
        rw [this, show ((N - 1 - d : Nat) : Int) + 1 = ((N - d : Nat) : Int) by omega]
      | false =>
        rw [if_neg Bool.false_ne_true, if_neg Bool.false_ne_true]
        exact hw
    rw [rpZ, List.headD_cons, fr_vv (by omega) hw hs, cd, td, show ((N - 1 - d : Nat) : Int) + 1 = ((N - d : Nat) : Int) by omega]
def cs (N : Nat) : List (List Int) → Nat → Int
  | [] => fun _ => 0
  | pl :: r => cd N pl (cs N r)
theorem rep_low (N : Nat) {d : Nat} (h : d ≤ N) : (List.replicate (N + 1) ((0, 1) : Sh)).getD (N - d) (0, 1) = lowZ 0 (td N d) := by
  rw [List.getD_eq_getElem?_getD, List.getElem?_replicate_of_lt (by omega)]
  show (0, 1) = _
  have := td_pos (N := N) h
  rw [← low_eq (a := 0) (b := 1) (by decide) this (by omega)]
  decide
theorem rs_low (N : Nat) : ∀ (plan : List (List Int)) (row : List Sh) (cf : Nat → Int), (∀ d, d ≤ N → row.getD (N - d) (0, 1) = lowZ (cf d) (td N d)) → ∀ d, d ≤ N → (plan.foldl (fun row pl => rpZ N pl row N) row).getD (N - d) (0, 1) = lowZ ((plan.foldl (fun c pl => cd N pl c) cf) d) (td N d)
  | [], row, cf, h, d, hd => h d hd
  | pl :: r, row, cf, h, d, hd => by
    rw [List.foldl_cons, List.foldl_cons]
    refine rs_low N r _ _ (fun e he => ?_) d hd
    rw [rpZ_sub he]
    exact rp_low h he
def cw (N : Nat) (plan : List (List Int)) : Nat → Int := plan.foldl (fun c pl => cd N pl c) fun _ => 0
theorem rsR_low {N : Nat} {plan : List (List Int)} {d : Nat} (hd : d ≤ N) : (rsR N plan).getD (N - d) (0, 1) = lowZ (cw N plan d) (td N d) := rs_low N plan _ _ (fun d hd => rep_low N hd) d hd
theorem gd_le {N : Nat} {d : Nat} (h : d < N) : gd N d ≤ td N d := by
  have := g_t h
  have h2 := td_pos (N := N) (d := d) (by omega)
  have h3 : ((N - d : Nat) : Int) * td N d ≤ (N : Int) * td N d := Int.mul_le_mul_of_nonneg_right (by omega) (Int.le_of_lt h2)
  rw [← this] at h3
  exact Int.le_of_mul_le_mul_left h3 (by omega)
theorem cd_bd {N h : Nat} {pl : List Int} {cf : Nat → Int} (hf : ∀ d, d ≤ N → 0 ≤ cf d ∧ cf d ≤ (h : Int) * td N d) : ∀ {d : Nat}, d ≤ N → 0 ≤ cd N pl cf d ∧ cd N pl cf d ≤ ((h : Int) + 1) * td N d
  | 0, _ => ⟨Int.le_refl _, Int.mul_nonneg (by omega) (Int.le_of_lt (td_pos (Nat.zero_le _)))⟩
  | d + 1, hd => by
    obtain ⟨i1, i2⟩ := cd_bd hf (pl := pl) (d := d) (by omega)
    obtain ⟨f1, f2⟩ := hf d (by omega)
    have g1 := gd_nn N d
    have g2 := gd_le (N := N) (d := d) (by omega)
    have hx := Int.mul_nonneg (show (0 : Int) ≤ ((N - 1 - d : Nat) : Int) by omega) i1
    have hy : ((N - 1 - d : Nat) : Int) * cd N pl cf d ≤ ((N - 1 - d : Nat) : Int) * (((h : Int) + 1) * td N d) := Int.mul_le_mul_of_nonneg_left i2 (by omega)
    have e1 : ((h : Int) + 1) * td N (d + 1) = ((N - 1 - d : Nat) : Int) * (((h : Int) + 1) * td N d) + ((h : Int) + 1) * td N d := by
      rw [td, show ((N - d : Nat) : Int) = ((N - 1 - d : Nat) : Int) + 1 by omega]
      grind
    have e2 : ((h : Int) + 1) * td N d = (h : Int) * td N d + td N d := by grind
    rw [cd, e1]
    cases inP pl (N - 1 - d) with
    | true =>
      rw [if_pos rfl]
      omega
    | false =>
      rw [if_neg Bool.false_ne_true]
      omega
end L2


namespace L2
open PySem PySem.Spec PyProof.Rows
theorem td_sm {N : Nat} (hN : N < 60) : ∀ {d : Nat}, d ≤ N → Sm (td N d) (6 * d + 1)
  | 0, _ => Sm.of (by show (1 : Int).natAbs < 2 ^ 1; decide)
  | d + 1, h => ((td_sm hN (d := d) (by omega)).mul (show Sm ((N - d : Nat) : Int) 6 from Sm.of (by
      have : (2 : Nat) ^ 6 = 64 := by decide
      omega))).mono (by omega)
structure CRow (N h : Nat) (row : List Sh) (cf : Nat → Int) : Prop where
  len : row.length = N + 1
  at_ : ∀ d, d ≤ N → row.getD (N - d) (0, 1) = lowZ (cf d) (td N d)
  bd : ∀ d, d ≤ N → 0 ≤ cf d ∧ cf d ≤ (h : Int) * td N d
theorem CRow.start (N : Nat) : CRow N 0 (List.replicate (N + 1) (0, 1)) fun _ => 0 := ⟨by rw [List.length_replicate], fun d hd => rep_low N hd, fun d hd => ⟨Int.le_refl _, by simp⟩⟩
theorem CRow.next {N h : Nat} {row : List Sh} {cf : Nat → Int} (c : CRow N h row cf) (pl : List Int) : CRow N (h + 1) (rpZ N pl row N) (cd N pl cf) :=
  ⟨rpZ_len N pl row N, fun d hd => by rw [rpZ_sub hd]; exact rp_low c.at_ hd, fun d hd => by have := cd_bd (pl := pl) c.bd hd; rw [Int.natCast_add]; exact this⟩
theorem CRow.B {N h : Nat} {row : List Sh} {cf : Nat → Int} (c : CRow N h row cf) (hN : N < 42) (hh : h < 8) : RowB 400 N row := by
  refine ⟨c.len, fun p hp => ?_⟩
  obtain ⟨i, hi⟩ := List.getElem?_of_mem hp
  have hil := (List.getElem?_eq_some_iff.mp hi).1
  rw [c.len] at hil
  have e := c.at_ (N - i) (by omega)
  rw [show N - (N - i) = i by omega, List.getD_eq_getElem?_getD, hi] at e
  have e : p = lowZ (cf (N - i)) (td N (N - i)) := e
  rw [e]
  have hT := td_sm (N := N) (by omega) (d := N - i) (by omega)
  have hp := td_pos (N := N) (d := N - i) (by omega)
  obtain ⟨b1, b2⟩ := c.bd (N - i) (by omega)
  have h8 : (h : Int) * td N (N - i) ≤ 8 * td N (N - i) := Int.mul_le_mul_of_nonneg_right (by omega) (Int.le_of_lt hp)
  have s8 : Sm (8 * td N (N - i)) (8 + (6 * (N - i) + 1)) := (sm_small (i := 8) (by decide) (by decide)).mul hT
  exact ShB.low hp ((s8.le (by omega)).mono (by omega)) (hT.mono (by omega))
theorem CRow.fold {N : Nat} : ∀ (plan : List (List Int)) {h : Nat} {row : List Sh} {cf : Nat → Int}, CRow N h row cf → CRow N (h + plan.length) (plan.foldl (fun row pl => rpZ N pl row N) row) (plan.foldl (fun c pl => cd N pl c) cf)
  | [], _, _, _, c => c
  | pl :: r, h, row, cf, c => by
    have := CRow.fold r (c.next pl)
    rw [show h + (pl :: r).length = h + 1 + r.length by rw [List.length_cons]; omega]
    exact this
def leV (p q : Sh) : Prop := p.1 * q.2 ≤ q.1 * p.2
theorem rwZ_sub {N : Nat} {fs : List Sh} : ∀ {n j : Nat}, j ≤ n → (rwZ N fs n).getD (n - j) (0, 1) = (rwZ N fs j).headD (0, 1)
  | 0, j, h => by
    have : j = 0 := by omega
    subst this
    rfl
  | n + 1, j, h => by
    by_cases e : j = n + 1
    · subst e
      rw [Nat.sub_self, getD_head]
    · rw [show n + 1 - j = (n - j) + 1 by omega, rwZ, List.getD_cons_succ, rwZ_sub (by omega)]
theorem in_lay {N i : Nat} {row fewer : List Sh} (hi : i < N) : inP (layZ N row fewer) i = !ltZ (byZ N (i : Int) (fewer.getD (i + 1) (0, 1))) (row.getD (i + 1) (0, 1)) := by
  unfold inP
  rw [Bool.eq_iff_iff, List.contains_iff_mem]
  unfold layZ
  rw [List.mem_filter, Int.toNat_natCast]
  exact ⟨fun z => z.2, fun z => ⟨mem_num0.mpr ⟨by omega, by omega⟩, z⟩⟩
theorem rp_told {N : Nat} (hN : 0 < N) {fs : List Sh} (f0 : ∀ p ∈ fs, Lo p) : ∀ {j : Nat}, j ≤ N → rpZ N (layZ N (rwZ N fs N) fs) fs j = rwZ N fs j
  | 0, _ => rfl
  | j + 1, hj => by
    have ih := rp_told hN f0 (j := j) (by omega)
    have w0 : 0 < ((rwZ N fs j).headD (0, 1)).2 := (headD_all (lo_rw hN f0 j) lo_zero).pos
    have ff : 0 < (fs.getD (N - j) (0, 1)).2 := (getD_all f0 lo_zero _).pos
    have hNi : (0 : Int) < (N : Int) := by omega
    have hi : (0 : Int) ≤ ((N - 1 - j : Nat) : Int) := by omega
    have e0 := in_lay (N := N) (i := N - 1 - j) (row := rwZ N fs N) (fewer := fs) (by omega)
    rw [show N - 1 - j + 1 = N - j by omega, rwZ_sub (by omega)] at e0
    rw [rpZ, rwZ, ih]
    congr 1
    unfold bsZ seenZ
    rw [e0]
    generalize (rwZ N fs j).headD (0, 1) = w at *
    generalize fs.getD (N - j) (0, 1) = f at *
    have b0 := pos_by (i := ((N - 1 - j : Nat) : Int)) hNi ff
    generalize byZ N ((N - 1 - j : Nat) : Int) f = q at *
    unfold maxZ
    cases e1 : ltZ q w with
    | true =>
      have : ltZ w q = false := by
        unfold ltZ at e1 ⊢
        have := of_decide_eq_true e1
        exact decide_eq_false (by omega)
      rw [this]
      rfl
    | false =>
      rw [Bool.not_false, if_pos rfl]
      cases e2 : ltZ w q with
      | true => rfl
      | false =>
        rw [if_neg Bool.false_ne_true]
        have h1 : Vs w q.1 q.2 := by
          refine ⟨w0, b0, ?_⟩
          unfold ltZ at e1 e2
          have := of_decide_eq_false e1
          have := of_decide_eq_false e2
          omega
        rw [fr_v hi w0 (Vs.self b0), fr_v hi w0 h1]
theorem ruleZ_next (N h : Nat) : ruleZ N (h + 1) = ruleZ N h ++ [layZ N (tbZ N (h + 1)) (tbZ N h)] := by
  unfold ruleZ
  rw [List.range_succ, List.map_append]
  rfl
theorem rs_told {N : Nat} (hN : 0 < N) : ∀ h, rsR N (ruleZ N h) = tbZ N h
  | 0 => rfl
  | h + 1 => by
    have ih := rs_told hN h
    unfold rsR at ih ⊢
    rw [ruleZ_next, List.foldl_append, ih, List.foldl_cons, List.foldl_nil, tbZ]
    exact rp_told hN (lo_tb hN h) (Nat.le_refl N)
end L2


namespace L2
open PySem PySem.Spec PyProof.Rows
def plAt (plan : List (List Int)) (h : Nat) : List Int := plan.getD (h - 1) []
def wnR (plan : List (List Int)) : Nat → Nat → List Bool → Bool
  | _, _, [] => false
  | h, i, false :: R => wnR plan h (i + 1) R
  | h, i, true :: R => if decide (0 < h) && inP (plAt plan h) i then R.all (fun b => !b) || wnR plan (h - 1) (i + 1) R else wnR plan h (i + 1) R
def pats : Nat → List (List Bool)
  | 0 => [[]]
  | d + 1 => (pats d).map (false :: ·) ++ (pats d).map (true :: ·)
def wtR : Nat → List Bool → Int
  | _, [] => 1
  | i, false :: R => (i : Int) * wtR (i + 1) R
  | i, true :: R => wtR (i + 1) R
def sumL {α : Type} (f : α → Int) : List α → Int
  | [] => 0
  | a :: r => f a + sumL f r
theorem sumL_app {α : Type} (f : α → Int) : ∀ (l m : List α), sumL f (l ++ m) = sumL f l + sumL f m
  | [], m => by rw [List.nil_append, sumL, Int.zero_add]
  | a :: l, m => by rw [List.cons_append, sumL, sumL, sumL_app f l m, Int.add_assoc]
theorem sumL_map {α β : Type} (f : β → Int) (g : α → β) : ∀ l : List α, sumL f (l.map g) = sumL (fun a => f (g a)) l
  | [] => rfl
  | a :: l => by rw [List.map_cons, sumL, sumL, sumL_map f g l]
theorem sumL_congr {α : Type} {f g : α → Int} : ∀ {l : List α}, (∀ a ∈ l, f a = g a) → sumL f l = sumL g l
  | [], _ => rfl
  | a :: l, h => by rw [sumL, sumL, h a List.mem_cons_self, sumL_congr fun b hb => h b (List.mem_cons_of_mem _ hb)]
theorem sumL_mul {α : Type} (f : α → Int) (c : Int) : ∀ l : List α, sumL (fun a => c * f a) l = c * sumL f l
  | [] => by rw [sumL, sumL, Int.mul_zero]
  | a :: l => by rw [sumL, sumL, sumL_mul f c l, Int.mul_add]
theorem sumL_add {α : Type} (f g : α → Int) : ∀ l : List α, sumL (fun a => f a + g a) l = sumL f l + sumL g l
  | [] => rfl
  | a :: l => by rw [sumL, sumL, sumL, sumL_add f g l]; omega
def b2 (b : Bool) : Int := if b then 1 else 0
theorem none_wins {plan : List (List Int)} : ∀ {h i : Nat} {R : List Bool}, R.all (fun b => !b) = true → wnR plan h i R = false
  | _, _, [], _ => by rw [wnR]
  | h, i, false :: R, hR => by
    rw [wnR]
    exact none_wins (by simpa using hR)
  | h, i, true :: R, hR => by simp at hR
theorem sum_none (N : Nat) : ∀ d, d < N → sumL (fun R => wtR (N - d) R * b2 (R.all fun b => !b)) (pats d) = gd N d
  | 0, _ => by
    show (1 * 1 + 0 : Int) = 1
    rfl
  | d + 1, h => by
    have ih := sum_none N d (by omega)
    have e1 : ∀ R : List Bool, wtR (N - (d + 1)) (false :: R) * b2 ((false :: R).all fun b => !b) = ((N - (d + 1) : Nat) : Int) * (wtR (N - d) R * b2 (R.all fun b => !b)) := fun R => by
      rw [wtR, show N - (d + 1) + 1 = N - d by omega, Int.mul_assoc]
      rfl
    have e2 : ∀ R : List Bool, wtR (N - (d + 1)) (true :: R) * b2 ((true :: R).all fun b => !b) = 0 * (wtR (N - d) R) := fun R => by
      show _ * (0 : Int) = _
      rw [Int.mul_zero, Int.zero_mul]
    rw [pats, sumL_app, sumL_map, sumL_map, sumL_congr (g := fun R => ((N - (d + 1) : Nat) : Int) * (wtR (N - d) R * b2 (R.all fun b => !b))) fun R _ => e1 R, sumL_congr (g := fun R => 0 * wtR (N - d) R) fun R _ => e2 R, sumL_mul, sumL_mul, ih, gd, Int.zero_mul, Int.add_zero, Int.mul_comm, show N - 1 - d = N - (d + 1) by omega]
theorem cw_succ {N : Nat} {plan : List (List Int)} {h : Nat} (hh : h < plan.length) : cw N (plan.take (h + 1)) = cd N (plAt plan (h + 1)) (cw N (plan.take h)) := by
  unfold cw plAt
  rw [List.take_succ, List.getElem?_eq_getElem hh, List.foldl_append, Nat.add_sub_cancel, List.getD_eq_getElem?_getD, List.getElem?_eq_getElem hh]
  rfl
theorem sum_wins {N : Nat} {plan : List (List Int)} : ∀ {d : Nat}, d ≤ N → ∀ h, h ≤ plan.length → sumL (fun R => wtR (N - d) R * b2 (wnR plan h (N - d) R)) (pats d) = cw N (plan.take h) d
  | 0, _, h, hh => by
    have : cw N (plan.take h) 0 = 0 := by
      cases h with
      | zero => rw [List.take_zero]; rfl
      | succ h => rw [cw_succ (by omega)]; rfl
    rw [this]
    show wtR (N - 0) [] * b2 (wnR plan h (N - 0) []) + 0 = 0
    rw [wnR]
    rfl
  | d + 1, hd, h, hh => by
    have ih := sum_wins (plan := plan) (N := N) (d := d) (by omega)
    have eN : N - (d + 1) + 1 = N - d := by omega
    have e1 : ∀ R : List Bool, wtR (N - (d + 1)) (false :: R) * b2 (wnR plan h (N - (d + 1)) (false :: R)) = ((N - (d + 1) : Nat) : Int) * (wtR (N - d) R * b2 (wnR plan h (N - d) R)) := fun R => by
      rw [wtR, wnR, eN, Int.mul_assoc]
    rw [pats, sumL_app, sumL_map, sumL_map, sumL_congr (g := fun R => ((N - (d + 1) : Nat) : Int) * (wtR (N - d) R * b2 (wnR plan h (N - d) R))) fun R _ => e1 R, sumL_mul, ih h hh]
    cases h with
    | zero =>
      have e2 : ∀ R : List Bool, wtR (N - (d + 1)) (true :: R) * b2 (wnR plan 0 (N - (d + 1)) (true :: R)) = wtR (N - d) R * b2 (wnR plan 0 (N - d) R) := fun R => by
        rw [wtR, wnR, eN]
        rfl
      rw [sumL_congr (g := fun R => wtR (N - d) R * b2 (wnR plan 0 (N - d) R)) fun R _ => e2 R, ih 0 (by omega), List.take_zero]
      show ((N - (d + 1) : Nat) : Int) * 0 + 0 = 0
      omega
    | succ h =>
      rw [cw_succ (by omega), cd, show N - 1 - d = N - (d + 1) by omega]
      congr 1
      cases e3 : inP (plAt plan (h + 1)) (N - (d + 1)) with
      | true =>
        rw [if_pos rfl]
        have e2 : ∀ R : List Bool, wtR (N - (d + 1)) (true :: R) * b2 (wnR plan (h + 1) (N - (d + 1)) (true :: R)) = wtR (N - d) R * b2 (R.all fun b => !b) + wtR (N - d) R * b2 (wnR plan h (N - d) R) := fun R => by
          rw [wtR, wnR, eN, e3, Nat.add_sub_cancel, show (decide (0 < h + 1) && true) = true by simp, if_pos rfl, ← Int.mul_add]
          congr 1
          cases e4 : R.all fun b => !b with
          | true =>
            rw [none_wins e4]
            rfl
          | false =>
            rw [Bool.false_or]
            show _ = 0 + _
            rw [Int.zero_add]
        rw [sumL_congr (g := fun R => wtR (N - d) R * b2 (R.all fun b => !b) + wtR (N - d) R * b2 (wnR plan h (N - d) R)) fun R _ => e2 R, sumL_add, sum_none N d (by omega), ih h (by omega)]
      | false =>
        rw [if_neg Bool.false_ne_true]
        have e2 : ∀ R : List Bool, wtR (N - (d + 1)) (true :: R) * b2 (wnR plan (h + 1) (N - (d + 1)) (true :: R)) = wtR (N - d) R * b2 (wnR plan (h + 1) (N - d) R) := fun R => by
          rw [wtR, wnR, eN, e3, Bool.and_false, if_neg Bool.false_ne_true]
        rw [sumL_congr (g := fun R => wtR (N - d) R * b2 (wnR plan (h + 1) (N - d) R)) fun R _ => e2 R, ih (h + 1) hh, cw_succ (by omega)]
end L2


namespace L2
open PySem PySem.Spec PyProof.Rows
def recF : Int → List Int → List Bool
  | _, [] => []
  | hi, x :: r => decide (hi < x) :: recF (if hi < x then x else hi) r
theorem recF_len : ∀ (os : List Int) (hi : Int), (recF hi os).length = os.length
  | [], _ => rfl
  | x :: r, hi => by rw [recF, List.length_cons, List.length_cons, recF_len r]
theorem pats_mem : ∀ (R : List Bool), R ∈ pats R.length
  | [] => List.mem_singleton.mpr rfl
  | b :: R => by
    have := pats_mem R
    rw [List.length_cons, pats]
    cases b with
    | false => exact List.mem_append.mpr (.inl (List.mem_map.mpr ⟨R, this, rfl⟩))
    | true => exact List.mem_append.mpr (.inr (List.mem_map.mpr ⟨R, this, rfl⟩))
theorem pats_nodup : ∀ d, (pats d).Nodup
  | 0 => by simp [pats]
  | d + 1 => by
    have ih := pats_nodup d
    rw [pats, List.nodup_append]
    refine ⟨?_, ?_, ?_⟩
    · exact List.Pairwise.map _ (fun a b h z => h (List.cons.inj z).2) ih
    · exact List.Pairwise.map _ (fun a b h z => h (List.cons.inj z).2) ih
    · intro a ha b hb e
      obtain ⟨_, _, rfl⟩ := List.mem_map.mp ha
      obtain ⟨_, _, rfl⟩ := List.mem_map.mp hb
      cases (List.cons.inj e).1
theorem sum_hit {p : List Bool → Bool} {x : List Bool} : ∀ {P : List (List Bool)}, P.Nodup → x ∈ P → sumL (fun R => b2 (x == R) * b2 (p R)) P = b2 (p x)
  | [], _, h => by cases h
  | y :: P, hn, h => by
    rw [List.nodup_cons] at hn
    rw [sumL]
    rcases List.mem_cons.mp h with rfl | h
    · have z : sumL (fun R => b2 (x == R) * b2 (p R)) P = 0 := by
        have : ∀ R ∈ P, b2 (x == R) * b2 (p R) = 0 * b2 (p R) := fun R hR => by
          have : (x == R) = false := beq_eq_false_iff_ne.mpr fun e => hn.1 (e ▸ hR)
          rw [this]
          rfl
        rw [sumL_congr this, sumL_mul, Int.zero_mul]
      rw [z, beq_self_eq_true]
      show 1 * _ + 0 = _
      omega
    · have : (x == y) = false := beq_eq_false_iff_ne.mpr fun e => hn.1 (e ▸ h)
      rw [this, sum_hit hn.2 h]
      show 0 * _ + _ = _
      omega
theorem count_sum {p : List Bool → Bool} {P : List (List Bool)} (hn : P.Nodup) : ∀ {L : List (List Bool)}, (∀ x ∈ L, x ∈ P) → ((L.countP p : Nat) : Int) = sumL (fun R => ((L.countP fun x => x == R : Nat) : Int) * b2 (p R)) P
  | [], _ => by
    have : sumL (fun R => (((([] : List (List Bool)).countP fun x => x == R) : Nat) : Int) * b2 (p R)) P = sumL (fun R => 0 * b2 (p R)) P := sumL_congr fun R _ => rfl
    rw [this, sumL_mul, Int.zero_mul]
    rfl
  | x :: L, h => by
    have ih := count_sum hn (p := p) (L := L) fun y hy => h y (List.mem_cons_of_mem _ hy)
    have e : ∀ R ∈ P, (((x :: L).countP fun x => x == R : Nat) : Int) * b2 (p R) = ((L.countP fun x => x == R : Nat) : Int) * b2 (p R) + b2 (x == R) * b2 (p R) := fun R _ => by
      rw [List.countP_cons, ← Int.add_mul]
      congr 1
      cases x == R <;> rfl
    rw [sumL_congr e, sumL_add, ← ih, sum_hit hn (h x List.mem_cons_self), List.countP_cons]
    cases p x <;> rfl
theorem rec_count : ∀ N < 7, ∀ R ∈ pats N, ((((allA N).map (recF (-1))).countP fun x => x == R : Nat) : Int) = wtR 0 R := by decide +kernel
theorem allA_fc : ∀ N < 7, (((allA N).length : Nat) : Int) = td N N := by decide +kernel
theorem allA_lenN : ∀ N < 7, ∀ o ∈ allA N, o.length = N := by decide +kernel
theorem won_count {N : Nat} (hN : N < 7) (plan : List (List Int)) : (((allA N).countP fun o => wnR plan plan.length 0 (recF (-1) o) : Nat) : Int) = cw N plan N := by
  have h1 : (allA N).countP (fun o => wnR plan plan.length 0 (recF (-1) o)) = ((allA N).map (recF (-1))).countP (wnR plan plan.length 0) := by
    rw [List.countP_map]
    rfl
  rw [h1, count_sum (pats_nodup N) (fun x hx => ?_), ← (show cw N (plan.take plan.length) N = cw N plan N by rw [List.take_length]), ← sum_wins (Nat.le_refl N) plan.length (Nat.le_refl _), Nat.sub_self]
  · exact sumL_congr fun R hR => by rw [rec_count N hN R hR]
  · obtain ⟨o, ho, rfl⟩ := List.mem_map.mp hx
    have := pats_mem (recF (-1) o)
    rw [recF_len, allA_lenN N hN o ho] at this
    exact this
theorem won_share {N : Nat} (hN : N < 7) (plan : List (List Int)) : lowZ (((allA N).countP fun o => wnR plan plan.length 0 (recF (-1) o) : Nat) : Int) (((allA N).length : Nat) : Int) = (rsR N plan).getD 0 (0, 1) := by
  rw [won_count hN, allA_fc N hN]
  have := rsR_low (N := N) (plan := plan) (Nat.le_refl N)
  rw [Nat.sub_self] at this
  exact this.symm
end L2


namespace L2
open PySem PySem.Spec PyProof.Rows
def allZ {α β : Type} (f : α → β → Bool) : List α → List β → Bool
  | [], [] => true
  | a :: as, b :: bs => f a b && allZ f as bs
  | _, _ => false
def litIs : Nat → Expr → PyData → Bool
  | 0, _, _ => false
  | _ + 1, .Constant .none _ _, .none => true
  | _ + 1, .Constant (.bool b) _ _, .bool c => b == c
  | _ + 1, .Constant (.int i) _ _, .int j => decide (i = j)
  | _ + 1, .Constant (.str x) _ _, .str y => decide (x = y)
  | _ + 1, .UnaryOp .USub (.Constant (.int i) _ _) _, .int j => decide (-i = j)
  | n + 1, .Tuple es _ _, .tuple ds => decide (es.length ≤ 100) && allZ (litIs n) es ds
  | n + 1, .List es _, .list ds => decide (es.length ≤ 100) && allZ (litIs n) es ds
  | _ + 1, .Dict [] [] _, .dict [] => true
  | _ + 1, _, _ => false
end L2


namespace L2
open PySem PySem.Spec PyProof.Rows
mutual
def smB : PyData → Bool
  | .int i => decide (Builtin.Int.intBits i ≤ 1000)
  | .tuple ds => smBs ds
  | _ => true
def smBs : List PyData → Bool
  | [] => true
  | d :: r => smB d && smBs r
end
def nestD (d : PyData) : Nat → PyData
  | 0 => d
  | n + 1 => .tuple [nestD d n]
def OddX (N h : Nat) (H0 H : Hp) (x : V) : Prop := ∃ S d, (∀ a, S a → H0 a = none) ∧ IsY S H x d ∧ OkD 900 59 d ∧ smB d = true ∧ snbD N h d = false ∧ (d.hasDict = true → ∀ a, S a → a ≠ sysModules)
def OddL (L : Addr) (N h : Nat) (H0 H : Hp) (x : V) : Prop := ∃ S d, (∀ a, S a → H0 a = none ∧ a ≠ L) ∧ IsY S H x d ∧ OkD 900 59 d ∧ smB d = true ∧ snbD N h d = false ∧ (d.hasDict = true → ∀ a, S a → a ≠ sysModules)
def BadRow (N : Nat) (d : PyData) : Prop := shsD ((N + 1 : Nat) : Int) d = false
def spNest : Sp := fun vs H Q _ => ∃ (n : Nat) (S : Addr → Prop) (x : V) (d : PyData), vs = [x, .int n] ∧ n ≤ 100 ∧ IsY S H x d ∧ ∀ x' H', Same H H' → IsY S H' x' (nestD d n) → Q x' H'
def spOddT : Sp := fun vs H Q _ => ∃ (N h n : Nat) (p q r : Addr), vs = [.ref p, .int N, .int h, .ref r] ∧ 0 < N ∧ N < 12 ∧ h < 4 ∧ TabT H r (tabL N (h + 1)) ∧ Spring H p q n ∧ n < 100000 ∧ ∀ l xs H', Spring H' p q (n + 2) → Keep p q H H' → H' l = some (.lst xs) → (∀ x ∈ xs, OddX N h (fun _ => none) H' x) → xs.length ≤ 100 → Q (.ref l) H'
end L2


namespace L2
open PySem PySem.Spec PyProof.Rows
end L2


namespace L2
open PySem PySem.Spec PyProof.Rows
def litOK (d : PyData) : Bool := d.showable && (d.leavesShort 1921 && (decide (d.bulk ≤ 100) && (decide (d.depth ≤ 20) && smB d)))
def BadR (N : Nat) (H : Hp) (x : V) : Prop := ∃ S d, IsY S H x d ∧ OkD 400 30 d ∧ smB d = true ∧ shsD ((N + 1 : Nat) : Int) d = false ∧ (d.hasDict = true → ∀ a, S a → a ≠ sysModules)
def BadL (L : Addr) (N : Nat) (H : Hp) (x : V) : Prop := ∃ S d, (∀ a, S a → a ≠ L) ∧ IsY S H x d ∧ OkD 400 30 d ∧ smB d = true ∧ shsD ((N + 1 : Nat) : Int) d = false ∧ (d.hasDict = true → ∀ a, S a → a ≠ sysModules)
end L2


namespace L2
open PySem PySem.Spec PyProof.Rows
def tupAt (H : Hp) : Option V → List V
  | some (.ref a) => match H a with
    | some (.tup ws) => ws
    | _ => []
  | _ => []
end L2
namespace L2
open PySem PySem.Spec PyProof.Rows
theorem Spring.keepL {H G : Hp} {p q L : Addr} {n : Nat} (sp : Spring H p q n) (k : Keep L L H G) (h1 : p ≠ L) (h2 : q ≠ L) : Spring G p q n := by
  obtain ⟨ns, s, t, a, b, r⟩ := sp
  exact ⟨ns, s, t, k _ _ a h1 h1, k _ _ b h2 h2, r⟩
def odd13 : List PyData := [.none, .int 1, .str "1/1", .list [.int 1, .int 1], .tuple [.int 1], .tuple [.int 1, .int 1, .int 1], .tuple [.int 2, .int 2], .tuple [.int 1, .int 0], .tuple [.int (-1), .int (-1)], .tuple [.bool true, .int 1], .tuple [.int 1, .bool true], .tuple [.tuple [.int 1, .int 1]], .dict []]
end L2


namespace L2
open PySem PySem.Spec PyProof.Rows
theorem is_sh {H : Hp} {z : Addr} {p : Sh} (h : Shr H z p) : Is H (.ref z) (shD p) := .tup h (.cons (.int _) (.cons (.int _) .nil))
def negAt (H : Hp) : V → Bool
  | .ref a => match H a with
    | some (.tup [.int n, _]) => decide (n < 0)
    | _ => false
  | _ => false
def negLast (H : Hp) (N : Nat) : V → Bool
  | .ref a => match H a with
    | some (.tup ws) => match ws[N]? with
      | some v => negAt H v
      | none => false
    | _ => false
  | _ => false
def spIsShL : Sp := fun vs H Q _ => ∃ S x d, vs = [x] ∧ IsY S H x d ∧ Sz 1000 d ∧ ShsB d ∧ ∀ H', Same H H' → Q (.bl (isShD d)) H'
def spLtW : Sp := fun vs H Q _ => ∃ (x y : Addr) (p q : Sh), vs = [.ref x, .ref y] ∧ Shr H x p ∧ Shr H y q ∧ Sm p.1 4000 ∧ Sm p.2 4000 ∧ Sm q.1 4000 ∧ Sm q.2 4000 ∧ Q (.bl (ltZ p q)) H
def spOfS : Sp := fun vs H Q _ => ∃ (p q l : Addr) (n : Nat) (xs : List V), vs = [.ref p, .ref l] ∧ Spring H p q n ∧ n < 900000 ∧ H l = some (.lst xs) ∧ l ≠ q ∧ 0 < xs.length ∧ xs.length < 1000 ∧ ∀ x H', x ∈ xs → Spring H' p q (n + 1) → Keep p q H H' → Q x H'
def spPutT : Sp := fun vs H Q _ => ∃ (a : Addr) (us : List V) (k : Nat) (x : V), vs = [.ref a, .int k, x] ∧ H a = some (.tup us) ∧ k < us.length ∧ us.length ≤ 900 ∧ ∀ z H', Same H H' → H' z = some (.tup (us.set k x)) → Q (.ref z) H'
theorem eqv_pair (a b c d : Int) : PyData.eqv (.tuple [.int a, .int b]) (.tuple [.int c, .int d]) = decide (([a, b] : List Int) = [c, d]) := eqv_ints [a, b] [c, d]
end L2


namespace L2
open PySem PySem.Spec PyProof.Rows
def spOrdsX : Sp := fun vs H Q _ => ∃ m : Nat, vs = [.int m] ∧ m ≤ 6 ∧ ∀ p zs H', Same H H' → H p = none → H' p = some (.lst (zs.map V.ref)) → RowsAt H' zs (allA m) → Q (.ref p) H'
theorem allA_ord {m : Nat} {o : List Int} (h : o ∈ allA m) : Ord m o ∧ o.length = m := by
  have := (iter_beg m m).1 o h
  exact ⟨this.ord, this.len⟩
theorem allA_len {m : Nat} (h : m ≤ 6) : (allA m).length ≤ 720 := by
  have := (iter_beg m m).2
  unfold allA
  rw [this]
  exact fac_small m (by omega) m (by omega)
def PlanT (H : Hp) (a : Addr) (plan : List (List Int)) : Prop := ∃ us, H a = some (.tup us) ∧ IsAllY NoS H us (plan.map intsD)
theorem PlanT.same {H H' : Hp} {a : Addr} {plan : List (List Int)} (h : PlanT H a plan) (s : Same H H') : PlanT H' a plan := by
  obtain ⟨us, h1, h2⟩ := h
  exact ⟨us, s _ _ h1, h2.same s⟩
theorem ints_isY {S : Addr → Prop} {H : Hp} {x : V} {ns : List Int} (h : IsY S H x (intsD ns)) : ∃ c, x = .ref c ∧ H c = some (.tup (ns.map V.int)) := by
  cases h with
  | tup e al =>
    have : ∀ {vs : List V} {ms : List Int}, IsAllY S H vs (ms.map PyData.int) → vs = ms.map V.int := by
      intro vs ms h
      induction ms generalizing vs with
      | nil => cases h; rfl
      | cons m r ih =>
        cases h with
        | cons h1 t1 =>
          cases h1
          rw [ih t1]
          rfl
    rw [this al] at e
    exact ⟨_, rfl, e⟩
theorem plan_at {S : Addr → Prop} {H : Hp} : ∀ {us : List V} {plan : List (List Int)} {i : Nat}, IsAllY S H us (plan.map intsD) → i < plan.length → ∃ c, us[i]? = some (.ref c) ∧ H c = some (.tup ((plan.getD i []).map V.int))
  | _ :: _, p :: ps, 0, .cons h _, _ => by
    obtain ⟨c, rfl, h1⟩ := ints_isY h
    exact ⟨c, rfl, h1⟩
  | _ :: _, p :: ps, i + 1, .cons _ t, hi => by
    obtain ⟨c, h1, h2⟩ := plan_at (i := i) t (by simpa using hi)
    exact ⟨c, by simpa using h1, h2⟩
  | _, [], _, _, hi => by simp at hi
def seenT : TS := fun D σ H => ∃ (N i : Nat) (c b y zf : Addr) (pl : List Int) (ws : List V) (w f : Sh), σ[0]? = some (some (.int N)) ∧ σ[1]? = some (some (.ref c)) ∧ σ[2]? = some (some (.ref b)) ∧ σ[4]? = some (some (.int i)) ∧ σ[5]? = some (some (.ref y)) ∧ H c = some (.tup (pl.map V.int)) ∧ H b = some (.tup ws) ∧ ws[i + 1]? = some (.ref zf) ∧ Shr H zf f ∧ Shr H y w ∧ 0 < N ∧ N < 100 ∧ i < 100 ∧ ShB f 1000 ∧ ∀ z H', Same H H' → Shr H' z (seenZ N pl i w f) → D.nx (σ.set 6 (some (.ref z))) H'
def spRp : Sp := fun vs H Q _ => ∃ (N h : Nat) (c b : Addr) (pl : List Int) (fs : List Sh) (cf : Nat → Int), vs = [.int N, .ref c, .ref b] ∧ 0 < N ∧ N < 42 ∧ h < 6 ∧ H c = some (.tup (pl.map V.int)) ∧ RowT H b fs ∧ CRow N h fs cf ∧ ∀ z H', Same H H' → RowT H' z (rpZ N pl fs N) → Q (.ref z) H'
def spRs : Sp := fun vs H Q _ => ∃ (N : Nat) (a : Addr) (plan : List (List Int)), vs = [.int N, .ref a] ∧ 0 < N ∧ N < 42 ∧ PlanT H a plan ∧ plan.length ≤ 5 ∧ ∀ z H', Same H H' → Shr H' z ((rsR N plan).getD 0 (0, 1)) → Q (.ref z) H'
def spWinsL : Sp := fun vs H Q _ => ∃ (N : Nat) (a o : Addr) (plan : List (List Int)) (os : List Int), vs = [.ref a, .ref o] ∧ N ≤ 60 ∧ PlanT H a plan ∧ plan.length ≤ 5 ∧ H o = some (.tup (os.map V.int)) ∧ Ord N os ∧ 0 < N ∧ ∀ H', Same H H' → Q (.bl (wnR plan plan.length 0 (recF (-1) os))) H'
def spPlanOf : Sp := fun vs H Q _ => ∃ (p q : Addr) (n m : Nat), vs = [.ref p, .int m] ∧ m ≤ 60 ∧ Spring H p q n ∧ n < 500000 ∧ ∀ z plan H', Spring H' p q (n + 1000) → Keep p q H H' → PlanT H' z plan → plan.length ≤ 4 → Q (.ref z) H'
end L2


namespace L2
open PySem PySem.Spec PyProof.Rows
def hiP : List Nat → Nat → Nat → Nat
  | [], _, b => b
  | s :: r, k, b => hiP r (k + 1) (if s = 0 then k else b)
def mwZ : Nat → List Nat → Nat → List Nat → Nat
  | 0, seen, _, pl => if pl.contains (hiP seen 0 0) then 1 else 0
  | d + 1, seen, h, pl => ((List.range (seen.length + 1)).map fun u => Nat.max (mwZ d (seen ++ [u]) h pl) (if 0 < h then mwZ d (seen ++ [u]) (h - 1) (pl ++ [seen.length]) else mwZ d (seen ++ [u]) h pl)).foldl (· + ·) 0
def wyZ (lays : List Nat → Nat → Bool) : Nat → List Nat → Nat → List Nat → Nat
  | 0, seen, _, pl => if pl.contains (hiP seen 0 0) then 1 else 0
  | d + 1, seen, h, pl => ((List.range (seen.length + 1)).map fun u => if 0 < h ∧ lays (seen ++ [u]) h = true then wyZ lays d (seen ++ [u]) (h - 1) (pl ++ [seen.length]) else wyZ lays d (seen ++ [u]) h pl).foldl (· + ·) 0
theorem foldl_le {α : Type} {f g : α → Nat} : ∀ {l : List α} {a b : Nat}, (∀ x ∈ l, f x ≤ g x) → a ≤ b → (l.map f).foldl (· + ·) a ≤ (l.map g).foldl (· + ·) b
  | [], _, _, _, h => h
  | x :: r, a, b, h, hab => by
    rw [List.map_cons, List.map_cons, List.foldl_cons, List.foldl_cons]
    exact foldl_le (fun y hy => h y (List.mem_cons_of_mem _ hy)) (Nat.add_le_add hab (h x List.mem_cons_self))
theorem way_le (lays : List Nat → Nat → Bool) : ∀ (d : Nat) (seen : List Nat) (h : Nat) (pl : List Nat), wyZ lays d seen h pl ≤ mwZ d seen h pl
  | 0, _, _, _ => Nat.le_refl _
  | d + 1, seen, h, pl => by
    rw [wyZ, mwZ]
    refine foldl_le (fun u _ => ?_) (Nat.le_refl _)
    split
    · rename_i hc
      rw [if_pos hc.1]
      exact Nat.le_trans (way_le lays d _ _ _) (Nat.le_max_right _ _)
    · exact Nat.le_trans (way_le lays d _ _ _) (Nat.le_max_left _ _)
def sufs : Nat → Nat → List (List Nat)
  | 0, _ => [[]]
  | d + 1, n => (List.range (n + 1)).flatMap fun u => (sufs d (n + 1)).map fun r => u :: r
def plW (lays : List Nat → Nat → Bool) : List Nat → List Nat → Nat → List Nat → List Nat
  | [], _, _, pl => pl
  | u :: r, seen, h, pl => if 0 < h ∧ lays (seen ++ [u]) h = true then plW lays r (seen ++ [u]) (h - 1) (pl ++ [seen.length]) else plW lays r (seen ++ [u]) h pl
def sumN {α : Type} (f : α → Nat) : List α → Nat
  | [] => 0
  | a :: r => f a + sumN f r
theorem sumN_app {α : Type} (f : α → Nat) : ∀ l m : List α, sumN f (l ++ m) = sumN f l + sumN f m
  | [], m => by rw [List.nil_append, sumN, Nat.zero_add]
  | a :: r, m => by rw [List.cons_append, sumN, sumN, sumN_app f r m]; omega
theorem sumN_map {α β : Type} (f : β → Nat) (g : α → β) : ∀ l : List α, sumN f (l.map g) = sumN (fun a => f (g a)) l
  | [] => rfl
  | a :: r => by rw [List.map_cons, sumN, sumN, sumN_map f g r]
theorem sumN_flat {α β : Type} (f : β → Nat) (g : α → List β) : ∀ l : List α, sumN f (l.flatMap g) = sumN (fun a => sumN f (g a)) l
  | [] => rfl
  | a :: r => by rw [List.flatMap_cons, sumN_app, sumN, sumN_flat f g r]
theorem sumN_congr {α : Type} {f g : α → Nat} : ∀ {l : List α}, (∀ a ∈ l, f a = g a) → sumN f l = sumN g l
  | [], _ => rfl
  | a :: r, h => by rw [sumN, sumN, h a List.mem_cons_self, sumN_congr fun x hx => h x (List.mem_cons_of_mem _ hx)]
theorem sumN_perm {α : Type} {f : α → Nat} {l m : List α} (h : l.Perm m) : sumN f l = sumN f m := by
  induction h with
  | nil => rfl
  | cons x _ ih => rw [sumN, sumN, ih]
  | swap x y l => rw [sumN, sumN, sumN, sumN]; omega
  | trans _ _ h1 h2 => rw [h1, h2]
theorem foldl_sumN {α : Type} (f : α → Nat) : ∀ (l : List α) (a : Nat), (l.map f).foldl (· + ·) a = a + sumN f l
  | [], a => rfl
  | x :: r, a => by rw [List.map_cons, List.foldl_cons, foldl_sumN f r, sumN]; omega
def wonW (lays : List Nat → Nat → Bool) (h : Nat) (row : List Nat) : Nat := if (plW lays row [] h []).contains (hiP row 0 0) then 1 else 0
theorem way_rows (lays : List Nat → Nat → Bool) : ∀ (d : Nat) (seen : List Nat) (h : Nat) (pl : List Nat), wyZ lays d seen h pl = sumN (fun r => if (plW lays r seen h pl).contains (hiP (seen ++ r) 0 0) then 1 else 0) (sufs d seen.length)
  | 0, seen, h, pl => by
    rw [wyZ, sufs, sumN, sumN, plW, List.append_nil, Nat.add_zero]
  | d + 1, seen, h, pl => by
    rw [wyZ, foldl_sumN, Nat.zero_add, sufs, sumN_flat]
    refine sumN_congr fun u _ => ?_
    rw [sumN_map]
    have e : ∀ r : List Nat, seen ++ u :: r = seen ++ [u] ++ r := fun r => by simp
    have el : seen.length + 1 = (seen ++ [u]).length := by simp
    split
    · rename_i hc
      rw [way_rows lays d, el]
      refine sumN_congr fun r _ => ?_
      rw [e r, plW, if_pos hc]
    · rename_i hc
      rw [way_rows lays d, el]
      refine sumN_congr fun r _ => ?_
      rw [e r, plW, if_neg hc]
def seenO (o : List Int) : List Nat := (List.range o.length).map fun k => ((o.take k).filter fun x => decide (x > o.getD k 0)).length
theorem seen_len (o : List Int) : (seenO o).length = o.length := by
  unfold seenO
  rw [List.length_map, List.length_range]
end L2


namespace L2
open PySem PySem.Spec PyProof.Rows
theorem mw_best4 : ∀ N < 5, ∀ h < 5, 0 < N → lowZ ((mwZ N [] h [] : Nat) : Int) (td N N) = (tbZ N h).getD 0 (0, 1) := by decide +kernel
theorem mw_best6 : ∀ N < 7, ∀ h < 3, 0 < N → lowZ ((mwZ N [] h [] : Nat) : Int) (td N N) = (tbZ N h).getD 0 (0, 1) := by decide +kernel
theorem seen_rows : ∀ N < 7, ((allA N).map seenO).isPerm (sufs N 0) = true := by decide +kernel
theorem seen_hi : ∀ N < 7, 0 < N → ∀ o ∈ allA N, hiP (seenO o) 0 0 = o.idxOf ((N : Int) - 1) := by decide +kernel
theorem way_orders {N : Nat} (hN : N < 7) (lays : List Nat → Nat → Bool) (h : Nat) : sumN (fun o => wonW lays h (seenO o)) (allA N) ≤ mwZ N [] h [] := by
  have e : sumN (fun o => wonW lays h (seenO o)) (allA N) = wyZ lays N [] h [] := by
    rw [way_rows, ← sumN_map (wonW lays h) seenO, sumN_perm (List.isPerm_iff.mp (seen_rows N hN))]
    rfl
  rw [e]
  exact way_le lays N [] h []
end L2


namespace K89
open PySem PySem.Spec PyProof.Rows L2
def top (i : Nat) : Stmt := PySem.Challenge.pw_shuffletold_k89_whole_no_way_wins_more.main.body.getD i (.Pass ⟨0, 0, 0, 0⟩)
end K89


namespace K89
open PySem PySem.Spec PyProof.Rows L2
abbrev s_greatest_divisor : Stmt := top 10
abbrev s_share_of : Stmt := top 5
abbrev s_plus : Stmt := top 6
abbrev s_times : Stmt := top 7
abbrev s_is_less : Stmt := top 8
abbrev s_greater : Stmt := top 9
section
variable {P : Program} {w : World} {K : PySem.W.Frag} {mg : Str → Option Value} {base : Heap}
theorem sc_greatest_divisor : FnScope ["over", "under", "one", "other"] ["over", "under"] (defScope s_greatest_divisor) := ⟨rfl, rfl, rfl, by decide +kernel, rfl, by decide +kernel, by decide +kernel⟩
theorem ok_greatest_divisor {f : Addr} {fd : FuncData} (F : Fun K "greatest_divisor" "greatest_divisor" s_greatest_divisor f fd) : FnOk P w K mg base CX0 1 f fd ["over", "under"] spGcd := by
  refine F.ok sc_greatest_divisor (fun vs H Q E h => ?_) (fun cdv A outer s H vs Q E hr h => ?_)
  · obtain ⟨a, b, rfl, _⟩ := h
    rfl
  · obtain ⟨a, b, rfl, hb, k⟩ := h
    refine ⟨_, (pss_cons (ps_par (i := 2) (j := 3) rfl sc_greatest_divisor.nd rfl rfl (by decide) rfl rfl (pa_cons (pv 0) (pa_cons (pv 1) pa_nil)) rfl)
      (pss_cons (ps_while PassesOwn.never (pt_cmpR op_ne (pv 3) pe_int (nomark _))
        (pss_one (ps_par (i := 2) (j := 3) rfl sc_greatest_divisor.nd rfl rfl (by decide) rfl rfl (pa_cons (pv 3) (pa_cons (pe_op op_mod (pv 2) (pv 3)) pa_nil)) rfl)))
      (pss_one (ps_ret (pv 2))))), ?_⟩

    refine ⟨_, rfl, _, rfl, _, _, rfl, ?_⟩
    refine ⟨fun m σ G => ∃ x y : Int, m = y.toNat ∧ σ = [some (.int a), some (.int b), some (.int x), some (.int y)] ∧ G = H ∧ 0 ≤ y ∧ (y = 0 → 0 < x) ∧ gcdZ x y = gcdZ a b, ⟨_, a, b, rfl, rfl, rfl, by omega, by omega, rfl⟩, ?_⟩
    rintro m σ G ⟨x, y, rfl, rfl, rfl, y0, x0, e⟩
    refine ⟨_, rfl, rfl, _, rfl, ?_⟩
    by_cases hy : y = 0
    · subst hy
      refine iteF ⟨_, rfl, ?_⟩
      rw [gcdZ_zero (Int.le_of_lt (x0 rfl))] at e
      rw [e]
      exact k
    · rw [show (!decide (V.int y = V.int 0)) = true from by rw [decide_eq_false (fun z => hy (V.int.inj z))]; rfl]
      refine iteT ⟨fun σ' G' => ∃ x' y' : Int, y' < y ∧ σ' = [some (.int a), some (.int b), some (.int x'), some (.int y')] ∧ G' = G ∧ 0 ≤ y' ∧ (y' = 0 → 0 < x') ∧ gcdZ x' y' = gcdZ a b, ?_, ?_⟩
      · rintro σ' G' ⟨x', y', h1, h2, h3, h4, h5⟩
        exact ⟨_, by omega, x', y', rfl, h2, h3, h4, h5⟩
      · refine ⟨_, rfl, _, rfl, _, rfl, _, _, rfl, rfl, by omega, _, _, rfl, ?_⟩
        exact ⟨_, _, Int.emod_lt_of_pos _ (by omega), rfl, rfl, Int.emod_nonneg _ hy, fun _ => by omega, by rw [gcdZ_step (by omega)]; exact e⟩
theorem sc_share_of : FnScope ["over", "under", "both"] ["over", "under"] (defScope s_share_of) := ⟨rfl, rfl, rfl, by decide +kernel, rfl, by decide +kernel, by decide +kernel⟩
theorem ok_share_of {f : Addr} {fd : FuncData} (F : Fun K "share_of" "share_of" s_share_of f fd) (Cgreatest_divisor : Cal P w K mg base 1 "greatest_divisor" ["over", "under"] spGcd) : FnOk P w K mg base CX0 2 f fd ["over", "under"] spLow := by
  refine F.ok sc_share_of (fun vs H Q E h => ?_) (fun cdv A outer s H vs Q E hr h => ?_)
  · obtain ⟨a, b, rfl, _⟩ := h
    rfl
  · obtain ⟨a, b, rfl, hb, sb, k⟩ := h
    refine ⟨_, (pss_cons (ps_set (i := 2) sc_share_of.nd rfl (Or.inl rfl) (pe_cal Cgreatest_divisor (hr.mono (by decide)) rfl (pa_cons (pv 0) (pa_cons (pv 1) pa_nil))))
      (pss_one (ps_ret (pe_tup (pa_cons (pe_op op_fdivC (pv 0) (pv 2)) (pa_cons (pe_op op_fdivC (pv 1) (pv 2)) pa_nil)))))), ?_⟩

    have g0 := gcdZ_pos (a := a) hb
    have gs : Sm (gcdZ a b) 8000 := sb.le (by have := gcdZ_le (a := a) hb; omega)
    refine ⟨_, rfl, _, rfl, a, b, rfl, hb, ?_⟩
    refine ⟨_, rfl, _, rfl, _, _, rfl, rfl, ⟨g0, gs⟩, _, rfl, _, rfl, _, _, rfl, rfl, ⟨g0, gs⟩, by show 2 ≤ sizeLine; decide, fun z hz => ?_⟩
    exact k z _ (same_upd hz) upd_same
theorem sc_plus : FnScope ["one", "other"] ["one", "other"] (defScope s_plus) := ⟨rfl, rfl, rfl, by decide +kernel, rfl, by decide +kernel, by decide +kernel⟩
theorem ok_plus {f : Addr} {fd : FuncData} (F : Fun K "plus" "plus" s_plus f fd) (Cshare_of : Cal P w K mg base 2 "share_of" ["over", "under"] spLow) : FnOk P w K mg base CX0 3 f fd ["one", "other"] (spSh plZ) := by
  refine F.ok sc_plus (fun vs H Q E h => ?_) (fun cdv A outer s H vs Q E hr h => ?_)
  · obtain ⟨x, y, p, q, rfl, _⟩ := h
    rfl
  · obtain ⟨x, y, p, q, rfl, hx, hy, bp, bq, k⟩ := h
    refine ⟨_, (pss_one (ps_ret (pe_cal Cshare_of (hr.mono (by decide)) rfl (pa_cons (pe_op op_add (pe_op op_mulC (pe_ix ix_tup (pv 0) pe_int (fun _ _ => rfl)) (pe_ix ix_tup (pv 1) pe_int (fun _ _ => rfl))) (pe_op op_mulC (pe_ix ix_tup (pv 1) pe_int (fun _ _ => rfl)) (pe_ix ix_tup (pv 0) pe_int (fun _ _ => rfl)))) (pa_cons (pe_op op_mulC (pe_ix ix_tup (pv 0) pe_int (fun _ _ => rfl)) (pe_ix ix_tup (pv 1) pe_int (fun _ _ => rfl))) pa_nil))))), ?_⟩
    refine ⟨_, rfl, x, _, 0, _, rfl, rfl, SqT.of hx, atI_nat (j := 0) rfl, _, rfl, y, _, 1, _, rfl, rfl, SqT.of hy, atI_nat (j := 1) rfl, _, _, rfl, rfl, ⟨bp.s1.mono (by decide), bq.s2.mono (by decide)⟩, _, rfl, y, _, 0, _, rfl, rfl, SqT.of hy, atI_nat (j := 0) rfl, _, rfl, x, _, 1, _, rfl, rfl, SqT.of hx, atI_nat (j := 1) rfl, _, _, rfl, rfl, ⟨bq.s1.mono (by decide), bp.s2.mono (by decide)⟩, _, _, rfl, rfl, _, rfl, x, _, 1, _, rfl, rfl, SqT.of hx, atI_nat (j := 1) rfl, _, rfl, y, _, 1, _, rfl, rfl, SqT.of hy, atI_nat (j := 1) rfl, _, _, rfl, rfl, ⟨bp.s2.mono (by decide), bq.s2.mono (by decide)⟩, _, _, rfl, Int.mul_pos bp.pos bq.pos, (bp.s2.mul bq.s2).mono (by decide), fun z H2 s2 hz => k z H2 s2 hz⟩
theorem sc_times : FnScope ["one", "other"] ["one", "other"] (defScope s_times) := ⟨rfl, rfl, rfl, by decide +kernel, rfl, by decide +kernel, by decide +kernel⟩
theorem ok_times {f : Addr} {fd : FuncData} (F : Fun K "times" "times" s_times f fd) (Cshare_of : Cal P w K mg base 2 "share_of" ["over", "under"] spLow) : FnOk P w K mg base CX0 3 f fd ["one", "other"] (spSh tmZ) := by
  refine F.ok sc_times (fun vs H Q E h => ?_) (fun cdv A outer s H vs Q E hr h => ?_)
  · obtain ⟨x, y, p, q, rfl, _⟩ := h
    rfl
  · obtain ⟨x, y, p, q, rfl, hx, hy, bp, bq, k⟩ := h
    refine ⟨_, (pss_one (ps_ret (pe_cal Cshare_of (hr.mono (by decide)) rfl (pa_cons (pe_op op_mulC (pe_ix ix_tup (pv 0) pe_int (fun _ _ => rfl)) (pe_ix ix_tup (pv 1) pe_int (fun _ _ => rfl))) (pa_cons (pe_op op_mulC (pe_ix ix_tup (pv 0) pe_int (fun _ _ => rfl)) (pe_ix ix_tup (pv 1) pe_int (fun _ _ => rfl))) pa_nil))))), ?_⟩
    refine ⟨_, rfl, x, _, 0, _, rfl, rfl, SqT.of hx, atI_nat (j := 0) rfl, _, rfl, y, _, 0, _, rfl, rfl, SqT.of hy, atI_nat (j := 0) rfl, _, _, rfl, rfl, ⟨bp.s1.mono (by decide), bq.s1.mono (by decide)⟩, _, rfl, x, _, 1, _, rfl, rfl, SqT.of hx, atI_nat (j := 1) rfl, _, rfl, y, _, 1, _, rfl, rfl, SqT.of hy, atI_nat (j := 1) rfl, _, _, rfl, rfl, ⟨bp.s2.mono (by decide), bq.s2.mono (by decide)⟩, _, _, rfl, Int.mul_pos bp.pos bq.pos, (bp.s2.mul bq.s2).mono (by decide), fun z H2 s2 hz => k z H2 s2 hz⟩
theorem sc_is_less : FnScope ["one", "other"] ["one", "other"] (defScope s_is_less) := ⟨rfl, rfl, rfl, by decide +kernel, rfl, by decide +kernel, by decide +kernel⟩
theorem ok_is_less {f : Addr} {fd : FuncData} (F : Fun K "is_less" "is_less" s_is_less f fd) : FnOk P w K mg base CX0 1 f fd ["one", "other"] spLt := by
  refine F.ok sc_is_less (fun vs H Q E h => ?_) (fun cdv A outer s H vs Q E hr h => ?_)
  · obtain ⟨x, y, p, q, rfl, _⟩ := h
    rfl
  · obtain ⟨x, y, p, q, rfl, hx, hy, bp, bq, k⟩ := h
    refine ⟨_, (pss_one (ps_ret (pe_cmpR op_lt (pe_op op_mulC (pe_ix ix_tup (pv 0) pe_int (fun _ _ => rfl)) (pe_ix ix_tup (pv 1) pe_int (fun _ _ => rfl))) (pe_op op_mulC (pe_ix ix_tup (pv 1) pe_int (fun _ _ => rfl)) (pe_ix ix_tup (pv 0) pe_int (fun _ _ => rfl))) (nomark _)))), ?_⟩
    refine ⟨_, rfl, x, _, 0, _, rfl, rfl, SqT.of hx, atI_nat (j := 0) rfl, _, rfl, y, _, 1, _, rfl, rfl, SqT.of hy, atI_nat (j := 1) rfl, _, _, rfl, rfl, ⟨bp.s1.mono (by decide), bq.s2.mono (by decide)⟩, _, rfl, y, _, 0, _, rfl, rfl, SqT.of hy, atI_nat (j := 0) rfl, _, rfl, x, _, 1, _, rfl, rfl, SqT.of hx, atI_nat (j := 1) rfl, _, _, rfl, rfl, ⟨bq.s1.mono (by decide), bp.s2.mono (by decide)⟩, _, _, rfl, rfl, ?_⟩
    exact k H (Same.refl H)
theorem sc_greater : FnScope ["one", "other"] ["one", "other"] (defScope s_greater) := ⟨rfl, rfl, rfl, by decide +kernel, rfl, by decide +kernel, by decide +kernel⟩
theorem ok_greater {f : Addr} {fd : FuncData} (F : Fun K "greater" "greater" s_greater f fd) (Cis_less : Cal P w K mg base 1 "is_less" ["one", "other"] spLt) : FnOk P w K mg base CX0 2 f fd ["one", "other"] (spMm maxZ) := by
  refine F.ok sc_greater (fun vs H Q E h => ?_) (fun cdv A outer s H vs Q E hr h => ?_)
  · obtain ⟨x, y, p, q, rfl, _⟩ := h
    rfl
  · obtain ⟨x, y, p, q, rfl, hx, hy, bp, bq, k⟩ := h
    refine ⟨_, (pss_one (ps_ret (pe_ifExp (pt_val (pe_cal Cis_less (hr.mono (by decide)) rfl (pa_cons (pv 0) (pa_cons (pv 1) pa_nil)))) (pv 1) (pv 0)))), ?_⟩
    refine ⟨_, rfl, _, rfl, x, y, p, q, rfl, hx, hy, bp, bq, fun H2 s2 => ⟨_, rfl, ?_⟩⟩
    have e : maxZ p q = if ltZ p q then q else p := rfl
    refine ite2 (fun h => ?_) (fun h => ?_)
    · refine ⟨_, rfl, k y H2 s2 ?_⟩
      rw [e, if_pos h]
      exact s2 _ _ hy
    · refine ⟨_, rfl, k x H2 s2 ?_⟩
      rw [e, if_neg h]
      exact s2 _ _ hx
end
end K89


namespace K89
open PySem PySem.Spec PyProof.Rows L2
abbrev s_is_whole : Stmt := top 1
abbrev s_are_wholes : Stmt := top 2
section
variable {P : Program} {w : World} {K : PySem.W.Frag} {mg : Str → Option Value} {base : Heap}
theorem sc_is_whole : FnScope ["thing"] ["thing"] (defScope s_is_whole) := ⟨rfl, rfl, rfl, by decide +kernel, rfl, by decide +kernel, by decide +kernel⟩
set_option maxHeartbeats 8000000 in
theorem ok_is_whole {f : Addr} {fd : FuncData} (F : Fun K "is_whole" "is_whole" s_is_whole f fd) (T : Top mg) : FnOk P w K mg base CX0 1 f fd ["thing"] (spWhA K) := by
  refine F.ok sc_is_whole (fun vs H Q E h => ?_) (fun cdv A outer s H vs Q E hr h => ?_)
  · obtain ⟨x, rfl, _⟩ := h
    rfl
  · obtain ⟨x, rfl, ⟨t, ht, hm⟩, k⟩ := h
    refine ⟨_, (pss_one (ps_ret (pe_and (pe_callB call_isi (by rfl) T.n_isinstance boot_isinstance (pa_cons (pv 0) (pa_cons (pe_bltn (v := .ty "int") rfl T.n_int boot_int rfl) pa_nil))) (pe_one (pe_not (pe_callB call_isi (by rfl) T.n_isinstance boot_isinstance (pa_cons (pv 0) (pa_cons (pe_bltn (v := .ty "bool") rfl T.n_bool boot_bool rfl) pa_nil)))))))), ?_⟩
    obtain ⟨k1, k2, _⟩ := kit7 (K := K) hm
    have hi := (tyI ht).trans isIv_iff.symm
    refine ⟨_, rfl, _, _, _, _, rfl, ht, k1, _, rfl, ?_⟩
    by_cases hb : t = "bool"
    · subst hb
      refine iteT ⟨_, rfl, _, _, _, _, rfl, ht, k2, _, rfl, ?_⟩
      have : isIv x = false := by
        cases e : isIv x with
        | false => rfl
        | true => exact absurd (hi.mpr e) (by decide)
      rw [this] at k
      exact k
    · by_cases hI : t = "int"
      · subst hI
        refine iteT ⟨_, rfl, _, _, _, _, rfl, ht, k2, _, rfl, ?_⟩
        rw [hi.mp rfl] at k
        exact k
      · have e0 : (t == "bool" || t == "int") = false := by
          rw [beq_eq_false_iff_ne.mpr hb, beq_eq_false_iff_ne.mpr hI]
          rfl
        have : isIv x = false := by
          cases e : isIv x with
          | false => rfl
          | true => exact absurd (hi.mpr e) hI
        rw [this] at k
        rw [e0]
        exact iteF k
theorem sc_are_wholes : FnScope ["thing"] ["thing"] (defScope s_are_wholes) := ⟨rfl, rfl, rfl, by decide +kernel, rfl, by decide +kernel, by decide +kernel⟩
set_option maxHeartbeats 8000000 in
theorem ok_are_wholes {f : Addr} {fd : FuncData} (F : Fun K "are_wholes" "are_wholes" s_are_wholes f fd) (T : Top mg) (Cis_whole : Cal P w K mg base 1 "is_whole" ["thing"] (spWhA K)) : FnOk P w K mg base CX0 2 f fd ["thing"] spWhsD := by
  refine F.ok sc_are_wholes (fun vs H Q E h => ?_) (fun cdv A outer s H vs Q E hr h => ?_)
  · obtain ⟨S, x, d, rfl, _⟩ := h
    rfl
  · obtain ⟨S, x, d, rfl, y, sz, k⟩ := h
    refine ⟨_, (pss_one (ps_ret (pe_and (pe_callB call_isi (by rfl) T.n_isinstance boot_isinstance (pa_cons (pv 0) (pa_cons (pe_bltn (v := .ty "tuple") rfl T.n_tuple boot_tuple rfl) pa_nil))) (pe_one (pe_callB (call_all rfl) (by rfl) T.n_all boot_all (pa_cons (pe_lc (N' := ["number"]) (n := 1) (ix := []) rfl (CompScope.of (sc := defScope s_are_wholes) (N := ["thing"]) (by decide +kernel) rfl rfl) (pi_tup (pv 0)) (fun _ _ _ _ _ => ⟨(pg_name (i := 0) (show (["number"] : List Str).Nodup by decide +kernel) rfl (Or.inl rfl)), pts_nil, (pe_cal Cis_whole (hr.mono (by decide)) rfl (pa_cons (pv 0) pa_nil))⟩)) pa_nil)))))), ?_⟩
    obtain ⟨_, _, k3⟩ := kit7 (K := K) (tyD_in d)
    refine ⟨_, rfl, _, _, _, _, rfl, y.ty, k3, _, rfl, ?_⟩
    rcases y.isT with ⟨a, vs, ds, rfl, rfl, ha, al⟩ | ⟨hne, hn⟩
    · refine iteT ?_
      refine ⟨_, rfl, a, rfl, ⟨_, SqT.of ha⟩, ?_⟩
      have hl : vs.length ≤ 1000 := by rw [al.len]; exact sz.tup.1
      refine lc_growI (yields_tup (K := K) (a := a) (xs := vs)) (small1 hl) (ds.map whD) (by rw [List.length_map, al.len]) (fun G sm => SqT.of (sm _ _ ha)) (fun i v b G hv hb sm Q' q => ?_) fun acc G hacc sm hG => ?_
      · obtain ⟨e, he, ye⟩ := al.at hv
        rw [List.getElem?_map, he] at hb
        cases hb
        refine ⟨_, rfl, v, rfl, (ye.same sm).kn, ?_⟩
        rw [wh_int ye]
        exact q G (Same.refl G)
      · refine ⟨acc, _, rfl, hG, ?_⟩
        have := k G sm
        rw [show wholesD (.tuple ds) = (ds.map whD).all id by rw [List.all_map]; rfl] at this
        exact this
    · rw [beq_eq_false_iff_ne.mpr hne]
      refine iteF ?_
      have := k H (Same.refl H)
      rw [show wholesD d = false by cases d <;> first | rfl | exact absurd rfl (hn _)] at this
      exact this
end
end K89


namespace K89
open PySem PySem.Spec PyProof.Rows L2
abbrev s_is_share : Stmt := top 4
abbrev s_by_laying : Stmt := top 16
abbrev s_from_place : Stmt := top 15
abbrev s_best_from : Stmt := top 14
section
variable {P : Program} {w : World} {K : PySem.W.Frag} {mg : Str → Option Value} {base : Heap}
theorem sc_is_share : FnScope ["thing"] ["thing"] (defScope s_is_share) := ⟨rfl, rfl, rfl, by decide +kernel, rfl, by decide +kernel, by decide +kernel⟩
set_option maxHeartbeats 8000000 in
theorem ok_is_share {f : Addr} {fd : FuncData} (F : Fun K "is_share" "is_share" s_is_share f fd) (T : Top mg) (Care_wholes : Cal P w K mg base 2 "are_wholes" ["thing"] spWhsD) (Cgreatest_divisor : Cal P w K mg base 1 "greatest_divisor" ["over", "under"] spGcd) : FnOk P w K mg base CX0 3 f fd ["thing"] spIsSh := by
  refine F.ok sc_is_share (fun vs H Q E h => ?_) (fun cdv A outer s H vs Q E hr h => ?_)
  · obtain ⟨S, x, d, rfl, _⟩ := h
    rfl
  · obtain ⟨S, x, d, rfl, y, sz, k⟩ := h
    refine ⟨_, (pss_cons (ps_if (PW.pt (pw_or (pt_not (pt_val (pe_cal Care_wholes (hr.mono (by decide)) rfl (pa_cons (pv 0) pa_nil)))) (pw_or1 (pt_cmpR op_ne (pe_callB call_len_seq (by rfl) T.n_len PySem.boot_len (pa_cons (pv 0) pa_nil)) pe_int (nomark _)))))
        (pss_one (ps_ret pe_bl))
        pss_nil)
      (pss_one (ps_ret (pe_and (pe_cmpR op_ge (pe_ix ix_tup (pv 0) pe_int (fun _ _ => rfl)) pe_int (nomark _)) (pe_one (pe_cmpR op_eq (pe_cal Cgreatest_divisor (hr.mono (by decide)) rfl (pa_cons (pe_ix ix_tup (pv 0) pe_int (fun _ _ => rfl)) (pa_cons (pe_ix ix_tup (pv 0) pe_int (fun _ _ => rfl)) pa_nil))) pe_int (nomark _))))))), ?_⟩
    refine ⟨_, rfl, S, x, d, rfl, y, sz, fun H1 s1 => ⟨_, rfl, ?_⟩⟩
    by_cases hw : wholesD d = true
    · rw [hw]
      refine iteF ?_
      rcases y.isT with ⟨a, vs, ds, rfl, rfl, ha, al⟩ | ⟨hne, hn⟩
      · have hv := ints_of al hw
        refine ⟨_, rfl, a, _, rfl, .inr (SqT.of (s1 _ _ ha)), rfl, _, rfl, ?_⟩
        by_cases h2 : vs.length = 2
        · obtain ⟨d1, d2, rfl⟩ : ∃ d1 d2, ds = [d1, d2] := by
            have := al.len
            match ds, (by omega : ds.length = 2) with
            | [d1, d2], _ => exact ⟨d1, d2, rfl⟩
          have hw1 : whD d1 = true ∧ whD d2 = true := by
            have : (whD d1 && (whD d2 && true)) = true := hw
            simpa using this
          obtain ⟨hw1, hw2⟩ := hw1
          cases d1 with
          | int a1 =>
            cases d2 with
            | int b1 =>
              have hv : vs = [V.int a1, V.int b1] := hv
              subst hv
              have ha1 := s1 _ _ ha
              refine iteF ?_
              refine ⟨_, rfl, a, _, 1, _, rfl, rfl, SqT.of ha1, atI_nat (j := 1) rfl, _, _, rfl, rfl, _, rfl, ?_⟩
              by_cases hb : 1 ≤ b1
              · rw [decide_eq_true (show b1 ≥ 1 from hb)]
                refine iteT ?_
                refine ⟨_, rfl, a, _, 0, _, rfl, rfl, SqT.of ha1, atI_nat (j := 0) rfl, _, rfl, a, _, 1, _, rfl, rfl, SqT.of ha1, atI_nat (j := 1) rfl, a1, b1, rfl, by omega, rfl, ?_⟩
                have := k H1 s1
                rw [show isShD (.tuple [.int a1, .int b1]) = decide (V.int (gcdZ a1 b1) = V.int 1) from by
                  show (decide (1 ≤ b1) && decide (gcdZ a1 b1 = 1)) = _
                  rw [decide_eq_true hb, Bool.true_and]
                  exact decide_eq_decide.mpr ⟨fun z => by rw [z], fun z => V.int.inj z⟩] at this
                exact this
              · rw [decide_eq_false (show ¬ b1 ≥ 1 from hb)]
                refine iteF ?_
                have := k H1 s1
                rw [show isShD (.tuple [.int a1, .int b1]) = false from by
                  show (decide (1 ≤ b1) && decide (gcdZ a1 b1 = 1)) = _
                  rw [decide_eq_false hb, Bool.false_and]] at this
                exact this
            | _ => cases hw2
          | _ => cases hw1
        · rw [decide_eq_false (fun z => h2 (by have := V.int.inj z; omega))]
          refine iteT ?_
          have := k H1 s1
          rw [show isShD (.tuple ds) = false from by
            unfold isShD
            split
            · rename_i heq
              cases heq
              exact absurd al.len h2
            · rfl] at this
          exact this
      · cases d with
        | tuple ds => exact absurd rfl (hn ds)
        | _ => cases hw
    · have hw := Bool.eq_false_iff.mpr hw
      rw [hw]
      refine iteT ?_
      refine iteT ?_
      have := k H1 s1
      rw [show isShD d = false from by
        unfold isShD
        split
        · cases hw
        · rfl] at this
      exact this
theorem sc_by_laying : FnScope ["many", "place", "fewer"] ["many", "place", "fewer"] (defScope s_by_laying) := ⟨rfl, rfl, rfl, by decide +kernel, rfl, by decide +kernel, by decide +kernel⟩
theorem ok_by_laying {f : Addr} {fd : FuncData} (F : Fun K "by_laying" "by_laying" s_by_laying f fd) (Cshare_of : Cal P w K mg base 2 "share_of" ["over", "under"] spLow) (Cplus : Cal P w K mg base 3 "plus" ["one", "other"] (spSh plZ)) : FnOk P w K mg base CX0 4 f fd ["many", "place", "fewer"] spBy := by
  refine F.ok sc_by_laying (fun vs H Q E h => ?_) (fun cdv A outer s H vs Q E hr h => ?_)
  · obtain ⟨N, i, y, q, rfl, _⟩ := h
    rfl
  · obtain ⟨N, i, y, q, rfl, h0, h1, i0, i1, hy, bq, k⟩ := h
    refine ⟨_, (pss_one (ps_ret (pe_cal Cplus (hr.mono (by decide)) rfl (pa_cons (pe_cal Cshare_of (hr.mono (by decide)) rfl (pa_cons (pe_op op_add (pv 1) pe_int) (pa_cons (pv 0) pa_nil))) (pa_cons (pv 2) pa_nil))))), ?_⟩
    refine ⟨_, rfl, _, _, rfl, rfl, _, rfl, _, _, rfl, h0, (sm_small (by omega) (by omega)).mono (by decide), fun x H1 s1 hx => ?_⟩
    refine ⟨_, rfl, x, y, _, q, rfl, hx, s1 _ _ hy, (ShB.low (n := 8) h0 (sm_small (by omega) (by omega)) (sm_small (by omega) (by omega))).mono (by decide), bq.mono (by decide), fun z H2 s2 hz => k z H2 (s1.trans s2) hz⟩
theorem sc_from_place : FnScope ["place", "waiting", "seen"] ["place", "waiting", "seen"] (defScope s_from_place) := ⟨rfl, rfl, rfl, by decide +kernel, rfl, by decide +kernel, by decide +kernel⟩
theorem ok_from_place {f : Addr} {fd : FuncData} (F : Fun K "from_place" "from_place" s_from_place f fd) (Cplus : Cal P w K mg base 3 "plus" ["one", "other"] (spSh plZ)) (Ctimes : Cal P w K mg base 3 "times" ["one", "other"] (spSh tmZ)) : FnOk P w K mg base CX0 4 f fd ["place", "waiting", "seen"] spFrom := by
  refine F.ok sc_from_place (fun vs H Q E h => ?_) (fun cdv A outer s H vs Q E hr h => ?_)
  · obtain ⟨i, x, y, p, q, rfl, _⟩ := h
    rfl
  · obtain ⟨i, x, y, p, q, rfl, i0, i1, hx, hy, bp, bq, k⟩ := h
    refine ⟨_, (pss_one (ps_ret (pe_cal Ctimes (hr.mono (by decide)) rfl (pa_cons (pe_cal Cplus (hr.mono (by decide)) rfl (pa_cons (pe_cal Ctimes (hr.mono (by decide)) rfl (pa_cons (pe_tup (pa_cons (pv 0) (pa_cons pe_int pa_nil))) (pa_cons (pv 1) pa_nil))) (pa_cons (pv 2) pa_nil))) (pa_cons (pe_tup (pa_cons pe_int (pa_cons (pe_op op_add (pv 0) pe_int) pa_nil))) pa_nil))))), ?_⟩
    refine ⟨_, rfl, by show 2 ≤ sizeLine; decide, fun t ht => ⟨_, rfl, t, x, (i, 1), p, rfl, upd_same, (same_upd ht) _ _ hx, (sh_i i0 (by omega)).mono (by decide), bp.mono (by decide), fun z1 H1 s1 hz1 => ?_⟩⟩
    have S1 := (same_upd (o := .tup [.int i, .int 1]) ht).trans s1
    refine ⟨_, rfl, z1, y, _, q, rfl, hz1, S1 _ _ hy, (tmZ_sh (sh_i i0 (by omega)) bp).mono (by decide), bq.mono (by decide), fun z2 H2 s2 hz2 => ?_⟩
    refine ⟨_, rfl, _, _, rfl, rfl, by show 2 ≤ sizeLine; decide, fun t2 ht2 => ⟨z2, t2, _, (1, i + 1), rfl, (same_upd ht2) _ _ hz2, upd_same, (plZ_sh (tmZ_sh (sh_i i0 (by omega)) bp) bq).mono (by decide), (sh_u i0 i1).mono (by decide), fun z3 H3 s3 hz3 => ?_⟩⟩
    exact k z3 H3 (S1.trans (s2.trans ((same_upd ht2).trans s3))) hz3
theorem sc_best_from : FnScope ["many", "place", "waiting", "fewer"] ["many", "place", "waiting", "fewer"] (defScope s_best_from) := ⟨rfl, rfl, rfl, by decide +kernel, rfl, by decide +kernel, by decide +kernel⟩
theorem ok_best_from {f : Addr} {fd : FuncData} (F : Fun K "best_from" "best_from" s_best_from f fd) (Cgreater : Cal P w K mg base 2 "greater" ["one", "other"] (spMm maxZ)) (Cfrom_place : Cal P w K mg base 4 "from_place" ["place", "waiting", "seen"] spFrom) (Cby_laying : Cal P w K mg base 4 "by_laying" ["many", "place", "fewer"] spBy) : FnOk P w K mg base CX0 5 f fd ["many", "place", "waiting", "fewer"] spBest := by
  refine F.ok sc_best_from (fun vs H Q E h => ?_) (fun cdv A outer s H vs Q E hr h => ?_)
  · obtain ⟨N, i, x, y, p, q, rfl, _⟩ := h
    rfl
  · obtain ⟨N, i, x, y, p, q, rfl, h0, h1, i0, i1, hx, hy, bp, bq, k⟩ := h
    refine ⟨_, (pss_one (ps_ret (pe_cal Cfrom_place (hr.mono (by decide)) rfl (pa_cons (pv 1) (pa_cons (pv 2) (pa_cons (pe_cal Cgreater (hr.mono (by decide)) rfl (pa_cons (pv 2) (pa_cons (pe_cal Cby_laying (hr.mono (by decide)) rfl (pa_cons (pv 0) (pa_cons (pv 1) (pa_cons (pv 3) pa_nil)))) pa_nil))) pa_nil)))))), ?_⟩
    refine ⟨_, rfl, _, rfl, _, rfl, _, rfl, _, rfl, _, rfl, N, i, y, q, rfl, h0, h1, i0, i1, hy, bq, fun z1 H1 s1 hz1 => ?_⟩
    have b1 := byZ_sh h0 (by omega) i0 i1 bq
    refine ⟨x, z1, p, _, rfl, s1 _ _ hx, hz1, bp.mono (by decide), b1.mono (by decide), fun z2 H2 s2 hz2 => ?_⟩
    exact ⟨i, x, z2, p, _, rfl, i0, i1, (s1.trans s2) _ _ hx, hz2, bp, (maxZ_sh (bp.mono (by decide)) b1).mono (by decide), fun z3 H3 s3 hz3 => k z3 H3 (s1.trans (s2.trans s3)) hz3⟩
end
end K89


namespace K89
open PySem PySem.Spec PyProof.Rows L2
abbrev s_row_of_one_more : Stmt := top 13
abbrev s_table : Stmt := top 12
abbrev s_best_share : Stmt := top 17
section
variable {P : Program} {w : World} {K : PySem.W.Frag} {mg : Str → Option Value} {base : Heap}
theorem sc_row_of_one_more : FnScope ["many", "fewer", "row", "place"] ["many", "fewer"] (defScope s_row_of_one_more) := ⟨rfl, rfl, rfl, by decide +kernel, rfl, by decide +kernel, by decide +kernel⟩
set_option maxHeartbeats 8000000 in
theorem ok_row_of_one_more {f : Addr} {fd : FuncData} (F : Fun K "row_of_one_more" "row_of_one_more" s_row_of_one_more f fd) (T : Top mg) (Cbest_from : Cal P w K mg base 5 "best_from" ["many", "place", "waiting", "fewer"] spBest) : FnOk P w K mg base CX0 6 f fd ["many", "fewer"] spRow1 := by
  refine F.ok sc_row_of_one_more (fun vs H Q E h => ?_) (fun cdv A outer s H vs Q E hr h => ?_)
  · obtain ⟨N, a, fs, rfl, _⟩ := h
    rfl
  · obtain ⟨N, a, fs, rfl, h0, h1, ⟨ws, ha, alf⟩, bf, bw, k⟩ := h
    refine ⟨_, (pss_cons (ps_set (i := 2) sc_row_of_one_more.nd rfl (Or.inl rfl) (pe_lst (pa_cons (pe_tup (pa_cons pe_int (pa_cons pe_int pa_nil))) pa_nil)))
      (pss_cons (ps_for PassesOwn.never rfl (pi_rangeD rfl T.n_range (pa_cons (pe_op op_sub (pv 0) pe_int) (pa_cons (pe_un un_neg pe_int) (pa_cons (pe_un un_neg pe_int) pa_nil)))) (pg_name (i := 3) sc_row_of_one_more.nd rfl (Or.inl rfl))
        (pss_one (ps_expr (pe_bm PySem.F.plainAttrs_list PySem.F.slot_list_append PySem.F.type_list_append mt_append (pv 2) (pa_cons (pe_cal Cbest_from (hr.mono (by decide)) rfl (pa_cons (pv 0) (pa_cons (pv 3) (pa_cons (pe_ix ix_list (pv 2) (pe_un un_neg pe_int) (fun _ _ => rfl)) (pa_cons (pe_ix ix_tup (pv 1) (pe_op op_add (pv 3) pe_int) (fun _ _ => rfl)) pa_nil))))) pa_nil)))))
      (pss_one (ps_ret (pe_callTy call_tuple_of (by rfl) T.n_tuple boot_tuple (pa_cons (pe_rev rv_list (pv 2)) pa_nil)))))), ?_⟩
    refine ⟨by show 2 ≤ sizeLine; decide, fun t ht => ⟨by show 1 ≤ sizeLine; decide, fun L hL => ?_⟩⟩
    have s1 := same_upd (o := .tup [.int 0, .int 1]) ht
    have s2 := same_upd (o := .lst [.ref t]) hL
    have hL0 : H L = none := s1.free hL
    refine ⟨_, rfl, _, _, rfl, rfl, _, rfl, _, rfl, _, _, rfl, ⟨by omega, by omega, by decide, by decide⟩, ?_⟩
    rw [show ((N : Int) - 1 - -1).toNat = N by omega]
    refine for_down (fun j σ G => ∃ (us : List V) (c3 : Option V), σ = [some (.int N), some (.ref a), some (.ref L), c3] ∧ Same H G ∧ G L = some (.lst us.reverse) ∧ IsAllY NoS G us ((rwZ N fs j).map shD)) ?_ ?_ ?_
    · exact ⟨[.ref t], none, rfl, s1.trans s2, upd_same, .cons (Shr.isY (s2 _ _ upd_same)) .nil⟩
    · rintro j σ G hj ⟨us, c3, rfl, sm, hG, al⟩
      have hlen : us.length = j + 1 := by rw [al.len, List.length_map, rwZ_len]
      obtain ⟨x, r, rfl⟩ : ∃ x r, us = x :: r := by
        cases us with
        | nil => simp at hlen
        | cons x r => exact ⟨x, r, rfl⟩
      obtain ⟨z0, e0, hz0⟩ := shs_at (i := 0) al (by rw [rwZ_len]; omega)
      have e0 : x = .ref z0 := by simpa using e0
      subst e0
      have e1 : (N : Int) - 1 - (j : Int) + 1 = ((N - j : Nat) : Int) := by omega
      obtain ⟨zf, ef, hzf⟩ := shs_at (i := N - j) (alf.same sm) (by rw [bf.1]; omega)
      have bp : ShB ((rwZ N fs j).getD 0 (0, 1)) 1000 := by
        rw [List.getD_eq_getElem?_getD, List.getElem?_eq_getElem (by rw [rwZ_len]; omega)]
        exact bw.2 _ (rw_sub (by omega) _ (List.getElem_mem _))
      refine ⟨_, rfl, .inl ⟨rfl, _, SqL.of hG⟩, _, rfl, _, rfl, _, rfl, _, rfl, L, _, -1, _, rfl, rfl, SqL.of hG, atI_rev, _, rfl, _, rfl, _, _, rfl, rfl, a, _, _, .ref zf, rfl, rfl, SqT.of (sm _ _ ha), ?_, N, _, z0, zf, _, _, rfl, by omega, by omega, ?_, ?_, hz0, hzf, bp, bf.at (by omega), fun z G1 t1 hz => ?_⟩
      · show atI ws ((N : Int) - 1 - (j : Int) + 1) = _
        rw [e1]
        exact atI_nat ef
      · show 0 ≤ (N : Int) - 1 - (j : Int)
        omega
      · show (N : Int) - 1 - (j : Int) < 100
        omega
      have hG1 := t1 _ _ hG
      refine ⟨L, _, _, rfl, rfl, hG1, small1 (by rw [List.length_reverse]; omega), ?_⟩
      refine ⟨.ref z :: .ref z0 :: r, _, rfl, same_updR (sm.trans t1) hL0, by rw [upd_same, List.reverse_cons (a := V.ref z)], ?_⟩
      rw [rwZ, List.map_cons, getD_head]
      rw [show (N : Int) - 1 - (j : Int) = ((N - 1 - j : Nat) : Int) by omega] at hz
      exact .cons (shr_upd hG1 hz).isY (noS_upd hG1 (al.same t1))
    · rintro σ G ⟨us, c3, rfl, sm, hG, al⟩
      refine ⟨_, rfl, L, _, rfl, SqL.of hG, fun p hp => ⟨p, _, rfl, .inl ⟨SqL.of upd_same, fun z hz => ?_⟩⟩⟩
      rw [List.reverse_reverse]
      have s5 := same_upd (o := .lst us) hp
      rw [List.reverse_reverse] at hz
      have s6 := same_upd (o := .tup us) hz
      exact k z _ (sm.trans (s5.trans s6)) ⟨us, upd_same, al.same (s5.trans s6)⟩
theorem sc_table : FnScope ["many", "hands", "rows", "left"] ["many", "hands"] (defScope s_table) := ⟨rfl, rfl, rfl, by decide +kernel, rfl, by decide +kernel, by decide +kernel⟩
set_option maxHeartbeats 8000000 in
theorem ok_table {f : Addr} {fd : FuncData} (F : Fun K "table" "table" s_table f fd) (T : Top mg) (Crow_of_one_more : Cal P w K mg base 6 "row_of_one_more" ["many", "fewer"] spRow1) : FnOk P w K mg base CX0 7 f fd ["many", "hands"] spTable := by
  refine F.ok sc_table (fun vs H Q E h => ?_) (fun cdv A outer s H vs Q E hr h => ?_)
  · obtain ⟨N, h, rfl, _⟩ := h
    rfl
  · obtain ⟨N, h, rfl, h0, h1, h2, k⟩ := h
    refine ⟨_, (pss_cons (ps_set (i := 2) sc_table.nd rfl (Or.inl rfl) (pe_lst (pa_cons (pe_op op_repT (pe_tup (pa_cons (pe_tup (pa_cons pe_int (pa_cons pe_int pa_nil))) pa_nil)) (pe_op op_add (pv 0) pe_int)) pa_nil)))
      (pss_cons (ps_for PassesOwn.never rfl (pi_range1 rfl T.n_range (pa_cons (pv 1) pa_nil)) (pg_name (i := 3) sc_table.nd rfl (Or.inl rfl))
        (pss_one (ps_expr (pe_bm PySem.F.plainAttrs_list PySem.F.slot_list_append PySem.F.type_list_append mt_append (pv 2) (pa_cons (pe_cal Crow_of_one_more (hr.mono (by decide)) rfl (pa_cons (pv 0) (pa_cons (pe_ix ix_list (pv 2) (pe_un un_neg pe_int) (fun _ _ => rfl)) pa_nil))) pa_nil)))))
      (pss_one (ps_ret (pe_callTy call_tuple_of (by rfl) T.n_tuple boot_tuple (pa_cons (pv 2) pa_nil)))))), ?_⟩
    refine ⟨by show 2 ≤ sizeLine; decide, fun t ht => ⟨by show 1 ≤ sizeLine; decide, fun t2 ht2 => ⟨_, rfl, _, _, rfl, rfl, t2, _, _, rfl, rfl, upd_same, by omega, by omega, fun p G0 s0 hp => ⟨by show 1 ≤ sizeLine; decide, fun L hL => ?_⟩⟩⟩⟩
    have s1 := (same_upd (o := .tup [.int 0, .int 1]) ht).trans ((same_upd (o := .tup [.ref t]) ht2).trans s0)
    have hL0 : H L = none := s1.free hL
    have s2 := same_upd (o := .lst [.ref p]) hL
    refine ⟨_, rfl, _, rfl, by omega, by omega, ?_⟩
    rw [show (h : Int).toNat = h by omega]
    refine for_range (lo := 0) (n := h) (fun j σ G => ∃ (us : List V) (c3 : Option V), σ = [some (.int N), some (.int h), some (.ref L), c3] ∧ Same H G ∧ G L = some (.lst us) ∧ IsAllY NoS G us ((tabL N (j + 1)).map rowDt)) ?_ ?_ ?_
    · refine ⟨[.ref p], none, rfl, s1.trans s2, upd_same, .cons ?_ .nil⟩
      have hs := ((same_upd (o := .tup [.ref t]) ht2).trans (s0.trans s2)) _ _ (@upd_same H t (.tup [.int 0, .int 1]))
      refine .tup (s2 _ _ hp) ?_
      show IsAllY _ _ _ ((List.replicate (N + 1) ((0, 1) : Sh)).map shD)
      rw [map_rep, show ((N : Int) + 1).toNat = N + 1 by omega]
      exact IsAllY.rep (Shr.isY (p := (0, 1)) hs) _
    · rintro j σ G hj ⟨us, c3, rfl, sm, hG, al⟩
      have hlen : us.length = j + 1 := by rw [al.len, List.length_map, tabL_len]
      obtain ⟨b, ws, eb, hb, alb⟩ := rows_at (i := j) al (by rw [tabL_len]; omega)
      rw [tabL_at (by omega)] at alb
      refine ⟨_, rfl, .inl ⟨rfl, _, SqL.of hG⟩, _, rfl, _, rfl, _, rfl, L, _, -1, .ref b, rfl, rfl, SqL.of hG, by rw [atI_neg1 (by omega), hlen]; exact eb, N, b, tbZ N j, rfl, h0, by omega, ⟨ws, hb, alb⟩, (tb_row h0 h1 (by omega)).mono (by decide), (tb_row (h := j + 1) h0 h1 (by omega)).mono (by decide), fun z G1 t1 hz => ?_⟩
      have hG1 := t1 _ _ hG
      refine ⟨L, _, _, rfl, rfl, hG1, small1 (by omega), ?_⟩
      refine ⟨us ++ [.ref z], _, rfl, same_updR (sm.trans t1) hL0, upd_same, ?_⟩
      rw [tabL_succ N (j + 1), List.map_append]
      exact (noS_upd hG1 (al.same t1)).snoc (noS_upd1 hG1 hz.isY)
    · rintro σ G ⟨us, c3, rfl, sm, hG, al⟩
      refine ⟨_, rfl, L, _, rfl, .inl ⟨SqL.of hG, fun z hz => ?_⟩⟩
      have s6 := same_upd (o := .tup us) hz
      exact k z _ (sm.trans s6) ⟨us, upd_same, al.same s6⟩
theorem sc_best_share : FnScope ["many", "hands"] ["many", "hands"] (defScope s_best_share) := ⟨rfl, rfl, rfl, by decide +kernel, rfl, by decide +kernel, by decide +kernel⟩
theorem ok_best_share {f : Addr} {fd : FuncData} (F : Fun K "best_share" "best_share" s_best_share f fd) (Ctable : Cal P w K mg base 7 "table" ["many", "hands"] spTable) : FnOk P w K mg base CX0 8 f fd ["many", "hands"] spBestS := by
  refine F.ok sc_best_share (fun vs H Q E h => ?_) (fun cdv A outer s H vs Q E hr h => ?_)
  · obtain ⟨N, h, rfl, _⟩ := h
    rfl
  · obtain ⟨N, h, rfl, h0, h1, h2, k⟩ := h
    refine ⟨_, (pss_one (ps_ret (pe_ix ix_tup (pe_ix ix_tup (pe_cal Ctable (hr.mono (by decide)) rfl (pa_cons (pv 0) (pa_cons (pv 1) pa_nil))) (pv 1) (fun _ _ => rfl)) pe_int (fun _ _ => rfl)))), ?_⟩
    refine ⟨_, rfl, _, rfl, N, h, rfl, h0, h1, h2, fun z H1 s1 ⟨us, hz, al⟩ => ?_⟩
    obtain ⟨b, ws, eb, hb, alb⟩ := rows_at (i := h) al (by rw [tabL_len]; omega)
    rw [tabL_at (by omega)] at alb
    obtain ⟨y, ey, hy⟩ := shs_at (i := 0) alb (by rw [tbZ_len]; omega)
    exact ⟨_, rfl, z, _, _, _, rfl, rfl, SqT.of hz, atI_nat eb, b, _, 0, _, rfl, rfl, SqT.of hb, atI_nat (j := 0) ey, k y H1 s1 hy⟩
end
end K89


namespace K89
open PySem PySem.Spec PyProof.Rows L2
abbrev s_places_laid : Stmt := top 19
abbrev s_rule : Stmt := top 18
section
variable {P : Program} {w : World} {K : PySem.W.Frag} {mg : Str → Option Value} {base : Heap}
theorem sc_places_laid : FnScope ["many", "row", "fewer"] ["many", "row", "fewer"] (defScope s_places_laid) := ⟨rfl, rfl, rfl, by decide +kernel, rfl, by decide +kernel, by decide +kernel⟩
set_option maxHeartbeats 8000000 in
theorem ok_places_laid {f : Addr} {fd : FuncData} (F : Fun K "places_laid" "places_laid" s_places_laid f fd) (T : Top mg) (Cis_less : Cal P w K mg base 1 "is_less" ["one", "other"] spLt) (Cby_laying : Cal P w K mg base 4 "by_laying" ["many", "place", "fewer"] spBy) : FnOk P w K mg base CX0 5 f fd ["many", "row", "fewer"] spLay := by
  refine F.ok sc_places_laid (fun vs H Q E h => ?_) (fun cdv A outer s H vs Q E hr h => ?_)
  · obtain ⟨N, a, b, row, fewer, rfl, _⟩ := h
    rfl
  · obtain ⟨N, a, b, row, fewer, rfl, h0, h1, ⟨us, ha, al⟩, ⟨ws, hb, bl⟩, br, bf, k⟩ := h
    refine ⟨_, (pss_one (ps_ret (pe_callTy call_tuple_of (by rfl) T.n_tuple boot_tuple (pa_cons (pe_lc (N' := ["place", "many", "row", "fewer"]) (n := 1) (ix := [0, 1, 2]) rfl (CompScope.of (sc := defScope s_places_laid) (N := ["many", "row", "fewer"]) (by decide +kernel) rfl rfl) (pi_range1 rfl T.n_range (pa_cons (pv 0) pa_nil)) (fun _ _ _ _ _ => ⟨(pg_name (i := 0) (show (["place", "many", "row", "fewer"] : List Str).Nodup by decide +kernel) rfl (Or.inl rfl)), (pts_one (pt_not (pt_val (pe_cal Cis_less (hr.mono (by decide)) rfl (pa_cons (pe_cal Cby_laying (hr.mono (by decide)) rfl (pa_cons (pv 1) (pa_cons (pv 0) (pa_cons (pe_ix (ix_tupK K rfl) (pv 3) (pe_op op_add (pv 0) pe_int) (fun _ _ => rfl)) pa_nil)))) (pa_cons (pe_ix (ix_tupK K rfl) (pv 2) (pe_op op_add (pv 0) pe_int) (fun _ _ => rfl)) pa_nil)))))), (pv 0)⟩)) pa_nil)))), ?_⟩
    refine ⟨_, rfl, _, rfl, by omega, by omega, ?_⟩
    rw [Int.toNat_natCast]
    refine lc_growTF (yields_range (lo := 0) (n := N)) (small1 (by rw [rangeV_len]; omega)) (layV N row fewer) (fun x v _ => v = x) (fun _ _ _ _ _ e => e) (fun _ _ => trivial) (fun x hx G s' Q' q => ?_) (fun x hx _ G s' Q' q => ⟨_, rfl, q _ G (Same.refl G) rfl⟩) fun acc ys G hacc sm hG pr => ?_
    · obtain ⟨i, rfl, i0, i1⟩ := mem_rangeV hx
      obtain ⟨zf, ef, hzf⟩ := shs_at (i := i.toNat + 1) (bl.same s') (by rw [bf.1]; omega)
      obtain ⟨zr, er, hzr⟩ := shs_at (i := i.toNat + 1) (al.same s') (by rw [br.1]; omega)
      have ei : i + 1 = ((i.toNat + 1 : Nat) : Int) := by omega
      refine ⟨_, rfl, _, rfl, _, rfl, _, rfl, _, _, rfl, rfl, b, _, _, _, rfl, rfl, SqT.of (s' _ _ hb), by rw [ei]; exact atI_nat ef, N, i, zf, _, rfl, by omega, by omega, i0, by omega, hzf, bf.at (by omega), fun z G1 t1 hz => ?_⟩
      refine ⟨_, rfl, _, rfl, _, _, rfl, rfl, a, _, _, _, rfl, rfl, SqT.of (t1 _ _ (s' _ _ ha)), by rw [ei]; exact atI_nat er, z, zr, _, _, rfl, hz, t1 _ _ hzr, (byZ_sh (by omega) (by omega) i0 (by omega) (bf.at (by omega))).mono (by decide), (br.at (by omega)).mono (by decide), fun G2 t2 => ⟨_, rfl, q G2 (t1.trans t2)⟩⟩
    · have e := paired_eq pr (fun _ _ h => h)
      rw [lay_list] at e
      subst e
      refine ⟨acc, _, rfl, .inl ⟨SqL.of hG, fun z hz => ?_⟩⟩
      exact k z _ (sm.trans (same_upd hz)) upd_same
theorem sc_rule : FnScope ["many", "hands", "rows"] ["many", "hands"] (defScope s_rule) := ⟨rfl, rfl, rfl, by decide +kernel, rfl, by decide +kernel, by decide +kernel⟩
set_option maxHeartbeats 8000000 in
theorem ok_rule {f : Addr} {fd : FuncData} (F : Fun K "rule" "rule" s_rule f fd) (T : Top mg) (Ctable : Cal P w K mg base 7 "table" ["many", "hands"] spTable) (Cplaces_laid : Cal P w K mg base 5 "places_laid" ["many", "row", "fewer"] spLay) : FnOk P w K mg base CX0 8 f fd ["many", "hands"] spRule := by
  refine F.ok sc_rule (fun vs H Q E h => ?_) (fun cdv A outer s H vs Q E hr h => ?_)
  · obtain ⟨N, h, rfl, _⟩ := h
    rfl
  · obtain ⟨N, h, rfl, h0, h1, h2, k⟩ := h
    refine ⟨_, (pss_cons (ps_set (i := 2) sc_rule.nd rfl (Or.inl rfl) (pe_cal Ctable (hr.mono (by decide)) rfl (pa_cons (pv 0) (pa_cons (pv 1) pa_nil))))
      (pss_one (ps_ret (pe_callTy call_tuple_of (by rfl) T.n_tuple boot_tuple (pa_cons (pe_lc (N' := ["fewer", "row", "many"]) (n := 2) (ix := [0]) rfl (CompScope.of (sc := defScope s_rule) (N := ["many", "hands", "rows"]) (by decide +kernel) rfl rfl) (pi_zipT rfl T.n_zip (pa_cons (pv 2) (pa_cons (pe_slice sl_tup (pv 2) (po_some pe_int) po_none) pa_nil))) (fun _ _ _ _ _ => ⟨(pg_pairK K (i := 0) (j := 1) rfl rfl (show (["fewer", "row", "many"] : List Str).Nodup by decide +kernel) rfl rfl (Or.inl rfl) (Or.inl rfl) (Or.inr rfl) (Or.inr rfl)), pts_nil, (pe_cal Cplaces_laid (hr.mono (by decide)) rfl (pa_cons (pv 2) (pa_cons (pv 1) (pa_cons (pv 0) pa_nil))))⟩)) pa_nil))))), ?_⟩
    refine ⟨_, rfl, _, rfl, N, h, rfl, h0, h1, h2, fun T0 G s1 ⟨us, hT, al⟩ => ?_⟩
    have hlen : us.length = h + 1 := by rw [al.len, List.length_map, tabL_len]
    refine ⟨_, rfl, _, rfl, 1, rfl, T0, _, rfl, SqT.of hT, ?_⟩
    rw [cut1]
    refine ⟨cut1_ne (by omega), fun q hq => ⟨T0, q, rfl, ⟨_, SqT.of (same_upd hq _ _ hT)⟩, ⟨_, SqT.of upd_same⟩, ?_⟩⟩
    have s2 := same_upd (o := .tup (us.drop 1)) hq
    refine lc_zipG (xs := us) (ys := us.drop 1) (fun s' => SqT.of (s' _ _ (s2 _ _ hT))) (fun s' => SqT.of (s' _ _ upd_same)) (by rw [List.length_zip]; omega) (fun i v G => ∃ z, v = .ref z ∧ G z = some (.tup (((ruleZ N h).getD i []).map V.int))) (fun i v G G' st ⟨z, e, hz⟩ => ⟨z, e, st _ _ hz⟩) (fun i x y hx hy G' s' Q' q => ?_) fun acc vs G' hacc sm hG' hl hR => ?_
    · rw [List.getElem?_drop] at hy
      have hi : 1 + i < us.length := (List.getElem?_eq_some_iff.mp hy).1
      have S := s2.trans s'
      obtain ⟨a, xs, ea, ha, ala⟩ := rows_at (i := i) (al.same S) (by rw [tabL_len]; omega)
      obtain ⟨b, ys, eb, hb, alb⟩ := rows_at (i := 1 + i) (al.same S) (by rw [tabL_len]; omega)
      rw [ea] at hx
      cases hx
      rw [eb] at hy
      cases hy
      rw [tabL_at (by omega)] at ala alb
      rw [Nat.add_comm] at alb
      refine ⟨_, rfl, _, rfl, _, rfl, N, b, a, _, _, rfl, h0, by omega, ⟨_, hb, alb⟩, ⟨_, ha, ala⟩, (tb_row h0 h1 (by omega)).mono (by decide), (tb_row h0 h1 (by omega)).mono (by decide), fun z G2 t2 hz => q _ G2 t2 ⟨z, rfl, ?_⟩⟩
      rw [ruleZ_at (by omega)]
      exact hz
    · refine ⟨acc, _, rfl, .inl ⟨SqL.of hG', fun z hz => ?_⟩⟩
      have s5 := same_upd (o := .tup vs) hz
      refine k z vs _ (s1.trans (s2.trans (sm.trans s5))) upd_same (ints_rows ?_ fun i v hv => ?_)
      · rw [hl, ruleZ_len, List.length_zip, List.length_drop]
        omega
      · obtain ⟨y, e, hy⟩ := hR i v hv
        exact ⟨y, e, s5 _ _ hy⟩
end
end K89


namespace K89
open PySem PySem.Spec PyProof.Rows L2
abbrev s_are_shares : Stmt := top 26
abbrev s_is_enough : Stmt := top 27
abbrev s_shows_no_better : Stmt := top 25
section
variable {P : Program} {w : World} {K : PySem.W.Frag} {mg : Str → Option Value} {base : Heap}
theorem sc_are_shares : FnScope ["thing", "many"] ["thing", "many"] (defScope s_are_shares) := ⟨rfl, rfl, rfl, by decide +kernel, rfl, by decide +kernel, by decide +kernel⟩
set_option maxHeartbeats 8000000 in
theorem ok_are_shares {f : Addr} {fd : FuncData} (F : Fun K "are_shares" "are_shares" s_are_shares f fd) (T : Top mg) (Cis_share : Cal P w K mg base 3 "is_share" ["thing"] spIsSh) : FnOk P w K mg base CX0 4 f fd ["thing", "many"] spShs := by
  refine F.ok sc_are_shares (fun vs H Q E h => ?_) (fun cdv A outer s H vs Q E hr h => ?_)
  · obtain ⟨S, x, d, n, rfl, _⟩ := h
    rfl
  · obtain ⟨S, x, d, n, rfl, y, sz, k⟩ := h
    refine ⟨_, (pss_one (ps_ret (pe_and (pe_callB call_isi (by rfl) T.n_isinstance boot_isinstance (pa_cons (pv 0) (pa_cons (pe_bltn (v := .ty "tuple") rfl T.n_tuple boot_tuple rfl) pa_nil))) (pe_and (pe_cmpR op_eq (pe_callB call_len_seq (by rfl) T.n_len PySem.boot_len (pa_cons (pv 0) pa_nil)) (pv 1) (nomark _)) (pe_one (pe_callB (call_all rfl) (by rfl) T.n_all boot_all (pa_cons (pe_lc (N' := ["part"]) (n := 1) (ix := []) rfl (CompScope.of (sc := defScope s_are_shares) (N := ["thing", "many"]) (by decide +kernel) rfl rfl) (pi_tup (pv 0)) (fun _ _ _ _ _ => ⟨(pg_name (i := 0) (show (["part"] : List Str).Nodup by decide +kernel) rfl (Or.inl rfl)), pts_nil, (pe_cal Cis_share (hr.mono (by decide)) rfl (pa_cons (pv 0) pa_nil))⟩)) pa_nil))))))), ?_⟩
    obtain ⟨_, _, k3⟩ := kit7 (K := K) (tyD_in d)
    refine ⟨_, rfl, _, _, _, _, rfl, y.ty, k3, _, rfl, ?_⟩
    rcases y.isT with ⟨a, vs, ds, rfl, rfl, ha, al⟩ | ⟨hne, hn⟩
    · refine iteT ?_
      refine ⟨_, rfl, a, _, rfl, .inr (SqT.of ha), _, rfl, rfl, _, rfl, ?_⟩
      have hlen : vs.length = ds.length := al.len
      by_cases hl : (ds.length : Int) = n
      · rw [decide_eq_true (show V.int (vs.length : Int) = V.int n by rw [hlen, hl])]
        refine iteT ?_
        refine ⟨_, rfl, a, rfl, ⟨_, SqT.of ha⟩, ?_⟩
        have hz : vs.length ≤ 1000 := by rw [hlen]; exact sz.tup.1
        refine lc_growI (yields_tup (K := K) (a := a) (xs := vs)) (small1 hz) (ds.map isShD) (by rw [List.length_map, hlen]) (fun G sm => SqT.of (sm _ _ ha)) (fun i v b G hv hb sm Q' q => ?_) fun acc G hacc sm hG => ?_
        · obtain ⟨e, he, ye⟩ := al.at hv
          rw [List.getElem?_map, he] at hb
          cases hb
          exact ⟨_, rfl, S, v, e, rfl, ye.same sm, sz.tup.2 e (List.mem_of_getElem? he), fun G2 t2 => q G2 t2⟩
        · refine ⟨acc, _, rfl, hG, ?_⟩
          have := k G sm
          rw [show shsD n (.tuple ds) = (ds.map isShD).all id by
            rw [List.all_map]
            show (decide ((ds.length : Int) = n) && ds.all isShD) = _
            rw [decide_eq_true hl, Bool.true_and]
            rfl] at this
          exact this
      · rw [decide_eq_false (fun z => hl (by have := V.int.inj z; omega))]
        refine iteF ?_
        have := k H (Same.refl H)
        rw [show shsD n (.tuple ds) = false by
          show (decide ((ds.length : Int) = n) && ds.all isShD) = _
          rw [decide_eq_false hl, Bool.false_and]] at this
        exact this
    · rw [beq_eq_false_iff_ne.mpr hne]
      refine iteF ?_
      have := k H (Same.refl H)
      rw [show shsD n d = false by cases d <;> first | rfl | exact absurd rfl (hn _)] at this
      exact this
theorem sc_is_enough : FnScope ["many", "row", "fewer"] ["many", "row", "fewer"] (defScope s_is_enough) := ⟨rfl, rfl, rfl, by decide +kernel, rfl, by decide +kernel, by decide +kernel⟩
set_option maxHeartbeats 8000000 in
theorem ok_is_enough {f : Addr} {fd : FuncData} (F : Fun K "is_enough" "is_enough" s_is_enough f fd) (T : Top mg) (TY : TopY mg) (Cis_less : Cal P w K mg base 1 "is_less" ["one", "other"] spLt) (Cbest_from : Cal P w K mg base 5 "best_from" ["many", "place", "waiting", "fewer"] spBest) : FnOk P w K mg base CX0 6 f fd ["many", "row", "fewer"] spEn := by
  refine F.ok sc_is_enough (fun vs H Q E h => ?_) (fun cdv A outer s H vs Q E hr h => ?_)
  · obtain ⟨N, a, b, us, ws, row, fewer, rfl, _⟩ := h
    rfl
  · obtain ⟨N, a, b, us, ws, row, fewer, rfl, ha, al, hb, bl, br, bf, h0, h1, k⟩ := h
    refine ⟨_, (pss_one (ps_ret (pe_and (pe_cmpR op_ge (pe_ix ix_tup (pe_ix ix_tup (pv 1) (pv 0) (fun _ _ => rfl)) pe_int (fun _ _ => rfl)) pe_int (nomark _)) (pe_one (pe_not (pe_callB (call_any rfl) (by rfl) TY.n_any boot_any (pa_cons (pe_lc (N' := ["place", "row", "many", "fewer"]) (n := 1) (ix := [1, 0, 2]) rfl (CompScope.of (sc := defScope s_is_enough) (N := ["many", "row", "fewer"]) (by decide +kernel) rfl rfl) (pi_range1 rfl T.n_range (pa_cons (pv 0) pa_nil)) (fun _ _ _ _ _ => ⟨(pg_name (i := 0) (show (["place", "row", "many", "fewer"] : List Str).Nodup by decide +kernel) rfl (Or.inl rfl)), pts_nil, (pe_cal Cis_less (hr.mono (by decide)) rfl (pa_cons (pe_ix (ix_tupK K rfl) (pv 1) (pv 0) (fun _ _ => rfl)) (pa_cons (pe_cal Cbest_from (hr.mono (by decide)) rfl (pa_cons (pv 2) (pa_cons (pv 0) (pa_cons (pe_ix (ix_tupK K rfl) (pv 1) (pe_op op_add (pv 0) pe_int) (fun _ _ => rfl)) (pa_cons (pe_ix (ix_tupK K rfl) (pv 3) (pe_op op_add (pv 0) pe_int) (fun _ _ => rfl)) pa_nil))))) pa_nil)))⟩)) pa_nil))))))), ?_⟩
    obtain ⟨zN, eN, hzN⟩ := shs_at (i := N) al (by rw [br.1]; omega)
    refine ⟨_, rfl, _, rfl, a, _, _, _, rfl, rfl, SqT.of ha, atI_nat eN, zN, _, 0, _, rfl, rfl, SqT.of hzN, atI_nat (j := 0) rfl, _, _, rfl, rfl, _, rfl, ?_⟩
    by_cases hp : 0 ≤ (row.getD N (0, 1)).1
    · rw [decide_eq_true (show (row.getD N (0, 1)).1 ≥ 0 from hp)]
      refine iteT ?_
      refine ⟨_, rfl, _, rfl, by omega, by omega, ?_⟩
      rw [Int.toNat_natCast]
      refine lc_growI (yields_range (lo := 0) (n := N)) (small1 (by rw [rangeV_len]; omega)) ((List.range N).map fun i => ltZ (row.getD i (0, 1)) (bsZ N (i : Int) (row.getD (i + 1) (0, 1)) (fewer.getD (i + 1) (0, 1)))) (by rw [List.length_map, List.length_range, rangeV_len]) (fun _ _ => trivial) (fun i v b' G hv hb' sm Q' q => ?_) fun acc G hacc sm hG => ?_
      · have hi : i < N := by
          have := (List.getElem?_eq_some_iff.mp hv).1
          rwa [rangeV_len] at this
        rw [rangeV_get hi] at hv
        cases hv
        rw [List.getElem?_map, List.getElem?_range hi] at hb'
        cases hb'
        obtain ⟨z1, e1, hz1⟩ := shs_at (i := i) (al.same sm) (by rw [br.1]; omega)
        obtain ⟨z2, e2, hz2⟩ := shs_at (i := i + 1) (al.same sm) (by rw [br.1]; omega)
        obtain ⟨z3, e3, hz3⟩ := shs_at (i := i + 1) (bl.same sm) (by rw [bf.1]; omega)
        have ei : (0 : Int) + (i : Int) = (i : Int) := by omega
        have ej : (0 : Int) + (i : Int) + 1 = ((i + 1 : Nat) : Int) := by omega
        rw [ei]
        have ej : (i : Int) + 1 = ((i + 1 : Nat) : Int) := by omega
        refine ⟨_, rfl, _, rfl, a, _, _, _, rfl, rfl, SqT.of (sm _ _ ha), atI_nat e1, _, rfl, _, rfl, _, rfl, _, rfl, _, _, rfl, rfl, a, _, _, _, rfl, rfl, SqT.of (sm _ _ ha), by rw [ej]; exact atI_nat e2, _, rfl, _, rfl, _, _, rfl, rfl, b, _, _, _, rfl, rfl, SqT.of (sm _ _ hb), by rw [ej]; exact atI_nat e3, N, i, z2, z3, _, _, rfl, by omega, by omega, by omega, by omega, hz2, hz3, br.at (by omega), bf.at (by omega), fun z G2 t2 hz => ?_⟩
        exact ⟨z1, z, _, _, rfl, t2 _ _ hz1, hz, (br.at (by omega)).mono (by decide), (bsZ_sh (by omega) (by omega) (by omega) (by omega) (br.at (by omega)) (bf.at (by omega))).mono (by decide), fun G3 t3 => q G3 (t2.trans t3)⟩
      · refine ⟨acc, _, rfl, hG, _, rfl, ?_⟩
        have := k G sm
        rw [show enZ N row fewer = !(((List.range N).map fun i => ltZ (row.getD i (0, 1)) (bsZ N (i : Int) (row.getD (i + 1) (0, 1)) (fewer.getD (i + 1) (0, 1)))).any id) by
          rw [range_any_map]
          unfold enZ
          rw [decide_eq_true hp, Bool.true_and]] at this
        exact this
    · rw [decide_eq_false (show ¬ (row.getD N (0, 1)).1 ≥ 0 from hp)]
      refine iteF ?_
      have := k H (Same.refl H)
      rw [show enZ N row fewer = false by
        unfold enZ
        rw [decide_eq_false hp, Bool.false_and]] at this
      exact this
theorem sc_shows_no_better : FnScope ["many", "hands", "thing"] ["many", "hands", "thing"] (defScope s_shows_no_better) := ⟨rfl, rfl, rfl, by decide +kernel, rfl, by decide +kernel, by decide +kernel⟩
set_option maxHeartbeats 8000000 in
theorem ok_shows_no_better {f : Addr} {fd : FuncData} (F : Fun K "shows_no_better" "shows_no_better" s_shows_no_better f fd) (T : Top mg) (TY : TopY mg) (Care_shares : Cal P w K mg base 4 "are_shares" ["thing", "many"] spShs) (Cis_enough : Cal P w K mg base 6 "is_enough" ["many", "row", "fewer"] spEn) : FnOk P w K mg base CX0 7 f fd ["many", "hands", "thing"] spSnb := by
  refine F.ok sc_shows_no_better (fun vs H Q E h => ?_) (fun cdv A outer s H vs Q E hr h => ?_)
  · obtain ⟨S, x, d, N, h, rfl, _⟩ := h
    rfl
  · obtain ⟨S, x, d, N, h, rfl, y, sz, tb, h0, h1, h2, k⟩ := h
    refine ⟨_, (pss_cons (ps_if (PW.pt (pw_or (pt_not (pt_val (pe_callB call_isi (by rfl) T.n_isinstance boot_isinstance (pa_cons (pv 2) (pa_cons (pe_bltn (v := .ty "tuple") rfl T.n_tuple boot_tuple rfl) pa_nil))))) (pw_or1 (pt_cmpR op_ne (pe_callB call_len_seq (by rfl) T.n_len PySem.boot_len (pa_cons (pv 2) pa_nil)) (pe_op op_add (pv 1) pe_int) (nomark _)))))
        (pss_one (ps_ret pe_bl))
        pss_nil)
      (pss_cons (ps_if (pt_not (pt_val (pe_callB (call_all rfl) (by rfl) T.n_all boot_all (pa_cons (pe_lc (N' := ["row", "many"]) (n := 1) (ix := [0]) rfl (CompScope.of (sc := defScope s_shows_no_better) (N := ["many", "hands", "thing"]) (by decide +kernel) rfl rfl) (pi_tup (pv 2)) (fun _ _ _ _ _ => ⟨(pg_name (i := 0) (show (["row", "many"] : List Str).Nodup by decide +kernel) rfl (Or.inl rfl)), pts_nil, (pe_cal Care_shares (hr.mono (by decide)) rfl (pa_cons (pv 0) (pa_cons (pe_op op_add (pv 1) pe_int) pa_nil)))⟩)) pa_nil))))
        (pss_one (ps_ret pe_bl))
        pss_nil)
      (pss_cons (ps_if (pt_val (pe_callB (call_any rfl) (by rfl) TY.n_any boot_any (pa_cons (pe_lc (N' := ["over", "under"]) (n := 2) (ix := []) rfl (CompScope.of (sc := defScope s_shows_no_better) (N := ["many", "hands", "thing"]) (by decide +kernel) rfl rfl) (pi_tup (pe_ix ix_tup (pv 2) pe_int (fun _ _ => rfl))) (fun _ _ _ _ _ => ⟨(pg_pairK K (i := 0) (j := 1) rfl rfl (show (["over", "under"] : List Str).Nodup by decide +kernel) rfl rfl (Or.inl rfl) (Or.inl rfl) (Or.inr rfl) (Or.inr rfl)), pts_nil, (pe_cmpR op_lt (pv 0) pe_int (nomark _))⟩)) pa_nil)))
        (pss_one (ps_ret pe_bl))
        pss_nil)
      (pss_one (ps_ret (pe_callB (call_all rfl) (by rfl) T.n_all boot_all (pa_cons (pe_lc (N' := ["fewer", "row", "many"]) (n := 2) (ix := [0]) rfl (CompScope.of (sc := defScope s_shows_no_better) (N := ["many", "hands", "thing"]) (by decide +kernel) rfl rfl) (pi_zipT rfl T.n_zip (pa_cons (pv 2) (pa_cons (pe_slice sl_tup (pv 2) (po_some pe_int) po_none) pa_nil))) (fun _ _ _ _ _ => ⟨(pg_pairK K (i := 0) (j := 1) rfl rfl (show (["fewer", "row", "many"] : List Str).Nodup by decide +kernel) rfl rfl (Or.inl rfl) (Or.inl rfl) (Or.inr rfl) (Or.inr rfl)), pts_nil, (pe_cal Cis_enough (hr.mono (by decide)) rfl (pa_cons (pv 2) (pa_cons (pv 1) (pa_cons (pv 0) pa_nil))))⟩)) pa_nil))))))), ?_⟩
    obtain ⟨_, _, k3⟩ := kit7 (K := K) (tyD_in d)
    refine ⟨_, rfl, _, _, _, _, rfl, y.ty, k3, _, rfl, ?_⟩
    rcases y.isT with ⟨a, vs, ds, rfl, rfl, ha, al⟩ | ⟨hne, hn⟩
    · refine iteF ?_
      have hlen : vs.length = ds.length := al.len
      refine ⟨_, rfl, a, _, rfl, .inr (SqT.of ha), _, rfl, _, _, rfl, rfl, rfl, _, rfl, ?_⟩
      have hz : vs.length ≤ 1000 := by rw [hlen]; exact sz.tup.1
      by_cases hl : ds.length = h + 1
      · rw [decide_eq_true (show V.int (vs.length : Int) = V.int ((h : Int) + 1) by rw [hlen, hl]; congr 1)]
        refine iteF ?_
        refine ⟨_, rfl, a, rfl, ⟨_, SqT.of ha⟩, ?_⟩
        refine lc_growI (yields_tup (K := K) (a := a) (xs := vs)) (small1 hz) (ds.map (shsD ((N + 1 : Nat) : Int))) (by rw [List.length_map, hlen]) (fun G sm => SqT.of (sm _ _ ha)) (fun i v b G hv hb sm Q' q => ?_) fun acc G hacc sm hG => ?_
        · obtain ⟨e, he, ye⟩ := al.at hv
          rw [List.getElem?_map, he] at hb
          cases hb
          exact ⟨_, rfl, _, rfl, _, _, rfl, rfl, S, v, e, _, rfl, ye.same sm, sz.tup.2 e (List.mem_of_getElem? he), fun G2 t2 => q G2 t2⟩
        · refine ⟨acc, _, rfl, hG, _, rfl, ?_⟩
          have ka : ∀ H', Same H H' → Q (.bl (decide (ds.length = h + 1) && (ds.all (shsD ((N + 1 : Nat) : Int)) && snbR N (ds.map toRow)))) H' := k
          rw [decide_eq_true hl, Bool.true_and] at ka
          have hall : (ds.map (shsD ((N + 1 : Nat) : Int))).all id = ds.all (shsD ((N + 1 : Nat) : Int)) := by
            rw [List.all_map]
            rfl
          rw [hall]
          by_cases hs : ds.all (shsD ((N + 1 : Nat) : Int)) = true
          · rw [hs]
            rw [hs, Bool.true_and] at ka
            refine iteF ?_
            obtain ⟨eR, _⟩ := rows_D hs
            have hB := rows_B hs tb
            generalize hR : ds.map toRow = rows at *
            have hrl : rows.length = h + 1 := by rw [← hR, List.length_map, hl]
            rw [eR] at al
            obtain ⟨b, ws, eb, hb, bl⟩ := rows_at (i := 0) (al.same sm) (by omega)
            refine ⟨_, rfl, a, _, 0, _, rfl, rfl, SqT.of (sm _ _ ha), atI_nat (j := 0) eb, b, rfl, ⟨_, SqT.of hb⟩, ?_⟩
            have hB0 := rows_getB hB (i := 0) (by omega)
            have hwl : ws.length = N + 1 := by rw [bl.len, List.length_map, hB0.1]
            refine lc_growP (K := K) (yields_tup (K := K) (a := b) (xs := ws)) (small1 (by omega)) NegR (fun x v G G' st ⟨z, p, e1, e2, e3⟩ => ⟨z, p, e1, st _ _ e2, e3⟩) (fun G' sm' => SqT.of (sm' _ _ hb)) (fun x hx => ?_) (fun x hx c u v e1 e2 G' sm' Q' q => ?_) fun acc2 ys G' hacc2 sm2 hG2 pr => ?_
            · obtain ⟨e, he, ye⟩ := bl.mem hx
              obtain ⟨p, _, rfl⟩ := List.mem_map.mp he
              obtain ⟨z, rfl, hz⟩ := isY_shr ye
              exact ⟨z, _, _, rfl, hz⟩
            · obtain ⟨e, he, ye⟩ := bl.mem hx
              obtain ⟨p, _, rfl⟩ := List.mem_map.mp he
              obtain ⟨z, e3, hz⟩ := isY_shr ye
              rw [e3] at e1
              cases e1
              have e4 : some (HO.tup [u, v]) = some (HO.tup [V.int p.1, V.int p.2]) := e2.symm.trans hz
              cases e4
              exact ⟨_, rfl, _, _, rfl, rfl, q _ G' (Same.refl G') ⟨c, p, e3, sm' _ _ hz, rfl⟩⟩
            · have ey := neg_list (bl.same sm2) pr
              subst ey
              refine ⟨acc2, _, rfl, hG2, _, rfl, ?_⟩
              have hany : ((rows.getD 0 []).map fun p : Sh => decide (p.1 < 0)).any id = (rows.getD 0 []).any fun p => decide (p.1 < 0) := by
                rw [List.any_map]
                rfl
              rw [hany]
              have S2 := sm.trans sm2
              have kb := fun H' s' => ka H' s'
              unfold snbR at kb
              have eh : rows.headD [] = rows.getD 0 [] := getD_head
              rw [eh] at kb
              by_cases hn : ((rows.getD 0 []).any fun p => decide (p.1 < 0)) = true
              · rw [hn] at kb ⊢
                exact iteT (kb _ S2)
              · have hn := Bool.eq_false_iff.mpr hn
                rw [hn] at kb ⊢
                refine iteF ?_
                refine ⟨_, rfl, _, rfl, 1, rfl, a, _, rfl, SqT.of (S2 _ _ ha), ?_⟩
                rw [cut1]
                refine ⟨cut1_ne (by omega), fun q hq => ⟨a, q, rfl, ⟨_, SqT.of (same_upd hq _ _ (S2 _ _ ha))⟩, ⟨_, SqT.of upd_same⟩, ?_⟩⟩
                have s3 := same_upd (o := .tup (vs.drop 1)) hq
                have S3 := S2.trans s3
                have hzl : (vs.zip (vs.drop 1)).length = h := by rw [List.length_zip, List.length_drop]; omega
                refine lc_zipG (xs := vs) (ys := vs.drop 1) (fun s' => SqT.of (s' _ _ (S3 _ _ ha))) (fun s' => SqT.of (s' _ _ upd_same)) (by omega) (fun i v _ => v = .bl (((rows.zip rows.tail).map fun p => enZ N p.2 p.1).getD i false)) (fun _ _ _ _ _ e => e) (fun i x y hx hy G5 s5 Q' q => ?_) fun acc3 us G5 hacc3 sm5 hG5 hul hR5 => ?_
                · rw [List.getElem?_drop] at hy
                  have hi : 1 + i < vs.length := (List.getElem?_eq_some_iff.mp hy).1
                  have S5 := S3.trans s5
                  obtain ⟨a1, xs1, ea1, ha1, al1⟩ := rows_at (i := i) (al.same S5) (by omega)
                  obtain ⟨b1, ys1, eb1, hb1, bl1⟩ := rows_at (i := 1 + i) (al.same S5) (by omega)
                  rw [ea1] at hx
                  cases hx
                  rw [eb1] at hy
                  cases hy
                  refine ⟨_, rfl, _, rfl, _, rfl, N, b1, a1, _, _, _, _, rfl, hb1, bl1, ha1, al1, rows_getB hB (by omega), rows_getB hB (by omega), h0, h1, fun G6 t6 => q _ G6 t6 ?_⟩
                  rw [enZ_zip N rows i (by omega)]
                · have eu := bools_at (bs := (rows.zip rows.tail).map fun p => enZ N p.2 p.1) (by rw [hul, hzl, List.length_map, List.length_zip, List.length_tail]; omega) hR5
                  subst eu
                  refine ⟨acc3, _, rfl, hG5, ?_⟩
                  have := kb _ (S3.trans sm5)
                  rw [List.all_map]
                  exact this
          · have hs := Bool.eq_false_iff.mpr hs
            rw [hs]
            rw [hs, Bool.false_and] at ka
            exact iteT (ka _ sm)
      · rw [decide_eq_false (fun z => hl (by have := V.int.inj z; omega))]
        refine iteT ?_
        have := k H (Same.refl H)
        rw [show snbD N h (.tuple ds) = false by
          show (decide (ds.length = h + 1) && _) = _
          rw [decide_eq_false hl, Bool.false_and]] at this
        exact this
    · rw [beq_eq_false_iff_ne.mpr hne]
      refine iteT ?_
      refine iteT ?_
      have := k H (Same.refl H)
      rw [show snbD N h d = false by cases d <;> first | rfl | exact absurd rfl (hn _)] at this
      exact this
end
end K89


namespace K89
open PySem PySem.Spec PyProof.Rows L2
abbrev s__law_in_lowest : Stmt := top 33
section
variable {P : Program} {w : World} {K : PySem.W.Frag} {mg : Str → Option Value} {base : Heap}
theorem sc__law_in_lowest : FnScope ["_law_over", "_law_under", "_law_one", "_law_other"] ["_law_over", "_law_under"] (defScope s__law_in_lowest) := ⟨rfl, rfl, rfl, by decide +kernel, rfl, by decide +kernel, by decide +kernel⟩
theorem ok__law_in_lowest {f : Addr} {fd : FuncData} (F : Fun K "_law_in_lowest" "_law_in_lowest" s__law_in_lowest f fd) (T : Top mg) : FnOk P w K mg base CX0 1 f fd ["_law_over", "_law_under"] spLow := by
  refine F.ok sc__law_in_lowest (fun vs H Q E h => ?_) (fun cdv A outer s H vs Q E hr h => ?_)
  · obtain ⟨a, b, rfl, _⟩ := h
    rfl
  · obtain ⟨a, b, rfl, hb, sb, k⟩ := h
    refine ⟨_, (pss_cons (ps_par (i := 2) (j := 3) rfl sc__law_in_lowest.nd rfl rfl (by decide) rfl rfl (pa_cons (pe_callB call_abs (by rfl) T.n_abs boot_abs (pa_cons (pv 0) pa_nil)) (pa_cons (pv 1) pa_nil)) rfl)
      (pss_cons (ps_while PassesOwn.never (pt_cmpR op_gt (pv 3) pe_int (nomark _))
        (pss_one (ps_par (i := 2) (j := 3) rfl sc__law_in_lowest.nd rfl rfl (by decide) rfl rfl (pa_cons (pv 3) (pa_cons (pe_op op_mod (pv 2) (pv 3)) pa_nil)) rfl)))
      (pss_one (ps_ret (pe_tup (pa_cons (pe_op op_fdivC (pv 0) (pv 2)) (pa_cons (pe_op op_fdivC (pv 1) (pv 2)) pa_nil))))))), ?_⟩
    refine ⟨_, rfl, _, rfl, _, rfl, _, _, rfl, ?_⟩
    refine ⟨fun m σ G => ∃ x y : Int, m = y.toNat ∧ σ = [some (.int a), some (.int b), some (.int x), some (.int y)] ∧ G = H ∧ 0 ≤ y ∧ (y = 0 → 0 < x) ∧ gcdZ x y = gcdZ a b, ⟨_, _, b, rfl, rfl, rfl, by omega, by omega, gcdZ_abs a b⟩, ?_⟩
    rintro m σ G ⟨x, y, rfl, rfl, rfl, y0, x0, e⟩
    refine ⟨_, rfl, _, _, rfl, rfl, _, rfl, ?_⟩
    refine ite2 (fun h => ?_) (fun h => ?_)
    · have hy := of_decide_eq_true h
      refine ⟨fun σ' G' => ∃ x' y' : Int, y' < y ∧ σ' = [some (.int a), some (.int b), some (.int x'), some (.int y')] ∧ G' = G ∧ 0 ≤ y' ∧ (y' = 0 → 0 < x') ∧ gcdZ x' y' = gcdZ a b, ?_, ?_⟩
      · rintro σ' G' ⟨x', y', h1, h2, h3, h4, h5⟩
        exact ⟨_, by omega, x', y', rfl, h2, h3, h4, h5⟩
      · refine ⟨_, rfl, _, rfl, _, rfl, _, _, rfl, rfl, hy, _, _, rfl, ?_⟩
        exact ⟨_, _, Int.emod_lt_of_pos _ hy, rfl, rfl, Int.emod_nonneg _ (by omega), fun _ => hy, by rw [gcdZ_step hy]; exact e⟩
    · have hy : y = 0 := by
        have : ¬ 0 < y := fun z => h (decide_eq_true z)
        omega
      subst hy
      have x1 := x0 rfl
      rw [gcdZ_zero (Int.le_of_lt x1)] at e
      subst e
      have gs : Sm (gcdZ a b) 8000 := sb.le (by have := gcdZ_le (a := a) hb; omega)
      refine ⟨_, rfl, _, rfl, _, _, rfl, rfl, ⟨x1, gs⟩, _, rfl, _, rfl, _, _, rfl, rfl, ⟨x1, gs⟩, by show 2 ≤ sizeLine; decide, fun z hz => ?_⟩
      exact k z _ (same_upd hz) upd_same
end
end K89


namespace K89
open PySem PySem.Spec PyProof.Rows L2
abbrev s__law_of : Stmt := top 31
section
variable {P : Program} {w : World} {K : PySem.W.Frag} {mg : Str → Option Value} {base : Heap}
theorem sc__law_of : FnScope ["_law_spring", "_law_some"] ["_law_spring", "_law_some"] (defScope s__law_of) := ⟨rfl, rfl, rfl, by decide +kernel, rfl, by decide +kernel, by decide +kernel⟩
theorem ok__law_of {f : Addr} {fd : FuncData} (F : Fun K "_law_of" "_law_of" s__law_of f fd) (T : Top mg) (C_law_take : Cal P w K mg base 1 "_law_take" ["_law_spring", "_law_many"] spTakeS) : FnOk P w K mg base CX0 2 f fd ["_law_spring", "_law_some"] spOfS := by
  refine F.ok sc__law_of (fun vs H Q E h => ?_) (fun cdv A outer s H vs Q E hr h => ?_)
  · obtain ⟨p, q, l, n, xs, rfl, _⟩ := h
    rfl
  · obtain ⟨p, q, l, n, xs, rfl, sp, hn, hl, hlq, x0, x1, k⟩ := h
    refine ⟨_, (pss_one (ps_ret (pe_ix ix_list (pv 1) (pe_cal C_law_take (hr.mono (by decide)) rfl (pa_cons (pv 0) (pa_cons (pe_callB call_len_seq (by rfl) T.n_len PySem.boot_len (pa_cons (pv 1) pa_nil)) pa_nil))) (fun _ _ => rfl)))), ?_⟩
    have hlp : l ≠ p := by
      obtain ⟨ns, s', t, h1, h2, _⟩ := id sp
      exact ne_of hl h1 (by intro z; cases z)
    refine ⟨_, rfl, _, rfl, _, rfl, l, _, rfl, .inl (SqL.of hl), p, q, _, n, rfl, by omega, by omega, sp, by omega, fun d G d0 d1 sp' g => ?_⟩
    obtain ⟨x, hx, ex⟩ := atI_any (xs := xs) d0 d1
    exact ⟨l, _, _, _, rfl, rfl, SqL.of (g l _ hl hlp hlq), ex, k x G (List.mem_of_getElem? hx) sp' g⟩
end
end K89


namespace L2
open PySem PySem.Spec PyProof.Rows
theorem op_notIn_seqK {X : Cx} (K : PySem.W.Frag) (hK : X.K = K) : OpR X (compareOp .NotIn) (rIn K true) := hK ▸ op_notIn_seq
end L2
namespace K89
open PySem PySem.Spec PyProof.Rows L2
abbrev s__law_own_orders : Stmt := top 32
section
variable {P : Program} {w : World} {K : PySem.W.Frag} {mg : Str → Option Value} {base : Heap}
theorem sc__law_own_orders : FnScope ["_law_many", "_law_found", "_law_turn", "_law_longer", "_law_begun"] ["_law_many"] (defScope s__law_own_orders) := ⟨rfl, rfl, rfl, by decide +kernel, rfl, by decide +kernel, by decide +kernel⟩
set_option maxHeartbeats 8000000 in
theorem ok__law_own_orders {f : Addr} {fd : FuncData} (F : Fun K "_law_own_orders" "_law_own_orders" s__law_own_orders f fd) (T : Top mg) : FnOk P w K mg base CX0 1 f fd ["_law_many"] spOrdsX := by
  refine F.ok sc__law_own_orders (fun vs H Q E h => ?_) (fun cdv A outer s H vs Q E hr h => ?_)
  · obtain ⟨m, rfl, _⟩ := h
    rfl
  · obtain ⟨m, rfl, hm, k⟩ := h
    refine ⟨_, (pss_cons (ps_set (i := 1) sc__law_own_orders.nd rfl (Or.inl rfl) (pe_lst (pa_cons (pe_tup pa_nil) pa_nil)))
      (pss_cons (ps_for PassesOwn.never rfl (pi_range1 rfl T.n_range (pa_cons (pv 0) pa_nil)) (pg_name (i := 2) sc__law_own_orders.nd rfl (Or.inl rfl))
        (pss_cons (ps_set (i := 3) sc__law_own_orders.nd rfl (Or.inl rfl) (pe_lst pa_nil))
        (pss_cons (ps_for PassesOwn.never rfl (pi_list (pv 1)) (pg_name (i := 4) sc__law_own_orders.nd rfl (Or.inr rfl))
          (pss_one (ps_expr (pe_bm PySem.F.plainAttrs_list PySem.F.slot_list_extend PySem.F.type_list_extend mt_extend (pv 3) (pa_cons (pe_lc (N' := ["_law_one", "_law_begun"]) (n := 1) (ix := [4]) rfl (CompScope.of (sc := defScope s__law_own_orders) (N := ["_law_many", "_law_found", "_law_turn", "_law_longer", "_law_begun"]) (by decide +kernel) rfl rfl) (pi_range1 rfl T.n_range (pa_cons (pv 0) pa_nil)) (fun _ _ _ _ _ => ⟨(pg_name (i := 0) (show (["_law_one", "_law_begun"] : List Str).Nodup by decide +kernel) rfl (Or.inl rfl)), (pts_one (pt_cmpR (op_notIn_seqK K rfl) (pv 0) (pv 1) (by rfl))), (pe_op op_cat2 (pv 1) (pe_tup (pa_cons (pv 0) pa_nil)))⟩)) pa_nil)))))
        (pss_one (ps_set (i := 1) sc__law_own_orders.nd rfl (Or.inl rfl) (pv 3))))))
      (pss_one (ps_ret (pv 1))))), ?_⟩
    refine ⟨Nat.zero_le _, fun t0 ht0 => ⟨by show 1 ≤ sizeLine; decide, fun p0 hp0 => ?_⟩⟩
    have s0 := (same_upd (o := .tup []) ht0).trans (same_upd (o := .lst [.ref t0]) hp0)
    refine ⟨_, rfl, _, rfl, by omega, by omega, ?_⟩
    rw [Int.toNat_natCast]
    refine for_range (n := m) (fun i σ G => ∃ (p : Addr) (zs : List Addr) (rows : List (List Int)) (c2 c3 c4 : Option V), σ = [some (.int m), some (.ref p), c2, c3, c4] ∧ Same H G ∧ H p = none ∧ G p = some (.lst (zs.map V.ref)) ∧ RowsAt G zs rows ∧ rows = iterA m [[]] i) ?_ ?_ ?_
    · exact ⟨p0, [t0], [[]], none, none, none, rfl, s0, (same_upd ht0).free hp0, upd_same, .cons (same_upd hp0 _ _ upd_same) .nil, rfl⟩
    · rintro i σ G hi ⟨p, zs, rows, c2, c3, c4, rfl, sm, hpn, hp2, R, hrows⟩
      have B : ∀ r ∈ rows, Beg m i r := fun r hr' => (iter_beg m i).1 r (hrows ▸ hr')
      have hlen : rows.length ≤ 720 := by rw [hrows, (iter_beg m i).2]; exact fac_small m (by omega) i (by omega)
      refine ⟨Nat.zero_le _, fun L hL => ?_⟩
      have sL := same_upd (o := .lst []) hL
      have hLp : L ≠ p := fun e => by rw [e, hp2] at hL; cases hL
      have hL0 : H L = none := sm.free hL
      have lz : zs.length = rows.length := Paired.length R
      refine ⟨_, rfl, p, rfl, ⟨_, SqL.of (sL _ _ hp2)⟩, ?_⟩
      refine for_list (K := K) (a := p) (xs := zs.map V.ref) (fun j σ G2 => ∃ (zs2 : List Addr) (rows2 : List (List Int)) (c4 : Option V), σ = [some (.int m), some (.ref p), some (.int (0 + (i : Int))), some (.ref L), c4] ∧ Same G G2 ∧ G2 L = some (.lst (zs2.map V.ref)) ∧ RowsAt G2 zs2 rows2 ∧ rows2 = stepA m (rows.take j) ∧ rows2.length ≤ j * 6) ?_ ?_ ?_ ?_
      · exact ⟨[], [], c4, rfl, sL, upd_same, .nil, rfl, Nat.le_refl _⟩
      · rintro j σ G2 _ ⟨zs2, rows2, c4, rfl, s2, _⟩
        exact SqL.of (s2 _ _ hp2)
      · rintro j x σ G2 hx ⟨zs2, rows2, c4, rfl, s2, hL2, R2, B2, hlen2⟩
        have hj : j < zs.length := by
          have := (List.getElem?_eq_some_iff.mp hx).1
          rwa [List.length_map] at this
        rw [List.getElem?_map] at hx
        obtain ⟨z, hz, rfl⟩ := Option.map_eq_some_iff.mp hx
        obtain ⟨r, hr0, hr2⟩ := R.get hz
        have hr1 := List.mem_of_getElem? hr0
        have htk : rows.take (j + 1) = rows.take j ++ [r] := by rw [List.take_succ, hr0]; rfl
        have hb := B r hr1
        refine ⟨_, rfl, .inl ⟨rfl, _, SqL.of hL2⟩, ?_⟩
        refine ⟨_, rfl, _, rfl, by omega, by omega, ?_⟩
        rw [Int.toNat_natCast]
        refine lc_growF (yields_range (lo := 0) (n := m)) (small1 (by rw [rangeV_len]; omega)) (fun v => match v with | .int k => !inV (.int k) (r.map V.int) | _ => false) (RTab fun k => r ++ [k]) (fun x v G G' st ⟨k, z, e1, e2, e3⟩ => ⟨k, z, e1, e2, st _ _ e3⟩) (fun _ _ => trivial) (fun x hx G s' Q' q' => ?_) (fun x hx _ G s' Q' q' => ?_) fun acc ys G3 hacc s' hys pr => ?_
        · obtain ⟨n, rfl, n0, n1⟩ := mem_rangeV hx
          exact ⟨_, rfl, _, rfl, z, _, rfl, .inr (SqT.of (s' _ _ (s2 _ _ hr2))), rfl, by rw [List.all_map]; simp [flatV], _, rfl, q'⟩
        · obtain ⟨n, rfl, n0, n1⟩ := mem_rangeV hx
          refine ⟨_, rfl, _, rfl, by show 1 ≤ sizeLine; decide, fun t ht => ⟨z, t, _, _, rfl, rfl, same_upd ht _ _ (s' _ _ (s2 _ _ hr2)), upd_same, ?_, fun z' G' s'' hz' => ?_⟩⟩
          · rw [mapI_len, hb.len]
            exact Nat.le_trans (by show i + 1 ≤ 1000; omega) (by decide)
          · refine q' _ _ ((same_upd ht).trans s'') ⟨n, z', rfl, rfl, ?_⟩
            rw [hz', List.map_append]
            rfl
        · have ef : ((rangeV 0 m).filter fun v => match v with | .int k => !inV (.int k) (r.map V.int) | _ => false) = (freeO m r).map V.int := by
            rw [rangeV_num0, List.filter_map]
            unfold freeO
            congr 1
            refine List.filter_congr fun k _ => ?_
            show (!inV (.int k) (r.map V.int)) = _
            rw [inV_ints]
            by_cases c : k ∈ r
            · rw [decide_eq_true c, decide_eq_false (fun z => z c)]; rfl
            · rw [decide_eq_false c, decide_eq_true c]; rfl
          rw [ef] at pr
          obtain ⟨zs3, rfl, R3⟩ := tab_rows pr
          have hf := hb.free
          have l3 : zs3.length = (freeO m r).length := by rw [Paired.length R3, List.length_map]
          have l2 : zs2.length = rows2.length := Paired.length R2
          have hL3 := s' _ _ hL2
          refine ⟨L, acc, _, _, rfl, rfl, hL3, hys, ?_, ?_⟩
          · rw [mapR_len, mapR_len]
            refine Nat.le_trans (by omega : zs2.length + zs3.length ≤ 10000) (by decide)
          · have stp : SameT G3 (upd G3 L (.lst (zs2.map V.ref ++ zs3.map V.ref))) := sameT_lst hL3
            refine ⟨zs2 ++ zs3, rows2 ++ (freeO m r).map (fun k => r ++ [k]), _, rfl, same_updR (s2.trans s') hL, by rw [upd_same, List.map_append], Paired.append ((R2.same s').sameT stp) (R3.sameT stp), ?_, ?_⟩
            · rw [htk, B2]
              unfold stepA
              rw [List.flatMap_append]
              simp
            · rw [List.length_append, List.length_map]
              omega
      · rintro σ G2 ⟨zs2, rows2, c4, rfl, s2, hL2, R2, B2, hlen2⟩
        refine ⟨_, rfl, ?_⟩
        refine ⟨L, zs2, rows2, _, _, _, rfl, sm.trans s2, hL0, hL2, R2, ?_⟩
        rw [B2, List.length_map, lz, List.take_length, hrows]
        rfl
    · rintro σ G ⟨p, zs, rows, c2, c3, c4, rfl, sm, hpn, hp2, R, hrows⟩
      subst hrows
      exact ⟨_, rfl, k p zs G sm hpn hp2 R⟩
end
end K89


namespace L2
open PySem PySem.Spec PyProof.Rows
theorem flat_intsQ (ns : List Int) : (ns.map V.int).all flatV = true := by
  rw [List.all_map]
  simp [flatV]
theorem inV_inP (pl : List Int) (i : Nat) : inV (.int (i : Int)) (pl.map V.int) = inP pl i := by
  rw [inV_ints]
  unfold inP
  rw [Bool.eq_iff_iff, decide_eq_true_eq, List.contains_iff_mem]
end L2
namespace K89
open PySem PySem.Spec PyProof.Rows L2
abbrev s_row_by_places : Stmt := top 23
abbrev s_rule_share : Stmt := top 22
section
variable {P : Program} {w : World} {K : PySem.W.Frag} {mg : Str → Option Value} {base : Heap}
theorem sc_row_by_places : FnScope ["many", "places", "fewer", "row", "place", "waiting", "seen"] ["many", "places", "fewer"] (defScope s_row_by_places) := ⟨rfl, rfl, rfl, by decide +kernel, rfl, by decide +kernel, by decide +kernel⟩
set_option maxHeartbeats 8000000 in
theorem ok_row_by_places {f : Addr} {fd : FuncData} (F : Fun K "row_by_places" "row_by_places" s_row_by_places f fd) (T : Top mg) (Cby_laying : Cal P w K mg base 4 "by_laying" ["many", "place", "fewer"] spBy) (Cfrom_place : Cal P w K mg base 4 "from_place" ["place", "waiting", "seen"] spFrom) : FnOk P w K mg base CX0 5 f fd ["many", "places", "fewer"] spRp := by
  refine F.ok sc_row_by_places (fun vs H Q E h => ?_) (fun cdv A outer s H vs Q E hr h => ?_)
  · obtain ⟨N, h, c, b, pl, fs, cf, rfl, _⟩ := h
    rfl
  · obtain ⟨N, h, c, b, pl, fs, cf, rfl, h0, h1, h2, hc, ⟨ws, hb, alf⟩, cr, k⟩ := h
    refine ⟨_, (pss_cons (ps_set (i := 3) sc_row_by_places.nd rfl (Or.inl rfl) (pe_lst (pa_cons (pe_tup (pa_cons pe_int (pa_cons pe_int pa_nil))) pa_nil)))
      (pss_cons (ps_for PassesOwn.never rfl (pi_rangeD rfl T.n_range (pa_cons (pe_op op_sub (pv 0) pe_int) (pa_cons (pe_un un_neg pe_int) (pa_cons (pe_un un_neg pe_int) pa_nil)))) (pg_name (i := 4) sc_row_by_places.nd rfl (Or.inl rfl))
        (pss_cons (ps_set (i := 5) sc_row_by_places.nd rfl (Or.inl rfl) (pe_ix ix_list (pv 3) (pe_un un_neg pe_int) (fun _ _ => rfl)))
        (pss_cons (PS.mono (t' := seenT) (ps_set (i := 6) sc_row_by_places.nd rfl (Or.inl rfl) (pe_ifExp (pt_cmpR op_in_seq (pv 4) (pv 1) (by rfl)) (pe_cal Cby_laying (hr.mono (by decide)) rfl (pa_cons (pv 0) (pa_cons (pv 4) (pa_cons (pe_ix ix_tup (pv 2) (pe_op op_add (pv 4) pe_int) (fun _ _ => rfl)) pa_nil)))) (pv 5))) ?w52)
        (pss_one (ps_expr (pe_bm PySem.F.plainAttrs_list PySem.F.slot_list_append PySem.F.type_list_append mt_append (pv 3) (pa_cons (pe_cal Cfrom_place (hr.mono (by decide)) rfl (pa_cons (pv 4) (pa_cons (pv 5) (pa_cons (pv 6) pa_nil)))) pa_nil)))))))
      (pss_one (ps_ret (pe_callTy call_tuple_of (by rfl) T.n_tuple boot_tuple (pa_cons (pe_rev rv_list (pv 3)) pa_nil)))))), ?_⟩
    case w52 =>
      rintro D σ H ⟨N, i, c, b, y, zf, pl, ws, w, f, e0, e1, e2, e4, e5, hc, hb, ez, hz, hy, n0, n1, i1, bf, k⟩
      refine ⟨_, e4, _, e1, c, _, rfl, .inr (SqT.of hc), rfl, flat_intsQ pl, _, rfl, ?_⟩
      show (if inV (.int (i : Int)) (pl.map V.int) = true then _ else _)
      rw [inV_inP]
      cases e : inP pl i with
      | true =>
        refine iteT ?_
        refine ⟨_, e0, _, e4, _, e2, _, e4, _, _, rfl, rfl, b, _, _, _, rfl, rfl, SqT.of hb, by rw [show (i : Int) + 1 = ((i + 1 : Nat) : Int) by omega]; exact atI_nat ez, N, i, zf, f, rfl, by omega, by omega, by omega, by omega, hz, bf, fun z H1 s1 hz1 => k z H1 s1 ?_⟩
        unfold seenZ
        rw [e, if_pos rfl]
        exact hz1
      | false =>
        refine iteF ⟨_, e5, k y H (Same.refl H) ?_⟩
        unfold seenZ
        rw [e, if_neg Bool.false_ne_true]
        exact hy
    have bf : RowB 1000 N fs := (cr.B h1 (by omega)).mono (by decide)
    have bw : RowB 1000 N (rpZ N pl fs N) := ((cr.next pl).B h1 (by omega)).mono (by decide)
    refine ⟨by show 2 ≤ sizeLine; decide, fun t ht => ⟨by show 1 ≤ sizeLine; decide, fun L hL => ?_⟩⟩
    have s1 := same_upd (o := .tup [.int 0, .int 1]) ht
    have s2 := same_upd (o := .lst [.ref t]) hL
    have hL0 : H L = none := s1.free hL
    refine ⟨_, rfl, _, _, rfl, rfl, _, rfl, _, rfl, _, _, rfl, ⟨by omega, by omega, by decide, by decide⟩, ?_⟩
    rw [show ((N : Int) - 1 - -1).toNat = N by omega]
    refine for_down (fun j σ G => ∃ (us : List V) (c4 c5 c6 : Option V), σ = [some (.int N), some (.ref c), some (.ref b), some (.ref L), c4, c5, c6] ∧ Same H G ∧ G L = some (.lst us.reverse) ∧ IsAllY NoS G us ((rpZ N pl fs j).map shD)) ?_ ?_ ?_
    · exact ⟨[.ref t], none, none, none, rfl, s1.trans s2, upd_same, .cons (Shr.isY (s2 _ _ upd_same)) .nil⟩
    · rintro j σ G hj ⟨us, c4, c5, c6, rfl, sm, hG, al⟩
      have hlen : us.length = j + 1 := by rw [al.len, List.length_map, rpZ_len]
      obtain ⟨x, r, rfl⟩ : ∃ x r, us = x :: r := by
        cases us with
        | nil => simp at hlen
        | cons x r => exact ⟨x, r, rfl⟩
      obtain ⟨z0, e0, hz0⟩ := shs_at (i := 0) al (by rw [rpZ_len]; omega)
      have e0 : x = .ref z0 := by simpa using e0
      subst e0
      obtain ⟨zf, ef, hzf⟩ := shs_at (i := N - j) (alf.same sm) (by rw [bf.1]; omega)
      have bp : ShB ((rpZ N pl fs j).getD 0 (0, 1)) 1000 := by
        rw [← getD_head, ← rpZ_sub (N := N) (pl := pl) (fs := fs) (n := N) (j := j) (by omega)]
        exact bw.at (by omega)
      have ei : (N : Int) - 1 - (j : Int) = ((N - 1 - j : Nat) : Int) := by omega
      have bff := bf.at (i := N - j) (by omega)
      refine ⟨_, rfl, _, rfl, L, _, -1, _, rfl, rfl, SqL.of hG, atI_rev, ?_⟩
      refine ⟨N, N - 1 - j, c, b, z0, zf, pl, ws, _, _, rfl, rfl, rfl, by show some (some (V.int ((N : Int) - 1 - (j : Int)))) = _; rw [ei], rfl, sm _ _ hc, sm _ _ hb, by rw [show N - 1 - j + 1 = N - j by omega]; exact ef, hzf, hz0, h0, by omega, by omega, bff, fun zs G1 t1 hzs => ?_⟩
      have hG1 := t1 _ _ hG
      have bs : ShB (seenZ N pl (N - 1 - j) ((rpZ N pl fs j).getD 0 (0, 1)) (fs.getD (N - j) (0, 1))) 1100 := by
        unfold seenZ
        split
        · exact (byZ_sh (by omega) (by omega) (by omega) (by omega) bff).mono (by decide)
        · exact bp.mono (by decide)
      refine ⟨_, rfl, .inl ⟨rfl, _, SqL.of hG1⟩, _, rfl, _, rfl, _, rfl, ((N - 1 - j : Nat) : Int), z0, zs, _, _, by rw [ei], by omega, by omega, t1 _ _ hz0, hzs, bp, bs, fun z G2 t2 hz => ?_⟩
      have hG2 := t2 _ _ hG1
      refine ⟨L, _, _, rfl, rfl, hG2, small1 (by rw [List.length_reverse]; omega), ?_⟩
      refine ⟨.ref z :: .ref z0 :: r, _, _, _, rfl, same_updR (sm.trans (t1.trans t2)) hL0, by rw [upd_same, List.reverse_cons (a := V.ref z)], ?_⟩
      rw [rpZ, List.map_cons, getD_head]
      exact .cons (shr_upd hG2 hz).isY (noS_upd hG2 (al.same (t1.trans t2)))
    · rintro σ G ⟨us, c4, c5, c6, rfl, sm, hG, al⟩
      refine ⟨_, rfl, L, _, rfl, SqL.of hG, fun p hp => ⟨p, _, rfl, .inl ⟨SqL.of upd_same, fun z hz => ?_⟩⟩⟩
      rw [List.reverse_reverse]
      have s5 := same_upd (o := .lst us) hp
      rw [List.reverse_reverse] at hz
      have s6 := same_upd (o := .tup us) hz
      exact k z _ (sm.trans (s5.trans s6)) ⟨us, upd_same, al.same (s5.trans s6)⟩
theorem sc_rule_share : FnScope ["many", "plan", "row", "places"] ["many", "plan"] (defScope s_rule_share) := ⟨rfl, rfl, rfl, by decide +kernel, rfl, by decide +kernel, by decide +kernel⟩
set_option maxHeartbeats 8000000 in
theorem ok_rule_share {f : Addr} {fd : FuncData} (F : Fun K "rule_share" "rule_share" s_rule_share f fd) (T : Top mg) (Crow_by_places : Cal P w K mg base 5 "row_by_places" ["many", "places", "fewer"] spRp) : FnOk P w K mg base CX0 6 f fd ["many", "plan"] spRs := by
  refine F.ok sc_rule_share (fun vs H Q E h => ?_) (fun cdv A outer s H vs Q E hr h => ?_)
  · obtain ⟨N, a, plan, rfl, _⟩ := h
    rfl
  · obtain ⟨N, a, plan, rfl, h0, h1, ⟨us, ha, al⟩, hl, k⟩ := h
    refine ⟨_, (pss_cons (ps_set (i := 2) sc_rule_share.nd rfl (Or.inl rfl) (pe_op op_repT (pe_tup (pa_cons (pe_tup (pa_cons pe_int (pa_cons pe_int pa_nil))) pa_nil)) (pe_op op_add (pv 0) pe_int)))
      (pss_cons (ps_for PassesOwn.never rfl (pi_tup (pv 1)) (pg_name (i := 3) sc_rule_share.nd rfl (Or.inl rfl))
        (pss_one (ps_set (i := 2) sc_rule_share.nd rfl (Or.inl rfl) (pe_cal Crow_by_places (hr.mono (by decide)) rfl (pa_cons (pv 0) (pa_cons (pv 3) (pa_cons (pv 2) pa_nil)))))))
      (pss_one (ps_ret (pe_ix ix_tup (pv 2) pe_int (fun _ _ => rfl)))))), ?_⟩
    have hul : us.length = plan.length := by rw [al.len, List.length_map]
    refine ⟨by show 2 ≤ sizeLine; decide, fun t ht => ⟨by show 1 ≤ sizeLine; decide, fun t2 ht2 => ⟨_, rfl, _, _, rfl, rfl, t2, _, _, rfl, rfl, upd_same, by omega, by omega, fun p G0 s0 hp => ?_⟩⟩⟩
    have s1 := (same_upd (o := .tup [.int 0, .int 1]) ht).trans ((same_upd (o := .tup [.ref t]) ht2).trans s0)
    refine ⟨_, rfl, a, rfl, ⟨_, SqT.of (s1 _ _ ha)⟩, ?_⟩
    refine for_tup (K := K) (a := a) (xs := us) (fun j σ G => ∃ (r : Addr) (c3 : Option V), σ = [some (.int N), some (.ref a), some (.ref r), c3] ∧ Same H G ∧ RowT G r ((plan.take j).foldl (fun row pl => rpZ N pl row N) (List.replicate (N + 1) (0, 1)))) ?_ (fun j σ G _ ⟨r, c3, _, sm, _⟩ => SqT.of (sm _ _ ha)) ?_ ?_
    · refine ⟨p, none, rfl, s1, _, hp, ?_⟩
      have hs := ((same_upd (o := .tup [.ref t]) ht2).trans s0) _ _ (@upd_same H t (.tup [.int 0, .int 1]))
      show IsAllY _ _ _ ((List.replicate (N + 1) ((0, 1) : Sh)).map shD)
      rw [map_rep, show ((N : Int) + 1).toNat = N + 1 by omega]
      exact IsAllY.rep (Shr.isY (p := (0, 1)) hs) _
    · rintro j x σ G hx ⟨r, c3, rfl, sm, hR⟩
      have hj := (List.getElem?_eq_some_iff.mp hx).1
      obtain ⟨c, ec, hc⟩ := plan_at (i := j) (al.same sm) (by omega)
      rw [hx] at ec
      cases ec
      have cr := CRow.fold (N := N) (plan.take j) (CRow.start N)
      rw [List.length_take, Nat.zero_add] at cr
      refine ⟨_, rfl, _, rfl, _, rfl, N, _, c, r, _, _, _, rfl, h0, h1, by omega, hc, hR, cr, fun z G1 t1 hz => ⟨z, _, rfl, sm.trans t1, ?_⟩⟩
      rw [List.take_succ, List.getElem?_eq_getElem (by omega), List.foldl_append]
      rw [List.getD_eq_getElem?_getD, List.getElem?_eq_getElem (by omega)] at hz
      exact hz
    · rintro σ G ⟨r, c3, rfl, sm, us2, hr2, al2⟩
      rw [hul, List.take_length] at al2
      have cr := CRow.fold (N := N) plan (CRow.start N)
      obtain ⟨y, ey, hy⟩ := shs_at (i := 0) al2 (by rw [cr.len]; omega)
      exact ⟨_, rfl, r, _, 0, _, rfl, rfl, SqT.of hr2, atI_nat (j := 0) ey, k y G sm hy⟩
end
end K89


namespace L2
open PySem PySem.Spec PyProof.Rows
def wsF (plan : List (List Int)) : Nat → Int → Bool → Nat → List Int → Bool
  | _, _, held, _, [] => held
  | l, hi, held, i, x :: r => if hi < x then wsF plan (if decide (0 < l) && inP (plAt plan l) i then l - 1 else l) x (decide (0 < l) && inP (plAt plan l) i) (i + 1) r else wsF plan l hi held (i + 1) r
theorem ws_wn (plan : List (List Int)) : ∀ (os : List Int) (l : Nat) (hi : Int) (held : Bool) (i : Nat), wsF plan l hi held i os = ((held && (recF hi os).all fun b => !b) || wnR plan l i (recF hi os))
  | [], l, hi, held, i => by simp [wsF, recF, wnR]
  | x :: r, l, hi, held, i => by
    by_cases hx : hi < x
    · rw [wsF, if_pos hx, ws_wn plan r, recF, if_pos hx, decide_eq_true hx, wnR]
      cases hb : (decide (0 < l) && inP (plAt plan l) i) <;> simp
    · rw [wsF, if_neg hx, ws_wn plan r, recF, if_neg hx, decide_eq_false hx, wnR]
      simp
def spWins : Sp := fun vs H Q _ => ∃ (a o : Addr) (plan : List (List Int)) (os : List Int), vs = [.ref a, .ref o] ∧ PlanT H a plan ∧ plan.length ≤ 5 ∧ H o = some (.tup (os.map V.int)) ∧ os.length ≤ 60 ∧ ∀ H', Same H H' → Q (.bl (wnR plan plan.length 0 (recF (-1) os))) H'
end L2
namespace K89
open PySem PySem.Spec PyProof.Rows L2
abbrev s_wins : Stmt := top 21
section
variable {P : Program} {w : World} {K : PySem.W.Frag} {mg : Str → Option Value} {base : Heap}
theorem sc_wins : FnScope ["plan", "order", "left", "highest", "held", "place", "number"] ["plan", "order"] (defScope s_wins) := ⟨rfl, rfl, rfl, by decide +kernel, rfl, by decide +kernel, by decide +kernel⟩
set_option maxHeartbeats 16000000 in
theorem ok_wins {f : Addr} {fd : FuncData} (F : Fun K "wins" "wins" s_wins f fd) (T : Top mg) : FnOk P w K mg base CX0 1 f fd ["plan", "order"] spWins := by
  refine F.ok sc_wins (fun vs H Q E h => ?_) (fun cdv A outer s H vs Q E hr h => ?_)
  · obtain ⟨a, o, plan, os, rfl, _⟩ := h
    rfl
  · obtain ⟨a, o, plan, os, rfl, ⟨us, ha, al⟩, hpl, ho, hol, k⟩ := h
    refine ⟨_, (pss_cons (ps_set (i := 2) sc_wins.nd rfl (Or.inl rfl) (pe_callB call_len_seq (by rfl) T.n_len PySem.boot_len (pa_cons (pv 0) pa_nil)))
      (pss_cons (ps_set (i := 3) sc_wins.nd rfl (Or.inl rfl) (pe_un un_neg pe_int))
      (pss_cons (ps_set (i := 4) sc_wins.nd rfl (Or.inl rfl) pe_bl)
      (pss_cons (ps_for PassesOwn.never rfl (pi_enumT rfl T.n_enumerate (pa_cons (pv 1) pa_nil)) (pg_pair (i := 5) (j := 6) rfl sc_wins.nd rfl rfl (Or.inl rfl) (Or.inl rfl) (Or.inl rfl) (Or.inl rfl))
        (pss_one (ps_if (pt_cmpR op_gt (pv 6) (pv 3) (nomark _))
          (pss_cons (ps_set (i := 3) sc_wins.nd rfl (Or.inl rfl) (pv 6))
          (pss_cons (ps_set (i := 4) sc_wins.nd rfl (Or.inl rfl) (pe_and (pe_cmpR op_gt (pv 2) pe_int (nomark _)) (pe_one (pe_cmpR op_in_seq (pv 5) (pe_ix ix_tup (pv 0) (pe_op op_sub (pv 2) pe_int) (fun _ _ => rfl)) (by rfl)))))
          (pss_one (ps_if (pt_val (pv 4))
            (pss_one (ps_aug (i := 2) sc_wins.nd rfl (Or.inl rfl) pe_int ip_sub))
            pss_nil))))
          pss_nil)))
      (pss_one (ps_ret (pv 4))))))), ?_⟩
    have hul : us.length = plan.length := by rw [al.len, List.length_map]
    refine ⟨_, rfl, a, _, rfl, .inr (SqT.of ha), 1, rfl, ?_⟩
    rw [hul]
    refine ⟨_, rfl, o, rfl, ⟨_, SqT.of ho⟩, ?_⟩
    refine for_enum (K := K) (a := o) (xs := os.map V.int) (fun i σ G => ∃ (l : Nat) (hi : Int) (held : Bool) (c5 c6 : Option V), σ = [some (.ref a), some (.ref o), some (.int (l : Int)), some (.int hi), some (.bl held), c5, c6] ∧ Same H G ∧ l ≤ plan.length ∧ wsF plan plan.length (-1) false 0 os = wsF plan l hi held i (os.drop i)) ⟨plan.length, -1, false, _, _, rfl, Same.refl _, Nat.le_refl _, rfl⟩ (fun i σ G _ ⟨_, _, _, _, _, _, sm, _⟩ => SqT.of (sm _ _ ho)) ?_ ?_
    · rintro i v t σ G hv ⟨l, hi, held, c5, c6, rfl, sm, hl, hw⟩ ht
      have hil : i < os.length := by have := (List.getElem?_eq_some_iff.mp hv).1; rwa [mapI_len] at this
      have hxe : os[i]? = some os[i] := List.getElem?_eq_getElem hil
      rw [List.getElem?_map, hxe] at hv
      cases hv
      generalize hxx : os[i] = x at *
      have hdr : os.drop i = x :: os.drop (i + 1) := by rw [← hxx]; exact List.drop_eq_getElem_cons hil
      have st := same_upd (o := .tup [.int i, .int x]) ht
      have SM := sm.trans st
      refine ⟨t, _, rfl, SqT.of upd_same, rfl, _, _, rfl, _, _, rfl, rfl, ?_⟩
      rw [hdr, wsF] at hw
      refine ⟨_, rfl, _, rfl, _, _, rfl, rfl, _, rfl, ?_⟩
      by_cases hlt : hi < x
      · rw [if_pos hlt] at hw
        rw [decide_eq_true (show x > hi from hlt)]
        refine iteT ?_
        refine ⟨_, rfl, _, rfl, _, _, rfl, rfl, ?_⟩
        by_cases hl0 : 0 < l
        · rw [decide_eq_true hl0, Bool.true_and] at hw
          have e0 : decide ((l : Int) > 0) = true := decide_eq_true (by omega)
          obtain ⟨c, ec, hc⟩ := plan_at (i := l - 1) (al.same SM) (by omega)
          have hpe : plAt plan l = plan.getD (l - 1) [] := rfl
          rw [← hpe] at hc
          have el : (l : Int) - 1 = ((l - 1 : Nat) : Int) := by omega
          refine ⟨_, rfl, ?_⟩
          rw [e0]
          refine iteT ?_
          refine ⟨_, rfl, _, rfl, _, rfl, _, _, rfl, rfl, a, us, _, .ref c, rfl, rfl, SqT.of (SM _ _ ha), by show atI us ((l : Int) - 1) = _; rw [el]; exact atI_nat ec, c, _, rfl, .inr (SqT.of hc), rfl, flat_intsQ _, ?_⟩
          rw [inV_inP]
          refine ⟨_, rfl, _, rfl, ?_⟩
          cases hb : inP (plAt plan l) i with
          | true =>
            rw [hb, if_pos rfl] at hw
            refine iteT ?_
            refine ⟨_, rfl, _, _, rfl, rfl, ?_⟩
            exact ⟨l - 1, x, true, _, _, by rw [← el]; rfl, SM, by omega, hw⟩
          | false =>
            rw [hb, if_neg Bool.false_ne_true] at hw
            exact iteF ⟨l, x, false, _, _, rfl, SM, hl, hw⟩
        · have : l = 0 := by omega
          subst this
          rw [decide_eq_false (by omega), Bool.false_and, if_neg Bool.false_ne_true] at hw
          refine ⟨_, rfl, iteF ?_⟩
          refine ⟨_, rfl, _, rfl, iteF ?_⟩
          exact ⟨0, x, false, _, _, rfl, SM, hl, hw⟩
      · rw [if_neg hlt] at hw
        rw [decide_eq_false (show ¬ x > hi from hlt)]
        exact iteF ⟨l, hi, held, _, _, rfl, SM, hl, hw⟩
    · rintro σ G ⟨l, hi, held, c5, c6, rfl, sm, hl, hw⟩
      rw [mapI_len, List.drop_length, wsF] at hw
      rw [ws_wn, Bool.false_and, Bool.false_or] at hw
      refine ⟨_, rfl, ?_⟩
      rw [← hw]
      exact k G sm
end
end K89


namespace L2
open PySem PySem.Spec PyProof.Rows
def nI (l : List Nat) : List Int := l.map fun k : Nat => (k : Int)
theorem nI_app (a b : List Nat) : nI (a ++ b) = nI a ++ nI b := List.map_append
theorem nI_len (a : List Nat) : (nI a).length = a.length := List.length_map _
theorem nI_at {l : List Nat} {k x : Nat} (h : l[k]? = some x) : ((nI l).map V.int)[k]? = some (.int (x : Int)) := by
  unfold nI
  rw [List.getElem?_map, List.getElem?_map, h]
  rfl
theorem nI_has : ∀ (l : List Nat) (m : Nat), inP (nI l) m = l.contains m
  | [], _ => rfl
  | k :: r, m => by
    have := nI_has r m
    unfold inP nI at this ⊢
    rw [List.map_cons, List.contains_cons, List.contains_cons, this]
    have e : ((m : Int) == (k : Int)) = (m == k) := by
      by_cases h : m = k
      · rw [beq_iff_eq.mpr h, beq_iff_eq.mpr (congrArg (fun x : Nat => (x : Int)) h)]
      · rw [beq_eq_false_iff_ne.mpr h, beq_eq_false_iff_ne.mpr (fun e => h (by omega))]
    rw [e]
theorem hiP_none : ∀ (r : List Nat) (k b : Nat), (∀ j : Nat, r[j]? ≠ some 0) → hiP r k b = b
  | [], _, _, _ => rfl
  | s :: r, k, b, h => by
    have h0 : s ≠ 0 := fun e => h 0 (by rw [e]; rfl)
    rw [hiP, if_neg h0]
    exact hiP_none r (k + 1) b fun j hj => h (j + 1) hj
theorem hiP_eq : ∀ (seen : List Nat) (k b m : Nat), seen[m]? = some 0 → (∀ j : Nat, seen[j]? = some 0 → j ≤ m) → hiP seen k b = k + m
  | [], _, _, m, h, _ => by cases h
  | s :: r, k, b, 0, h, hm => by
    have e : s = 0 := by cases h; rfl
    rw [hiP, if_pos e]
    exact hiP_none r (k + 1) k fun j hj => by have := hm (j + 1) hj; omega
  | s :: r, k, b, m + 1, h, hm => by
    rw [hiP, hiP_eq r (k + 1) _ m h (fun j hj => by have := hm (j + 1) hj; omega)]
    omega
def zV (seen : List Nat) : V → Bool
  | .int i => seen.getD i.toNat 1 == 0
  | _ => false
def spMw (d : Nat) : Sp := fun vs H Q _ => ∃ (N h : Nat) (s p : Addr) (seen pl : List Nat), vs = [.int N, .ref s, .int h, .ref p] ∧ N ≤ 6 ∧ 0 < N ∧ h ≤ 10 ∧ seen.length + d = N ∧ pl.length ≤ seen.length ∧ (0 < seen.length → seen[0]? = some 0) ∧ H s = some (.tup ((nI seen).map V.int)) ∧ H p = some (.tup ((nI pl).map V.int)) ∧ ∀ H', Same H H' → Q (.int (mwZ d seen h pl : Nat)) H'
def spMwA : Sp := fun vs H Q E => ∃ d, d ≤ 6 ∧ spMw d vs H Q E
def mwP (d : Nat) (seen : List Nat) (h : Nat) (pl : List Nat) (j : Nat) : Nat := ((List.range j).map fun u => Nat.max (mwZ d (seen ++ [u]) h pl) (if 0 < h then mwZ d (seen ++ [u]) (h - 1) (pl ++ [seen.length]) else mwZ d (seen ++ [u]) h pl)).foldl (· + ·) 0
theorem mwP_succ (d : Nat) (seen : List Nat) (h : Nat) (pl : List Nat) (j : Nat) : mwP d seen h pl (j + 1) = mwP d seen h pl j + Nat.max (mwZ d (seen ++ [j]) h pl) (if 0 < h then mwZ d (seen ++ [j]) (h - 1) (pl ++ [seen.length]) else mwZ d (seen ++ [j]) h pl) := by
  unfold mwP
  rw [List.range_succ, List.map_append, List.foldl_append]
  rfl
theorem mwP_all (d : Nat) (seen : List Nat) (h : Nat) (pl : List Nat) : mwP d seen h pl (seen.length + 1) = mwZ (d + 1) seen h pl := rfl
theorem max_z (a b : Nat) : (if (b : Int) > (a : Int) then (b : Int) else (a : Int)) = ((Nat.max a b : Nat) : Int) := by
  have : Nat.max a b = if a ≤ b then b else a := rfl
  rw [this]
  split <;> split <;> omega
end L2
namespace K89
open PySem PySem.Spec PyProof.Rows L2
abbrev s__law_most_won : Stmt := top 34
section
variable {P : Program} {w : World} {K : PySem.W.Frag} {mg : Str → Option Value} {base : Heap}
theorem sc__law_most_won : FnScope ["_law_many", "_law_seen", "_law_hands", "_law_places", "_law_highest", "_law_most", "_law_above", "_law_row", "_law_without", "_law_with_one"] ["_law_many", "_law_seen", "_law_hands", "_law_places"] (defScope s__law_most_won) := ⟨rfl, rfl, rfl, by decide +kernel, rfl, by decide +kernel, by decide +kernel⟩
set_option maxHeartbeats 16000000 in
theorem mw_ok {f : Addr} {fd : FuncData} (F : Fun K "_law_most_won" "_law_most_won" s__law_most_won f fd) (T : Top mg) (hm : mg "_law_most_won" = some (.ref f)) (hb : Binds K fd ["_law_many", "_law_seen", "_law_hands", "_law_places"] []) : ∀ d, FnOk P w K mg base CX0 (d + 1) f fd ["_law_many", "_law_seen", "_law_hands", "_law_places"] (spMw d)
  | 0 => by
    refine F.ok sc__law_most_won (fun vs H Q E h => ?_) (fun cdv A outer s H vs Q E hr h => ?_)
    · obtain ⟨N, h, s, p, seen, pl, rfl, _⟩ := h
      rfl
    · obtain ⟨N, h, s, p, seen, pl, rfl, hN, N0, hh, hsl, hpl, hz, hs, hp, k⟩ := h
      refine ⟨_, (pss_cons (ps_if (pt_cmpR op_eq (pe_callB call_len_seq (by rfl) T.n_len PySem.boot_len (pa_cons (pv 1) pa_nil)) (pv 0) (nomark _))
        (pss_cons (ps_set (i := 4) sc__law_most_won.nd rfl (Or.inl rfl) (pe_callB (call_maxL rfl) (by rfl) T.n_max boot_max (pa_cons (pe_lc (N' := ["_law_k", "_law_seen"]) (n := 1) (ix := [1]) rfl (CompScope.of (sc := defScope s__law_most_won) (N := ["_law_many", "_law_seen", "_law_hands", "_law_places", "_law_highest", "_law_most", "_law_above", "_law_row", "_law_without", "_law_with_one"]) (by decide +kernel) rfl rfl) (pi_range1 rfl T.n_range (pa_cons (pv 0) pa_nil)) (fun _ _ _ _ _ => ⟨(pg_name (i := 0) (show (["_law_k", "_law_seen"] : List Str).Nodup by decide +kernel) rfl (Or.inl rfl)), (pts_one (pt_cmpR op_eq (pe_ix (ix_tupK K rfl) (pv 1) (pv 0) (fun _ _ => rfl)) pe_int (nomark _))), (pv 0)⟩)) pa_nil)))
        (pss_one (ps_ret (pe_callTy call_int1 (by rfl) T.n_int boot_int (pa_cons (pe_cmpR op_in_seq (pv 4) (pv 3) (by rfl)) pa_nil)))))
        pss_nil)
      pss_never), ?_⟩
      have hsl' : seen.length = N := by omega
      refine ⟨_, rfl, s, _, rfl, .inr (SqT.of hs), _, rfl, rfl, _, rfl, ?_⟩
      rw [mapI_len, nI_len, hsl', decide_eq_true rfl]
      refine iteT ?_
      refine ⟨_, rfl, _, rfl, by omega, by omega, ?_⟩
      rw [Int.toNat_natCast]
      refine lc_pure (yields_range (lo := 0) (n := N)) (by rw [rangeV_len]; exact small1 (by omega)) (zV seen) (fun v => v) (fun _ _ => trivial) (fun v hv G' s' Q' q => ?_) (fun v hv _ G' s' Q' q => ⟨_, rfl, q⟩) fun acc hacc => ?_
      · obtain ⟨i, hi, rfl⟩ := List.mem_map.mp hv
        have hi' := List.mem_range.mp hi
        obtain ⟨x, hx⟩ : ∃ x, seen[i]? = some x := ⟨seen[i], List.getElem?_eq_getElem (by omega)⟩
        refine ⟨_, rfl, _, rfl, s, _, _, .int (x : Int), rfl, rfl, SqT.of (s' _ _ hs), by rw [Int.zero_add]; exact atI_nat (nI_at hx), rfl, _, rfl, ?_⟩
        have e : zV seen (V.int (0 + (i : Int))) = decide (V.int (x : Int) = V.int 0) := by
          simp only [zV, Int.zero_add, Int.toNat_natCast, List.getD_eq_getElem?_getD, hx, Option.getD_some]
          by_cases h0 : x = 0
          · subst h0; rfl
          · rw [decide_eq_false (fun e => h0 (by have := V.int.inj e; omega))]
            simpa using h0
        rw [e] at q
        exact q
      · rw [List.map_id'' (fun _ => rfl)]
        obtain ⟨ns, hns, hnm⟩ : ∃ ns : List Nat, (rangeV 0 N).filter (zV seen) = (nI ns).map V.int ∧ ∀ k, k ∈ ns ↔ (k < N ∧ seen[k]? = some 0) := by
          refine ⟨(List.range N).filter fun k => seen.getD k 1 == 0, ?_, fun k => ?_⟩
          · unfold rangeV nI
            rw [List.filter_map, List.map_map]
            have e1 : (List.range N).filter (zV seen ∘ fun i : Nat => V.int (0 + (i : Int))) = (List.range N).filter fun k => seen.getD k 1 == 0 := List.filter_congr fun k _ => by
              show zV seen (V.int (0 + (k : Int))) = _
              simp only [zV, Int.zero_add, Int.toNat_natCast]
            rw [e1]
            exact List.map_congr_left fun k _ => by show V.int (0 + (k : Int)) = V.int (k : Int); rw [Int.zero_add]
          · rw [List.mem_filter, List.mem_range]
            refine and_congr_right fun hk => ?_
            rw [List.getD_eq_getElem?_getD, List.getElem?_eq_getElem (by omega)]
            simp
        rw [hns]
        have h0 : 0 ∈ ns := (hnm 0).mpr ⟨N0, hz (by omega)⟩
        refine ⟨acc, nI ns, rfl, upd_same, fun e => by
          have : (nI ns).length = 0 := by rw [e]; rfl
          rw [nI_len] at this
          have := List.length_pos_of_mem h0
          omega, fun M hM hMx => ?_⟩
        obtain ⟨m, hmm, rfl⟩ := List.mem_map.mp hM
        have hhi : hiP seen 0 0 = m := by
          rw [hiP_eq seen 0 0 m ((hnm m).mp hmm).2 (fun j hj => ?_), Nat.zero_add]
          have hjl := (List.getElem?_eq_some_iff.mp hj).1
          have := hMx (j : Int) (List.mem_map.mpr ⟨j, (hnm j).mpr ⟨by omega, hj⟩, rfl⟩)
          omega
        have sA := same_upd (o := .lst ((nI ns).map V.int)) hacc
        refine ⟨_, rfl, _, rfl, p, _, rfl, .inr (SqT.of (sA _ _ hp)), rfl, flat_intsQ _, .inr ⟨_, rfl, ?_⟩⟩
        rw [inV_inP, nI_has, ← hhi]
        have := k _ sA
        rw [mwZ] at this
        cases hc : pl.contains (hiP seen 0 0) <;> rw [hc] at this <;> exact this
  | d + 1 => by
    have ih : Cal P w K mg base (d + 1) "_law_most_won" ["_law_many", "_law_seen", "_law_hands", "_law_places"] (spMw d) := ⟨f, fd, mw_ok F T hm hb d, hm, F.kp, hb⟩
    refine F.ok sc__law_most_won (fun vs H Q E h => ?_) (fun cdv A outer s H vs Q E hr h => ?_)
    · obtain ⟨N, h, s, p, seen, pl, rfl, _⟩ := h
      rfl
    · obtain ⟨N, h, s, p, seen, pl, rfl, hN, N0, hh, hsl, hpl, hz, hs, hp, k⟩ := h
      refine ⟨_, (pss_cons (ps_if (pt_cmpR op_eq (pe_callB call_len_seq (by rfl) T.n_len PySem.boot_len (pa_cons (pv 1) pa_nil)) (pv 0) (nomark _))
        (pss_cons (ps_set (i := 4) sc__law_most_won.nd rfl (Or.inl rfl) (pe_callB (call_maxL rfl) (by rfl) T.n_max boot_max (pa_cons (pe_lc (N' := ["_law_k", "_law_seen"]) (n := 1) (ix := [1]) rfl (CompScope.of (sc := defScope s__law_most_won) (N := ["_law_many", "_law_seen", "_law_hands", "_law_places", "_law_highest", "_law_most", "_law_above", "_law_row", "_law_without", "_law_with_one"]) (by decide +kernel) rfl rfl) (pi_range1 rfl T.n_range (pa_cons (pv 0) pa_nil)) (fun _ _ _ _ _ => ⟨(pg_name (i := 0) (show (["_law_k", "_law_seen"] : List Str).Nodup by decide +kernel) rfl (Or.inl rfl)), (pts_one (pt_cmpR op_eq (pe_ix (ix_tupK K rfl) (pv 1) (pv 0) (fun _ _ => rfl)) pe_int (nomark _))), (pv 0)⟩)) pa_nil)))
        (pss_one (ps_ret (pe_callTy call_int1 (by rfl) T.n_int boot_int (pa_cons (pe_cmpR op_in_seq (pv 4) (pv 3) (by rfl)) pa_nil)))))
        pss_nil)
      (pss_cons (ps_set (i := 5) sc__law_most_won.nd rfl (Or.inl rfl) pe_int)
      (pss_cons (ps_for PassesOwn.never rfl (pi_range1 rfl T.n_range (pa_cons (pe_op op_add (pe_callB call_len_seq (by rfl) T.n_len PySem.boot_len (pa_cons (pv 1) pa_nil)) pe_int) pa_nil)) (pg_name (i := 6) sc__law_most_won.nd rfl (Or.inl rfl))
        (pss_cons (ps_set (i := 7) sc__law_most_won.nd rfl (Or.inl rfl) (pe_op op_cat2 (pv 1) (pe_tup (pa_cons (pv 6) pa_nil))))
        (pss_cons (ps_set (i := 8) sc__law_most_won.nd rfl (Or.inl rfl) (pe_cal ih hr rfl (pa_cons (pv 0) (pa_cons (pv 7) (pa_cons (pv 2) (pa_cons (pv 3) pa_nil))))))
        (pss_cons (ps_set (i := 9) sc__law_most_won.nd rfl (Or.inl rfl) (pv 8))
        (pss_cons (ps_if (pt_cmpR op_gt (pv 2) pe_int (nomark _))
          (pss_one (ps_set (i := 9) sc__law_most_won.nd rfl (Or.inl rfl) (pe_cal ih hr rfl (pa_cons (pv 0) (pa_cons (pv 7) (pa_cons (pe_op op_sub (pv 2) pe_int) (pa_cons (pe_op op_cat2 (pv 3) (pe_tup (pa_cons (pe_callB call_len_seq (by rfl) T.n_len PySem.boot_len (pa_cons (pv 1) pa_nil)) pa_nil))) pa_nil)))))))
          pss_nil)
        (pss_one (ps_set (i := 5) sc__law_most_won.nd rfl (Or.inl rfl) (pe_op op_add (pv 5) (pe_callB (call_max2 rfl) (by rfl) T.n_max boot_max (pa_cons (pv 8) (pa_cons (pv 9) pa_nil)))))))))))
      (pss_one (ps_ret (pv 5)))))), ?_⟩
      refine ⟨_, rfl, s, _, rfl, .inr (SqT.of hs), _, rfl, rfl, _, rfl, ?_⟩
      rw [mapI_len, nI_len, decide_eq_false (fun e => by have := V.int.inj e; omega)]
      refine iteF ?_
      refine ⟨_, rfl, s, _, rfl, .inr (SqT.of hs), _, _, rfl, rfl, _, rfl, by rw [mapI_len, nI_len]; omega, by rw [mapI_len, nI_len]; omega, ?_⟩
      rw [mapI_len, nI_len, show ((seen.length : Int) + 1).toNat = seen.length + 1 by omega]
      refine for_range (lo := 0) (n := seen.length + 1) (fun j σ G => ∃ (c4 c6 c7 c8 c9 : Option V), σ = [some (.int N), some (.ref s), some (.int (h : Int)), some (.ref p), c4, some (.int (mwP d seen h pl j : Nat)), c6, c7, c8, c9] ∧ Same H G) ⟨_, _, _, _, _, rfl, Same.refl _⟩ ?_ ?_
      · rintro j σ G hj ⟨c4, c6, c7, c8, c9, rfl, sm⟩
        rw [Int.zero_add]
        have hs1 := sm _ _ hs
        have hp1 := sm _ _ hp
        have row0 : 0 < (seen ++ [j]).length → (seen ++ [j])[0]? = some 0 := fun _ => by
          by_cases e : seen.length = 0
          · have : seen = [] := List.length_eq_zero_iff.mp e
            subst this
            have : j = 0 := by simp at hj; omega
            subst this
            rfl
          · rw [List.getElem?_append_left (by omega)]
            exact hz (by omega)
        have erow : (nI (seen ++ [j])).map V.int = (nI seen).map V.int ++ [.int (j : Int)] := by rw [nI_app, List.map_append]; rfl
        have epl : (nI (pl ++ [seen.length])).map V.int = (nI pl).map V.int ++ [.int (seen.length : Int)] := by rw [nI_app, List.map_append]; rfl
        refine ⟨_, rfl, _, rfl, by show 1 ≤ sizeLine; decide, fun t ht => ?_⟩
        have s1 := same_upd (o := .tup [.int (j : Int)]) ht
        refine ⟨s, t, _, _, rfl, rfl, s1 _ _ hs1, upd_same, by rw [mapI_len, nI_len, sizeLine_eq]; simp; omega, fun r G1 t1 hr1 => ?_⟩
        rw [← erow] at hr1
        have S1 := s1.trans t1
        refine ⟨_, rfl, _, rfl, _, rfl, _, rfl, N, h, r, p, seen ++ [j], pl, rfl, hN, N0, hh, by simp; omega, by simp; omega, row0, hr1, S1 _ _ hp1, fun G2 t2 => ?_⟩
        refine ⟨_, rfl, ?_⟩
        refine ⟨_, rfl, _, _, rfl, rfl, _, rfl, ?_⟩
        have S2 := S1.trans t2
        by_cases h0 : 0 < h
        · rw [decide_eq_true (show (h : Int) > 0 by omega)]
          refine iteT ?_
          refine ⟨_, rfl, _, rfl, _, rfl, _, _, rfl, rfl, _, rfl, _, rfl, s, _, rfl, .inr (SqT.of (S2 _ _ hs1)), by show 1 ≤ sizeLine; decide, fun t3 ht3 => ?_⟩
          rw [mapI_len, nI_len] at *
          have s3 := same_upd (o := .tup [.int (seen.length : Int)]) ht3
          refine ⟨p, t3, _, _, rfl, rfl, s3 _ _ (S2 _ _ hp1), upd_same, by rw [mapI_len, nI_len, sizeLine_eq]; simp; omega, fun p2 G3 t4 hp2 => ?_⟩
          rw [← epl] at hp2
          have S4 := s3.trans t4
          refine ⟨N, h - 1, r, p2, seen ++ [j], pl ++ [seen.length], by show [_, _, V.int ((h : Int) - 1), _] = _; rw [show ((h : Int) - 1) = ((h - 1 : Nat) : Int) by omega], hN, N0, by omega, by simp; omega, by simp; omega, row0, S4 _ _ (t2 _ _ hr1), hp2, fun G4 t5 => ?_⟩
          refine ⟨_, rfl, _, rfl, _, rfl, _, _, rfl, _, _, rfl, rfl, ?_⟩
          refine ⟨c4, some (.int (j : Int)), some (.ref r), some (.int (mwZ d (seen ++ [j]) h pl : Nat)), some (.int (mwZ d (seen ++ [j]) (h - 1) (pl ++ [seen.length]) : Nat)), ?_, sm.trans (S2.trans (S4.trans t5))⟩
          rw [max_z, mwP_succ, if_pos h0]
          rfl
        · rw [decide_eq_false (show ¬ (h : Int) > 0 by omega)]
          refine iteF ?_
          refine ⟨_, rfl, _, rfl, _, rfl, _, _, rfl, _, _, rfl, rfl, ?_⟩
          refine ⟨c4, some (.int (j : Int)), some (.ref r), some (.int (mwZ d (seen ++ [j]) h pl : Nat)), some (.int (mwZ d (seen ++ [j]) h pl : Nat)), ?_, sm.trans S2⟩
          rw [max_z, mwP_succ, if_neg h0]
          rfl
      · rintro σ G ⟨c4, c6, c7, c8, c9, rfl, sm⟩
        rw [mwP_all]
        exact ⟨_, rfl, k G sm⟩
theorem ok__law_most_won {f : Addr} {fd : FuncData} (F : Fun K "_law_most_won" "_law_most_won" s__law_most_won f fd) (T : Top mg) (hm : mg "_law_most_won" = some (.ref f)) (hb : Binds K fd ["_law_many", "_law_seen", "_law_hands", "_law_places"] []) : FnOk P w K mg base CX0 7 f fd ["_law_many", "_law_seen", "_law_hands", "_law_places"] spMwA :=
  ⟨fun vs H Q E ⟨d, _, h⟩ => (mw_ok (P := P) (w := w) (base := base) F T hm hb d).len vs H Q E h, fun A outer s H args us vs Q E hr he hb' hv ⟨d, hd, h⟩ => ((mw_ok F T hm hb d).mono (by omega : d + 1 ≤ 7)).run A outer s H args us vs Q E hr he hb' hv h⟩
end
end K89


namespace L2
open PySem PySem.Spec PyProof.Rows
def spSeen : Sp := fun vs H Q _ => ∃ (a : Addr) (os : List Int), vs = [.ref a] ∧ H a = some (.tup (os.map V.int)) ∧ os.length ≤ 60 ∧ ∀ z H', Same H H' → H' z = some (.tup ((nI (seenO os)).map V.int)) → Q (.ref z) H'
theorem seen_at {os : List Int} {k : Nat} (h : k < os.length) : (seenO os).getD k 0 = ((os.take k).filter fun x => decide (x > os.getD k 0)).length := by
  unfold seenO
  rw [List.getD_eq_getElem?_getD, List.getElem?_map, List.getElem?_range h]
  rfl
theorem seen_tab (os : List Int) : (num0 os.length).map (fun p => (((seenO os).getD p.toNat 0 : Nat) : Int)) = nI (seenO os) := by
  unfold nI seenO num0
  rw [List.map_map, List.map_map]
  apply List.map_congr_left
  intro p hp
  have hp' : p < os.length := List.mem_range.mp hp
  show (((((List.range os.length).map _).getD ((p : Int).toNat) 0 : Nat)) : Int) = _
  rw [Int.toNat_natCast, List.getD_eq_getElem?_getD, List.getElem?_map, List.getElem?_range hp']
  rfl
end L2
namespace K89
open PySem PySem.Spec PyProof.Rows L2
abbrev s__law_seen_of : Stmt := top 35
section
variable {P : Program} {w : World} {K : PySem.W.Frag} {mg : Str → Option Value} {base : Heap}
theorem sc__law_seen_of : FnScope ["_law_order"] ["_law_order"] (defScope s__law_seen_of) := ⟨rfl, rfl, rfl, by decide +kernel, rfl, by decide +kernel, by decide +kernel⟩
set_option maxHeartbeats 8000000 in
theorem ok__law_seen_of {f : Addr} {fd : FuncData} (F : Fun K "_law_seen_of" "_law_seen_of" s__law_seen_of f fd) (T : Top mg) : FnOk P w K mg base CX0 1 f fd ["_law_order"] spSeen := by
  refine F.ok sc__law_seen_of (fun vs H Q E h => ?_) (fun cdv A outer s H vs Q E hr h => ?_)
  · obtain ⟨a, os, rfl, _⟩ := h
    rfl
  · obtain ⟨a, os, rfl, ha, hl, k⟩ := h
    refine ⟨_, (pss_one (ps_ret (pe_callTy call_tuple_of (by rfl) T.n_tuple boot_tuple (pa_cons (pe_lcZ (z := "_law_k") (N' := ["_law_k", "_law_order"]) (n := 1) (ix := [0]) rfl (CompScopeZ.of (sc := defScope s__law_seen_of) (N := ["_law_order"]) (by decide +kernel) rfl rfl (fun _ _ => rfl) (fun _ => rfl)) (pi_range1 rfl T.n_range (pa_cons (pe_callB call_len_seq (by rfl) T.n_len PySem.boot_len (pa_cons (pv 0) pa_nil)) pa_nil))
        (fun _ _ _ _ _ _ => ⟨(pg_name (i := 0) (show (["_law_k", "_law_order"] : List Str).Nodup by decide +kernel) rfl (Or.inr rfl) (Or.inl rfl)), pts_nil,
          (pe_callB (call_len_seqK K rfl) (by rfl) T.n_len PySem.boot_len (pa_cons (pe_lc (N' := ["_law_one", "_law_order", "_law_k"]) (n := 1) (ix := [1, 0]) rfl (CompScope.of (N := ["_law_k", "_law_order"]) rfl rfl rfl) (piK_tup K rfl (pe_slice sl_tupA (pv 1) po_none (po_some (pv 0))))
            (fun _ _ _ _ _ => ⟨(pg_name (i := 0) (show (["_law_one", "_law_order", "_law_k"] : List Str).Nodup by decide +kernel) rfl (Or.inl rfl)), (pts_one (pt_cmpR op_gt (pv 0) (pe_ix (ix_tupK K rfl) (pv 1) (pv 2) (fun _ _ => rfl)) (nomark _))), (pv 0)⟩)) pa_nil))⟩)) pa_nil)))), ?_⟩
    refine ⟨_, rfl, a, _, rfl, .inr (SqT.of ha), _, rfl, ?_, ?_, ?_⟩
    · rw [mapI_len]; omega
    · rw [mapI_len]; omega
    rw [mapI_len, Int.toNat_natCast]
    refine lc_tabG (fun p => (((seenO os).getD p.toNat 0 : Nat) : Int)) (by omega) (fun p p0 p1 G sG Q' q => ?_) fun acc G hacc sG hG => ?_
    · refine ⟨_, rfl, _, rfl, p, rfl, a, _, rfl, sG _ _ ha, fun b G1 s1 hb => ⟨b, rfl, ⟨_, SqT.of hb⟩, ?_⟩⟩
      rw [show p = ((p.toNat : Nat) : Int) by omega, cutV_takeI] at hb
      refine lc_pure (yields_tup (xs := (os.take p.toNat).map V.int)) (small1 (by rw [mapI_len, List.length_take]; omega)) (fun v => match v with | .int c => decide (c > os.getD p.toNat 0) | _ => false) id (fun H2 s2 => SqT.of (s2 _ _ hb)) (fun y hy H2 s2 Q2 q2 => ?_) (fun y hy _ H2 s2 Q2 q2 => ⟨_, rfl, q2⟩) fun acc hacc => ?_
      · obtain ⟨c, _, rfl⟩ := List.mem_map.mp hy
        exact ⟨_, rfl, _, rfl, _, rfl, a, _, _, _, rfl, rfl, SqT.of (s2 _ _ (s1 _ _ (sG _ _ ha))), at_getD p0 (by omega), _, _, rfl, rfl, _, rfl, q2⟩
      · refine ⟨acc, _, rfl, .inl (SqL.of upd_same), ?_⟩
        have e : ((((os.take p.toNat).map V.int).filter fun v => match v with | .int c => decide (c > os.getD p.toNat 0) | _ => false).map id).length = (seenO os).getD p.toNat 0 := by
          rw [List.map_id, List.filter_map, List.length_map, seen_at (by omega)]
          rfl
        rw [e]
        exact q _ (s1.trans (same_upd hacc))
    · rw [seen_tab] at hG
      refine ⟨acc, _, rfl, .inl ⟨SqL.of hG, fun z hz => ?_⟩⟩
      exact k z _ (sG.trans (same_upd hz)) upd_same
end
end K89


namespace L2
open PySem PySem.Spec PyProof.Rows
theorem ixN_z {n : Nat} (h : 0 < n) : ixN n 0 = some 0 := by
  unfold ixN
  have := h
  split <;> simp_all
end L2
namespace K89
open PySem PySem.Spec PyProof.Rows L2
abbrev s__law_spring_of : Stmt := top 29
abbrev s__law_take : Stmt := top 30
section
variable {P : Program} {w : World} {K : PySem.W.Frag} {mg : Str → Option Value} {base : Heap}
theorem sc__law_take : FnScope ["_law_spring", "_law_many", "_law_digit", "_law_once"] ["_law_spring", "_law_many"] (defScope s__law_take) := ⟨rfl, rfl, rfl, by decide +kernel, rfl, by decide +kernel, by decide +kernel⟩
set_option maxHeartbeats 8000000 in
theorem ok__law_take {f : Addr} {fd : FuncData} (F : Fun K "_law_take" "_law_take" s__law_take f fd) : FnOk P w K mg base CX0 1 f fd ["_law_spring", "_law_many"] spTakeS := by
  refine F.ok sc__law_take (fun vs H Q E h => ?_) (fun cdv A outer s H vs Q E hr h => ?_)
  · obtain ⟨p, q, m, n, rfl, _⟩ := h
    rfl
  · obtain ⟨p, q, m, n, rfl, hm0, hm1, hh, hn, k⟩ := h
    have hu : _ := hr.units
    have hu1 := hu_of hr
    refine ⟨_, (pss_cons (ps_while PassesOwn.never (PW.pt (pw_and (pt_cmpR (op_neD hu) (pe_dget hu1 (pv 0) pe_str (fun _ _ => rfl)) (pe_lst pa_nil) (nomark _)) (pw_and1 (pt_cmpR op_eq (pe_ix ix_list (pe_dget hu1 (pv 0) pe_str (fun _ _ => rfl)) pe_int (fun _ _ => rfl)) pe_int (nomark _)))))
        (pss_one (ps_expr (pe_bm PySem.F.plainAttrs_list PySem.F.slot_list_pop PySem.F.type_list_pop mt_popAt (pe_dget hu1 (pv 0) pe_str (fun _ _ => rfl)) (pa_cons pe_int pa_nil)))))
      (pss_cons (ps_if (pt_cmpR (op_neD hu) (pe_dget hu1 (pv 0) pe_str (fun _ _ => rfl)) (pe_lst pa_nil) (nomark _))
        (pss_cons (ps_set (i := 2) sc__law_take.nd rfl (Or.inl rfl) (pe_op op_mod (pe_ix ix_list (pe_dget hu1 (pv 0) pe_str (fun _ _ => rfl)) pe_int (fun _ _ => rfl)) (pv 1)))
        (pss_cons (ps_asg (pe_op op_fdiv (pe_ix ix_list (pe_dget hu1 (pv 0) pe_str (fun _ _ => rfl)) pe_int (fun _ _ => rfl)) (pv 1)) (pg_sub (pe_dget hu1 (pv 0) pe_str (fun _ _ => rfl)) pe_int set_list))
        (pss_one (ps_ret (pv 2)))))
        pss_nil)
      (pss_cons (ps_dput hu1 (pv 0) pe_str (pe_op op_add (pe_dget hu1 (pv 0) pe_str (fun _ _ => rfl)) pe_int) rfl)
      (pss_cons (ps_set (i := 3) sc__law_take.nd rfl (Or.inl rfl) (pe_op op_mod (pe_op op_mul (pe_op op_add (pe_dget hu1 (pv 0) pe_str (fun _ _ => rfl)) (pe_op op_mul (pe_op op_mul pe_int (pe_dget hu1 (pv 0) pe_str (fun _ _ => rfl))) (pe_dget hu1 (pv 0) pe_str (fun _ _ => rfl)))) pe_int) pe_int))
      (pss_cons (ps_set (i := 3) sc__law_take.nd rfl (Or.inl rfl) (pe_op op_mod (pe_op op_mul (pv 3) (pe_op op_add (pe_op op_add (pe_op op_mod (pv 3) pe_int) (pe_op op_mul pe_int (pe_dget hu1 (pv 0) pe_str (fun _ _ => rfl)))) pe_int)) pe_int))
      (pss_one (ps_ret (pe_op op_mod (pe_op op_add (pe_op op_fdiv (pv 3) pe_int) (pe_op op_fdiv (pv 3) pe_int)) (pv 1))))))))), ?_⟩
    refine ⟨fun c σ H1 => ∃ (ns : List Int) (sd t : Int), c = ns.length ∧ σ = [some (.ref p), some (.int m), none, none] ∧ H1 p = some (.dK (sprD q sd t)) ∧ H1 q = some (.lst (ns.map V.int)) ∧ (∀ n ∈ ns, 0 ≤ n) ∧ ns.length ≤ 63 ∧ (0 ≤ sd ∧ sd < 2305843009213693951) ∧ (0 ≤ t ∧ t ≤ n) ∧ Keep p q H H1, ?_, ?_⟩
    · obtain ⟨ns, sd, t, h1, h2, h3, h4, h5, h6, h7, h8⟩ := hh
      exact ⟨_, ns, sd, t, rfl, rfl, h1, h2, h3, h4, ⟨h5, h6⟩, ⟨h7, h8⟩, Keep.refl _ _ _⟩
    rintro c σ H1 ⟨ns, sd, t, rfl, rfl, hp, hq, hns, hlen, hsd, ht, kp⟩
    refine ⟨_, rfl, p, .ref q, rfl, spr_own hp, Nat.zero_le _, fun e he => neNilS hq he ⟨_, rfl, ?_⟩⟩
    have hnpq : p ≠ q := ne_of hp hq (by intro z; cases z)
    have se := same_upd (o := .lst []) he
    have hp1 := se _ _ hp
    have hq1 := se _ _ hq
    have kp1 : Keep p q H (upd H1 e (.lst [])) := kp.trans se.keep
    cases ns with
    | nil =>
      refine iteF ?_
      refine iteF ?_
      refine ⟨_, rfl, p, .ref q, rfl, spr_own hp1, Nat.zero_le _, fun e' he' => neNilS hq1 he' ⟨_, rfl, ?_⟩⟩
      have se' := same_upd (o := .lst []) he'
      have hp3 := se' _ _ hp1
      have hq3 := se' _ _ hq1
      have kp3 := kp1.trans (se'.keep (p := p) (q := q))
      refine iteF ?_
      refine ⟨_, rfl, p, .int t, rfl, spr_turn hp3, _, _, rfl, rfl, _, rfl, p, _, rfl, spr_put hp3, ?_⟩
      have hp4 := @upd_same (upd (upd H1 e (.lst [])) e' (.lst [])) p (.dK (sprD q sd (t + 1)))
      have t64 : -(2 ^ 64) < t + 1 ∧ t + 1 < 2 ^ 64 := ⟨by omega, by omega⟩
      refine ⟨_, rfl, p, .int sd, rfl, spr_seed hp4, _, rfl, p, .int (t + 1), rfl, spr_turn hp4, _, _, rfl, rfl, .inl ⟨by decide, by decide⟩, _, rfl, p, .int (t + 1), rfl, spr_turn hp4, _, _, rfl, rfl, .inr t64, _, _, rfl, rfl, _, _, rfl, rfl, .inr ⟨by decide, by decide⟩, _, _, rfl, rfl, (by show (0 : Int) < 2305843009213693907; decide), ?_⟩
      have o0 := Int.emod_nonneg ((sd + 7927 * (t + 1) * (t + 1)) * 48299) (by decide : (2305843009213693907 : Int) ≠ 0)
      have o1 := Int.emod_lt_of_pos ((sd + 7927 * (t + 1) * (t + 1)) * 48299) (by decide : (0 : Int) < 2305843009213693907)
      generalize (sd + 7927 * (t + 1) * (t + 1)) * 48299 % 2305843009213693907 = once at o0 o1
      refine ⟨_, rfl, _, rfl, _, _, rfl, rfl, (by show (0 : Int) < 999979; decide), _, rfl, p, .int (t + 1), rfl, spr_turn hp4, _, _, rfl, rfl, .inl ⟨by decide, by decide⟩, _, _, rfl, rfl, _, _, rfl, rfl, _, _, rfl, rfl, .inl ⟨by omega, by omega⟩, _, _, rfl, rfl, (by show (0 : Int) < 2305843009213693921; decide), ?_⟩
      refine ⟨_, rfl, _, _, rfl, rfl, ⟨by decide, by decide⟩, _, rfl, _, _, rfl, rfl, ⟨by decide, by decide⟩, _, _, rfl, rfl, _, rfl, _, _, rfl, rfl, hm0, ?_⟩
      refine k _ _ (Int.emod_nonneg _ (by omega)) (Int.emod_lt_of_pos _ hm0) ⟨[], sd, t + 1, hp4, by rw [upd_ne (Ne.symm hnpq)]; exact hq3, hns, by simp, hsd.1, hsd.2, by omega, by omega⟩ ?_
      exact kp3.trans fun b o hb h1 _ => by rw [upd_ne h1]; exact hb
    | cons x r =>
      refine iteT ?_
      refine ⟨_, rfl, p, .ref q, rfl, spr_own hp1, q, _, 0, _, rfl, rfl, SqL.of hq1, atI_nat (j := 0) rfl, rfl, _, rfl, ?_⟩
      refine ite2 (fun hz => ?_) (fun hz => ?_)
      · refine ⟨fun σ' H' => ∃ (ns : List Int) (sd t : Int), ns.length < (x :: r).length ∧ σ' = [some (.ref p), some (.int m), none, none] ∧ H' p = some (.dK (sprD q sd t)) ∧ H' q = some (.lst (ns.map V.int)) ∧ (∀ n ∈ ns, 0 ≤ n) ∧ ns.length ≤ 63 ∧ (0 ≤ sd ∧ sd < 2305843009213693951) ∧ (0 ≤ t ∧ t ≤ n) ∧ Keep p q H H', ?_, ?_⟩
        · rintro σ' H' ⟨ns', sd', t', hlt, h1, h2, h3, h4, h5, h6, h7, h8⟩
          exact ⟨_, hlt, ns', sd', t', rfl, h1, h2, h3, h4, h5, h6, h7, h8⟩
        · refine ⟨_, rfl, p, .ref q, rfl, spr_own hp1, .inl ⟨rfl, _, SqL.of hq1⟩, q, _, 0, 0, _, rfl, rfl, hq1, by decide, by decide, (by simp [seqIndex?]), rfl, ?_⟩
          refine ⟨r, sd, t, by simp, rfl, by rw [upd_ne hnpq]; exact hp1, by rw [upd_same]; rfl, fun y hy => hns y (List.mem_cons_of_mem _ hy), by have : (x :: r).length = r.length + 1 := rfl; omega, hsd, ht, ?_⟩
          exact kp1.trans fun b o hb _ h2 => by rw [upd_ne h2]; exact hb
      · refine ⟨_, rfl, p, .ref q, rfl, spr_own hp1, Nat.zero_le _, fun e' he' => neNilS hq1 he' ⟨_, rfl, ?_⟩⟩
        have se' := same_upd (o := .lst []) he'
        have hp3 := se' _ _ hp1
        have hq3 := se' _ _ hq1
        have kp3 := kp1.trans (se'.keep (p := p) (q := q))
        refine iteT ?_
        have hx0 : 0 ≤ x := hns x List.mem_cons_self
        refine ⟨_, rfl, p, .ref q, rfl, spr_own hp3, q, _, 0, _, rfl, rfl, SqL.of hq3, atI_nat (j := 0) rfl, _, rfl, _, _, rfl, rfl, hm0, ?_⟩
        refine ⟨_, rfl, p, .ref q, rfl, spr_own hp3, q, _, 0, _, rfl, rfl, SqL.of hq3, atI_nat (j := 0) rfl, _, rfl, _, _, rfl, rfl, ⟨hm0, hm1⟩, _, rfl, p, .ref q, rfl, spr_own hp3, q, _, 0, 0, rfl, rfl, hq3, ixN_z (by simp), ?_⟩
        refine ⟨_, rfl, ?_⟩
        refine k _ _ (Int.emod_nonneg _ (by omega)) (Int.emod_lt_of_pos _ hm0) ⟨(x / m) :: r, sd, t, by rw [upd_ne hnpq]; exact hp3, by rw [upd_same]; rfl, fun y hy => ?_, by simpa using hlen, hsd.1, hsd.2, ht.1, by omega⟩ ?_
        · rcases List.mem_cons.mp hy with rfl | hy
          · exact Int.ediv_nonneg hx0 (by omega)
          · exact hns y (List.mem_cons_of_mem _ hy)
        · exact kp3.trans fun b o hb _ h2 => by rw [upd_ne h2]; exact hb
end
end K89


namespace K89
open PySem PySem.Spec PyProof.Rows L2
section
variable {P : Program} {w : World} {K : PySem.W.Frag} {mg : Str → Option Value} {base : Heap}
theorem sc__law_spring_of : FnScope ["_law_script", "_law_own", "_law_seed", "_law_far", "_law_k", "_law_cell", "_law_part"] ["_law_script"] (defScope s__law_spring_of) := ⟨rfl, rfl, rfl, by decide +kernel, rfl, by decide +kernel, by decide +kernel⟩
set_option maxHeartbeats 8000000 in
theorem ok__law_spring_of {f : Addr} {fd : FuncData} (F : Fun K "_law_spring_of" "_law_spring_of" s__law_spring_of f fd) (T : Top mg) : FnOk P w K mg base CX0 1 f fd ["_law_script"] (spSpring K) := by
  refine F.ok sc__law_spring_of (fun vs H Q E h => ?_) (fun cdv A outer s H vs Q E hr h => ?_)
  · obtain ⟨a, ns, rfl, _⟩ := h
    rfl
  · obtain ⟨a, ns, rfl, hS, hl, k⟩ := h
    refine ⟨_, (pss_cons (ps_asg (pe_tup (pa_cons (pe_lst pa_nil) (pa_cons pe_int (pa_cons (pe_op op_pow pe_int pe_int) pa_nil)))) (pg_tup rfl (pgs_cons (pg_name (i := 1) sc__law_spring_of.nd rfl (Or.inl rfl) (Or.inl rfl)) (pgs_cons (pg_name (i := 2) sc__law_spring_of.nd rfl (Or.inl rfl) (Or.inl rfl)) (pgs_cons (pg_name (i := 3) sc__law_spring_of.nd rfl (Or.inr rfl) (Or.inl rfl)) pgs_nil)))))
      (pss_cons (ps_for PassesOwn.never rfl (pi_range1 rfl T.n_range (pa_cons pe_int pa_nil)) (pg_name (i := 4) sc__law_spring_of.nd rfl (Or.inl rfl))
        (pss_one (ps_set (i := 3) sc__law_spring_of.nd rfl (Or.inr rfl) (pe_op op_mulW (pv 3) (pe_op op_pow pe_int pe_int)))))
      (pss_cons (ps_for PassesOwn.never rfl (pi_list (pe_slice sl_list (pv 0) po_none (po_some pe_int))) (pg_name (i := 5) sc__law_spring_of.nd rfl (Or.inl rfl))
        (pss_cons (ps_set (i := 6) sc__law_spring_of.nd rfl (Or.inl rfl) (pe_op op_mod (pv 5) pe_int))
        (pss_one (ps_set (i := 2) sc__law_spring_of.nd rfl (Or.inl rfl) (pe_op op_mod (pe_op op_add (pe_op op_add (pe_op op_add (pe_op op_mul (pv 2) pe_int) (pe_op op_mul (pv 6) (pv 6))) (pv 5)) pe_int) pe_int)))))
      (pss_cons (ps_if (PW.pt (pw_and (pt_cmpR op_gt (pe_callB call_len_seq (by rfl) T.n_len PySem.boot_len (pa_cons (pv 0) pa_nil)) pe_int (nomark _)) (pw_and1 (pt_cmpR op_ge (pe_ix ix_list (pv 0) pe_int (fun _ _ => rfl)) (pe_op op_pow pe_int pe_int) (nomark _)))))
        (pss_one (ps_lcset (i := 1) rfl sc__law_spring_of.nd rfl rfl (N' := ["_law_cell", "_law_far"]) (n := 1) (ix := [3]) rfl (CompScope.of (sc := defScope s__law_spring_of) (N := ["_law_script", "_law_own", "_law_seed", "_law_far", "_law_k", "_law_cell", "_law_part"]) (by decide +kernel) rfl rfl) (pi_list (pe_slice sl_list (pv 0) po_none (po_some pe_int))) (fun _ _ _ _ _ => ⟨(pg_name (i := 0) (show (["_law_cell", "_law_far"] : List Str).Nodup by decide +kernel) rfl (Or.inl rfl)), pts_nil, (pe_op op_mod (pe_callB call_abs (by rfl) T.n_abs boot_abs (pa_cons (pv 0) pa_nil)) (pv 1))⟩)))
        pss_nil)
      (pss_one (ps_ret (pe_dict3 (k1 := "own") (k2 := "seed") (k3 := "turn") (by decide) (by decide) (by decide) pe_str pe_str pe_str (pv 1) (pv 2) pe_int))))))), ?_⟩
    have hcut : ∃ ms : List Int, cutV (ns.map V.int) none (some 63) = ms.map V.int ∧ ms.length ≤ 63 := by
      refine ⟨(ns.drop (HT.sIx (ns.map V.int).length 0 none)).take (HT.sIx (ns.map V.int).length (ns.map V.int).length (some 63) - HT.sIx (ns.map V.int).length 0 none), ?_, ?_⟩
      · unfold cutV
        rw [List.map_take, List.map_drop]
      · rw [List.length_take, List.length_drop]; omega
    obtain ⟨ms, ecut, hms⟩ := hcut
    refine ⟨Nat.zero_le _, fun l hl0 => ⟨_, _, rfl, rfl, ⟨by decide, by decide, by decide⟩, by show 3 ≤ sizeLine; decide, fun t ht => ?_⟩⟩
    have s1 := same_upd (o := .lst []) hl0
    have s2 := same_upd (o := .tup [.ref l, .int 7411, .int (10 ^ Int.toNat 60)]) ht
    have hl2 := s2 _ _ (@upd_same H l (.lst []))
    refine ⟨t, _, rfl, SqT.of upd_same, rfl, _, _, rfl, _, _, rfl, _, _, rfl, rfl, ?_⟩
    refine ⟨6, rfl, by decide, by decide, ?_⟩
    refine for_range (lo := 0) (n := 6) (fun i σ G => ∃ (c4 : Option V) (far : Int), far = ((10 : Int) ^ (60 : Int).toNat) ^ (i + 1) ∧ σ = [some (.ref a), some (.ref l), some (.int 7411), some (.int far), c4, none, none] ∧ Same H G ∧ G l = some (.lst [])) ?_ ?_ ?_
    · exact ⟨_, _, by rw [Int.pow_succ, Int.pow_zero, Int.one_mul], rfl, s1.trans s2, hl2⟩
    · rintro i σ G hi ⟨c4, far, rfl, rfl, sm, hG⟩
      refine ⟨_, rfl, _, _, rfl, rfl, ⟨by decide, by decide, by decide⟩, _, _, rfl, rfl, bits_far (i + 1) (by omega), ?_⟩
      exact ⟨_, _, by rw [Int.pow_succ _ (i + 1)], rfl, sm, hG⟩
    · rintro σ G ⟨c4, far, efar, rfl, sm, hG⟩
      have hfar : (0 : Int) < far := by rw [efar]; exact Int.pow_pos (Int.pow_pos (by decide))
      clear efar
      refine ⟨_, rfl, 63, rfl, a, _, rfl, sm.seq hS, fun p hp => ⟨p, rfl, ⟨_, SqL.of upd_same⟩, ?_⟩⟩
      have s3 := same_upd (o := .lst (cutV (ns.map V.int) none (some 63))) hp
      refine for_list (K := K) (a := p) (xs := ms.map V.int) (fun i σ G' => ∃ (seed : Int) (c5 c6 : Option V), σ = [some (.ref a), some (.ref l), some (.int seed), some (.int far), c4, c5, c6] ∧ 0 ≤ seed ∧ seed < 2305843009213693951 ∧ G' = upd G p (.lst (ms.map V.int))) ⟨7411, none, none, rfl, by decide, by decide, by rw [ecut]⟩ (fun i σ G' _ h => by obtain ⟨_, _, _, _, _, _, rfl⟩ := h; exact SqL.of upd_same) ?_ ?_
      · rintro i y σ G' hi ⟨seed, c5, c6, rfl, h0, h1, rfl⟩
        obtain ⟨z, _, rfl⟩ := List.mem_map.mp (List.mem_of_getElem? hi)
        refine ⟨_, rfl, _, _, rfl, rfl, (by show (0 : Int) < 1000033; decide), ?_⟩
        have p0 := Int.emod_nonneg z (by decide : (1000033 : Int) ≠ 0)
        have p1 := Int.emod_lt_of_pos z (by decide : (0 : Int) < 1000033)
        refine ⟨_, rfl, _, _, rfl, rfl, .inr ⟨by decide, by decide⟩, _, rfl, _, rfl, _, _, rfl, rfl, .inl ⟨by omega, by omega⟩, _, _, rfl, rfl, _, rfl, _, _, rfl, rfl, _, _, rfl, rfl, _, _, rfl, rfl, (by show (0 : Int) < 2305843009213693951; decide), ?_⟩
        exact ⟨_, _, _, rfl, Int.emod_nonneg _ (by decide), Int.emod_lt_of_pos _ (by decide), rfl⟩
      · rintro σ G' ⟨seed, c5, c6, rfl, h0, h1, rfl⟩
        rw [ecut] at s3
        have S3 := sm.trans s3
        have hl3 := s3 _ _ hG
        have fin : ∀ (q : Addr) (ws : List Int) (G5 : Hp), Same H G5 → G5 q = some (.lst (ws.map V.int)) → H q = none → (∀ m ∈ ws, 0 ≤ m) → ws.length ≤ 63 → ∀ d, G5 d = none → Q (.ref d) (upd (upd G5 d (.dK [])) d (.dK [(.inr "own", .ref q), (.inr "seed", .int seed), (.inr "turn", .int 0)])) := fun q ws G5 sm5 hq hq0 hws hwl d hd => by
          have s6 := same_upd (o := .dK (sprD q seed 0)) hd
          rw [upd_upd]
          exact k d q _ (sm5.trans s6) ⟨ws, seed, 0, upd_same, s6 _ _ hq, hws, hwl, h0, h1, by decide, by decide⟩ (sm5.free hd) hq0
        refine ⟨_, rfl, a, _, rfl, .inl (S3.seq hS), _, _, rfl, rfl, _, rfl, ?_⟩
        rw [mapI_len]
        by_cases hn : ns.length = 0
        · rw [decide_eq_false (show ¬((0 : Int) < (ns.length : Int)) by omega)]
          refine iteF (iteF ?_)
          exact fun d hd => ⟨_, rfl, _, rfl, upd_same, fin l [] _ S3 hl3 hl0 (fun _ h => by cases h) (by decide) d hd⟩
        · rw [decide_eq_true (show ((0 : Int) < (ns.length : Int)) by omega)]
          obtain ⟨x0, r0, rfl⟩ : ∃ x0 r0, ns = x0 :: r0 := by
            cases ns with
            | nil => exact absurd rfl hn
            | cons x r => exact ⟨x, r, rfl⟩
          refine iteT ⟨_, rfl, a, _, 0, .int x0, rfl, rfl, S3.seq hS, atI_nat (j := 0) rfl, _, _, rfl, rfl, ⟨by decide, by decide, by decide⟩, _, _, rfl, rfl, _, rfl, ite2 (fun hb => ?_) (fun hb => ?_)⟩
          · refine ⟨_, rfl, 63, rfl, a, _, rfl, S3.seq hS, fun p' hp' => ⟨p', rfl, ⟨_, SqL.of upd_same⟩, ?_⟩⟩
            have u1 := same_upd (o := .lst (cutV ((x0 :: r0).map V.int) none (some 63))) hp'
            rw [ecut] at u1 ⊢
            refine lc_pure (yields_list (xs := ms.map V.int)) (small1 (by rw [mapI_len]; omega)) (fun _ => true) (fun v => match v with | .int n => .int ((if n < 0 then -n else n) % far) | v => v) (fun H' s' => SqL.of (s' _ _ upd_same)) (fun _ _ _ _ _ q => q) (fun x hx _ H' s' Q' q => ?_) fun acc hacc => ?_
            · obtain ⟨n, _, rfl⟩ := List.mem_map.mp hx
              exact ⟨_, rfl, n, rfl, _, rfl, _, _, rfl, rfl, hfar, q⟩
            · have u2 := same_upd (o := .lst (((ms.map V.int).filter fun _ => true).map fun v => match v with | .int n => .int ((if n < 0 then -n else n) % far) | v => v)) hacc
              refine fun d hd => ⟨_, rfl, _, rfl, upd_same, fin acc (ms.map fun n => (if n < 0 then -n else n) % far) _ (S3.trans (u1.trans u2)) ?_ ((S3.trans u1).free hacc) (fun m hm => ?_) (by rw [List.length_map]; exact hms) d hd⟩
              · rw [upd_same, filter_true, List.map_map, List.map_map]
                rfl
              · obtain ⟨c, _, rfl⟩ := List.mem_map.mp hm
                exact Int.emod_nonneg _ (by omega)
          · exact fun d hd => ⟨_, rfl, _, rfl, upd_same, fin l [] _ S3 hl3 hl0 (fun _ h => by cases h) (by decide) d hd⟩
end
end K89


namespace L2
open PySem PySem.Spec PyProof.Rows
def unJ : V → Int
  | .int i => i
  | _ => 0
theorem unJ_map : ∀ os : List Int, (os.map V.int).map unJ = os
  | [] => rfl
  | o :: r => by rw [List.map_cons, List.map_cons, unJ_map r]; rfl
def winV (G : Hp) (plan : List (List Int)) : V → Bool
  | .ref z => match G z with
    | some (.tup vs) => wnR plan plan.length 0 (recF (-1) (vs.map unJ))
    | _ => false
  | _ => false
theorem winV_at {G : Hp} {plan : List (List Int)} {z : Addr} {os : List Int} (h : G z = some (.tup (os.map V.int))) : winV G plan (.ref z) = wnR plan plan.length 0 (recF (-1) os) := by
  simp only [winV, h, unJ_map]
theorem cnt_rows {G : Hp} {plan : List (List Int)} {zs : List Addr} {rows : List (List Int)} (h : RowsAt G zs rows) : ((zs.map V.ref).filter (winV G plan)).length = rows.countP fun o => wnR plan plan.length 0 (recF (-1) o) := by
  induction h with
  | nil => rfl
  | cons r t ih =>
    rw [List.map_cons, List.filter_cons, winV_at r, List.countP_cons, ← ih]
    split
    · rename_i h1
      rw [List.length_cons]
    · rfl
theorem rows_len {G : Hp} {zs : List Addr} {rows : List (List Int)} (h : RowsAt G zs rows) : zs.length = rows.length := by
  induction h with
  | nil => rfl
  | cons r t ih => rw [List.length_cons, List.length_cons, ih]
theorem rows_mem {G : Hp} {zs : List Addr} {rows : List (List Int)} (h : RowsAt G zs rows) : ∀ x ∈ zs.map V.ref, ∃ z os, x = .ref z ∧ G z = some (.tup (os.map V.int)) ∧ os ∈ rows := by
  induction h with
  | nil => intro x hx; simp at hx
  | cons r t ih =>
    intro x hx
    rw [List.map_cons, List.mem_cons] at hx
    rcases hx with rfl | hx
    · exact ⟨_, _, rfl, r, List.mem_cons_self⟩
    · obtain ⟨z, os, e1, e2, e3⟩ := ih x hx
      exact ⟨z, os, e1, e2, List.mem_cons_of_mem _ e3⟩
theorem seven_at {x : V} (h : x ∈ [V.int 6, V.int 5, V.int 4, V.int 3, V.int 2, V.int 1, V.int 4]) : ∃ m : Nat, x = .int m ∧ 0 < m ∧ m < 7 := by
  simp only [List.mem_cons, List.not_mem_nil, or_false] at h
  rcases h with rfl | rfl | rfl | rfl | rfl | rfl | rfl
  · exact ⟨6, rfl, by decide, by decide⟩
  · exact ⟨5, rfl, by decide, by decide⟩
  · exact ⟨4, rfl, by decide, by decide⟩
  · exact ⟨3, rfl, by decide, by decide⟩
  · exact ⟨2, rfl, by decide, by decide⟩
  · exact ⟨1, rfl, by decide, by decide⟩
  · exact ⟨4, rfl, by decide, by decide⟩
theorem allA_pos {m : Nat} (h : m < 7) : 0 < (allA m).length := by
  have := allA_fc m h
  have := td_pos (N := m) (Nat.le_refl m)
  omega
def spDrawn : Sp := fun vs H Q _ => ∃ (p q lo : Addr) (n N h : Nat) (zs : List Addr), vs = [.ref p, .int N, .int h, .ref lo] ∧ 0 < N ∧ N < 7 ∧ h < 5 ∧ Spring H p q n ∧ n < 500000 ∧ lo ≠ p ∧ lo ≠ q ∧ H lo = some (.lst (zs.map V.ref)) ∧ RowsAt H zs (allA N) ∧ ∀ (lays : List Nat → Nat → Bool) H', Spring H' p q (n + 10000) → Keep p q H H' → Q (.int (sumN (fun o => wonW lays h (seenO o)) (allA N) : Nat)) H'
theorem mw_best {N h : Nat} (N0 : 0 < N) (hN : N < 7) (hh : h < 5) (h3 : 4 < N → h < 3) : lowZ ((mwZ N [] h [] : Nat) : Int) (((allA N).length : Nat) : Int) = (tbZ N h).getD 0 (0, 1) := by
  rw [allA_fc N hN]
  by_cases e : N < 5
  · exact mw_best4 N e h hh N0
  · exact mw_best6 N hN h (h3 (by omega)) N0
theorem sum_le {α : Type} {f : α → Nat} : ∀ {l : List α}, (∀ a ∈ l, f a ≤ 1) → sumN f l ≤ l.length
  | [], _ => Nat.le_refl _
  | a :: r, h => by
    have := sum_le (l := r) fun x hx => h x (List.mem_cons_of_mem _ hx)
    have := h a List.mem_cons_self
    rw [sumN, List.length_cons]
    omega
theorem won_le {lays : List Nat → Nat → Bool} {h : Nat} {row : List Nat} : wonW lays h row ≤ 1 := by
  unfold wonW
  split <;> omega
theorem eqv_sh (p : Sh) : PyData.eqv (shD p) (shD p) = true := by
  show PyData.eqv (.tuple [.int p.1, .int p.2]) (.tuple [.int p.1, .int p.2]) = true
  rw [eqv_pair, decide_eq_true rfl]
end L2
namespace K89
open PySem PySem.Spec PyProof.Rows L2
abbrev s_law : Stmt := top 37
def spLaw (K : PySem.W.Frag) : Sp := fun vs H Q _ => ∃ (a : Addr) (ns : List Int), vs = [.ref a] ∧ SqL K H a (ns.map V.int) ∧ ns.length ≤ 63 ∧ ∀ H', Q (.bl true) H'
section
variable {P : Program} {w : World} {K : PySem.W.Frag} {mg : Str → Option Value} {base : Heap}
theorem sc_law : FnScope ["_law_script", "_law_spring", "_law_many", "_law_hands", "_law_orders", "_law_best", "_law_plan", "_law_won", "_law_turn"] ["_law_script"] (defScope s_law) := ⟨rfl, rfl, rfl, by decide +kernel, rfl, by decide +kernel, by decide +kernel⟩
set_option maxHeartbeats 16000000 in
theorem ok_law {f : Addr} {fd : FuncData} (F : Fun K "law" "law" s_law f fd) (T : Top mg) (TX : TopX mg) (C_law_spring_of : Cal P w K mg base 1 "_law_spring_of" ["_law_script"] (spSpring K)) (C_law_take : Cal P w K mg base 1 "_law_take" ["_law_spring", "_law_many"] spTakeS) (C_law_of : Cal P w K mg base 2 "_law_of" ["_law_spring", "_law_some"] spOfS) (C_law_own_orders : Cal P w K mg base 1 "_law_own_orders" ["_law_many"] spOrdsX)
    (C_law_in_lowest : Cal P w K mg base 1 "_law_in_lowest" ["_law_over", "_law_under"] spLow) (C_law_most_won : Cal P w K mg base 7 "_law_most_won" ["_law_many", "_law_seen", "_law_hands", "_law_places"] spMwA) (C_law_drawn_way_wins : Cal P w K mg base 3 "_law_drawn_way_wins" ["_law_spring", "_law_many", "_law_hands", "_law_orders"] spDrawn)
    (Cwins : Cal P w K mg base 1 "wins" ["plan", "order"] spWins) (Crule_share : Cal P w K mg base 6 "rule_share" ["many", "plan"] spRs) (Cbest_share : Cal P w K mg base 8 "best_share" ["many", "hands"] spBestS) (Crule : Cal P w K mg base 8 "rule" ["many", "hands"] spRule) (Ctable : Cal P w K mg base 7 "table" ["many", "hands"] spTable) (Cshows_no_better : Cal P w K mg base 7 "shows_no_better" ["many", "hands", "thing"] spSnb) :
    FnOk P w K mg base CX0 9 f fd ["_law_script"] (spLaw K) := by
  refine F.ok sc_law (fun vs H Q E h => ?_) (fun cdv A outer s H vs Q E hr h => ?_)
  · obtain ⟨a, ns, rfl, _⟩ := h
    rfl
  · obtain ⟨a, ns, rfl, hS, hl, k⟩ := h
    have hu : _ := hr.units
    have no : ∀ d : PyData, d.hasDict = true → ∀ a, NoS a → a ≠ sysModules := fun _ _ _ z => z.elim
    refine ⟨_, (pss_cons (ps_set (i := 1) sc_law.nd rfl (Or.inl rfl) (pe_cal C_law_spring_of (hr.mono (by decide)) rfl (pa_cons (pv 0) pa_nil)))
      (pss_cons (ps_set (i := 2) sc_law.nd rfl (Or.inl rfl) (pe_cal C_law_of (hr.mono (by decide)) rfl (pa_cons (pv 1) (pa_cons (pe_lst (pa_cons pe_int (pa_cons pe_int (pa_cons pe_int (pa_cons pe_int (pa_cons pe_int (pa_cons pe_int (pa_cons pe_int pa_nil)))))))) pa_nil))))
      (pss_cons (ps_set (i := 3) sc_law.nd rfl (Or.inl rfl) (pe_cal C_law_take (hr.mono (by decide)) rfl (pa_cons (pv 1) (pa_cons (pe_ifExp (pt_cmpR op_gt (pv 2) pe_int (nomark _)) pe_int pe_int) pa_nil))))
      (pss_cons (ps_set (i := 4) sc_law.nd rfl (Or.inl rfl) (pe_cal C_law_own_orders (hr.mono (by decide)) rfl (pa_cons (pv 2) pa_nil)))
      (pss_cons (ps_set (i := 5) sc_law.nd rfl (Or.inl rfl) (pe_cal Cbest_share (hr.mono (by decide)) rfl (pa_cons (pv 2) (pa_cons (pv 3) pa_nil))))
      (pss_cons (ps_if (pt_cmpR op_ne (pe_callB (call_reprD hr.gd hu) (by rfl) TX.n_repr boot_repr (pa_cons (pe_cal C_law_in_lowest (hr.mono (by decide)) rfl (pa_cons (pe_cal C_law_most_won (hr.mono (by decide)) rfl (pa_cons (pv 2) (pa_cons (pe_tup pa_nil) (pa_cons (pv 3) (pa_cons (pe_tup pa_nil) pa_nil))))) (pa_cons (pe_callB call_len_seq (by rfl) T.n_len PySem.boot_len (pa_cons (pv 4) pa_nil)) pa_nil))) pa_nil)) (pe_callB (call_reprD hr.gd hu) (by rfl) TX.n_repr boot_repr (pa_cons (pv 5) pa_nil)) (nomark _))
        (pss_one (ps_ret pe_bl))
        pss_nil)
      (pss_cons (ps_set (i := 6) sc_law.nd rfl (Or.inr rfl) (pe_cal Crule (hr.mono (by decide)) rfl (pa_cons (pv 2) (pa_cons (pv 3) pa_nil))))
      (pss_cons (ps_set (i := 7) sc_law.nd rfl (Or.inl rfl) (pe_callB call_len_seq (by rfl) T.n_len PySem.boot_len (pa_cons (pe_lc (N' := ["_law_order", "_law_plan"]) (n := 1) (ix := [6]) rfl (CompScope.of (sc := defScope s_law) (N := ["_law_script", "_law_spring", "_law_many", "_law_hands", "_law_orders", "_law_best", "_law_plan", "_law_won", "_law_turn"]) (by decide +kernel) rfl rfl) (pi_list (pv 4)) (fun _ _ _ _ _ => ⟨(pg_name (i := 0) (show (["_law_order", "_law_plan"] : List Str).Nodup by decide +kernel) rfl (Or.inl rfl)), (pts_one (pt_val (pe_cal Cwins (hr.mono (by decide)) rfl (pa_cons (pv 1) (pa_cons (pv 0) pa_nil))))), (pv 0)⟩)) pa_nil)))
      (pss_cons (ps_if (PW.pt (pw_or (pt_cmpR (op_neD hu) (pe_cal C_law_in_lowest (hr.mono (by decide)) rfl (pa_cons (pv 7) (pa_cons (pe_callB call_len_seq (by rfl) T.n_len PySem.boot_len (pa_cons (pv 4) pa_nil)) pa_nil))) (pv 5) (nomark _)) (pw_or1 (pt_cmpR (op_neD hu) (pe_cal Crule_share (hr.mono (by decide)) rfl (pa_cons (pv 2) (pa_cons (pv 6) pa_nil))) (pv 5) (nomark _)))))
        (pss_one (ps_ret pe_bl))
        pss_nil)
      (pss_cons (ps_for PassesOwn.never rfl (pi_range1 rfl T.n_range (pa_cons pe_int pa_nil)) (pg_name (i := 8) sc_law.nd rfl (Or.inl rfl))
        (pss_one (ps_if (pt_cmpR op_gt (pe_op op_mulC (pe_cal C_law_drawn_way_wins (hr.mono (by decide)) rfl (pa_cons (pv 1) (pa_cons (pv 2) (pa_cons (pv 3) (pa_cons (pv 4) pa_nil))))) (pe_ix ix_tup (pv 5) pe_int (fun _ _ => rfl))) (pe_op op_mulC (pe_ix ix_tup (pv 5) pe_int (fun _ _ => rfl)) (pe_callB call_len_seq (by rfl) T.n_len PySem.boot_len (pa_cons (pv 4) pa_nil))) (nomark _))
          (pss_one (ps_ret pe_bl))
          pss_nil)))
      (pss_one (ps_ret (pe_cmpR op_is_bl (pe_cal Cshows_no_better (hr.mono (by decide)) rfl (pa_cons (pv 2) (pa_cons (pv 3) (pa_cons (pe_cal Ctable (hr.mono (by decide)) rfl (pa_cons (pv 2) (pa_cons (pv 3) pa_nil))) pa_nil)))) pe_bl (nomark _)))))))))))))), ?_⟩
    refine ⟨_, rfl, a, ns, rfl, hS, hl, fun p q G0 s0 sp0 hp0 hq0 => ?_⟩
    refine ⟨_, rfl, by show 7 ≤ sizeLine; decide, fun l1 hl1 => ?_⟩
    have s1 := same_upd (o := .lst [.int 6, .int 5, .int 4, .int 3, .int 2, .int 1, .int 4]) hl1
    refine ⟨p, q, l1, 0, _, rfl, sp0.same s1, by decide, upd_same, (sp0.new hl1).2, by decide, by decide, fun x G1 hx sp1 k1 => ?_⟩
    obtain ⟨N, rfl, N0, N1⟩ := seven_at hx
    have hands : ∀ (m : Int) (d : Int), (m = 3 ∨ m = 5) → (4 < N → m = 3) → 0 ≤ d → d < m → ∃ h : Nat, d = (h : Int) ∧ h < 5 ∧ (4 < N → h < 3) := fun m d hm hm' d0 d1 => by
      refine ⟨d.toNat, by omega, by omega, fun h4 => ?_⟩
      have := hm' h4
      omega
    clear s0 sp0 hp0 hq0 s1 hl1 hx k1
    refine ⟨_, rfl, _, rfl, _, _, rfl, rfl, _, rfl, ?_⟩
    refine ite2 (fun hz => ⟨p, q, 3, _, rfl, by decide, by decide, sp1, by decide, fun d G2 d0 d1 sp2 k2 => ?_⟩) (fun hz => ⟨p, q, 5, _, rfl, by decide, by decide, sp1, by decide, fun d G2 d0 d1 sp2 k2 => ?_⟩)
    all_goals
      obtain ⟨h, rfl, hh, h3⟩ : ∃ h : Nat, d = (h : Int) ∧ h < 5 ∧ (4 < N → h < 3) := by
        first
        | exact hands 3 d (.inl rfl) (fun _ => rfl) d0 d1
        | exact hands 5 d (.inr rfl) (fun h4 => absurd (decide_eq_true (by omega)) hz) d0 d1
      clear hands hz d0 d1 sp1 k2
      refine ⟨_, rfl, N, rfl, by omega, fun lo zs G3 s3 hlo0 hlo rows => ?_⟩
      obtain ⟨hlp, hlq⟩ := sp2.new hlo0
      have sp3 := sp2.same s3
      clear sp2 hlo0 s3
      have hzl := rows_len rows
      have hz6 := allA_len (m := N) (by omega)
      have hz0 := allA_pos (m := N) N1
      have szS : Sm (((zs.map V.ref).length : Nat) : Int) 8000 := Sm.mono (m := 12) (Sm.of (by rw [List.length_map]; show _ < 4096; omega)) (by decide)
      have ps : (0 : Int) < (((zs.map V.ref).length : Nat) : Int) := by rw [List.length_map]; omega
      have bB : ShB ((tbZ N h).getD 0 (0, 1)) 400 := (tb_row N0 (by omega) (by omega)).at (Nat.zero_le _)
      have okB : Shows (shD ((tbZ N h).getD 0 (0, 1))) := (okd_sh bB (by decide)).shows (by decide) (by decide)
      refine ⟨_, rfl, _, rfl, N, h, rfl, N0, by omega, by omega, fun b G4 s4 hb => ?_⟩
      refine ⟨_, rfl, Nat.zero_le _, fun e1 he1 => ⟨_, rfl, Nat.zero_le _, fun e2 he2 => ?_⟩⟩
      have t1 := same_upd (o := .tup []) he1
      have t2 := same_upd (o := .tup []) he2
      refine ⟨N, by omega, N, h, e1, e2, [], [], rfl, by omega, N0, by omega, by simp, by simp, fun z => by simp at z, t2 _ _ upd_same, upd_same, fun G5 s5 => ?_⟩
      have S5 := t1.trans (t2.trans s5)
      refine ⟨_, rfl, lo, _, rfl, .inl (SqL.of (S5 _ _ (s4 _ _ hlo))), _, _, rfl, ps, szS, fun y G6 s6 hy => ?_⟩
      have hzl' : (zs.map V.ref).length = (allA N).length := by rw [List.length_map, hzl]
      rw [hzl', mw_best N0 N1 hh h3] at hy
      have S6 := S5.trans s6
      refine ⟨NoS, _, _, rfl, Shr.isY hy, no _, okB, _, rfl, NoS, _, _, rfl, Shr.isY (S6 _ _ hb), no _, okB, rfl, _, rfl, ?_⟩
      rw [decide_eq_true rfl]
      refine iteF ?_
      have sp6 := (sp3.same s4).same S6
      have hlo6 := S6 _ _ (s4 _ _ hlo)
      have rows6 := (rows.same s4).same S6
      have hb6 : Shr G6 b _ := S6 _ _ hb
      clear hy sp3 hlo rows hb s4 t1 t2 s5 S5 s6 S6 he1 he2
      refine ⟨_, rfl, _, rfl, N, h, rfl, N0, by omega, by omega, fun z us G7 s7 hz al => ?_⟩
      have hpl : (ruleZ N h).length ≤ 5 := by rw [ruleZ_len]; omega
      have hP : PlanT G7 z (ruleZ N h) := ⟨us, hz, al⟩
      have sp7 := sp6.same s7
      have hlo7 := s7 _ _ hlo6
      have rows7 := rows6.same s7
      have hb7 : Shr G7 b _ := s7 _ _ hb6
      clear hz al sp6 hlo6 rows6 hb6 s7
      refine ⟨_, rfl, lo, rfl, ⟨_, SqL.of hlo7⟩, ?_⟩
      refine lc_growTF (yields_list (K := K) (a := lo) (xs := zs.map V.ref)) (small1 (by rw [List.length_map]; omega)) (winV G7 (ruleZ N h)) (fun x v _ => v = x) (fun _ _ _ _ _ h => h) (fun G' s' => SqL.of (s' _ _ hlo7)) (fun x hx G' s' Q' q' => ?_) (fun x hx hp G' s' Q' q' => ⟨_, rfl, q' _ _ (Same.refl _) rfl⟩) fun acc ys G8 hacc sm8 hG8 pr => ?_
      · obtain ⟨y, os, rfl, hy, hos⟩ := rows_mem rows7 x hx
        have hol := allA_ord hos
        refine ⟨_, rfl, _, rfl, z, y, ruleZ N h, os, rfl, hP.same s', hpl, s' _ _ hy, by omega, fun G3 s3 => ?_⟩
        rw [winV_at hy] at q'
        exact ⟨_, rfl, q' _ s3⟩
      · have hys := paired_eq pr fun _ _ h => h
        have hyl : ys.length = (allA N).countP fun o => wnR (ruleZ N h) (ruleZ N h).length 0 (recF (-1) o) := by rw [hys, cnt_rows rows7]
        refine ⟨acc, ys, rfl, .inl (SqL.of hG8), ?_⟩
        refine ⟨_, rfl, _, rfl, lo, _, rfl, .inl (SqL.of (sm8 _ _ hlo7)), _, _, rfl, ps, szS, fun y G9 s9 hy => ?_⟩
        rw [hzl', hyl, won_share N1, rs_told N0] at hy
        have S9 := sm8.trans s9
        refine ⟨_, rfl, _, _, is_sh hy, is_sh (S9 _ _ hb7), shaped_tints [_, _], shaped_tints [_, _], _, rfl, ?_⟩
        rw [eqv_sh]
        refine iteF ?_
        refine ⟨_, rfl, _, rfl, N, z, ruleZ N h, rfl, N0, by omega, hP.same S9, hpl, fun f1 GA tA hf => ?_⟩
        rw [rs_told N0] at hf
        have SA := S9.trans tA
        refine ⟨_, rfl, _, _, is_sh hf, is_sh (SA _ _ hb7), shaped_tints [_, _], shaped_tints [_, _], _, rfl, ?_⟩
        rw [eqv_sh]
        refine iteF ?_
        refine ⟨3, rfl, by decide, by decide, ?_⟩
        refine for_range (lo := 0) (n := 3) (fun i σ G => ∃ (c8 : Option V) (n : Nat), σ = [some (.ref a), some (.ref p), some (.int (N : Int)), some (.int (h : Int)), some (.ref lo), some (.ref b), some (.ref z), some (.int ys.length), c8] ∧ Spring G p q n ∧ n ≤ 10 + 10000 * i ∧ G lo = some (.lst (zs.map V.ref)) ∧ RowsAt G zs (allA N) ∧ Shr G b ((tbZ N h).getD 0 (0, 1))) ⟨_, _, rfl, sp7.same SA, by omega, SA _ _ hlo7, rows7.same SA, SA _ _ hb7⟩ ?_ ?_
        · rintro i σ G hi ⟨c8, n, rfl, sp, hn, hloG, rowsG, hbG⟩
          refine ⟨_, rfl, _, rfl, _, rfl, _, rfl, p, q, lo, n, N, h, zs, rfl, N0, N1, hh, sp, by omega, hlp, hlq, hloG, rowsG, fun lays G1 sp1 k1 => ?_⟩
          have hb1 : Shr G1 b _ := sp.keepT k1 hbG
          have hlo1 : G1 lo = some (.lst (zs.map V.ref)) := k1 lo _ hloG hlp hlq
          have w1 := way_orders N1 lays h
          have w2 : sumN (fun o => wonW lays h (seenO o)) (allA N) ≤ (allA N).length := sum_le fun _ _ => won_le
          have vs := Vs.low (a := ((mwZ N [] h [] : Nat) : Int)) (b := (((allA N).length : Nat) : Int)) (by omega)
          rw [mw_best N0 N1 hh h3] at vs
          generalize sumN (fun o => wonW lays h (seenO o)) (allA N) = W at *
          have szW : Sm ((W : Nat) : Int) 8000 := Sm.mono (m := 12) (Sm.of (by show _ < 4096; omega)) (by decide)
          refine ⟨_, rfl, b, _, 1, _, rfl, rfl, SqT.of hb1, atI_nat (j := 1) rfl, _, _, rfl, rfl, ⟨szW, bB.s2.mono (by decide)⟩, _, rfl, b, _, 0, _, rfl, rfl, SqT.of hb1, atI_nat (j := 0) rfl, _, rfl, lo, _, rfl, .inl (SqL.of hlo1), _, _, rfl, rfl, ⟨bB.s1.mono (by decide), szS⟩, _, _, rfl, rfl, _, rfl, ?_⟩
          rw [decide_eq_false (by
            rw [hzl']
            have h1 := vs.2.2
            have h2 : (W : Int) * ((tbZ N h).getD 0 (0, 1)).2 ≤ ((mwZ N [] h [] : Nat) : Int) * ((tbZ N h).getD 0 (0, 1)).2 := Int.mul_le_mul_of_nonneg_right (by omega) (Int.le_of_lt vs.1)
            omega)]
          refine iteF ?_
          exact ⟨_, _, rfl, sp1, by omega, hlo1, rowsG.sameT fun _ _ e => sp.keepT k1 e, hb1⟩
        · rintro σ G ⟨c8, n, rfl, sp, hn, hloG, rowsG, hbG⟩
          have hB : ∀ r ∈ tabL N (h + 1), RowB 400 N r := tabL_B N0 (by omega) (by omega)
          refine ⟨_, rfl, _, rfl, _, rfl, _, rfl, N, h, rfl, N0, by omega, by omega, fun t GT tT hT => ?_⟩
          refine ⟨NoS, _, _, N, h, rfl, hT.isY, sz_tab (m := N + 1) (fun r hr => (hB r hr).1) (by
            rw [tabL_len]
            have : (h + 1) * (3 * (N + 1) + 1) ≤ 6 * 130 := Nat.mul_le_mul (by omega) (by omega)
            omega), thB_tab (by decide) hB, N0, by omega, by omega, fun G2 t2 => ?_⟩
          rw [snb_tab N0]
          exact ⟨_, _, rfl, rfl, k _⟩
end
end K89


namespace L2
open PySem PySem.Spec PyProof.Rows
section
variable {prog : Program} {w : World}
def IsPairKey (prog : Program) (w : World) (h : Heap) (k : List Key × Key) (a : Addr) : Prop := ∃ o n b v, h.get? a = some o ∧ o.cls = .type "tuple" ∧ o.data = .seq #[.ref b, v] n ∧ IsTupleKey (mixKind prog w) h k.1 b ∧ (mixKind prog w).is k.2 v = true
theorem IsPairKey.typeIs {s : Shared} {k : List Key × Key} {a : Addr} (x : IsPairKey prog w s.heap k a) : s.TypeIs (.ref a) "tuple" := let ⟨o, _, _, _, ho, hc, _⟩ := x; ⟨o, ho, hc⟩
theorem IsPairKey.inj {h : Heap} {a : Addr} {x y : List Key × Key} (hx : IsPairKey prog w h x a) (hy : IsPairKey prog w h y a) : x = y := by
  obtain ⟨o, n, b, v, ho, _, hd, h1, h2⟩ := hx
  obtain ⟨o', n', b', v', ho', _, hd', h1', h2'⟩ := hy
  obtain rfl : o = o' := Option.some.inj (ho.symm.trans ho')
  rw [hd] at hd'
  injection hd' with e1 _
  injection e1 with e1
  injection e1 with e2 e3
  injection e3 with e3 _
  injection e2 with e2
  subst e2 e3
  exact Prod.ext (h1.inj h1') ((mixKind prog w).inj _ _ _ h2 h2')
theorem IsPairKey.keeps {h h' : Heap} {k : List Key × Key} {a d : Addr} {o : Obj} {es ep} (x : IsPairKey prog w h k a) (ho : h.get? d = some o) (hd : o.data = .dict es ep) (hs : Heap.SameBut d h h') : IsPairKey prog w h' k a := by
  obtain ⟨o', n, b, v, ho', hc, hd', h1, h2⟩ := x
  have hne : a ≠ d := by
    rintro rfl
    obtain rfl : o' = o := Option.some.inj (ho'.symm.trans ho)
    rw [hd] at hd'
    exact nomatch hd'
  exact ⟨o', n, b, v, (hs.2 a hne).trans ho', hc, hd', h1.keeps ho hd hs, h2⟩
def pairHash (prog : Program) (w : World) (k : List Key × Key) : Int := reduceHash (Builtin.Tuple.tupleHashOf [tupleKeyHash (mixKind prog w) k.1, (mixKind prog w).hash k.2])
theorem wp_hash_pair {A : Around} {E : Value → Shared → Prop} {s : Shared} {k : List Key × Key} {a : Addr} {Q : Int → Shared → Prop} (hu : A.units + 8 < cLine) (hk : IsPairKey prog w s.heap k a) (h : Q (pairHash prog w k) { s with toks := s.toks + (k.1.length + 3) }) : wpAny (model prog w) A (pyHash (.ref a)) Q E s := by
  have hT := hk.typeIs
  obtain ⟨o, n, b, v, ho, _, hd, h1, h2⟩ := hk
  unfold pyHash
  first | unfold pyHashByItsType | skip
  first | refine wpAny_bind (wpAny_cRoomFor_or (.inr (by omega)) ?_) | skip
  refine wpAny_bind (wpAny_specialOf hT F.slot_tuple_hash.lookup ?_)
  show wpAny _ _ (if (some (Value.builtin "tuple.__hash__") == some Value.none) = true then _ else _) Q E s
  rw [if_neg (by rw [beq_builtin_none]; exact Bool.false_ne_true)]
  refine wpAny_bind (wpAny_specialOf hT F.slot_tuple_hash.lookup ?_)
  refine wpAny_bind (wpAny_callSpecialIfBoundUnlessNone?_slot hT F.slot_tuple_hash (wpAny_call_entry F.slot_tuple_hash hT F.entry_tuple_hash ?_ (F.args_tuple_hash_1 _)))
  show wpAny _ _ (Builtin.Tuple.tupleItemsOf (.ref a) >>= _) _ _ s
  refine wpAny_bind (wpAny_tupleItemsOf ho hd ?_)
  refine wpAny_bind ?_
  rw [← Array.forIn_toList]
  show wpAny _ _ (forIn [Value.ref b, v] _ _) _ _ s
  rw [List.forIn_cons]
  refine wpAny_bind ?_
  refine wpAny_bind (wpAny_pyHash_tuple (show A.units + 1 < cLine by omega) h1 ?_)
  refine wpAny_pure ?_
  show wpAny _ _ (forIn [v] _ _) _ _ _
  rw [List.forIn_cons]
  refine wpAny_bind (wpAny_bind ((mixKind prog w).pyHash h2 ?_))
  refine wpAny_pure ?_
  show wpAny _ _ (forIn ([] : List Value) _ _) _ _ _
  rw [List.forIn_nil]
  refine wpAny_pure ?_
  show wpAny _ _ (retInt (Builtin.Tuple.tupleHashOf [tupleKeyHash (mixKind prog w) k.1, (mixKind prog w).hash k.2])) _ _ _
  refine wpAny_ret_mkInt ?_
  unfold pairHash reduceHash at h
  generalize Builtin.Tuple.tupleHashOf [tupleKeyHash (mixKind prog w) k.1, (mixKind prog w).hash k.2] = z at h ⊢
  show wpAny _ _ (if (decide (-(2 : Int) ^ 63 ≤ z) && decide (z < 2 ^ 63)) = true then _ else _) Q E _
  by_cases hr : (decide (-(2 : Int) ^ 63 ≤ z) && decide (z < 2 ^ 63)) = true
  · rw [if_pos hr]
    rw [if_pos hr] at h
    exact wpAny_pure (by simpa [Nat.add_assoc] using h)
  · rw [if_neg hr]
    rw [if_neg hr] at h
    exact wpAny_bind (wpAny_rule (wpAny_pure (by simpa [Nat.add_assoc] using h)))
theorem pair_eq_tree {A : Around} {E : Value → Shared → Prop} {s : Shared} {x y : List Key × Key} {a b : Addr} {P : Fin → Shared → Prop} (hu : A.units + 4 < cLine) (hx : IsPairKey prog w s.heap x a) (hy : IsPairKey prog w s.heap y b) (h : P (.done (.ret (.bool (decide (x = y))))) s) : wpAny (model prog w) A (Builtin.«tuple.__eq__» ⟨[.ref a, .ref b], []⟩) P E s := by
  have hTb := hy.typeIs
  obtain ⟨oa, na, ba, va, hoa, _, hda, ha1, ha2⟩ := hx
  obtain ⟨ob, nb, bb, vb, hob, _, hdb, hb1, hb2⟩ := hy
  show wpAny _ _ (isInstance (.ref b) (.type "tuple") >>= _) _ _ s
  refine wpAny_bind (wpAny_isInstance hTb isSubtype_tuple_tuple ?_)
  simp only [Bool.not_true, Bool.false_eq_true, if_false]
  refine wpAny_bind (wpAny_tupleItemsOf hoa hda ?_)
  refine wpAny_bind (wpAny_tupleItemsOf hob hdb ?_)
  refine wpAny_bind ?_
  show wpAny _ _ (forIn [(Value.ref ba, Value.ref bb), (va, vb)] _ _) _ _ s
  rw [List.forIn_cons]
  refine wpAny_bind (wpAny_bind (wpAny_eqBool_tuple (by omega) ha1 hb1 ?_))
  by_cases e1 : x.1 = y.1
  · rw [decide_eq_true e1]
    simp only [Bool.not_true, Bool.false_eq_true, if_false]
    refine wpAny_pure ?_
    show wpAny _ _ (forIn [(va, vb)] _ _) _ _ s
    rw [List.forIn_cons]
    refine wpAny_bind (wpAny_bind ((mixKind prog w).eqBool ha2 hb2 ?_))
    by_cases e2 : x.2 = y.2
    · rw [decide_eq_true e2]
      simp only [Bool.not_true, Bool.false_eq_true, if_false]
      refine wpAny_pure ?_
      show wpAny _ _ (forIn ([] : List (Value × Value)) _ _) _ _ s
      rw [List.forIn_nil]
      refine wpAny_pure (wpAny_pure ?_)
      rw [decide_eq_true (Prod.ext e1 e2)] at h
      exact h
    · rw [decide_eq_false e2]
      simp only [Bool.not_false, if_true]
      rw [decide_eq_false (fun e => e2 (by rw [e]))] at h
      exact wpAny_bind (wpAny_pure (wpAny_pure (wpAny_pure (wpAny_pure h))))
  · rw [decide_eq_false e1]
    simp only [Bool.not_false, if_true]
    rw [decide_eq_false (fun e => e1 (by rw [e]))] at h
    exact wpAny_bind (wpAny_pure (wpAny_pure (wpAny_pure (wpAny_pure h))))
theorem wp_eq_pair {A : Around} {E : Value → Shared → Prop} {s : Shared} {x y : List Key × Key} {a b : Addr} {Q : Bool → Shared → Prop} (hu : A.units + 8 < cLine) (hx : IsPairKey prog w s.heap x a) (hy : IsPairKey prog w s.heap y b) (h : Q (decide (x = y)) s) : wpAny (model prog w) A (eqBool (.ref a) (.ref b)) Q E s := by
  unfold eqBool
  try with_reducible refine wpAny_holding ?_
  show wpAny _ _ (if (Value.ref a == Value.ref b) = true then _ else _) Q E s
  by_cases hab : (Value.ref a == Value.ref b) = true
  · rw [if_pos hab]
    have e : a = b := by have := eq_of_beq hab; injection this
    subst e
    obtain rfl := hx.inj hy
    exact wpAny_bind (wpAny_rule (wpAny_pure (by simpa using h)))
  · rw [if_neg hab]
    exact wpAny_bind (wpAny_richCompare_same_room (op := .Eq) hx.typeIs hy.typeIs F.slot_tuple_eq
      (wpAny_call_entry F.slot_tuple_eq hx.typeIs F.entry_tuple_eq (pair_eq_tree (by show A.units + 1 + 4 < cLine; omega) hx hy ⟨_, rfl, (fun e => nomatch e), wpAny_truthy_bool h⟩) (F.args_tuple_eq_2 _ _)) (by omega))
theorem quiet_tup {A : Around} {E : Value → Shared → Prop} {s : Shared} {ks : List Key} {a : Addr} {Q : Bool → Shared → Prop} (hk : IsTupleKey (mixKind prog w) s.heap ks a) (h : Q true s) : wpAny (model prog w) A (eqIsQuiet 7 (.ref a)) Q E s := by
  have hT := hk.typeIs
  obtain ⟨o, items, n, ho, _, hd, hi⟩ := hk
  unfold eqIsQuiet
  refine wpAny_bind (wpAny_specialOf hT F.slot_tuple_eq.lookup ?_)
  show wpAny _ _ (isInstance (.ref a) (.type "tuple") >>= _) _ _ s
  refine wpAny_bind (wpAny_isInstance hT isSubtype_tuple_tuple ?_)
  simp only [Bool.not_true, Bool.false_eq_true, if_false]
  refine wpAny_bind (wpAny_seqItems ho hd ?_)
  refine wpAny_bind ?_
  show wpAny _ _ (forIn items _ _) _ _ s
  rw [← Array.forIn_toList]
  refine wpAny_forIn_list _ (fun rest r s' => r.1 = none ∧ s' = s ∧ ∀ v ∈ rest, carriedByValue v = true) _ ?_ ?_ _ _ ⟨rfl, rfl, hi.byValue⟩
  · rintro v rest r s' ⟨hr, rfl, hall⟩
    rw [eqIsQuiet_byValue _ (hall v List.mem_cons_self)]
    refine wpAny_bind (wpAny_pure ?_)
    simp only [Bool.not_true, Bool.false_eq_true, if_false]
    exact wpAny_pure ⟨rfl, rfl, fun u hu' => hall u (List.mem_cons_of_mem _ hu')⟩
  · rintro ⟨r1, r2⟩ s' ⟨hr, rfl, _⟩
    simp only at hr
    subst hr
    exact wpAny_pure h
theorem quiet_pair {A : Around} {E : Value → Shared → Prop} {s : Shared} {k : List Key × Key} {a : Addr} {Q : Bool → Shared → Prop} (hk : IsPairKey prog w s.heap k a) (h : Q true s) : wpAny (model prog w) A (eqIsQuiet 8 (.ref a)) Q E s := by
  have hT := hk.typeIs
  obtain ⟨o, n, b, v, ho, _, hd, h1, h2⟩ := hk
  unfold eqIsQuiet
  refine wpAny_bind (wpAny_specialOf hT F.slot_tuple_eq.lookup ?_)
  show wpAny _ _ (isInstance (.ref a) (.type "tuple") >>= _) _ _ s
  refine wpAny_bind (wpAny_isInstance hT isSubtype_tuple_tuple ?_)
  simp only [Bool.not_true, Bool.false_eq_true, if_false]
  refine wpAny_bind (wpAny_seqItems ho hd ?_)
  refine wpAny_bind ?_
  show wpAny _ _ (forIn (#[Value.ref b, v] : Array Value) _ _) _ _ s
  rw [← Array.forIn_toList]
  show wpAny _ _ (forIn [Value.ref b, v] _ _) _ _ s
  rw [List.forIn_cons]
  refine wpAny_bind (wpAny_bind (quiet_tup h1 ?_))
  simp only [Bool.not_true, Bool.false_eq_true, if_false]
  refine wpAny_pure ?_
  show wpAny _ _ (forIn [v] _ _) _ _ s
  rw [List.forIn_cons, eqIsQuiet_byValue _ ((mixKind prog w).byValue _ _ h2)]
  refine wpAny_bind (wpAny_bind (wpAny_pure ?_))
  simp only [Bool.not_true, Bool.false_eq_true, if_false]
  refine wpAny_pure ?_
  show wpAny _ _ (forIn ([] : List Value) _ _) _ _ s
  rw [List.forIn_nil]
  exact wpAny_pure (wpAny_pure h)
end
def pairKind (prog : Program) (w : World) : HeapKind prog w (List Key × Key) where
  is := IsPairKey prog w
  hash := pairHash prog w
  draws := fun k => k.1.length + 3
  room := fun A => A.units + 8 < cLine
  inj := fun hx hy => hx.inj hy
  keeps := fun x ho hd hs => x.keeps ho hd hs
  pyHash := fun hu hk h => wp_hash_pair hu hk h
  eqBool := fun hu hx hy h => wp_eq_pair hu hx hy h
  quiet := fun hk h => quiet_pair hk h
end L2


namespace L2
open PySem PySem.Spec PyProof.Rows
abbrev PEnt := (List Key × Key) × Addr × Bool
def entV (x : PEnt) : (List Key × Key) × Addr × Value := (x.1, x.2.1, .bool x.2.2)
def dpφ (P : Program) (w : World) (a : Addr) (xs : List PEnt) : Heap → Prop := fun h => (a == sysModules) = false ∧ ∃ o es ep, h.get? a = some o ∧ o.ExactDict ∧ o.data = .dict es ep ∧ es.toList = (xs.map entV).map (entryOfKey (pairKind P w)) ∧ ((xs.map entV).map (·.1)).Nodup
def DP (P : Program) (w : World) (a : Addr) (xs : List PEnt) : HO := .ext (dpφ P w a xs)
def PKey (H : Hp) (k : List Key × Key) (b : Addr) : Prop := ∃ c, H b = some (.tup [.ref c, kV k.2]) ∧ H c = some (.tup (k.1.map kV))
theorem PKey.sameT {H H' : Hp} {k : List Key × Key} {b : Addr} (h : PKey H k b) (s : SameT H H') : PKey H' k b := let ⟨c, h1, h2⟩ := h; ⟨c, s _ _ h1, s _ _ h2⟩
section
variable {P : Program} {w : World} {H : Hp} {h : Heap} {a : Addr}
theorem dp_ok {xs : List PEnt} (e : dpφ P w a xs h) : ObjOk P w H h a (DP P w a xs) := by
  obtain ⟨h0, o, es, ep, h1, h2⟩ := e
  refine ⟨⟨h0, o, es, ep, h1, h2⟩, ⟨o, h1⟩, fun g1 g2 ⟨z0, o', es', ep', z1, z2⟩ st => ⟨z0, o', es', ep', st _ z1, z2⟩⟩
theorem pkey_of {k : List Key × Key} {b : Addr} (ok : HOk P w H h) (e : PKey H k b) : (pairKind P w).is h k b := by
  obtain ⟨c, e1, e2⟩ := e
  obtain ⟨_, its, r, o, h1, h2, ⟨n, h3⟩, _⟩ := (show ObjOk P w H h b (.tup [.ref c, kV k.2]) from ok b _ e1)
  obtain ⟨v, v', rfl, r1, r2⟩ := vals2 r
  cases (show v = Value.ref c from r1)
  exact ⟨o, n, c, v', h1, h2, h3, key_of ok e2, kV_is r2⟩
theorem dp_of {xs : List PEnt} (ok : HOk P w H h) (e : H a = some (DP P w a xs)) (ks : ∀ x ∈ xs, PKey H x.1 x.2.1) : (a == sysModules) = false ∧ h.DictOfH (pairKind P w) a (xs.map entV) := by
  obtain ⟨⟨h0, o, es, ep, h1, h2, h3, h4, h5⟩, _⟩ := (show ObjOk P w H h a (DP P w a xs) from ok a _ e)
  refine ⟨h0, o, es, ep, h1, h2, h3, h4, fun x hx => ?_, h5⟩
  obtain ⟨y, hy, rfl⟩ := List.mem_map.mp hx
  exact pkey_of ok (ks y hy)
end
def entAt (xs : List PEnt) (k : List Key × Key) : Option Bool := (xs.find? fun x => decide (x.1 = k)).map (·.2.2)
theorem at_ent (xs : List PEnt) (k : List Key × Key) : (atKey (xs.map entV) k).map (·.2) = (entAt xs k).map Value.bool := by
  unfold atKey entAt
  induction xs with
  | nil => rfl
  | cons x r ih =>
    rw [List.map_cons, List.find?_cons, List.find?_cons]
    show Option.map _ (Option.map _ (match decide (x.1 = k) with | true => _ | false => _)) = _
    cases decide (x.1 = k) with
    | true => rfl
    | false => exact ih
section
variable {X : Cx} {pins : List (Addr × Obj)} {σ : St} {H : Hp} {s : Shared} {a b : Addr} {k : List Key × Key} {xs : List PEnt} {A : Around} {E : Value → Shared → Prop}
theorem p_notIn {Q : Value → Shared → Prop} (hu : A.units + 64 < cLine) (I : Inv X pins σ H s) (e : H a = some (DP X.prog X.w a xs)) (ks : ∀ x ∈ xs, PKey H x.1 x.2.1) (kb : PKey H k b) (h : ∀ s', Inv X pins σ H s' → Q (.bool (!(entAt xs k).isSome)) s') :
    wpAny (model X.prog X.w) A (compareOp .NotIn (.ref b) (.ref a)) Q E s := by
  obtain ⟨hd, dd⟩ := dp_of I.hok e ks
  refine wpAny_notIn_heap (show A.units + 1 + 8 < cLine by omega) (pkey_of I.hok kb) hd dd ?_
  have q := congrArg Option.isSome (at_ent xs k)
  rw [Option.isSome_map, Option.isSome_map] at q
  rw [q]
  exact h _ (I.tok _)
theorem p_getItem {v : Bool} {Q : Value → Shared → Prop} (hu : A.units + 64 < cLine) (I : Inv X pins σ H s) (e : H a = some (DP X.prog X.w a xs)) (ks : ∀ x ∈ xs, PKey H x.1 x.2.1) (kb : PKey H k b) (hv : entAt xs k = some v) (h : ∀ s', Inv X pins σ H s' → Q (.bool v) s') :
    wpAny (model X.prog X.w) A (getItem (.ref a) (.ref b)) Q E s := by
  obtain ⟨hd, dd⟩ := dp_of I.hok e ks
  have q := at_ent xs k
  rw [hv] at q
  obtain ⟨p, hp, hp2⟩ := Option.map_eq_some_iff.mp q
  refine wpAny_getItem_heap (show A.units + 1 + 8 < cLine by omega) (pkey_of I.hok kb) dd hp ?_
  rw [hp2]
  exact h _ (I.tok _)
theorem p_setItem {v : Bool} {Q : Unit → Shared → Prop} (hu : A.units + 64 < cLine) (I : Inv X pins σ H s) (e : H a = some (DP X.prog X.w a xs)) (ks : ∀ x ∈ xs, PKey H x.1 x.2.1) (kb : PKey H k b) (hv : entAt xs k = none) (hl : xs.length < 100000) (h : ∀ s', Inv X pins σ (upd H a (DP X.prog X.w a (xs ++ [(k, b, v)]))) s' → Q () s') :
    wpAny (model X.prog X.w) A (setItem (.ref a) (.ref b) (.bool v)) Q E s := by
  obtain ⟨hd, dd⟩ := dp_of I.hok e ks
  have q := at_ent xs k
  rw [hv] at q
  have q0 : atKey (xs.map entV) k = none := by simpa using q
  refine wpAny_setItem_heap (hsz := by rw [List.length_map, sizeLine_eq]; omega) (show A.units + 1 + 8 < cLine by omega) (pkey_of I.hok kb) dd fun h' dd' hs => h _ ?_
  have es : storedH (xs.map entV) k b (.bool v) = (xs ++ [(k, b, v)]).map entV := by
    unfold storedH
    rw [q0, List.map_append]
    rfl
  rw [es] at dd'
  obtain ⟨o, es', ep, hq, h2, h3, h4, _, h5⟩ := dd'
  exact d_write I (by rw [e]; exact True.intro) hs ⟨o, hq⟩ (dp_ok ⟨hd, o, es', ep, hq, h2, h3, h4, h5⟩)
end
end L2


namespace L2
open PySem PySem.Spec PyProof.Rows
def tDNewP (P : Program) (w : World) : TE := fun _ H Q => ∀ p, H p = none → Q (.ref p) (upd H p (DP P w p []))
def tPGet (P : Program) (w : World) (td ty : TE) : TE := fun σ H Q => td σ H fun x H1 => ty σ H1 fun y H2 => ∃ a b xs k v, x = .ref a ∧ y = .ref b ∧ H2 a = some (DP P w a xs) ∧ (∀ x ∈ xs, PKey H2 x.1 x.2.1) ∧ PKey H2 k b ∧ entAt xs k = some v ∧ Q (.bl v) H2
def tPNotIn (P : Program) (w : World) (ty td : TE) : TE := fun σ H Q => ty σ H fun y H1 => td σ H1 fun x H2 => ∃ a b xs k, x = .ref a ∧ y = .ref b ∧ H2 a = some (DP P w a xs) ∧ (∀ x ∈ xs, PKey H2 x.1 x.2.1) ∧ PKey H2 k b ∧ Q (.bl (!(entAt xs k).isSome)) H2
def sPPut (P : Program) (w : World) (td ty tv : TE) : TS := fun D σ H => tv σ H fun z H1 => td σ H1 fun x H2 => ty σ H2 fun y H3 => ∃ a b xs k v, z = .bl v ∧ x = .ref a ∧ y = .ref b ∧ H3 a = some (DP P w a xs) ∧ (∀ x ∈ xs, PKey H3 x.1 x.2.1) ∧ PKey H3 k b ∧ entAt xs k = none ∧ xs.length < 100000 ∧ D.nx σ (upd H3 a (DP P w a (xs ++ [(k, b, v)])))
theorem dp_empty {P : Program} {w : World} {H : Hp} (h : Heap) (hb : sysModules < h.objs.size) : ObjOk P w H (h.push { cls := .type "dict", data := .dict #[] }) h.objs.size (DP P w h.objs.size []) :=
  dp_ok ⟨beq_eq_false_iff_ne.mpr (Ne.symm (Nat.ne_of_lt hb)), _, #[], 0, Heap.get?_push_size _ rfl, ⟨rfl, rfl, rfl⟩, rfl, rfl, List.nodup_nil⟩
section
variable {X : Cx} {o i value : Expr} {pos pos' : Pos} {td ty tv : TE}
theorem pe_dnewP : PE X (.Dict [] [] pos) (tDNewP X.prog X.w) := fun pins s σ H Q I h =>
  wpAny_Dict_empty ⟨.ref s.heap.objs.size, _, I.laid (a := s.heap.objs.size) (o := DP X.prog X.w s.heap.objs.size []) (t' := s.toks) (fun _ _ q => Heap.get?_push_of_some _ q) (Nat.le_refl _) (dp_empty s.heap I.big), rfl, h _ (I.hok.fresh (Nat.le_refl _))⟩
theorem dp_typeIs {pins : List (Addr × Obj)} {σ : St} {H : Hp} {s : Shared} {a : Addr} {xs : List PEnt} (I : Inv X pins σ H s) (e : H a = some (DP X.prog X.w a xs)) (ks : ∀ x ∈ xs, PKey H x.1 x.2.1) : s.TypeIs (.ref a) "dict" := (dp_of I.hok e ks).2.typeIs
theorem pe_pget (hu : X.A.units + 64 < cLine) (ho : PE X o td) (hi : PE X i ty) (hs : NoSl i) : PE X (.Subscript o i pos) (tPGet X.prog X.w td ty) := by
  intro pins s σ H Q I h
  refine subD_of PySem.F.slot_dict_getitem.lookup hs (thn (ho pins s σ H _ I h) fun u s1 ⟨x, H1, I1, rx, q1⟩ => thn (hi pins s1 σ H1 _ I1 q1) fun iv s2 ⟨y, H2, I2, ry, a, b, xs, k, v, ex, ey, e, ks, kb, hv, q2⟩ => ?_)
  subst ex ey
  obtain rfl : u = Value.ref a := rx
  obtain rfl : iv = Value.ref b := ry
  exact ⟨dp_typeIs I2 e ks, p_getItem hu I2 e ks kb hv fun s3 I3 => ⟨.bl v, H2, I3, rfl, q2⟩⟩
theorem pc_pnotin (hu : X.A.units + 64 < cLine) (hi : PE X i ty) (ho : PE X o td) : PC X .NotIn i o (tPNotIn X.prog X.w ty td) := by
  intro pins s σ H Q I h
  refine thn (hi pins s σ H _ I h) fun iv s1 ⟨y, H1, I1, ry, q1⟩ => thn (ho pins s1 σ H1 _ I1 q1) fun u s2 ⟨x, H2, I2, rx, a, b, xs, k, ex, ey, e, ks, kb, q2⟩ => ?_
  subst ex ey
  obtain rfl : u = Value.ref a := rx
  obtain rfl : iv = Value.ref b := ry
  exact p_notIn hu I2 e ks kb fun s3 I3 => ⟨.bl (!(entAt xs k).isSome), H2, I3, rfl, q2⟩
theorem ps_pput (hu : X.A.units + 64 < cLine) (ho : PE X o td) (hi : PE X i ty) (hv : PE X value tv) (hs : swapsWith value (some (.Subscript o i pos')) pos.line X.env = pure false) :
    PS X (.Assign [.Subscript o i pos'] value pos) (sPPut X.prog X.w td ty tv) := by
  intro pins s σ H D I h
  refine wpAny_Assign_Subscript (thn (hv pins s σ H _ I h) fun r s1 ⟨v, H1, I1, rv, q1⟩ => thn (ho pins s1 σ H1 _ I1 q1) fun u s2 ⟨x, H2, I2, rx, q2⟩ => thn (hi pins s2 σ H2 _ I2 q2) fun iv s3 ⟨y, H3, I3, ry, a, b, xs, k, t, ev, ex, ey, e, ks, kb, hn, hl, q3⟩ => ?_) hs
  subst ev ex ey
  obtain rfl : u = Value.ref a := rx
  obtain rfl : iv = Value.ref b := ry
  obtain rfl : r = Value.bool t := rv
  exact p_setItem hu I3 e ks kb hn hl fun s4 I4 => ⟨σ, _, I4, q3⟩
end
end L2


namespace L2
open PySem PySem.Spec PyProof.Rows
def kOf (row : List Nat) (l : Nat) : List Key × Key := ((nI row).map Sum.inl, Sum.inl (l : Int))
def laysOf (xs : List PEnt) (row : List Nat) (l : Nat) : Bool := (entAt xs (kOf row l)).getD false
def Ext (xs ys : List PEnt) : Prop := ∀ k v, entAt xs k = some v → entAt ys k = some v
theorem Ext.refl (xs : List PEnt) : Ext xs xs := fun _ _ h => h
theorem Ext.trans {xs ys zs : List PEnt} (h : Ext xs ys) (k : Ext ys zs) : Ext xs zs := fun a v e => k a v (h a v e)
theorem ext_new (xs : List PEnt) (x : PEnt) : Ext xs (xs ++ [x]) := fun k v h => by
  unfold entAt at h ⊢
  rw [List.find?_append]
  cases e : xs.find? fun x => decide (x.1 = k) with
  | none => rw [e] at h; cases h
  | some y => rw [e] at h; exact h
theorem ent_new {xs : List PEnt} {k : List Key × Key} {b : Addr} {v : Bool} (h : entAt xs k = none) : entAt (xs ++ [(k, b, v)]) k = some v := by
  unfold entAt at h ⊢
  rw [List.find?_append]
  cases e : xs.find? fun x => decide (x.1 = k) with
  | none => simp
  | some y => rw [e] at h; cases h
theorem key_map (ns : List Nat) : ((nI ns).map Sum.inl : List Key).map kV = (nI ns).map V.int := by
  rw [List.map_map]
  rfl
theorem sameT_dp {P : Program} {w : World} {G : Hp} {d : Addr} {xs : List PEnt} {o : HO} (h : G d = some (DP P w d xs)) : SameT G (upd G d o) := fun a ys e => by
  rw [upd_ne (ne_of e h (by intro z; unfold DP at z; cases z))]
  exact e
theorem spring_upd {G : Hp} {p q d : Addr} {n : Nat} {o : HO} (sp : Spring G p q n) (h1 : d ≠ p) (h2 : d ≠ q) : Spring (upd G d o) p q n :=
  sp.keepL (L := d) (fun b o' h n1 _ => by rw [upd_ne n1]; exact h) (Ne.symm h1) (Ne.symm h2)
def drawT (P : Program) (w : World) : TS := fun D σ H => ∃ (p q dd b sa : Addr) (n : Nat) (xs : List PEnt) (k : List Key × Key) (of i y : Int) (vs : List V), σ[0]? = some (some (.ref p)) ∧ σ[4]? = some (some (.ref dd)) ∧ σ[6]? = some (some (.int of)) ∧ σ[8]? = some (some (.ref sa)) ∧ σ[11]? = some (some (.int i)) ∧ σ[12]? = some (some (.ref b)) ∧ Spring H p q n ∧ n < 900000 ∧ 0 < of ∧ of < 10 ∧ H dd = some (DP P w dd xs) ∧ (∀ x ∈ xs, PKey H x.1 x.2.1) ∧ PKey H k b ∧ xs.length < 90000 ∧ H sa = some (.tup vs) ∧ atI vs i = some (.int y) ∧ dd ≠ p ∧ dd ≠ q ∧
  ∀ xs2 v H2, Ext xs xs2 → entAt xs2 k = some v → (∀ x ∈ xs2, PKey H2 x.1 x.2.1) → H2 dd = some (DP P w dd xs2) → xs2.length ≤ xs.length + 1 → Spring H2 p q (n + 2) → SameT H H2 → (∀ a o, H a = some o → a ≠ p → a ≠ q → a ≠ dd → H2 a = some o) → D.nx σ H2
theorem rows_atZ {G : Hp} : ∀ {zs : List Addr} {rows : List (List Int)} {j : Nat}, RowsAt G zs rows → j < zs.length → ∃ z o, zs[j]? = some z ∧ rows[j]? = some o ∧ G z = some (.tup (o.map V.int))
  | _, _, 0, .cons r _, _ => ⟨_, _, rfl, rfl, r⟩
  | _, _, j + 1, .cons _ t, h => by
    obtain ⟨z, o, h1, h2, h3⟩ := rows_atZ (j := j) t (by simpa using h)
    exact ⟨z, o, by simpa using h1, by simpa using h2, h3⟩
  | _, _, _, .nil, h => by simp at h
end L2
namespace K89
open PySem PySem.Spec PyProof.Rows L2
abbrev s__law_drawn_way_wins : Stmt := top 36
section
variable {P : Program} {w : World} {K : PySem.W.Frag} {mg : Str → Option Value} {base : Heap}
theorem sc__law_drawn_way_wins : FnScope ["_law_spring", "_law_many", "_law_hands", "_law_orders", "_law_lays", "_law_won", "_law_often", "_law_order", "_law_seen", "_law_left", "_law_places", "_law_k", "_law_key"] ["_law_spring", "_law_many", "_law_hands", "_law_orders"] (defScope s__law_drawn_way_wins) := ⟨rfl, rfl, rfl, by decide +kernel, rfl, by decide +kernel, by decide +kernel⟩
set_option maxHeartbeats 16000000 in
theorem ok__law_drawn_way_wins {f : Addr} {fd : FuncData} (F : Fun K "_law_drawn_way_wins" "_law_drawn_way_wins" s__law_drawn_way_wins f fd) (T : Top mg) (C_law_take : Cal P w K mg base 1 "_law_take" ["_law_spring", "_law_many"] spTakeS) (C_law_seen_of : Cal P w K mg base 1 "_law_seen_of" ["_law_order"] spSeen) : FnOk P w K mg base CX0 3 f fd ["_law_spring", "_law_many", "_law_hands", "_law_orders"] spDrawn := by
  refine F.ok sc__law_drawn_way_wins (fun vs H Q E h => ?_) (fun cdv A outer s H vs Q E hr h => ?_)
  · obtain ⟨p, q, lo, n, N, h, zs, rfl, _⟩ := h
    rfl
  · obtain ⟨p, q, lo, n, N, h, zs, rfl, N0, N1, hh, sp, hn, hlp, hlq, hlo, rows, k⟩ := h
    have hu : _ := hr.units
    refine ⟨_, (pss_cons (ps_par3 (i := 4) (j := 5) (l := 6) rfl sc__law_drawn_way_wins.nd rfl rfl rfl (by decide) (by decide) (by decide) rfl rfl rfl (pa_cons pe_dnewP (pa_cons pe_int (pa_cons (pe_op op_add pe_int (pe_cal C_law_take (hr.mono (by decide)) rfl (pa_cons (pv 0) (pa_cons pe_int pa_nil)))) pa_nil))) rfl)
      (pss_cons (ps_for PassesOwn.never rfl (pi_list (pv 3)) (pg_name (i := 7) sc__law_drawn_way_wins.nd rfl (Or.inl rfl))
        (pss_cons (ps_par3 (i := 8) (j := 9) (l := 10) rfl sc__law_drawn_way_wins.nd rfl rfl rfl (by decide) (by decide) (by decide) rfl rfl rfl (pa_cons (pe_cal C_law_seen_of (hr.mono (by decide)) rfl (pa_cons (pv 7) pa_nil)) (pa_cons (pv 2) (pa_cons (pe_lst pa_nil) pa_nil))) rfl)
        (pss_cons (ps_for PassesOwn.never rfl (pi_range1 rfl T.n_range (pa_cons (pv 1) pa_nil)) (pg_name (i := 11) sc__law_drawn_way_wins.nd rfl (Or.inl rfl))
          (pss_cons (ps_set (i := 12) sc__law_drawn_way_wins.nd rfl (Or.inl rfl) (pe_tup (pa_cons (pe_slice sl_tupA (pv 8) po_none (po_some (pe_op op_add (pv 11) pe_int))) (pa_cons (pv 9) pa_nil))))
          (pss_cons (PS.mono (t' := drawT P w) (ps_if (pt_cmp (pc_pnotin hu (pv 12) (pv 4)))
            (pss_one (ps_pput hu (pv 4) (pv 12) (pe_and (pe_cmpR op_eq (pe_cal C_law_take (hr.mono (by decide)) rfl (pa_cons (pv 0) (pa_cons (pv 6) pa_nil))) pe_int (nomark _)) (pe_one (pe_or (pe_cmpR op_eq (pe_ix ix_tup (pv 8) (pv 11) (fun _ _ => rfl)) pe_int (nomark _)) (pe_one (pe_cmpR op_eq (pe_cal C_law_take (hr.mono (by decide)) rfl (pa_cons (pv 0) (pa_cons pe_int pa_nil))) pe_int (nomark _)))))) rfl))
            pss_nil) ?wd)
          (pss_one (ps_if (PW.pt (pw_and (pt_cmpR op_gt (pv 9) pe_int (nomark _)) (pw_and1 (pt_val (pe_pget hu (pv 4) (pv 12) (fun _ _ => rfl))))))
            (pss_cons (ps_set (i := 9) sc__law_drawn_way_wins.nd rfl (Or.inl rfl) (pe_op op_sub (pv 9) pe_int))
            (pss_one (ps_expr (pe_bm PySem.F.plainAttrs_list PySem.F.slot_list_append PySem.F.type_list_append mt_append (pv 10) (pa_cons (pv 11) pa_nil)))))
            pss_nil)))))
        (pss_one (ps_set (i := 5) sc__law_drawn_way_wins.nd rfl (Or.inl rfl) (pe_op op_add (pv 5) (pe_callTy call_int1 (by rfl) T.n_int boot_int (pa_cons (pe_cmpR op_in_seq (pe_bmT PySem.F.slot_tuple_index PySem.F.type_tuple_index mt_tindex (pv 7) (pa_cons (pe_op op_sub (pv 1) pe_int) pa_nil)) (pv 10) (by rfl)) pa_nil))))))))
      (pss_one (ps_ret (pv 5))))), ?_⟩
    case wd =>
      rintro D σ H ⟨p, q, dd, b, sa, n, xs, k, of, i, y, vs, e0, e4, e6, e8, e11, e12, sp, hn, o0, o1, hd, ks, pk, hl, hsa, hat, hdp, hdq, nx⟩
      refine ⟨_, e12, _, e4, dd, b, xs, k, rfl, rfl, hd, ks, pk, _, rfl, ?_⟩
      cases e : entAt xs k with
      | some v =>
        refine iteF ?_
        exact nx xs v H (Ext.refl _) e ks hd (by omega) (sp.more (by omega)) (fun _ _ z => z) (fun _ _ z _ _ _ => z)
      | none =>
        refine iteT ?_
        have fin : ∀ (v : Bool) (H2 : Hp), Spring H2 p q (n + 2) → Keep p q H H2 → (D.nx σ (upd H2 dd (DP P w dd (xs ++ [(k, b, v)])))) := fun v H2 sp2 k2 => by
          have hd2 := k2 dd _ hd hdp hdq
          have st : SameT H (upd H2 dd (DP P w dd (xs ++ [(k, b, v)]))) := fun a ys z => sameT_dp hd2 a ys (sp.keepT k2 z)
          refine nx _ v _ (ext_new _ _) (ent_new e) (fun x hx => ?_) upd_same (by simp) (spring_upd sp2 hdp hdq) st (fun a o z n1 n2 n3 => by rw [upd_ne n3]; exact k2 a o z n1 n2)
          rcases List.mem_append.mp hx with hx | hx
          · exact (ks x hx).sameT st
          · rw [List.mem_singleton] at hx
            subst hx
            exact pk.sameT st
        refine ⟨_, e0, _, e6, p, q, of, n, rfl, o0, by omega, sp, by omega, fun d1 H1 _ _ sp1 g1 => ⟨rfl, _, rfl, ?_⟩⟩
        have st1 : SameT H H1 := fun a ys z => sp.keepT g1 z
        refine ite2 (fun hz => ?_) (fun hz => ?_)
        · refine ⟨_, e8, _, e11, sa, vs, i, .int y, rfl, rfl, SqT.of (st1 _ _ hsa), hat, rfl, _, rfl, ?_⟩
          refine ite2 (fun hz2 => ?_) (fun hz2 => ?_)
          · exact ⟨_, e4, _, e12, dd, b, xs, k, _, rfl, rfl, rfl, g1 dd _ hd hdp hdq, fun x hx => (ks x hx).sameT st1, pk.sameT st1, e, by omega, fin _ H1 (sp1.more (by omega)) g1⟩
          · refine ⟨_, e0, p, q, 3, _, rfl, by decide, by decide, sp1, by omega, fun d2 H2 _ _ sp2 g2 => ⟨rfl, ?_⟩⟩
            have st2 : SameT H H2 := fun a ys z => sp1.keepT g2 (sp.keepT g1 z)
            exact ⟨_, e4, _, e12, dd, b, xs, k, _, rfl, rfl, rfl, g2 dd _ (g1 dd _ hd hdp hdq) hdp hdq, fun x hx => (ks x hx).sameT st2, pk.sameT st2, e, by omega, fin _ H2 sp2 (g1.trans g2)⟩
        · exact ⟨_, e4, _, e12, dd, b, xs, k, _, rfl, rfl, rfl, g1 dd _ hd hdp hdq, fun x hx => (ks x hx).sameT st1, pk.sameT st1, e, by omega, fin _ H1 (sp1.more (by omega)) g1⟩
    refine fun dd hdd => ?_
    have s1 := same_upd (o := DP P w dd []) hdd
    obtain ⟨hdp, hdq⟩ := sp.new hdd
    refine ⟨_, rfl, p, q, 3, n, rfl, by decide, by decide, sp.same s1, by omega, fun d0 G0 d00 d01 sp0 g0 => ⟨_, _, rfl, rfl, _, _, _, rfl, ?_⟩⟩
    have k0 : Keep p q H G0 := s1.keep.trans g0
    have hd0 : G0 dd = some (DP P w dd []) := g0 dd _ upd_same hdp hdq
    have hlo0 := k0 lo _ hlo hlp hlq
    have hld : lo ≠ dd := fun e => by rw [← e, hlo] at hdd; cases hdd
    have hz6 := allA_len (m := N) (by omega)
    have hzl := rows_len rows
    refine ⟨_, rfl, lo, rfl, ⟨_, SqL.of hlo0⟩, ?_⟩
    refine for_list (K := K) (a := lo) (xs := zs.map V.ref) (fun j σ G => ∃ (c7 c8 c9 c10 c11 c12 : Option V) (W n' : Nat) (xs : List PEnt), σ = [some (.ref p), some (.int (N : Int)), some (.int (h : Int)), some (.ref lo), some (.ref dd), some (.int (W : Int)), some (.int (2 + d0)), c7, c8, c9, c10, c11, c12] ∧ Spring G p q n' ∧ n' ≤ n + 1 + 12 * j ∧ Keep p q H G ∧ G dd = some (DP P w dd xs) ∧ (∀ x ∈ xs, PKey G x.1 x.2.1) ∧ xs.length ≤ 6 * j ∧ ∀ ys, Ext xs ys → sumN (fun o => wonW (laysOf ys) h (seenO o)) ((allA N).take j) = W) ⟨_, _, _, _, _, _, 0, _, [], rfl, sp0, by omega, k0, hd0, (fun x hx => by cases hx), by simp, fun ys _ => rfl⟩ (fun j σ G _ ⟨_, _, _, _, _, _, _, _, _, _, _, _, kG, _⟩ => SqL.of (kG lo _ hlo hlp hlq)) ?_ ?_
    · rintro j x σ G hx ⟨c7, c8, c9, c10, c11, c12, W, n', xs, rfl, spG, hn', kG, hdG, ksG, hxl, hW⟩
      have hjl := (List.getElem?_eq_some_iff.mp hx).1
      rw [List.length_map] at hjl
      obtain ⟨z, o, ez, eo, hz⟩ := rows_atZ rows hjl
      rw [List.getElem?_map, ez] at hx
      cases hx
      have ho := allA_ord (List.mem_of_getElem? eo)
      have hzG : G z = some (.tup (o.map V.int)) := sp.keepT kG hz
      have hrl : (seenO o).length = N := by rw [seen_len, ho.2]
      refine ⟨_, rfl, z, o, rfl, hzG, by omega, fun sa G1 t1 hsa => ⟨_, rfl, Nat.zero_le _, fun L hL => ⟨_, _, _, rfl, ?_⟩⟩⟩
      have sp1 := spG.same t1
      obtain ⟨hLp, hLq⟩ := sp1.new hL
      have hd1 := t1 _ _ hdG
      have hLd : L ≠ dd := fun e => by rw [e, hd1] at hL; cases hL
      have k1 : Keep p q H G1 := kG.trans t1.keep
      have hLH : H L = none := by
        cases e : H L with
        | none => rfl
        | some u => rw [k1 L u e hLp hLq] at hL; cases hL
      have t2 := same_upd (o := .lst []) hL
      have hwin := seen_hi N N1 N0 o (List.mem_of_getElem? eo)
      generalize hr0 : seenO o = r at *
      refine ⟨_, rfl, _, rfl, by omega, by omega, ?_⟩
      rw [Int.toNat_natCast]
      refine for_range (lo := 0) (n := N) (fun i σ G' => ∃ (c11 c12 : Option V) (l n2 : Nat) (pl : List Nat) (xs2 : List PEnt), σ = [some (.ref p), some (.int (N : Int)), some (.int (h : Int)), some (.ref lo), some (.ref dd), some (.int (W : Int)), some (.int (2 + d0)), some (.ref z), some (.ref sa), some (.int (l : Int)), some (.ref L), c11, c12] ∧ Spring G' p q n2 ∧ n2 ≤ n + 1 + 12 * j + 2 * i ∧ Keep p q H G' ∧ G' sa = some (.tup ((nI r).map V.int)) ∧ G' L = some (.lst ((nI pl).map V.int)) ∧ G' dd = some (DP P w dd xs2) ∧ (∀ x ∈ xs2, PKey G' x.1 x.2.1) ∧ xs2.length ≤ 6 * j + i ∧ Ext xs xs2 ∧ pl.length ≤ i ∧ ∀ ys, Ext xs2 ys → plW (laysOf ys) r [] h [] = plW (laysOf ys) (r.drop i) (r.take i) l pl) ⟨_, _, h, n', [], xs, rfl, sp1.same t2, by omega, (k1.trans t2.keep), t2 _ _ hsa, upd_same, t2 _ _ hd1, fun x hx => ((ksG x hx).sameT t1.t).sameT t2.t, by omega, Ext.refl _, Nat.le_refl _, fun ys _ => rfl⟩ ?_ ?_
      · rintro i σ G' hi ⟨c11, c12, l, n2, pl, xs2, rfl, sp2, hn2, k2, hs2, hL2, hd2, ks2, hx2, ex2, hp2, hW2⟩
        rw [Int.zero_add]
        obtain ⟨y, hy⟩ : ∃ y, r[i]? = some y := ⟨r[i], List.getElem?_eq_getElem (by omega)⟩
        have hdr : r.drop i = y :: r.drop (i + 1) := by
          rw [List.drop_eq_getElem_cons (by omega)]
          congr 1
          exact (Option.some.inj ((List.getElem?_eq_getElem (by omega)).symm.trans hy))
        have htk : r.take (i + 1) = r.take i ++ [y] := by rw [List.take_succ, hy]; rfl
        refine ⟨_, rfl, _, rfl, _, _, rfl, rfl, _, rfl, sa, _, rfl, hs2, fun c G3 t3 hc => ⟨_, rfl, by show 2 ≤ sizeLine; decide, fun b hb => ?_⟩⟩
        have ecut : cutV ((nI r).map V.int) none (some ((i : Int) + 1)) = (nI (r.take (i + 1))).map V.int := by
          have e : (nI r).take (i + 1) = nI (r.take (i + 1)) := List.map_take.symm
          rw [show (i : Int) + 1 = ((i + 1 : Nat) : Int) by omega, cutV_takeI, e]
        have hc' : G3 c = some (.tup ((nI (r.take (i + 1))).map V.int)) := by rw [← ecut]; exact hc
        have t4 := same_upd (o := .tup [.ref c, .int (l : Int)]) hb
        have pk : PKey (upd G3 b (.tup [.ref c, .int (l : Int)])) (kOf (r.take (i + 1)) l) b := ⟨c, upd_same, by show _ = some (HO.tup (((nI (r.take (i + 1))).map Sum.inl : List Key).map kV)); rw [key_map]; exact t4 _ _ hc'⟩
        have T4 := t3.trans t4
        generalize upd G3 b (.tup [.ref c, .int (l : Int)]) = G4 at *
        refine ⟨p, q, dd, b, sa, n2, xs2, kOf (r.take (i + 1)) l, 2 + d0, (i : Int), (y : Int), _, rfl, rfl, rfl, rfl, rfl, rfl, sp2.same T4, by omega, by omega, by omega, T4 _ _ hd2, fun x hx => (ks2 x hx).sameT T4.t, pk, by omega, T4 _ _ hs2, atI_nat (nI_at hy), hdp, hdq, fun xs3 v G5 ex3 hv ks5 hd5 hx5 sp5 st5 keep5 => ?_⟩
        have hs5 := st5 _ _ (T4 _ _ hs2)
        have pk5 := pk.sameT st5
        have hL5 := keep5 L _ (T4 _ _ hL2) hLp hLq hLd
        have k5 : Keep p q H G5 := fun a u e n1 n2 => keep5 a u (T4 _ _ (k2 a u e n1 n2)) n1 n2 (fun z => by rw [z, hdd] at e; cases e)
        have step : ∀ ys, Ext xs3 ys → plW (laysOf ys) r [] h [] = if 0 < l ∧ v = true then plW (laysOf ys) (r.drop (i + 1)) (r.take (i + 1)) (l - 1) (pl ++ [i]) else plW (laysOf ys) (r.drop (i + 1)) (r.take (i + 1)) l pl := fun ys hys => by
          rw [hW2 ys (ex3.trans hys), hdr, plW, ← htk, List.length_take, show min i r.length = i by omega]
          have : laysOf ys (r.take (i + 1)) l = v := by
            unfold laysOf
            rw [hys _ _ hv]
            rfl
          rw [this]
        refine ⟨_, rfl, _, _, rfl, rfl, _, rfl, ?_⟩
        by_cases l0 : 0 < l
        · rw [decide_eq_true (show (l : Int) > 0 by omega)]
          refine iteT ?_
          refine ⟨_, rfl, _, rfl, dd, b, xs3, kOf (r.take (i + 1)) l, v, rfl, rfl, hd5, ks5, pk5, hv, _, rfl, ?_⟩
          cases v with
          | true =>
            refine iteT ?_
            refine ⟨_, rfl, _, _, rfl, rfl, ?_⟩
            refine ⟨_, rfl, .inl ⟨rfl, _, SqL.of hL5⟩, _, rfl, L, _, _, rfl, rfl, hL5, small1 (by rw [mapI_len, nI_len]; omega), ?_⟩
            have sameTL : SameT G5 (upd G5 L (.lst ((nI pl).map V.int ++ [.int (i : Int)]))) := fun a ys e => by rw [upd_ne (ne_of e hL5 (by intro z; cases z))]; exact e
            refine ⟨_, _, l - 1, n2 + 2, pl ++ [i], xs3, by rw [show ((l - 1 : Nat) : Int) = (l : Int) - 1 by omega]; rfl, spring_upd sp5 hLp hLq, by omega, fun a u e n1 n2 => by rw [upd_ne (fun z => by rw [z, hLH] at e; cases e)]; exact k5 a u e n1 n2, sameTL _ _ hs5, by rw [upd_same, nI_app, List.map_append]; rfl, by rw [upd_ne (Ne.symm hLd)]; exact hd5, fun x hx => (ks5 x hx).sameT sameTL, by omega, ex2.trans ex3, by simp; omega, fun ys hys => by rw [step ys hys, if_pos ⟨l0, rfl⟩]⟩
          | false =>
            refine iteF ?_
            exact ⟨_, _, l, n2 + 2, pl, xs3, rfl, sp5, by omega, k5, hs5, hL5, hd5, ks5, by omega, ex2.trans ex3, by omega, fun ys hys => by rw [step ys hys, if_neg (fun z => Bool.false_ne_true z.2)]⟩
        · rw [decide_eq_false (show ¬ (l : Int) > 0 by omega)]
          refine iteF ?_
          exact ⟨_, _, l, n2 + 2, pl, xs3, rfl, sp5, by omega, k5, hs5, hL5, hd5, ks5, by omega, ex2.trans ex3, by omega, fun ys hys => by rw [step ys hys, if_neg (fun z => l0 z.1)]⟩
      · rintro σ G' ⟨c11, c12, l, n2, pl, xs2, rfl, sp2, hn2, k2, hs2, hL2, hd2, ks2, hx2, ex2, hp2, hW2⟩
        have hz2 : G' z = some (.tup (o.map V.int)) := sp.keepT k2 hz
        have hmem : (N : Int) - 1 ∈ o := ho.1.mem_iff.mpr (mem_num0.mpr ⟨by omega, by omega⟩)
        refine ⟨_, rfl, _, rfl, ⟨z, _, rfl, hz2⟩, _, rfl, _, _, rfl, rfl, z, o, _, rfl, rfl, hz2, hmem, _, rfl, L, _, rfl, .inl (SqL.of hL2), rfl, flat_intsQ _, .inr ⟨_, rfl, _, _, rfl, rfl, ?_⟩⟩
        rw [inV_inP, nI_has, ← hwin]
        refine ⟨_, _, _, _, _, _, W + (if pl.contains (hiP r 0 0) then 1 else 0), n2, xs2, by cases pl.contains (hiP r 0 0) <;> rfl, sp2, by omega, k2, hd2, ks2, by omega, fun ys hys => ?_⟩
        rw [List.take_succ, eo, sumN_app, hW ys (ex2.trans hys)]
        congr 1
        show wonW (laysOf ys) h (seenO o) + 0 = _
        rw [hr0, Nat.add_zero, wonW, hW2 ys hys, ← hrl, List.drop_length, plW]
    · rintro σ G ⟨c7, c8, c9, c10, c11, c12, W, n', xs, rfl, spG, hn', kG, hdG, ksG, hxl, hW⟩
      have := hW xs (Ext.refl _)
      rw [List.length_map, hzl, List.take_length] at this
      rw [← this]
      exact ⟨_, rfl, k (laysOf xs) G (spG.more (by rw [List.length_map] at hn'; omega)) kG⟩
end
end K89


namespace K89
open PySem PySem.Spec PyProof.Rows L2
set_option maxHeartbeats 8000000 in
theorem all_mk {l : PySem.W.OpenLaw} {w : World} {K : PySem.W.Frag} {h : Heap} {mg : Str → Option Value} {fa : Addr} (X : K.In h) (G : h.Ns mainGlobals mg) (hfa : mg "law" = some (.ref fa)) (TK : TopK K) (TXK : TopXK K) (TYK : TopYK K)
    (d_greatest_divisor : Def K "greatest_divisor" s_greatest_divisor) (d_share_of : Def K "share_of" s_share_of) (d_plus : Def K "plus" s_plus) (d_times : Def K "times" s_times) (d_is_less : Def K "is_less" s_is_less) (d_greater : Def K "greater" s_greater) (d_is_whole : Def K "is_whole" s_is_whole) (d_are_wholes : Def K "are_wholes" s_are_wholes) (d_is_share : Def K "is_share" s_is_share) (d_by_laying : Def K "by_laying" s_by_laying) (d_from_place : Def K "from_place" s_from_place) (d_best_from : Def K "best_from" s_best_from) (d_row_of_one_more : Def K "row_of_one_more" s_row_of_one_more) (d_table : Def K "table" s_table) (d_best_share : Def K "best_share" s_best_share) (d_places_laid : Def K "places_laid" s_places_laid) (d_rule : Def K "rule" s_rule) (d_are_shares : Def K "are_shares" s_are_shares) (d_is_enough : Def K "is_enough" s_is_enough) (d_shows_no_better : Def K "shows_no_better" s_shows_no_better) (d_row_by_places : Def K "row_by_places" s_row_by_places) (d_rule_share : Def K "rule_share" s_rule_share) (d_wins : Def K "wins" s_wins) (d__law_spring_of : Def K "_law_spring_of" s__law_spring_of) (d__law_take : Def K "_law_take" s__law_take) (d__law_of : Def K "_law_of" s__law_of) (d__law_own_orders : Def K "_law_own_orders" s__law_own_orders) (d__law_in_lowest : Def K "_law_in_lowest" s__law_in_lowest) (d__law_most_won : Def K "_law_most_won" s__law_most_won) (d__law_seen_of : Def K "_law_seen_of" s__law_seen_of) (d__law_drawn_way_wins : Def K "_law_drawn_way_wins" s__law_drawn_way_wins) (d_law : Def K "law" s_law) :
    ∃ fd : FuncData, (∀ (s : Shared) (v : Value), BindsTo s fd ⟨[v], []⟩ [("_law_script", v)]) ∧ ∀ base : Heap, K.In base → base.Ns mainGlobals mg → FnOk l.prog w K mg base CX0 9 fa fd ["_law_script"] (spLaw K) := by
  have T : Top mg := TK.top X G
  have TX : TopX mg := TXK.top X G
  have TY : TopY mg := TYK.top X G
  obtain ⟨f_greatest_divisor, e_greatest_divisor, F_greatest_divisor, m_greatest_divisor⟩ := d_greatest_divisor.fn X G
  obtain ⟨f_share_of, e_share_of, F_share_of, m_share_of⟩ := d_share_of.fn X G
  obtain ⟨f_plus, e_plus, F_plus, m_plus⟩ := d_plus.fn X G
  obtain ⟨f_times, e_times, F_times, m_times⟩ := d_times.fn X G
  obtain ⟨f_is_less, e_is_less, F_is_less, m_is_less⟩ := d_is_less.fn X G
  obtain ⟨f_greater, e_greater, F_greater, m_greater⟩ := d_greater.fn X G
  obtain ⟨f_is_whole, e_is_whole, F_is_whole, m_is_whole⟩ := d_is_whole.fn X G
  obtain ⟨f_are_wholes, e_are_wholes, F_are_wholes, m_are_wholes⟩ := d_are_wholes.fn X G
  obtain ⟨f_is_share, e_is_share, F_is_share, m_is_share⟩ := d_is_share.fn X G
  obtain ⟨f_by_laying, e_by_laying, F_by_laying, m_by_laying⟩ := d_by_laying.fn X G
  obtain ⟨f_from_place, e_from_place, F_from_place, m_from_place⟩ := d_from_place.fn X G
  obtain ⟨f_best_from, e_best_from, F_best_from, m_best_from⟩ := d_best_from.fn X G
  obtain ⟨f_row_of_one_more, e_row_of_one_more, F_row_of_one_more, m_row_of_one_more⟩ := d_row_of_one_more.fn X G
  obtain ⟨f_table, e_table, F_table, m_table⟩ := d_table.fn X G
  obtain ⟨f_best_share, e_best_share, F_best_share, m_best_share⟩ := d_best_share.fn X G
  obtain ⟨f_places_laid, e_places_laid, F_places_laid, m_places_laid⟩ := d_places_laid.fn X G
  obtain ⟨f_rule, e_rule, F_rule, m_rule⟩ := d_rule.fn X G
  obtain ⟨f_are_shares, e_are_shares, F_are_shares, m_are_shares⟩ := d_are_shares.fn X G
  obtain ⟨f_is_enough, e_is_enough, F_is_enough, m_is_enough⟩ := d_is_enough.fn X G
  obtain ⟨f_shows_no_better, e_shows_no_better, F_shows_no_better, m_shows_no_better⟩ := d_shows_no_better.fn X G
  obtain ⟨f_row_by_places, e_row_by_places, F_row_by_places, m_row_by_places⟩ := d_row_by_places.fn X G
  obtain ⟨f_rule_share, e_rule_share, F_rule_share, m_rule_share⟩ := d_rule_share.fn X G
  obtain ⟨f_wins, e_wins, F_wins, m_wins⟩ := d_wins.fn X G
  obtain ⟨f__law_spring_of, e__law_spring_of, F__law_spring_of, m__law_spring_of⟩ := d__law_spring_of.fn X G
  obtain ⟨f__law_take, e__law_take, F__law_take, m__law_take⟩ := d__law_take.fn X G
  obtain ⟨f__law_of, e__law_of, F__law_of, m__law_of⟩ := d__law_of.fn X G
  obtain ⟨f__law_own_orders, e__law_own_orders, F__law_own_orders, m__law_own_orders⟩ := d__law_own_orders.fn X G
  obtain ⟨f__law_in_lowest, e__law_in_lowest, F__law_in_lowest, m__law_in_lowest⟩ := d__law_in_lowest.fn X G
  obtain ⟨f__law_most_won, e__law_most_won, F__law_most_won, m__law_most_won⟩ := d__law_most_won.fn X G
  obtain ⟨f__law_seen_of, e__law_seen_of, F__law_seen_of, m__law_seen_of⟩ := d__law_seen_of.fn X G
  obtain ⟨f__law_drawn_way_wins, e__law_drawn_way_wins, F__law_drawn_way_wins, m__law_drawn_way_wins⟩ := d__law_drawn_way_wins.fn X G
  obtain ⟨f_law, e_law, F_law, m_law⟩ := d_law.fn X G
  have b_greatest_divisor := F_greatest_divisor.binds (ps := ["over", "under"]) fun _ _ _ _ _ _ us hl => match us, hl with | [_, _], _ => rfl
  have b_share_of := F_share_of.binds (ps := ["over", "under"]) fun _ _ _ _ _ _ us hl => match us, hl with | [_, _], _ => rfl
  have b_plus := F_plus.binds (ps := ["one", "other"]) fun _ _ _ _ _ _ us hl => match us, hl with | [_, _], _ => rfl
  have b_times := F_times.binds (ps := ["one", "other"]) fun _ _ _ _ _ _ us hl => match us, hl with | [_, _], _ => rfl
  have b_is_less := F_is_less.binds (ps := ["one", "other"]) fun _ _ _ _ _ _ us hl => match us, hl with | [_, _], _ => rfl
  have b_greater := F_greater.binds (ps := ["one", "other"]) fun _ _ _ _ _ _ us hl => match us, hl with | [_, _], _ => rfl
  have b_is_whole := F_is_whole.binds (ps := ["thing"]) fun _ _ _ _ _ _ us hl => match us, hl with | [_], _ => rfl
  have b_are_wholes := F_are_wholes.binds (ps := ["thing"]) fun _ _ _ _ _ _ us hl => match us, hl with | [_], _ => rfl
  have b_is_share := F_is_share.binds (ps := ["thing"]) fun _ _ _ _ _ _ us hl => match us, hl with | [_], _ => rfl
  have b_by_laying := F_by_laying.binds (ps := ["many", "place", "fewer"]) fun _ _ _ _ _ _ us hl => match us, hl with | [_, _, _], _ => rfl
  have b_from_place := F_from_place.binds (ps := ["place", "waiting", "seen"]) fun _ _ _ _ _ _ us hl => match us, hl with | [_, _, _], _ => rfl
  have b_best_from := F_best_from.binds (ps := ["many", "place", "waiting", "fewer"]) fun _ _ _ _ _ _ us hl => match us, hl with | [_, _, _, _], _ => rfl
  have b_row_of_one_more := F_row_of_one_more.binds (ps := ["many", "fewer"]) fun _ _ _ _ _ _ us hl => match us, hl with | [_, _], _ => rfl
  have b_table := F_table.binds (ps := ["many", "hands"]) fun _ _ _ _ _ _ us hl => match us, hl with | [_, _], _ => rfl
  have b_best_share := F_best_share.binds (ps := ["many", "hands"]) fun _ _ _ _ _ _ us hl => match us, hl with | [_, _], _ => rfl
  have b_places_laid := F_places_laid.binds (ps := ["many", "row", "fewer"]) fun _ _ _ _ _ _ us hl => match us, hl with | [_, _, _], _ => rfl
  have b_rule := F_rule.binds (ps := ["many", "hands"]) fun _ _ _ _ _ _ us hl => match us, hl with | [_, _], _ => rfl
  have b_are_shares := F_are_shares.binds (ps := ["thing", "many"]) fun _ _ _ _ _ _ us hl => match us, hl with | [_, _], _ => rfl
  have b_is_enough := F_is_enough.binds (ps := ["many", "row", "fewer"]) fun _ _ _ _ _ _ us hl => match us, hl with | [_, _, _], _ => rfl
  have b_shows_no_better := F_shows_no_better.binds (ps := ["many", "hands", "thing"]) fun _ _ _ _ _ _ us hl => match us, hl with | [_, _, _], _ => rfl
  have b_row_by_places := F_row_by_places.binds (ps := ["many", "places", "fewer"]) fun _ _ _ _ _ _ us hl => match us, hl with | [_, _, _], _ => rfl
  have b_rule_share := F_rule_share.binds (ps := ["many", "plan"]) fun _ _ _ _ _ _ us hl => match us, hl with | [_, _], _ => rfl
  have b_wins := F_wins.binds (ps := ["plan", "order"]) fun _ _ _ _ _ _ us hl => match us, hl with | [_, _], _ => rfl
  have b__law_spring_of := F__law_spring_of.binds (ps := ["_law_script"]) fun _ _ _ _ _ _ us hl => match us, hl with | [_], _ => rfl
  have b__law_take := F__law_take.binds (ps := ["_law_spring", "_law_many"]) fun _ _ _ _ _ _ us hl => match us, hl with | [_, _], _ => rfl
  have b__law_of := F__law_of.binds (ps := ["_law_spring", "_law_some"]) fun _ _ _ _ _ _ us hl => match us, hl with | [_, _], _ => rfl
  have b__law_own_orders := F__law_own_orders.binds (ps := ["_law_many"]) fun _ _ _ _ _ _ us hl => match us, hl with | [_], _ => rfl
  have b__law_in_lowest := F__law_in_lowest.binds (ps := ["_law_over", "_law_under"]) fun _ _ _ _ _ _ us hl => match us, hl with | [_, _], _ => rfl
  have b__law_most_won := F__law_most_won.binds (ps := ["_law_many", "_law_seen", "_law_hands", "_law_places"]) fun _ _ _ _ _ _ us hl => match us, hl with | [_, _, _, _], _ => rfl
  have b__law_seen_of := F__law_seen_of.binds (ps := ["_law_order"]) fun _ _ _ _ _ _ us hl => match us, hl with | [_], _ => rfl
  have b__law_drawn_way_wins := F__law_drawn_way_wins.binds (ps := ["_law_spring", "_law_many", "_law_hands", "_law_orders"]) fun _ _ _ _ _ _ us hl => match us, hl with | [_, _, _, _], _ => rfl
  have e : fa = f_law := by
    have q := hfa.symm.trans m_law
    cases q
    rfl
  subst e
  obtain ⟨oc, od, kV, doc, pm, an, cdv, ct, osl, rfl, lk, hcd⟩ := F_law.ex
  refine ⟨PySem.W.fnOf "law" "law" (defArgs s_law) (defBody s_law) (defScope s_law) .none kV doc pm an cdv ct, fun s v => .of_eq rfl, fun base _ _ => ?_⟩
  have Cgreatest_divisor : Cal l.prog w K mg base 1 "greatest_divisor" ["over", "under"] (spGcd) := ⟨f_greatest_divisor, e_greatest_divisor, ok_greatest_divisor F_greatest_divisor , m_greatest_divisor, F_greatest_divisor.kp, b_greatest_divisor⟩
  have Cshare_of : Cal l.prog w K mg base 2 "share_of" ["over", "under"] (spLow) := ⟨f_share_of, e_share_of, ok_share_of F_share_of Cgreatest_divisor, m_share_of, F_share_of.kp, b_share_of⟩
  have Cplus : Cal l.prog w K mg base 3 "plus" ["one", "other"] (spSh plZ) := ⟨f_plus, e_plus, ok_plus F_plus Cshare_of, m_plus, F_plus.kp, b_plus⟩
  have Ctimes : Cal l.prog w K mg base 3 "times" ["one", "other"] (spSh tmZ) := ⟨f_times, e_times, ok_times F_times Cshare_of, m_times, F_times.kp, b_times⟩
  have Cis_less : Cal l.prog w K mg base 1 "is_less" ["one", "other"] (spLt) := ⟨f_is_less, e_is_less, ok_is_less F_is_less , m_is_less, F_is_less.kp, b_is_less⟩
  have Cgreater : Cal l.prog w K mg base 2 "greater" ["one", "other"] (spMm maxZ) := ⟨f_greater, e_greater, ok_greater F_greater Cis_less, m_greater, F_greater.kp, b_greater⟩
  have Cis_whole : Cal l.prog w K mg base 1 "is_whole" ["thing"] (spWhA K) := ⟨f_is_whole, e_is_whole, ok_is_whole F_is_whole T, m_is_whole, F_is_whole.kp, b_is_whole⟩
  have Care_wholes : Cal l.prog w K mg base 2 "are_wholes" ["thing"] (spWhsD) := ⟨f_are_wholes, e_are_wholes, ok_are_wholes F_are_wholes T Cis_whole, m_are_wholes, F_are_wholes.kp, b_are_wholes⟩
  have Cis_share : Cal l.prog w K mg base 3 "is_share" ["thing"] (spIsSh) := ⟨f_is_share, e_is_share, ok_is_share F_is_share T Care_wholes Cgreatest_divisor, m_is_share, F_is_share.kp, b_is_share⟩
  have Cby_laying : Cal l.prog w K mg base 4 "by_laying" ["many", "place", "fewer"] (spBy) := ⟨f_by_laying, e_by_laying, ok_by_laying F_by_laying Cshare_of Cplus, m_by_laying, F_by_laying.kp, b_by_laying⟩
  have Cfrom_place : Cal l.prog w K mg base 4 "from_place" ["place", "waiting", "seen"] (spFrom) := ⟨f_from_place, e_from_place, ok_from_place F_from_place Cplus Ctimes, m_from_place, F_from_place.kp, b_from_place⟩
  have Cbest_from : Cal l.prog w K mg base 5 "best_from" ["many", "place", "waiting", "fewer"] (spBest) := ⟨f_best_from, e_best_from, ok_best_from F_best_from Cgreater Cfrom_place Cby_laying, m_best_from, F_best_from.kp, b_best_from⟩
  have Crow_of_one_more : Cal l.prog w K mg base 6 "row_of_one_more" ["many", "fewer"] (spRow1) := ⟨f_row_of_one_more, e_row_of_one_more, ok_row_of_one_more F_row_of_one_more T Cbest_from, m_row_of_one_more, F_row_of_one_more.kp, b_row_of_one_more⟩
  have Ctable : Cal l.prog w K mg base 7 "table" ["many", "hands"] (spTable) := ⟨f_table, e_table, ok_table F_table T Crow_of_one_more, m_table, F_table.kp, b_table⟩
  have Cbest_share : Cal l.prog w K mg base 8 "best_share" ["many", "hands"] (spBestS) := ⟨f_best_share, e_best_share, ok_best_share F_best_share Ctable, m_best_share, F_best_share.kp, b_best_share⟩
  have Cplaces_laid : Cal l.prog w K mg base 5 "places_laid" ["many", "row", "fewer"] (spLay) := ⟨f_places_laid, e_places_laid, ok_places_laid F_places_laid T Cis_less Cby_laying, m_places_laid, F_places_laid.kp, b_places_laid⟩
  have Crule : Cal l.prog w K mg base 8 "rule" ["many", "hands"] (spRule) := ⟨f_rule, e_rule, ok_rule F_rule T Ctable Cplaces_laid, m_rule, F_rule.kp, b_rule⟩
  have Care_shares : Cal l.prog w K mg base 4 "are_shares" ["thing", "many"] (spShs) := ⟨f_are_shares, e_are_shares, ok_are_shares F_are_shares T Cis_share, m_are_shares, F_are_shares.kp, b_are_shares⟩
  have Cis_enough : Cal l.prog w K mg base 6 "is_enough" ["many", "row", "fewer"] (spEn) := ⟨f_is_enough, e_is_enough, ok_is_enough F_is_enough T TY Cis_less Cbest_from, m_is_enough, F_is_enough.kp, b_is_enough⟩
  have Cshows_no_better : Cal l.prog w K mg base 7 "shows_no_better" ["many", "hands", "thing"] (spSnb) := ⟨f_shows_no_better, e_shows_no_better, ok_shows_no_better F_shows_no_better T TY Care_shares Cis_enough, m_shows_no_better, F_shows_no_better.kp, b_shows_no_better⟩
  have Crow_by_places : Cal l.prog w K mg base 5 "row_by_places" ["many", "places", "fewer"] (spRp) := ⟨f_row_by_places, e_row_by_places, ok_row_by_places F_row_by_places T Cby_laying Cfrom_place, m_row_by_places, F_row_by_places.kp, b_row_by_places⟩
  have Crule_share : Cal l.prog w K mg base 6 "rule_share" ["many", "plan"] (spRs) := ⟨f_rule_share, e_rule_share, ok_rule_share F_rule_share T Crow_by_places, m_rule_share, F_rule_share.kp, b_rule_share⟩
  have Cwins : Cal l.prog w K mg base 1 "wins" ["plan", "order"] (spWins) := ⟨f_wins, e_wins, ok_wins F_wins T, m_wins, F_wins.kp, b_wins⟩
  have C_law_spring_of : Cal l.prog w K mg base 1 "_law_spring_of" ["_law_script"] (spSpring K) := ⟨f__law_spring_of, e__law_spring_of, ok__law_spring_of F__law_spring_of T, m__law_spring_of, F__law_spring_of.kp, b__law_spring_of⟩
  have C_law_take : Cal l.prog w K mg base 1 "_law_take" ["_law_spring", "_law_many"] (spTakeS) := ⟨f__law_take, e__law_take, ok__law_take F__law_take , m__law_take, F__law_take.kp, b__law_take⟩
  have C_law_of : Cal l.prog w K mg base 2 "_law_of" ["_law_spring", "_law_some"] (spOfS) := ⟨f__law_of, e__law_of, ok__law_of F__law_of T C_law_take, m__law_of, F__law_of.kp, b__law_of⟩
  have C_law_own_orders : Cal l.prog w K mg base 1 "_law_own_orders" ["_law_many"] (spOrdsX) := ⟨f__law_own_orders, e__law_own_orders, ok__law_own_orders F__law_own_orders T, m__law_own_orders, F__law_own_orders.kp, b__law_own_orders⟩
  have C_law_in_lowest : Cal l.prog w K mg base 1 "_law_in_lowest" ["_law_over", "_law_under"] (spLow) := ⟨f__law_in_lowest, e__law_in_lowest, ok__law_in_lowest F__law_in_lowest T, m__law_in_lowest, F__law_in_lowest.kp, b__law_in_lowest⟩
  have C_law_most_won : Cal l.prog w K mg base 7 "_law_most_won" ["_law_many", "_law_seen", "_law_hands", "_law_places"] (spMwA) := ⟨f__law_most_won, e__law_most_won, ok__law_most_won F__law_most_won T m__law_most_won b__law_most_won, m__law_most_won, F__law_most_won.kp, b__law_most_won⟩
  have C_law_seen_of : Cal l.prog w K mg base 1 "_law_seen_of" ["_law_order"] (spSeen) := ⟨f__law_seen_of, e__law_seen_of, ok__law_seen_of F__law_seen_of T, m__law_seen_of, F__law_seen_of.kp, b__law_seen_of⟩
  have C_law_drawn_way_wins : Cal l.prog w K mg base 3 "_law_drawn_way_wins" ["_law_spring", "_law_many", "_law_hands", "_law_orders"] (spDrawn) := ⟨f__law_drawn_way_wins, e__law_drawn_way_wins, ok__law_drawn_way_wins F__law_drawn_way_wins T C_law_take C_law_seen_of, m__law_drawn_way_wins, F__law_drawn_way_wins.kp, b__law_drawn_way_wins⟩
  exact ok_law F_law T TX C_law_spring_of C_law_take C_law_of C_law_own_orders C_law_in_lowest C_law_most_won C_law_drawn_way_wins Cwins Crule_share Cbest_share Crule Ctable Cshows_no_better
theorem walk {l : PySem.W.OpenLaw} {q : Program} {loose : List Str} {XP : (Str → Option Value) → Heap → Prop} {YP : World → Heap → Prop} {d : DefRec} {K : Params → PySem.W.Frag} (hn : l.most = some 63) (hdf : d.params.defaults = [])
    (hY : ∀ (w : World) (h : Heap), YP w h → (K w.params).In h)
    (F : ∀ (w : World) (mg : Str → Option Value) (fa : Addr) (h : Heap), (K w.params).In h → h.Ns mainGlobals mg → mg d.name = some (.ref fa) →
      ∃ fd : FuncData, (∀ (s : Shared) (u : Value), BindsTo s fd ⟨[u], []⟩ [("_law_script", u)]) ∧ ∀ base : Heap, (K w.params).In base → base.Ns mainGlobals mg → FnOk l.prog w (K w.params) mg base CX0 9 fa fd ["_law_script"] (spLaw (K w.params))) :
    PySem.W.WalkO q loose XP YP l.row.toRowW d [] (fun f vs => PySem.call f vs) :=
  L2.walk_of (n := 63) (k := 9) (x := "_law_script") (CX := fun _ => CX0) (sp := fun w => spLaw (K w.params)) hn (by decide) hdf ⟨rfl, by decide, by decide, rfl⟩ hY F (fun _ _ a ns hl _ hS => ⟨a, ns, rfl, hS, hl, fun _ => rfl⟩) fun _ _ _ _ _ z => z
end K89
open PySem PySem.W PyProof.Rows
set_option maxRecDepth 100000 in
set_option maxHeartbeats 0 in
theorem PySem.Challenge.cw_shuffletold_k89_whole_no_way_wins_more_holds : PySem.Challenge.rw_shuffletold_k89_whole_no_way_wins_more.Holds := by
  w_on; o_law; k_head; (case hw => w_witness2)
  k_fill
  refine K89.walk (l := PySem.Challenge.rw_shuffletold_k89_whole_no_way_wins_more) rfl rfl (fun w h Y => PySem.W.kIn_of Y) ?F
  case F =>
    intro w mg fa h KX G hmg
    refine' K89.all_mk KX G hmg ⟨?_, ?_, ?_, ?_, ?_, ?_, ?_, ?_, ?_, ?_, ?_, ?_, ?_, ?_, ?_⟩ ⟨?_, ?_, ?_⟩ ⟨?_⟩ (L2.Def.of ?a0 ?l0 ?c0 ?k0) (L2.Def.of ?a1 ?l1 ?c1 ?k1) (L2.Def.of ?a2 ?l2 ?c2 ?k2) (L2.Def.of ?a3 ?l3 ?c3 ?k3) (L2.Def.of ?a4 ?l4 ?c4 ?k4) (L2.Def.of ?a5 ?l5 ?c5 ?k5) (L2.Def.of ?a6 ?l6 ?c6 ?k6) (L2.Def.of ?a7 ?l7 ?c7 ?k7) (L2.Def.of ?a8 ?l8 ?c8 ?k8) (L2.Def.of ?a9 ?l9 ?c9 ?k9) (L2.Def.of ?a10 ?l10 ?c10 ?k10) (L2.Def.of ?a11 ?l11 ?c11 ?k11) (L2.Def.of ?a12 ?l12 ?c12 ?k12) (L2.Def.of ?a13 ?l13 ?c13 ?k13) (L2.Def.of ?a14 ?l14 ?c14 ?k14) (L2.Def.of ?a15 ?l15 ?c15 ?k15) (L2.Def.of ?a16 ?l16 ?c16 ?k16) (L2.Def.of ?a17 ?l17 ?c17 ?k17) (L2.Def.of ?a18 ?l18 ?c18 ?k18) (L2.Def.of ?a19 ?l19 ?c19 ?k19) (L2.Def.of ?a20 ?l20 ?c20 ?k20) (L2.Def.of ?a21 ?l21 ?c21 ?k21) (L2.Def.of ?a22 ?l22 ?c22 ?k22) (L2.Def.of ?a23 ?l23 ?c23 ?k23) (L2.Def.of ?a24 ?l24 ?c24 ?k24) (L2.Def.of ?a25 ?l25 ?c25 ?k25) (L2.Def.of ?a26 ?l26 ?c26 ?k26) (L2.Def.of ?a27 ?l27 ?c27 ?k27) (L2.Def.of ?a28 ?l28 ?c28 ?k28) (L2.Def.of ?a29 ?l29 ?c29 ?k29) (L2.Def.of ?a30 ?l30 ?c30 ?k30) (L2.Def.of ?a31 ?l31 ?c31 ?k31)
    (case a0 => k_is); (case l0 => k_is); (case c0 => k_is); (case k0 => k_is)
    (case a1 => k_is); (case l1 => k_is); (case c1 => k_is); (case k1 => k_is)
    (case a2 => k_is); (case l2 => k_is); (case c2 => k_is); (case k2 => k_is)
    (case a3 => k_is); (case l3 => k_is); (case c3 => k_is); (case k3 => k_is)
    (case a4 => k_is); (case l4 => k_is); (case c4 => k_is); (case k4 => k_is)
    (case a5 => k_is); (case l5 => k_is); (case c5 => k_is); (case k5 => k_is)
    (case a6 => k_is); (case l6 => k_is); (case c6 => k_is); (case k6 => k_is)
    (case a7 => k_is); (case l7 => k_is); (case c7 => k_is); (case k7 => k_is)
    (case a8 => k_is); (case l8 => k_is); (case c8 => k_is); (case k8 => k_is)
    (case a9 => k_is); (case l9 => k_is); (case c9 => k_is); (case k9 => k_is)
    (case a10 => k_is); (case l10 => k_is); (case c10 => k_is); (case k10 => k_is)
    (case a11 => k_is); (case l11 => k_is); (case c11 => k_is); (case k11 => k_is)
    (case a12 => k_is); (case l12 => k_is); (case c12 => k_is); (case k12 => k_is)
    (case a13 => k_is); (case l13 => k_is); (case c13 => k_is); (case k13 => k_is)
    (case a14 => k_is); (case l14 => k_is); (case c14 => k_is); (case k14 => k_is)
    (case a15 => k_is); (case l15 => k_is); (case c15 => k_is); (case k15 => k_is)
    (case a16 => k_is); (case l16 => k_is); (case c16 => k_is); (case k16 => k_is)
    (case a17 => k_is); (case l17 => k_is); (case c17 => k_is); (case k17 => k_is)
    (case a18 => k_is); (case l18 => k_is); (case c18 => k_is); (case k18 => k_is)
    (case a19 => k_is); (case l19 => k_is); (case c19 => k_is); (case k19 => k_is)
    (case a20 => k_is); (case l20 => k_is); (case c20 => k_is); (case k20 => k_is)
    (case a21 => k_is); (case l21 => k_is); (case c21 => k_is); (case k21 => k_is)
    (case a22 => k_is); (case l22 => k_is); (case c22 => k_is); (case k22 => k_is)
    (case a23 => k_is); (case l23 => k_is); (case c23 => k_is); (case k23 => k_is)
    (case a24 => k_is); (case l24 => k_is); (case c24 => k_is); (case k24 => k_is)
    (case a25 => k_is); (case l25 => k_is); (case c25 => k_is); (case k25 => k_is)
    (case a26 => k_is); (case l26 => k_is); (case c26 => k_is); (case k26 => k_is)
    (case a27 => k_is); (case l27 => k_is); (case c27 => k_is); (case k27 => k_is)
    (case a28 => k_is); (case l28 => k_is); (case c28 => k_is); (case k28 => k_is)
    (case a29 => k_is); (case l29 => k_is); (case c29 => k_is); (case k29 => k_is)
    (case a30 => k_is); (case l30 => k_is); (case c30 => k_is); (case k30 => k_is)
    (case a31 => k_is); (case l31 => k_is); (case c31 => k_is); (case k31 => k_is)
    all_goals k_is

