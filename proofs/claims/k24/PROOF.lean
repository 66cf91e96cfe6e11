import PyProof.Rows.All
import Wide.All
import OpenK.AllK
import Wide.FinOn
import Lean
import PyProof.EqAt
import PyProof.EqKinds
import PyProof.TupleCall
import PySem.Challenge.RW_truceroll_k24_clauses_joined
section
set_option Elab.async false
set_option linter.all false
set_option maxRecDepth 100000
/-! THE HAND LAYER, for ints, bools, texts, own classes, LISTS and tuples (index, slices, in, append, pop ..), calls, loops. Paste it whole ahead of your own text; what your proof does not reach may be deleted. -/
namespace L2
open PySem PySem.Spec PyProof.Rows

/-- a key: an int or a str -/
abbrev Key := Sum Int Str
def keyIs : Key → Value → Bool
  | .inl k, v => Value.isInt k v
  | .inr x, v => Value.isStrOf x v
def keyH (w : World) : Key → Int
  | .inl k => hashInt k
  | .inr x => hashStr w x
theorem keyIs_shape : ∀ {k : Key} {v : Value}, keyIs k v = true → (∃ i t, k = Sum.inl i ∧ v = Value.int i t) ∨ (∃ x t, k = Sum.inr x ∧ v = Value.str x t)
  | .inl i, v, h => by
    obtain ⟨t, e⟩ := Value.isInt_shape (k := i) (v := v) h
    exact .inl ⟨i, t, rfl, e⟩
  | .inr x, v, h => by
    obtain ⟨t, e⟩ := Value.isStrOf_shape (x := x) (v := v) h
    exact .inr ⟨x, t, rfl, e⟩
theorem keyIs_int (i : Int) (t : Tok) : keyIs (.inl i) (.int i t) = true := by simp [keyIs, Value.isInt]
theorem keyIs_str (x : Str) (t : Tok) : keyIs (.inr x) (.str x t) = true := by simp [keyIs, Value.isStrOf]
theorem key_ll (a b : Int) : decide ((Sum.inl a : Key) = Sum.inl b) = (a == b) := by
  by_cases e : a = b
  · subst e; simp
  · have h : ¬ (Sum.inl a : Key) = Sum.inl b := fun q => e (Sum.inl.inj q)
    rw [decide_eq_false h]
    exact (beq_eq_false_iff_ne.mpr e).symm
theorem key_rr (a b : Str) : decide ((Sum.inr a : Key) = Sum.inr b) = decide (a = b) := by
  by_cases e : a = b
  · subst e; simp
  · have h : ¬ (Sum.inr a : Key) = Sum.inr b := fun q => e (Sum.inr.inj q)
    rw [decide_eq_false h, decide_eq_false e]
theorem key_lr (a : Int) (b : Str) : decide ((Sum.inl a : Key) = Sum.inr b) = false := decide_eq_false (fun q => nomatch q)
theorem key_rl (a : Str) (b : Int) : decide ((Sum.inr a : Key) = Sum.inl b) = false := decide_eq_false (fun q => nomatch q)

def mixKind (prog : Program) (w : World) : PySem.KeyKind prog w Key where
  is := keyIs
  hash := keyH w
  inj := fun v a b ha hb => by
    rcases keyIs_shape ha with ⟨i, t, rfl, rfl⟩ | ⟨x, t, rfl, rfl⟩
    · rcases keyIs_shape hb with ⟨j, u, rfl, e⟩ | ⟨y, u, rfl, e⟩
      · injection e with e1 _; rw [e1]
      · exact nomatch e
    · rcases keyIs_shape hb with ⟨j, u, rfl, e⟩ | ⟨y, u, rfl, e⟩
      · exact nomatch e
      · injection e with e1 _; rw [e1]
  byValue := fun k v h => by
    rcases keyIs_shape h with ⟨i, t, rfl, rfl⟩ | ⟨x, t, rfl, rfl⟩ <;> rfl
  pyHash := fun hv h => by
    rcases keyIs_shape hv with ⟨i, t, rfl, rfl⟩ | ⟨x, t, rfl, rfl⟩
    · exact wpAny_pyHash_int h
    · exact wpAny_pyHash_str h
  eqBool := fun hu hv h => by
    rcases keyIs_shape hu with ⟨i, t, rfl, rfl⟩ | ⟨x, t, rfl, rfl⟩
    · rcases keyIs_shape hv with ⟨j, u, rfl, rfl⟩ | ⟨y, u, rfl, rfl⟩
      · rw [key_ll] at h; exact wpAny_eqBool_int h
      · rw [key_lr] at h; exact SeqAt.EqAt.int_str i t y u _ _ _ _ h
    · rcases keyIs_shape hv with ⟨j, u, rfl, rfl⟩ | ⟨y, u, rfl, rfl⟩
      · rw [key_rl] at h; exact SeqAt.EqAt.str_int x t j u _ _ _ _ h
      · rw [key_rr] at h; exact wpAny_eqBool_str h
  «strs» := fun k x t v h => by
    rcases keyIs_shape h with ⟨i, u, rfl, e⟩ | ⟨y, u, rfl, e⟩
    · exact nomatch e
    · injection e with e1 _
      subst e1
      cases v <;> rfl

theorem mixKind_int (prog : Program) (w : World) (i : Int) (t : Tok) : (mixKind prog w).is (.inl i) (.int i t) = true := keyIs_int i t
theorem mixKind_str (prog : Program) (w : World) (x : Str) (t : Tok) : (mixKind prog w).is (.inr x) (.str x t) = true := keyIs_str x t
end L2

namespace L2
open PySem PySem.Spec PyProof.Rows

/-- a value, without the heap -/
inductive V where
  | non | bl (b : Bool) | int (i : Int) | str (x : Str) | byt (b : Array UInt8) | flt (b : UInt64) | ref (a : Addr) | ty (n : String)
  deriving DecidableEq

def RelV : V → Value → Prop
  | .non, u => u = Value.none
  | .bl b, u => u = Value.bool b
  | .int i, u => ∃ t, u = Value.int i t
  | .str x, u => ∃ t, u = Value.str x t
  | .byt b, u => ∃ t, u = Value.bytes b t
  | .flt b, u => ∃ t, u = Value.float b t
  | .ref a, u => u = Value.ref a
  | .ty n, u => u = Value.type n

abbrev Vals : List V → List Value → Prop := Paired RelV
theorem Vals.length {xs : List V} {us : List Value} (r : Vals xs us) : xs.length = us.length := Paired.length r
theorem Vals.get : ∀ {xs : List V} {us : List Value} {i : Nat} {x : V}, Vals xs us → xs[i]? = some x → ∃ u, us[i]? = some u ∧ RelV x u
  | _, _, _, _, .nil, e => by simp at e
  | _, _, 0, _, .cons r _, e => by simp at e; subst e; exact ⟨_, rfl, r⟩
  | _, _, i + 1, x, .cons _ t, e => by
    obtain ⟨u, h1, h2⟩ := Vals.get (i := i) (x := x) t (by simpa using e)
    exact ⟨u, by simpa using h1, h2⟩
theorem Vals.set {x : V} {u : Value} (r : RelV x u) : ∀ {xs : List V} {us : List Value} (i : Nat), Vals xs us → Vals (xs.set i x) (us.set i u)
  | _, _, _, .nil => .nil
  | _, _, 0, .cons _ t => .cons r t
  | _, _, i + 1, .cons q t => .cons q (Vals.set r i t)
theorem Vals.append : ∀ {xs ys : List V} {us ws : List Value}, Vals xs us → Vals ys ws → Vals (xs ++ ys) (us ++ ws)
  | _, _, _, _, .nil, s => s
  | _, _, _, _, .cons r t, s => .cons r (Vals.append t s)
theorem Vals.take : ∀ {xs : List V} {us : List Value} (n : Nat), Vals xs us → Vals (xs.take n) (us.take n)
  | _, _, 0, _ => .nil
  | _, _, _ + 1, .nil => .nil
  | _, _, n + 1, .cons r t => .cons r (Vals.take n t)
theorem Vals.drop : ∀ {xs : List V} {us : List Value} (n : Nat), Vals xs us → Vals (xs.drop n) (us.drop n)
  | _, _, 0, r => r
  | _, _, _ + 1, .nil => .nil
  | _, _, n + 1, .cons _ t => Vals.drop n t
def RelO : Option V → Option Value → Prop
  | some v, some u => RelV v u
  | none, none => True
  | _, _ => False
def KV {κ : Type} : List (κ × V) → List (κ × Value) → Prop := Paired fun (p : κ × V) (q : κ × Value) => p.1 = q.1 ∧ RelV p.2 q.2

/-- a key of a dict (00_mix): an int or a text -/
def kV : Key → V
  | .inl i => .int i
  | .inr x => .str x

/-- what stands at a tracked address -/
inductive HO where
  /-- a list -/
  | lst (xs : List V)
  /-- a tuple (never changes) -/
  | tup (xs : List V)
  /-- a dict whose keys are ints and texts; one whose keys are tuples of ints and texts (the empty one is both) -/
  | dK (kvs : List (Key × V)) | dT (kvs : List (List Key × V))
  /-- a set of ints: its members, its size -/
  | set (S : Int → Bool) (n : Nat)
  /-- an instance of the class at C, its dict at dx, its attributes -/
  | ins (C dx : Addr) (fs : List (Str × V))
  /-- the dict of the instance at x -/
  | own (x : Addr)
  /-- the dict of an exception -/
  | xd (fs : List (Str × V))
  /-- a bound method, f of x -/
  | met (f x : Addr)
  /-- a range object lo, lo + 1, .. below hi -/
  | rng (lo hi : Int)
  /-- a thing that is known to the object (the script; a dict while a loop walks it): read, never written while it is so -/
  | frz (o : Obj) (u : HO)
  /-- a code object's table -/
  | tbl (ps : Array Value)
  /-- any other thing, by what is true of its one object (a def of one's own: SetO a S n := HO.ext fun h => ..) -/
  | ext (φ : Heap → Prop)

abbrev Hp := Addr → Option HO
def upd (H : Hp) (a : Addr) (o : HO) : Hp := fun b => if b = a then some o else H b
theorem upd_same {H : Hp} {a : Addr} {o : HO} : upd H a o a = some o := by unfold upd; rw [if_pos rfl]
theorem upd_ne {H : Hp} {a b : Addr} {o : HO} (h : b ≠ a) : upd H a o b = H b := by unfold upd; rw [if_neg h]
theorem upd_upd {H : Hp} {a : Addr} {o u : HO} : upd (upd H a o) a u = upd H a u := by
  funext b; unfold upd; split <;> rfl
/-- two objects of different content stand apart -/
theorem ne_of {H : Hp} {a b : Addr} {o u : HO} (h : H a = some o) (h' : H b = some u) (d : o ≠ u) : a ≠ b := by
  intro e; subst e; rw [h] at h'; exact d (Option.some.inj h')
theorem ne_of_none {H : Hp} {a b : Addr} {o : HO} (h : H a = some o) (h' : H b = none) : a ≠ b := by
  intro e; subst e; rw [h] at h'; cases h'

section
variable (P : Program) (w : World)
def ObjOk (H : Hp) (h : Heap) (a : Addr) : HO → Prop
  | .lst xs => xs.length ≤ sizeLine ∧ ∃ (its : List Value) (n : Nat), Vals xs its ∧ h.get? a = some { cls := .type "list", data := .seq its.toArray n }
  | .tup xs => xs.length ≤ sizeLine ∧ ∃ its : List Value, Vals xs its ∧ IsTup h a its.toArray
  | .dK kvs => kvs.length ≤ sizeLine ∧ (a == sysModules) = false ∧ ∃ vs, KV kvs vs ∧ h.DictOf (mixKind P w) a vs
  | .dT kvs => kvs.length ≤ sizeLine ∧ (a == sysModules) = false ∧ ∃ xs : List (List Key × Addr × Value),
      Paired (fun (p : List Key × V) (q : List Key × Addr × Value) => p.1 = q.1 ∧ H q.2.1 = some (.tup (p.1.map kV)) ∧ RelV p.2 q.2.2) kvs xs ∧
      ∃ o es ep, h.get? a = some o ∧ o.ExactDict ∧ o.data = .dict es ep ∧ es.toList = xs.map (entryOfKey (tupleKind (mixKind P w))) ∧ (xs.map (·.1)).Nodup
  | .set S n => h.SetOf (intKind P w) a S n
  | .ins C dx fs => H dx = some (.own a) ∧ fs.length ≤ 1000 ∧ dx ≠ a ∧ h.get? a = some (PySem.W.instObj C dx) ∧
      ∃ mA, h.Ns1 dx mA ∧ (∀ f, RelO (fs.lookup f) (mA f)) ∧ PySem.Within mA (fs.map (·.1))
  | .own _ => ∃ o, h.get? a = some o
  | .xd fs => ∃ mA, h.Ns1 a mA ∧ ∀ f, RelO (fs.lookup f) (mA f)
  | .rng lo hi => ∃ t u v, h.get? a = some { cls := .type "range", data := .fields #[.int lo t, .int hi u, .int 1 v] }
  | .frz o u => h.get? a = some o ∧ ObjOk H h a u
  | .tbl ps => h.get? a = some { cls := .none, data := .fields ps }
  | .met f x => h.get? a = some (PySem.W.methodObj (.ref f) (.ref x))
  | .ext φ => φ h ∧ (∃ o, h.get? a = some o) ∧ ∀ h1 h2 : Heap, φ h1 → (∀ o, h1.get? a = some o → h2.get? a = some o) → φ h2
/-- the abstract heap is held -/
def HOk (H : Hp) (h : Heap) : Prop := ∀ a o, H a = some o → ObjOk P w H h a o
end

section
variable {P : Program} {w : World} {H H' : Hp} {h h' : Heap} {a : Addr} {o : HO}
theorem ObjOk.lt (x : ObjOk P w H h a o) : a < h.objs.size := by
  cases o with
  | lst xs => obtain ⟨_, _, _, _, e⟩ := x; exact Heap.lt_size e
  | tup xs => obtain ⟨_, _, _, p⟩ := x; exact p.lt
  | dK kvs => obtain ⟨_, _, _, _, o, _, _, e, _⟩ := x; exact Heap.lt_size e
  | dT kvs => obtain ⟨_, _, _, _, o, _, _, e, _⟩ := x; exact Heap.lt_size e
  | set S n => obtain ⟨o, _, _, _, e, _⟩ := x; exact Heap.lt_size e
  | ins C dx fs => obtain ⟨_, _, _, e, _⟩ := x; exact Heap.lt_size e
  | own y => obtain ⟨_, e⟩ := x; exact Heap.lt_size e
  | xd fs => obtain ⟨_, ⟨_, _, _, e, _⟩, _⟩ := x; exact Heap.lt_size e
  | rng lo hi => obtain ⟨_, _, _, e⟩ := x; exact Heap.lt_size e
  | frz ob u => obtain ⟨e, _⟩ := x; exact Heap.lt_size e
  | tbl ps => exact Heap.lt_size (show h.get? a = some _ from x)
  | met f y => exact Heap.lt_size (show h.get? a = some _ from x)
  | ext φ => obtain ⟨_, ⟨_, e⟩, _⟩ := x; exact Heap.lt_size e
theorem Paired.mapP {α β : Type} {F G : α → β → Prop} : ∀ {l₁ : List α} {l₂ : List β}, Paired F l₁ l₂ → (∀ a b, F a b → G a b) → Paired G l₁ l₂
  | _, _, .nil, _ => .nil
  | _, _, .cons r t, f => .cons (f _ _ r) (Paired.mapP t f)
/-- what an object's description leans on: its own object, its own dict, the tuples -/
theorem ObjOk.stay (x : ObjOk P w H h a o) (k : ∀ b u, (b = a ∨ H b = some (.own a)) → h.get? b = some u → h'.get? b = some u)
    (ho : ∀ b, H b = some (.own a) → H' b = some (.own a)) (ht : ∀ b xs, H b = some (.tup xs) → H' b = some (.tup xs)) : ObjOk P w H' h' a o := by
  induction o with
  | lst xs => obtain ⟨z, its, n, r, e⟩ := x; exact ⟨z, its, n, r, k _ _ (.inl rfl) e⟩
  | tup xs => obtain ⟨z, its, r, ob, e, c⟩ := x; exact ⟨z, its, r, ob, k _ _ (.inl rfl) e, c⟩
  | dK kvs => obtain ⟨z, y, vs, r, ob, es, ep, e, c⟩ := x; exact ⟨z, y, vs, r, ob, es, ep, k _ _ (.inl rfl) e, c⟩
  | dT kvs =>
    obtain ⟨z, y, xs, r, ob, es, ep, e, c⟩ := x
    exact ⟨z, y, xs, Paired.mapP r fun p q z => ⟨z.1, ht _ _ z.2.1, z.2.2⟩, ob, es, ep, k _ _ (.inl rfl) e, c⟩
  | set S n => obtain ⟨ob, es, ep, t, e, c⟩ := x; exact ⟨ob, es, ep, t, k _ _ (.inl rfl) e, c⟩
  | ins C dx fs =>
    obtain ⟨d, z, ne, e, mA, ⟨od, es, ep, e2, c⟩, r⟩ := x
    exact ⟨ho _ d, z, ne, k _ _ (.inl rfl) e, mA, ⟨od, es, ep, k _ _ (.inr d) e2, c⟩, r⟩
  | own y => obtain ⟨ob, e⟩ := x; exact ⟨ob, k _ _ (.inl rfl) e⟩
  | xd fs => obtain ⟨mA, ⟨od, es, ep, e, c⟩, r⟩ := x; exact ⟨mA, ⟨od, es, ep, k _ _ (.inl rfl) e, c⟩, r⟩
  | rng lo hi => obtain ⟨t, u, v, e⟩ := x; exact ⟨t, u, v, k _ _ (.inl rfl) e⟩
  | frz ob u ih => obtain ⟨e, q⟩ := x; exact ⟨k _ _ (.inl rfl) e, ih q⟩
  | tbl ps =>
    have e : h.get? a = some { cls := .none, data := .fields ps } := x
    show h'.get? a = some { cls := .none, data := .fields ps }
    exact k a _ (.inl rfl) e
  | met f y =>
    have e : h.get? a = some (PySem.W.methodObj (.ref f) (.ref y)) := x
    show h'.get? a = some (PySem.W.methodObj (.ref f) (.ref y))
    exact k a _ (.inl rfl) e
  | ext φ => obtain ⟨p, ⟨o, e⟩, st⟩ := x; exact ⟨st _ _ p fun o q => k _ _ (.inl rfl) q, ⟨o, k _ _ (.inl rfl) e⟩, st⟩
theorem HOk.lt (x : HOk P w H h) (e : H a = some o) : a < h.objs.size := (x a o e).lt
theorem HOk.fresh (x : HOk P w H h) (e : h.objs.size ≤ a) : H a = none := by
  cases q : H a with
  | none => rfl
  | some u => exact absurd (Nat.lt_of_lt_of_le (x.lt q) e) (Nat.lt_irrefl _)
/-- every object of the heap is kept -/
theorem HOk.kept (x : HOk P w H h) (k : ∀ b u, h.get? b = some u → h'.get? b = some u) : HOk P w H h' := fun a o e =>
  (x a o e).stay (fun b u _ q => k b u q) (fun _ q => q) fun _ _ q => q
/-- a new object is laid and tracked -/
theorem HOk.laid (x : HOk P w H h) (k : ∀ b u, h.get? b = some u → h'.get? b = some u) (hp : h.objs.size ≤ a) (new : ObjOk P w (upd H a o) h' a o) : HOk P w (upd H a o) h' := fun b u e => by
  have hn := x.fresh hp
  by_cases hb : b = a
  · subst hb; rw [upd_same] at e; cases e; exact new
  · rw [upd_ne hb] at e
    exact (x b u e).stay (fun c v _ q => k c v q) (fun c q => by rw [upd_ne (ne_of_none q hn)]; exact q) fun c xs q => by rw [upd_ne (ne_of_none q hn)]; exact q
end

/-- what may be read as u: it is u, or a known u -/
def Rd (H : Hp) (a : Addr) (u : HO) : Prop := H a = some u ∨ ∃ o, H a = some (.frz o u)
theorem Rd.of {H : Hp} {a : Addr} {u : HO} (h : H a = some u) : Rd H a u := .inl h
theorem Rd.ok {P : Program} {w : World} {H : Hp} {h : Heap} {a : Addr} {u : HO} (r : Rd H a u) (x : HOk P w H h) : ObjOk P w H h a u := by
  rcases r with r | ⟨o, r⟩
  · exact x a u r
  · obtain ⟨_, q⟩ := x a _ r
    exact q
/-- what may be written -/
def Mut : Option HO → Prop
  | some (.lst _) => True
  | some (.dK _) => True
  | some (.dT _) => True
  | some (.set _ _) => True
  | some (.ins _ _ _) => True
  | some (.ext _) => True
  | _ => False
section
variable {P : Program} {w : World} {H : Hp} {h h' : Heap} {x e : Addr} {o' : HO}
/-- the object at e is changed: x itself, or the dict of the instance x -/
theorem HOk.write (ok : HOk P w H h) (mu : Mut (H x)) (he : e = x ∨ H e = some (.own x)) (k : ∀ b u, b ≠ e → h.get? b = some u → h'.get? b = some u) (heo : ∃ u, h'.get? e = some u)
    (new : ObjOk P w (upd H x o') h' x o') : HOk P w (upd H x o') h' := fun b u q => by
  have nown : ∀ c y, H c = some (.own y) → c ≠ x := fun c y r z => by subst z; rw [r] at mu; exact mu
  have ntup : ∀ c xs, H c = some (.tup xs) → c ≠ x := fun c xs r z => by subst z; rw [r] at mu; exact mu
  by_cases hb : b = x
  · subst hb; rw [upd_same] at q; cases q; exact new
  · rw [upd_ne hb] at q
    by_cases hbe : b = e
    · have q' : H b = some (.own x) := by
        rcases he with z | z
        · exact absurd (hbe.trans z) hb
        · rw [hbe]; exact z
      rw [q] at q'; cases q'
      obtain ⟨v, hv⟩ := heo
      exact ⟨v, by rw [hbe]; exact hv⟩
    · refine (ok b u q).stay (fun c v hc r => k c v ?_ r) (fun c r => by rw [upd_ne (nown c b r)]; exact r) fun c xs r => by rw [upd_ne (ntup c xs r)]; exact r
      rcases hc with rfl | hc
      · exact hbe
      · rintro rfl
        rcases he with z | z
        · exact nown c b hc z
        · rw [hc] at z; cases z; exact hb rfl
end

/-! ### kept unless tracked; of the frames at fs (the callers') the slots may change (an exception that passes writes there); of the records at ex (iterators) nothing is said -/
structure Un (fs ex : List Addr) (H H' : Hp) (h h' : Heap) : Prop where
  keep : ∀ b o, h.get? b = some o → H b = none → b ∉ fs → b ∉ ex → h'.get? b = some o
  slot : ∀ b o, h.get? b = some o → H b = none → b ∈ fs → b ∉ ex → ∃ sl, h'.get? b = some { o with slots := sl }
  free : ∀ b o, h.get? b = some o → H b = none → b ∉ ex → H' b = none
  there : ∀ b o, h.get? b = some o → b ∉ ex → ∃ o', h'.get? b = some o'
  tups : ∀ b xs, H b = some (.tup xs) → H' b = some (.tup xs)
  frzs : ∀ b o u, H b = some (.frz o u) → H' b = some (.frz o u)
  tbls : ∀ b ps, H b = some (.tbl ps) → ∃ more, H' b = some (.tbl (ps ++ more))
section
variable {fs fs' ex ex' : List Addr} {H H1 H2 : Hp} {h h1 h2 h' : Heap} {a x e : Addr} {o : HO}
theorem Un.any (u : Un fs ex H H1 h h1) {b : Addr} {ob : Obj} (q : h.get? b = some ob) (n : H b = none) (hx : b ∉ ex) : ∃ sl, h1.get? b = some { ob with slots := sl } := by
  by_cases hb : b ∈ fs
  · exact u.slot b ob q n hb hx
  · exact ⟨ob.slots, u.keep b ob q n hb hx⟩
theorem Un.trans (a : Un fs ex H H1 h h1) (b : Un fs ex H1 H2 h1 h2) : Un fs ex H H2 h h2 where
  keep := fun c ob q n hc hx => b.keep c ob (a.keep c ob q n hc hx) (a.free c ob q n hx) hc hx
  slot := fun c ob q n hc hx => by
    obtain ⟨sl, e1⟩ := a.slot c ob q n hc hx
    obtain ⟨sl', e2⟩ := b.slot c _ e1 (a.free c ob q n hx) hc hx
    exact ⟨sl', e2⟩
  free := fun c ob q n hx => by
    obtain ⟨o', e1⟩ := a.there c ob q hx
    exact b.free c o' e1 (a.free c ob q n hx) hx
  there := fun c ob q hx => by
    obtain ⟨o', e1⟩ := a.there c ob q hx
    exact b.there c o' e1 hx
  tups := fun c xs q => b.tups c xs (a.tups c xs q)
  frzs := fun c ob xs q => b.frzs c ob xs (a.frzs c ob xs q)
  tbls := fun c ps q => by
    obtain ⟨m1, e1⟩ := a.tbls c ps q
    obtain ⟨m2, e2⟩ := b.tbls c _ e1
    exact ⟨m1 ++ m2, by rw [e2, Array.append_assoc]⟩
theorem Un.kept (k : ∀ b u, h.get? b = some u → h'.get? b = some u) : Un fs ex H H h h' :=
  ⟨fun b ob q _ _ _ => k b ob q, fun b ob q _ _ _ => ⟨ob.slots, k b ob q⟩, fun _ _ _ n _ => n, fun b ob q _ => ⟨ob, k b ob q⟩, fun _ _ q => q, fun _ _ _ q => q, fun _ ps q => ⟨#[], by rw [q]; simp⟩⟩
theorem Un.refl : Un fs ex H H h h := Un.kept fun _ _ q => q
theorem Un.laid (k : ∀ b u, h.get? b = some u → h'.get? b = some u) (hp : h.objs.size ≤ a) (hn : H a = none) : Un fs ex H (upd H a o) h h' where
  keep := fun b u q _ _ _ => k b u q
  slot := fun b u q _ _ _ => ⟨u.slots, k b u q⟩
  free := fun b u q n _ => by rw [upd_ne (Nat.ne_of_lt (Nat.lt_of_lt_of_le (Heap.lt_size q) hp))]; exact n
  there := fun b u q _ => ⟨u, k b u q⟩
  tups := fun b xs q => by rw [upd_ne (ne_of_none q hn)]; exact q
  frzs := fun b u xs q => by rw [upd_ne (ne_of_none q hn)]; exact q
  tbls := fun b ps q => ⟨#[], by rw [upd_ne (ne_of_none q hn), q]; simp⟩
theorem Un.write (mu : Mut (H x)) (he : e = x ∨ H e = some (.own x)) (k : ∀ b u, b ≠ e → h.get? b = some u → h'.get? b = some u) (heo : ∃ u, h'.get? e = some u) : Un fs ex H (upd H x o) h h' := by
  have hx : ∀ b, H b = none → b ≠ x := fun b n z => by subst z; rw [n] at mu; exact mu
  have hb : ∀ b, H b = none → b ≠ e := fun b n z => by
    subst z
    rcases he with r | r
    · exact hx b n r
    · rw [n] at r; cases r
  have hm : ∀ b u, H b = some u → ¬ Mut (some u) → b ≠ x := fun b u q nm z => by subst z; rw [q] at mu; exact nm mu
  refine ⟨fun b u q n _ _ => k b u (hb b n) q, fun b u q n _ _ => ⟨u.slots, k b u (hb b n) q⟩, fun b u q n _ => by rw [upd_ne (hx b n)]; exact n, fun b u q _ => ?_,
    fun b xs q => by rw [upd_ne (hm b _ q fun z => z)]; exact q, fun b u xs q => by rw [upd_ne (hm b _ q fun z => z)]; exact q, fun b ps q => ⟨#[], by rw [upd_ne (hm b _ q fun z => z), q]; simp⟩⟩
  by_cases hbe : b = e
  · subst hbe; exact heo
  · exact ⟨u, k b u hbe q⟩
theorem Un.mono (u : Un fs ex H H1 h h1) (hs : ∀ b ∈ fs, b ∈ fs') (hx : ∀ b ∈ ex, b ∈ ex') : Un fs' ex' H H1 h h1 :=
  ⟨fun b ob q n hb he => u.keep b ob q n (fun z => hb (hs b z)) fun z => he (hx b z), fun _ _ q n _ he => u.any q n fun z => he (hx _ z), fun b ob q n he => u.free b ob q n fun z => he (hx b z), fun b ob q he => u.there b ob q fun z => he (hx b z), u.tups, u.frzs, u.tbls⟩
end

/-! ### the heap without what is tracked -/
def trk (h : Heap) (H : Hp) : List Addr := (List.range h.objs.size).filter fun a => (H a).isSome
def hidT (h : Heap) (H : Hp) : Heap := PySem.W.hideAll h (trk h H)
theorem hidT_size (h : Heap) (H : Hp) : (hidT h H).objs.size = h.objs.size := PySem.W.hideAll_size _ _
theorem hidT_get {h : Heap} {H : Hp} {b : Addr} {o : Obj} (e : h.get? b = some o) (n : H b = none) : (hidT h H).get? b = some o :=
  PySem.W.hideAll_get _ e fun hm => by
    have q : (H b).isSome = true := (List.mem_filter.mp hm).2
    rw [n] at q; simp at q
theorem of_hidT {h : Heap} {H : Hp} {b : Addr} {o : Obj} (e : (hidT h H).get? b = some o) : h.get? b = some o ∧ H b = none := by
  have e' : h.get? b = some o := PySem.W.of_hideAll (trk h H) e
  refine ⟨e', ?_⟩
  cases q : H b with
  | none => rfl
  | some x =>
    have hm : b ∈ trk h H := List.mem_filter.mpr ⟨List.mem_range.mpr (Heap.lt_size e'), by simp [q]⟩
    have z : (hidT h H).get? b = none := PySem.W.hideAll_none (trk h H) hm
    rw [z] at e; cases e

/-! ### OpenK's ledger, filled with every new object but one -/
def allNews (g h : Heap) (L : Addr) : List (Addr × Obj) := (List.range h.objs.size).filterMap fun a => if a = L ∨ (g.get? a).isSome = true then none else (h.get? a).map fun o => (a, o)
def rest (g h : Heap) (L d : Addr) : List (Addr × Obj) := (allNews g h L).filter fun p => decide (p.1 ≠ d)
end L2

namespace L2
open PySem PySem.Spec PyProof.Rows

/-- the module's facts, over the base: the heap at the law's entry without what is tracked there -/
structure Mod (K : PySem.W.Frag) (mg : Str → Option Value) (base : Heap) : Prop where
  kin : K.In base
  glob : base.Ns mainGlobals mg
  blt : ∃ mb, base.Ns builtinsNs mb ∧ ∀ x : Str, x ≠ "__name__" → mb x = bootBuiltins x
  nolimit : base.NoLimit

/-- the context: a def's body (or a comprehension's block) running. base: fixed through the whole law; s₀, H₀: the entry; outer: the frames whose slots others may change (a def's callers); stack: all frames that run;
   ex: iterators that were made ahead of the entry and are walked here (a comprehension's); fn: the names whose cells were made at the entry (a def: all; a comprehension's block: its own); calm: not within an except suite; pn: pins that every state bears; xe: what is wanted of an exception that leaves the code -/
structure Cx where
  prog : Program
  w : World
  K : PySem.W.Frag
  mg : Str → Option Value
  base : Heap
  A : Around
  N : List Str
  s₀ : Shared
  H₀ : Hp
  env : Env
  outer : List Env
  stack : List Env
  ex : List Addr
  fn : Str → Bool
  calm : Bool
  pn : List (Addr × Obj)
  xe : Value → Shared → Prop
/-- the callers' frames -/
def frs (l : List Env) : List Addr := l.filterMap (·.frame)
abbrev Cx.fs (X : Cx) : List Addr := frs X.outer

def Vis (sc : Scope) (x : Str) : Prop := sc.names.lookup x = some .local ∨ sc.names.lookup x = some .cell ∨ sc.names.lookup x = some .free
def Loc (sc : Scope) (x : Str) : Prop := sc.names.lookup x = some .local ∨ sc.names.lookup x = some .cell
def Look (env : Env) (h : Heap) (m : Str → Option Value) (x : Str) (u : Value) : Prop :=
  (env.kindOf x = some .local ∧ m x = some u) ∨ ((env.kindOf x = some .cell ∨ env.kindOf x = some .free) ∧ ∃ c, env.cells.lookup x = some c ∧ h.IsCell c (some u))

structure Cx.Ok (X : Cx) : Prop where
  mod : Mod X.K X.mg X.base
  kind : X.env.scope.kind = .function
  glob : X.env.globals = mainGlobals
  blt : X.env.builtins = builtinsNs
  above : X.s₀.heap.objs.size ≤ X.env.locals
  inj : ∀ x y c, X.env.cells.lookup x = some c → X.env.cells.lookup y = some c → x = y
  has : ∀ x, (X.env.kindOf x = some .cell ∨ X.env.kindOf x = some .free) → ∃ c, X.env.cells.lookup x = some c
  cab : ∀ x c, X.fn x = true → X.env.cells.lookup x = some c → X.s₀.heap.objs.size ≤ c
  hd : X.calm = true → X.A.handled = none
  frames : X.A.frames = some X.stack
  stk : X.stack = X.outer ∨ (X.stack = X.env :: X.outer ∧ X.env.frame = some X.env.locals)
  exf : ∀ b ∈ X.ex, b ≠ X.env.locals ∧ ∀ x c, X.env.cells.lookup x = some c → c ≠ b
  bs : ∀ b o, X.base.get? b = some o → X.s₀.heap.get? b = some o ∧ X.H₀ b = none
  bsz : X.base.objs.size ≤ X.s₀.heap.objs.size
  noex : ∀ b o, X.base.get? b = some o → b ∉ X.ex
  exfs : ∀ b ∈ X.ex, b ∉ X.fs
  funs : X.s₀.heap.FunFrames X.base X.outer
  frf : ∀ b ∈ X.fs, X.H₀ b = none

structure Inv (X : Cx) (pins : List (Addr × Obj)) (σ : List (Option V)) (H : Hp) (s : Shared) : Prop where
  ok : X.Ok
  os : s.os = X.s₀.os
  bare : AllBare s.gens
  base : Un X.fs X.ex X.H₀ H X.s₀.heap s.heap
  loc : ∃ m, s.heap.Ns X.env.locals m ∧ ∀ (i : Nat) (x : Str) (v : V), X.N[i]? = some x → σ[i]? = some (some v) → Vis X.env.scope x → ∃ u, RelV v u ∧ Look X.env s.heap m x u
  cell : ∀ x c, X.env.cells.lookup x = some c → ∃ v, s.heap.IsCell c v
  free : H X.env.locals = none
  freeC : ∀ x c, X.env.cells.lookup x = some c → H c = none
  pin : ∀ p ∈ X.pn ++ pins, s.heap.get? p.1 = some p.2 ∧ H p.1 = none ∧ p.1 ≠ X.env.locals ∧ p.1 ∉ X.fs ∧ ∀ v, p.2.data ≠ .cell v
  hok : HOk X.prog X.w H s.heap
  len : σ.length = X.N.length

section
variable {X : Cx} {pins : List (Addr × Obj)} {σ : List (Option V)} {H H' : Hp} {s : Shared} {h' : Heap}

theorem Cx.Ok.nofr (ok : X.Ok) {b : Addr} {o : Obj} (e : X.base.get? b = some o) : b ∉ X.fs := fun hb => by
  have := (ok.funs.mem hb).1
  rw [e] at this; cases this
theorem Inv.bs (I : Inv X pins σ H s) : ∀ b o, X.base.get? b = some o → s.heap.get? b = some o ∧ H b = none := fun b o e =>
  ⟨I.base.keep b o (I.ok.bs b o e).1 (I.ok.bs b o e).2 (I.ok.nofr e) (I.ok.noex b o e), I.base.free b o (I.ok.bs b o e).1 (I.ok.bs b o e).2 (I.ok.noex b o e)⟩
theorem Inv.bk (I : Inv X pins σ H s) : ∀ b o, X.base.get? b = some o → s.heap.get? b = some o := fun b o e => (I.bs b o e).1
theorem Inv.mod (I : Inv X pins σ H s) : Mod X.K X.mg X.base := I.ok.mod
theorem Inv.kIn (I : Inv X pins σ H s) : X.K.In s.heap := I.ok.mod.kin.keeps I.bk
theorem Inv.nolimit (I : Inv X pins σ H s) : s.heap.NoLimit := I.ok.mod.nolimit.keeps I.bk
theorem Inv.lt (I : Inv X pins σ H s) : X.env.locals < s.heap.objs.size := let ⟨_, hn, _⟩ := I.loc; hn.lt
theorem Inv.sz (I : Inv X pins σ H s) : X.s₀.heap.objs.size ≤ s.heap.objs.size := Nat.le_trans I.ok.above (Nat.le_of_lt I.lt)
theorem Inv.nofs (I : Inv X pins σ H s) {a : Addr} (h : s.heap.objs.size ≤ a) : a ∉ X.fs := fun hb => by
  obtain ⟨_, o, ho, _⟩ := I.ok.funs.mem hb
  exact absurd (Nat.lt_of_lt_of_le (Heap.lt_size ho) (Nat.le_trans I.sz h)) (Nat.lt_irrefl _)
theorem Inv.cne (I : Inv X pins σ H s) : ∀ x c, X.env.cells.lookup x = some c → c ≠ X.env.locals := fun x c e z => by
  obtain ⟨v, o, ho, hd⟩ := I.cell x c e
  obtain ⟨m, ⟨o', es, ep, ho', hd', _⟩, _⟩ := I.loc
  rw [z, ho'] at ho; cases ho; rw [hd'] at hd; cases hd
theorem Inv.funs (I : Inv X pins σ H s) : s.heap.FunFrames X.base X.outer := by
  have all : ∀ (l : List Env), (∀ b ∈ frs l, b ∈ X.fs) → X.s₀.heap.FunFrames X.base l → s.heap.FunFrames X.base l := by
    intro l
    induction l with
    | nil => intro _ _; trivial
    | cons env r ih =>
      intro hs hl
      obtain ⟨hk, ⟨L, o, hf, hn, ho, hd⟩, hr⟩ := hl
      have hL : L ∈ X.fs := hs L (by unfold frs; rw [List.filterMap_cons, hf]; exact List.mem_cons_self)
      obtain ⟨sl, e⟩ := I.base.slot L o ho (I.ok.frf L hL) hL fun z => I.ok.exfs L z hL
      exact ⟨hk, ⟨L, _, hf, hn, e, hd⟩, ih (fun b hb => hs b (by unfold frs; rw [List.filterMap_cons, hf]; exact List.mem_cons_of_mem _ hb)) hr⟩
  exact all X.outer (fun _ hb => hb) I.ok.funs

/-- the frames that run, for a call -/
theorem Inv.stack (I : Inv X pins σ H s) : s.heap.FunFrames X.base X.stack := by
  rcases I.ok.stk with e | ⟨e, hf⟩
  · rw [e]; exact I.funs
  · rw [e]
    obtain ⟨m, hn, _⟩ := I.loc
    refine .cons (by rw [I.ok.kind]; decide) hf hn ?_ I.funs
    exact Heap.get?_none_of_le (Nat.le_trans I.ok.bsz I.ok.above)
theorem Inv.stkSub (I : Inv X pins σ H s) : ∀ b ∈ frs X.stack, b ∈ X.env.locals :: X.fs := fun b hb => by
  rcases I.ok.stk with e | ⟨e, hf⟩
  · rw [e] at hb; exact List.mem_cons_of_mem _ hb
  · rw [e] at hb
    unfold frs at hb
    rw [List.filterMap_cons, hf] at hb
    exact hb
theorem Inv.stkFree (I : Inv X pins σ H s) : ∀ b ∈ frs X.stack, H b = none := fun b hb => by
  rcases List.mem_cons.mp (I.stkSub b hb) with e | hb
  · rw [e]; exact I.free
  · obtain ⟨_, o, ho, _⟩ := I.ok.funs.mem hb
    exact I.base.free b o ho (I.ok.frf b hb) fun z => I.ok.exfs b z hb

/-- THE STEP: the untracked objects but the frame and the records at ch are kept (the callers' frames up to slots), the frame's map is kept, the new abstract heap is held -/
theorem Inv.step {g' : Array GenState} {t' : Nat} {d' : Drawn} {ch : List Addr} (I : Inv X pins σ H s)
    (hch : ∀ b ∈ ch, (b ∈ X.ex ∨ X.s₀.heap.objs.size ≤ b) ∧ b ≠ X.env.locals ∧ (∀ x c, X.env.cells.lookup x = some c → c ≠ b) ∧ ∀ p ∈ X.pn ++ pins, p.1 ≠ b)
    (keep : ∀ b o, b ≠ X.env.locals → b ∉ X.fs → b ∉ ch → s.heap.get? b = some o → H b = none → h'.get? b = some o)
    (slot : ∀ b o, b ≠ X.env.locals → b ∈ X.fs → b ∉ ch → s.heap.get? b = some o → H b = none → ∃ sl, h'.get? b = some { o with slots := sl }) (free : ∀ b o, b ∉ ch → s.heap.get? b = some o → H b = none → H' b = none)
    (there : ∀ b o, b ∉ ch → s.heap.get? b = some o → ∃ o', h'.get? b = some o')
    (tups : ∀ b xs, H b = some (.tup xs) → H' b = some (.tup xs)) (frzs : ∀ b o u, H b = some (.frz o u) → H' b = some (.frz o u)) (tbls : ∀ b ps, H b = some (.tbl ps) → ∃ more, H' b = some (.tbl (ps ++ more)))
    (ns : ∀ m, s.heap.Ns X.env.locals m → h'.Ns X.env.locals m) (hok : HOk X.prog X.w H' h') (hg : AllBare g') :
    Inv X pins σ H' { s with heap := h', gens := g', drawn := d', toks := t' } := by
  have neL : ∀ b o, X.s₀.heap.get? b = some o → b ≠ X.env.locals := fun b o e => Nat.ne_of_lt (Nat.lt_of_lt_of_le (Heap.lt_size e) I.ok.above)
  have neC : ∀ b o, X.s₀.heap.get? b = some o → b ∉ X.ex → b ∉ ch := fun b o e hx hb => by
    rcases (hch b hb).1 with z | z
    · exact hx z
    · exact absurd (Nat.lt_of_lt_of_le (Heap.lt_size e) z) (Nat.lt_irrefl _)
  have cellK : ∀ x c, X.env.cells.lookup x = some c → ∀ v, s.heap.IsCell c v → h'.IsCell c v := fun x c e v ⟨o, ho, hd⟩ => by
    have nch : c ∉ ch := fun z => (hch c z).2.2.1 x c e rfl
    by_cases hc : c ∈ X.fs
    · obtain ⟨sl, q⟩ := slot c o (I.cne x c e) hc nch ho (I.freeC x c e)
      exact ⟨_, q, hd⟩
    · exact ⟨o, keep c o (I.cne x c e) hc nch ho (I.freeC x c e), hd⟩
  refine ⟨I.ok, I.os, hg, ⟨fun b o e n hb hx => ?_, fun b o e n hb hx => ?_, fun b o e n hx => ?_, fun b o e hx => ?_, fun b xs e => tups b xs (I.base.tups b xs e), fun b o xs e => frzs b o xs (I.base.frzs b o xs e), fun b ps e => ?_⟩, ?_, fun x c e => ?_, ?_, fun x c e => ?_, fun p hp => ?_, hok, I.len⟩
  · exact keep b o (neL b o e) hb (neC b o e hx) (I.base.keep b o e n hb hx) (I.base.free b o e n hx)
  · obtain ⟨sl, e1⟩ := I.base.slot b o e n hb hx
    obtain ⟨sl', e2⟩ := slot b _ (neL b o e) hb (neC b o e hx) e1 (I.base.free b o e n hx)
    exact ⟨sl', e2⟩
  · obtain ⟨o', e1⟩ := I.base.there b o e hx
    exact free b o' (neC b o e hx) e1 (I.base.free b o e n hx)
  · obtain ⟨o', e1⟩ := I.base.there b o e hx
    exact there b o' (neC b o e hx) e1
  · obtain ⟨m1, e1⟩ := I.base.tbls b ps e
    obtain ⟨m2, e2⟩ := tbls b _ e1
    exact ⟨m1 ++ m2, by rw [e2, Array.append_assoc]⟩
  · obtain ⟨m, hn, hl⟩ := I.loc
    refine ⟨m, ns m hn, fun i x v e1 e2 e3 => ?_⟩
    obtain ⟨u, r, l⟩ := hl i x v e1 e2 e3
    refine ⟨u, r, ?_⟩
    rcases l with l | ⟨k, c, e, z⟩
    · exact .inl l
    · exact .inr ⟨k, c, e, cellK x c e _ z⟩
  · obtain ⟨v, z⟩ := I.cell x c e
    exact ⟨v, cellK x c e v z⟩
  · obtain ⟨m, ⟨o, _, _, ho, _⟩, _⟩ := I.loc
    exact free _ o (fun z => (hch _ z).2.1 rfl) ho I.free
  · obtain ⟨v, o, ho, hd⟩ := I.cell x c e
    exact free c o (fun z => (hch c z).2.2.1 x c e rfl) ho (I.freeC x c e)
  · obtain ⟨e, n, ne, nf, d⟩ := I.pin p hp
    have nch : p.1 ∉ ch := fun z => (hch p.1 z).2.2.2 p hp rfl
    exact ⟨keep p.1 p.2 ne nf nch e n, free p.1 p.2 nch e n, ne, nf, d⟩
/-- .. where the frame's own object is kept too -/
theorem Inv.un {t' : Nat} (I : Inv X pins σ H s) (u : Un X.fs [] H H' s.heap h') (hok : HOk X.prog X.w H' h') : Inv X pins σ H' { s with heap := h', toks := t' } := by
  obtain ⟨m, ⟨o, es, ep, ho, r⟩, _⟩ := id I.loc
  obtain ⟨sl, hL⟩ := u.any ho I.free (by simp)
  exact I.step (g' := s.gens) (d' := s.drawn) (ch := []) (fun _ z => nomatch z) (fun b o _ hb _ e n => u.keep b o e n hb (by simp)) (fun b o _ hb _ e n => u.slot b o e n hb (by simp)) (fun b o _ e n => u.free b o e n (by simp)) (fun b o _ e => u.there b o e (by simp)) u.tups u.frzs u.tbls (fun m' hm => by
    obtain ⟨o', es', ep', ho', r'⟩ := hm
    rw [ho] at ho'; cases ho'
    exact ⟨_, es', ep', hL, r'⟩) hok I.bare
/-- behind a call (or a comprehension's block): the slots of this frame may have changed too, the records at ch may have turned -/
theorem Inv.call {g' : Array GenState} {t' : Nat} {d' : Drawn} {ch : List Addr} (I : Inv X pins σ H s) (u : Un (frs X.stack) ch H H' s.heap h') (hok : HOk X.prog X.w H' h') (hg : AllBare g')
    (hch : ∀ b ∈ ch, (b ∈ X.ex ∨ X.s₀.heap.objs.size ≤ b) ∧ b ≠ X.env.locals ∧ (∀ x c, X.env.cells.lookup x = some c → c ≠ b) ∧ ∀ p ∈ X.pn ++ pins, p.1 ≠ b) :
    Inv X pins σ H' { s with heap := h', gens := g', drawn := d', toks := t' } := by
  obtain ⟨m, ⟨o, es, ep, ho, r⟩, _⟩ := id I.loc
  obtain ⟨sl, hL⟩ := u.any ho I.free fun z => (hch _ z).2.1 rfl
  exact I.step (ch := ch) hch (fun b o hL hb hc e n => u.keep b o e n (fun z => (List.mem_cons.mp (I.stkSub b z)).elim hL hb) hc) (fun b o _ _ hc e n => u.any e n hc) (fun b o hc e n => u.free b o e n hc) (fun b o hc e => u.there b o e hc) u.tups u.frzs u.tbls (fun m' hm => by
    obtain ⟨o', es', ep', ho', r'⟩ := hm
    rw [ho] at ho'; cases ho'
    exact ⟨_, es', ep', hL, r'⟩) hok hg
/-- an untracked record of ours (an iterator) has turned -/
theorem Inv.turned {t' : Nat} {it : Addr} (I : Inv X pins σ H s) (k : ∀ b o, b ≠ it → s.heap.get? b = some o → h'.get? b = some o) (hn : H it = none) (hL : it ≠ X.env.locals)
    (h1 : it ∈ X.ex ∨ X.s₀.heap.objs.size ≤ it) (h2 : ∀ x c, X.env.cells.lookup x = some c → c ≠ it) (h3 : ∀ p ∈ X.pn ++ pins, p.1 ≠ it) : Inv X pins σ H { s with heap := h', toks := t' } := by
  have nit : ∀ b u, H b = some u → b ≠ it := fun b u e z => by rw [z, hn] at e; cases e
  refine I.step (g' := s.gens) (d' := s.drawn) (ch := [it]) (fun b hb => ?_) (fun b o _ _ hc e _ => k b o (fun z => hc (by simp [z])) e) (fun b o _ _ hc e _ => ⟨o.slots, k b o (fun z => hc (by simp [z])) e⟩) (fun _ _ _ _ n => n)
    (fun b o hc e => ⟨o, k b o (fun z => hc (by simp [z])) e⟩) (fun _ _ e => e) (fun _ _ _ e => e) (fun b ps e => ⟨#[], by rw [e]; simp⟩) (fun m hm => ?_) (fun b u e => ?_) I.bare
  · have e : b = it := by simpa using hb
    subst e
    exact ⟨h1, hL, h2, h3⟩
  · obtain ⟨o, es, ep, ho, r⟩ := hm
    exact ⟨o, es, ep, k _ o (Ne.symm hL) ho, r⟩
  · refine (I.hok b u e).stay (fun c v hc q => k c v ?_ q) (fun _ q => q) fun _ _ q => q
    rcases hc with z | z
    · rw [z]; exact nit b u e
    · exact nit c _ z
theorem Inv.tok (I : Inv X pins σ H s) (t : Nat) : Inv X pins σ H { s with toks := t } := I.un (h' := s.heap) (t' := t) Un.refl I.hok
/-- all objects kept -/
theorem Inv.kept {t' : Nat} (I : Inv X pins σ H s) (k : ∀ b u, s.heap.get? b = some u → h'.get? b = some u) : Inv X pins σ H { s with heap := h', toks := t' } := I.un (Un.kept k) (I.hok.kept k)
/-- a new object laid and tracked -/
theorem Inv.laid {a : Addr} {o : HO} {t' : Nat} (I : Inv X pins σ H s) (k : ∀ b u, s.heap.get? b = some u → h'.get? b = some u) (hp : s.heap.objs.size ≤ a) (new : ObjOk X.prog X.w (upd H a o) h' a o) :
    Inv X pins σ (upd H a o) { s with heap := h', toks := t' } := I.un (Un.laid k hp (I.hok.fresh hp)) (I.hok.laid k hp new)
/-- an object written -/
theorem Inv.write {x e : Addr} {o : HO} {t' : Nat} (I : Inv X pins σ H s) (mu : Mut (H x)) (he : e = x ∨ H e = some (.own x)) (k : ∀ b u, b ≠ e → s.heap.get? b = some u → h'.get? b = some u) (heo : ∃ u, h'.get? e = some u)
    (new : ObjOk X.prog X.w (upd H x o) h' x o) : Inv X pins σ (upd H x o) { s with heap := h', toks := t' } := I.un (Un.write mu he k heo) (I.hok.write mu he k heo new)
theorem Inv.pins_of {pins' : List (Addr × Obj)} (I : Inv X pins σ H s) (h : ∀ p ∈ pins', s.heap.get? p.1 = some p.2 ∧ H p.1 = none ∧ p.1 ≠ X.env.locals ∧ p.1 ∉ X.fs ∧ ∀ v, p.2.data ≠ .cell v) : Inv X pins' σ H s :=
  ⟨I.ok, I.os, I.bare, I.base, I.loc, I.cell, I.free, I.freeC, fun p hp => (List.mem_append.mp hp).elim (fun z => I.pin p (List.mem_append_left _ z)) (h p), I.hok, I.len⟩

theorem nodup_ix {N : List Str} (hN : N.Nodup) {i j : Nat} {x : Str} (a : N[i]? = some x) (b : N[j]? = some x) : i = j := by
  obtain ⟨h1, e1⟩ := List.getElem?_eq_some_iff.mp a
  obtain ⟨h2, e2⟩ := List.getElem?_eq_some_iff.mp b
  exact (List.getElem_inj hN).mp (e1.trans e2.symm)

/-- a name is stored; what changed -/
theorem store_ok2 {M : Model} {A : Around} {E : Value → Shared → Prop} {i : Nat} {x : Str} {v : V} {u : Value} {Q : Unit → Shared → Prop} (I : Inv X pins σ H s) (hN : X.N.Nodup) (hi : X.N[i]? = some x) (hx : Loc X.env.scope x) (r : RelV v u)
    (h : ∀ s', Inv X pins (σ.set i (some v)) H s' → (∃ a, Heap.SameBut a s.heap s'.heap ∧ (a = X.env.locals ∨ X.env.cells.lookup x = some a)) → Q () s') (hf : X.fn x = true ∨ X.env.scope.names.lookup x = some .local := by first | exact .inl rfl | exact .inr rfl | assumption) : wpAny M A (storeName X.env x u) Q E s := by
  obtain ⟨m, hn, hl⟩ := id I.loc
  have hcls : (X.env.scope.kind == .class || (X.env.scope.kind == .module && X.env.locals != X.env.globals)) = false := by rw [I.ok.kind]; rfl
  have hiσ : i < σ.length := by rw [I.len]; exact (List.getElem?_eq_some_iff.mp hi).1
  have cne := I.cne
  have tracked : ∀ {a : Addr} {h' : Heap}, (∃ o, s.heap.get? a = some o ∧ H a = none) → Heap.SameBut a s.heap h' → HOk X.prog X.w H h' := fun {a h'} ha hs b ob e => by
    obtain ⟨_, _, hfree⟩ := ha
    refine (I.hok b ob e).stay (fun c w' hc q => (hs.2 c ?_).trans q) (fun _ q => q) fun _ _ q => q
    rintro rfl
    rcases hc with rfl | hc
    · rw [hfree] at e; cases e
    · rw [hfree] at hc; cases hc
  rcases hx with hk | hk
  · refine wpAny_storeName_local hk hn (fun h' hn' hs => ?_) hcls
    obtain ⟨oL, _, _, hoL, _⟩ := id hn
    refine h _ ⟨I.ok, I.os, I.bare, ⟨fun b o e n hb hx => ?_, fun b o e n hb hx => ?_, I.base.free, fun b o e hx => ?_, I.base.tups, I.base.frzs, I.base.tbls⟩, ⟨_, hn', fun j y v' e1 e2 e3 => ?_⟩, fun y c e => ?_, I.free, I.freeC, fun p hp => ?_, tracked ⟨oL, hoL, I.free⟩ hs, by simpa using I.len⟩ ⟨_, hs, .inl rfl⟩
    · exact (hs.2 b (Nat.ne_of_lt (Nat.lt_of_lt_of_le (Heap.lt_size e) I.ok.above))).trans (I.base.keep b o e n hb hx)
    · obtain ⟨sl, e1⟩ := I.base.slot b o e n hb hx
      exact ⟨sl, (hs.2 b (Nat.ne_of_lt (Nat.lt_of_lt_of_le (Heap.lt_size e) I.ok.above))).trans e1⟩
    · obtain ⟨o', e1⟩ := I.base.there b o e hx
      exact ⟨o', (hs.2 b (Nat.ne_of_lt (Nat.lt_of_lt_of_le (Heap.lt_size e) I.ok.above))).trans e1⟩
    · by_cases hj : j = i
      · subst hj
        rw [hi] at e1; cases e1
        rw [List.getElem?_set_self hiσ] at e2
        cases e2
        exact ⟨u, r, .inl ⟨hk, by simp⟩⟩
      · rw [List.getElem?_set_ne (Ne.symm hj)] at e2
        obtain ⟨u', r', q⟩ := hl j y v' e1 e2 e3
        refine ⟨u', r', ?_⟩
        rcases q with ⟨k, e⟩ | ⟨k, c, e, z⟩
        · refine .inl ⟨k, ?_⟩
          have : y ≠ x := fun e => hj (nodup_ix hN e1 (e ▸ hi))
          simp [this, e]
        · exact .inr ⟨k, c, e, z.sameBut hs (cne y c e)⟩
    · obtain ⟨w', z⟩ := I.cell y c e
      exact ⟨w', z.sameBut hs (cne y c e)⟩
    · obtain ⟨e, n, ne, nf, d⟩ := I.pin p hp
      exact ⟨(hs.2 p.1 ne).trans e, n, ne, nf, d⟩
  · have hfn : X.fn x = true := by
      rcases hf with z | z
      · exact z
      · rw [z] at hk; cases hk
    obtain ⟨c, hc⟩ := I.ok.has x (.inl hk)
    obtain ⟨w', z⟩ := I.cell x c hc
    refine wpAny_storeName_cell I.ok.kind hk hc z (fun h' hc' hs => ?_)
    obtain ⟨oc, hoc, hocd⟩ := id z
    refine h { s with heap := h' } ⟨I.ok, I.os, I.bare, ⟨fun b o e n hb hx => ?_, fun b o e n hb hx => ?_, I.base.free, fun b o e hx => ?_, I.base.tups, I.base.frzs, I.base.tbls⟩, ⟨m, hn.sameBut hs (Ne.symm (cne x c hc)), fun j y v' e1 e2 e3 => ?_⟩, fun y c' e => ?_, I.free, I.freeC, fun p hp => ?_, tracked ⟨oc, hoc, I.freeC x c hc⟩ hs, by simpa using I.len⟩ ⟨c, hs, .inr hc⟩
    · exact (hs.2 b (Nat.ne_of_lt (Nat.lt_of_lt_of_le (Heap.lt_size e) (I.ok.cab x c hfn hc)))).trans (I.base.keep b o e n hb hx)
    · obtain ⟨sl, e1⟩ := I.base.slot b o e n hb hx
      exact ⟨sl, (hs.2 b (Nat.ne_of_lt (Nat.lt_of_lt_of_le (Heap.lt_size e) (I.ok.cab x c hfn hc)))).trans e1⟩
    · obtain ⟨o', e1⟩ := I.base.there b o e hx
      exact ⟨o', (hs.2 b (Nat.ne_of_lt (Nat.lt_of_lt_of_le (Heap.lt_size e) (I.ok.cab x c hfn hc)))).trans e1⟩
    · by_cases hj : j = i
      · subst hj
        rw [hi] at e1; cases e1
        rw [List.getElem?_set_self hiσ] at e2
        cases e2
        exact ⟨u, r, .inr ⟨.inl hk, c, hc, hc'⟩⟩
      · rw [List.getElem?_set_ne (Ne.symm hj)] at e2
        obtain ⟨u', r', q⟩ := hl j y v' e1 e2 e3
        refine ⟨u', r', ?_⟩
        rcases q with q | ⟨k, c', e, z'⟩
        · exact .inl q
        · refine .inr ⟨k, c', e, z'.sameBut hs ?_⟩
          rintro rfl
          exact hj (nodup_ix hN e1 (I.ok.inj _ _ _ e hc ▸ hi))
    · by_cases hcc : c' = c
      · subst hcc; exact ⟨_, hc'⟩
      · obtain ⟨w2, z2⟩ := I.cell y c' e
        exact ⟨w2, z2.sameBut hs hcc⟩
    · obtain ⟨e, n, ne, nf, d⟩ := I.pin p hp
      refine ⟨(hs.2 p.1 ?_).trans e, n, ne, nf, d⟩
      intro q
      rw [q, hoc] at e
      have q' : oc = p.2 := Option.some.inj e
      exact d w' (by rw [← q']; exact hocd)
theorem store_ok {M : Model} {A : Around} {E : Value → Shared → Prop} {i : Nat} {x : Str} {v : V} {u : Value} {Q : Unit → Shared → Prop} (I : Inv X pins σ H s) (hN : X.N.Nodup) (hi : X.N[i]? = some x) (hx : Loc X.env.scope x) (r : RelV v u)
    (h : ∀ s', Inv X pins (σ.set i (some v)) H s' → Q () s') (hf : X.fn x = true ∨ X.env.scope.names.lookup x = some .local := by first | exact .inl rfl | exact .inr rfl | assumption) : wpAny M A (storeName X.env x u) Q E s :=
  store_ok2 I hN hi hx r (fun s' I' _ => h s' I') hf
/-- behind a call or a block, the state as it is -/
theorem Inv.call' {s' : Shared} {ch : List Addr} (I : Inv X pins σ H s) (ho : s'.os = s.os) (u : Un (frs X.stack) ch H H' s.heap s'.heap) (hok : HOk X.prog X.w H' s'.heap) (hg : AllBare s'.gens)
    (hch : ∀ b ∈ ch, (b ∈ X.ex ∨ X.s₀.heap.objs.size ≤ b) ∧ b ≠ X.env.locals ∧ (∀ x c, X.env.cells.lookup x = some c → c ≠ b) ∧ ∀ p ∈ X.pn ++ pins, p.1 ≠ b) : Inv X pins σ H' s' := by
  obtain ⟨h', g', d', t', o'⟩ := s'
  have e : o' = s.os := ho
  subst e
  exact I.call (g' := g') (t' := t') (d' := d') u hok hg hch
end

/-! ### the judgements -/
/-- an exception: its class, its own dict's address (where it has one), the abstract heap behind it -/
abbrev XK := Value → Option Addr → Hp → Prop
abbrev St := List (Option V)
abbrev VK := V → Hp → Prop
/-- an expression's reading; a test's; an argument list's -/
abbrev TE := St → Hp → VK → Prop
abbrev TT := St → Hp → (Bool → Hp → Prop) → Prop
abbrev TA := St → Hp → (List V → Hp → Prop) → Prop
/-- what is wanted behind a statement -/
structure Ends where
  nx : St → Hp → Prop
  rt : VK
  bk : St → Hp → Prop := fun _ _ => False
  ct : St → Hp → Prop := fun _ _ => False
abbrev TS := Ends → St → Hp → Prop

def EP (X : Cx) (pins : List (Addr × Obj)) (σ : St) (Q : VK) (u : Value) (s' : Shared) : Prop := ∃ v H', Inv X pins σ H' s' ∧ RelV v u ∧ Q v H'
def TP (X : Cx) (pins : List (Addr × Obj)) (σ : St) (Q : Bool → Hp → Prop) (b : Bool) (s' : Shared) : Prop := ∃ H', Inv X pins σ H' s' ∧ Q b H'
def AP (X : Cx) (pins : List (Addr × Obj)) (σ : St) (Q : List V → Hp → Prop) (us : List Value) (s' : Shared) : Prop := ∃ vs H', Inv X pins σ H' s' ∧ Vals vs us ∧ Q vs H'
def SP (X : Cx) (pins : List (Addr × Obj)) (D : Ends) (f : Flow) (s' : Shared) : Prop :=
  match f with
  | .next => ∃ σ' H', Inv X pins σ' H' s' ∧ D.nx σ' H'
  | .brk => ∃ σ' H', Inv X pins σ' H' s' ∧ D.bk σ' H'
  | .cont => ∃ σ' H', Inv X pins σ' H' s' ∧ D.ct σ' H'
  | .ret u => ∃ v σ' H', Inv X pins σ' H' s' ∧ RelV v u ∧ D.rt v H'

def PE (X : Cx) (e : Expr) (t : TE) : Prop :=
  ∀ (pins : List (Addr × Obj)) (s : Shared) (σ : St) (H : Hp) (Q : VK), Inv X pins σ H s → t σ H Q → wpAny (model X.prog X.w) X.A (eval e X.env) (EP X pins σ Q) X.xe s
def PT (X : Cx) (e : Expr) (t : TT) : Prop :=
  ∀ (pins : List (Addr × Obj)) (s : Shared) (σ : St) (H : Hp) (Q : Bool → Hp → Prop), Inv X pins σ H s → t σ H Q → wpAny (model X.prog X.w) X.A (isTrue e X.env (eval e X.env)) (TP X pins σ Q) X.xe s
/-- a test whatever its 'whole' is (and, or) -/
def PW (X : Cx) (e : Expr) (t : TT) : Prop :=
  ∀ (whole : Sem Value) (pins : List (Addr × Obj)) (s : Shared) (σ : St) (H : Hp) (Q : Bool → Hp → Prop), Inv X pins σ H s → t σ H Q → wpAny (model X.prog X.w) X.A (isTrue e X.env whole) (TP X pins σ Q) X.xe s
theorem PW.pt {X : Cx} {e : Expr} {t : TT} (h : PW X e t) : PT X e t := h _
/-- an argument list (no star), from the left -/
def PA (X : Cx) (es : List Expr) (t : TA) : Prop :=
  ∀ (pos : Pos) (pins : List (Addr × Obj)) (s : Shared) (σ : St) (H : Hp) (Q : List V → Hp → Prop), Inv X pins σ H s → t σ H Q → wpAny (model X.prog X.w) X.A (spliced (backTo pos (starEach es X.env))) (AP X pins σ Q) X.xe s
def PS (X : Cx) (st : Stmt) (t : TS) : Prop :=
  ∀ (pins : List (Addr × Obj)) (s : Shared) (σ : St) (H : Hp) (D : Ends), Inv X pins σ H s → t D σ H → wpAny (model X.prog X.w) X.A (exec st X.env) (SP X pins D) X.xe s
def PSs (X : Cx) (st : List Stmt) (t : TS) : Prop :=
  ∀ (pins : List (Addr × Obj)) (s : Shared) (σ : St) (H : Hp) (D : Ends), Inv X pins σ H s → t D σ H → wpAny (model X.prog X.w) X.A (execs st X.env) (SP X pins D) X.xe s
/-- weaken the end -/
theorem thn {α : Type} {t : Sem α} {Q Q' : α → Shared → Prop} {M : Model} {A : Around} {E : Value → Shared → Prop} {s : Shared} (h : wpAny M A t Q E s) (hQ : ∀ a s, Q a s → Q' a s) : wpAny M A t Q' E s := wpAny_mono h hQ fun _ _ x => x
end L2

namespace L2
open PySem PySem.Spec PyProof.Rows
section
variable {X : Cx}

/-! ### names and constants -/
def tVar (i : Nat) : TE := fun σ H Q => ∃ v, σ[i]? = some (some v) ∧ Q v H
def tC (v : V) : TE := fun _ H Q => Q v H
theorem pe_var {i : Nat} {x : Str} {pos : Pos} (hN : X.N[i]? = some x) (hv : Vis X.env.scope x) (hd : (x == ("__debug__" : Str)) = false := by decide) (hcd : (x == ("__classdict__" : Str)) = false := by decide) : PE X (.Name x pos) (tVar i) := by
  intro pins s σ H Q I h
  obtain ⟨v, e, h⟩ := h
  obtain ⟨m, hn, hl⟩ := I.loc
  obtain ⟨u, r, l⟩ := hl i x v hN e hv
  have fin : EP X pins σ Q u s := ⟨v, H, I, r, h⟩
  rcases l with ⟨hk, hm⟩ | ⟨hk, c, hc, hcell⟩
  · exact wpAny_Name (wpAny_loadName_local I.ok.kind hk hn hm fin) hd
  · rcases hk with hk | hk
    · exact wpAny_Name (wpAny_loadName_cell I.ok.kind hk hc hcell fin) hd
    · exact wpAny_Name (wpAny_loadName_free I.ok.kind hk hc hcell fin hcd) hd
theorem pe_int {i j pos} : PE X (.Constant (.int i) j pos) (tC (.int i)) := fun _ _ _ H _ I h => wpAny_Constant_int ⟨.int i, H, I.tok _, ⟨_, rfl⟩, h⟩
theorem pe_bl {b j pos} : PE X (.Constant (.bool b) j pos) (tC (.bl b)) := fun _ _ _ H _ I h => Constant_bool ⟨.bl b, H, I, rfl, h⟩
theorem pe_non {j pos} : PE X (.Constant .none j pos) (tC .non) := fun _ _ _ H _ I h => Constant_none ⟨.non, H, I, rfl, h⟩
theorem pe_str {x j pos} : PE X (.Constant (.str x) j pos) (tC (.str x)) := fun _ _ _ H _ I h => Calls.Constant_str ⟨.str x, H, I.tok _, ⟨_, rfl⟩, h⟩

/-- a global name of the def -/
def Gl (X : Cx) (x : Str) : Prop := X.env.kindOf x = some .globalImplicit
theorem ld_glob {E : Value → Shared → Prop} {pins : List (Addr × Obj)} {s : Shared} {σ : St} {H : Hp} {x : Str} {u : Value} {pos : Pos} {Q : Value → Shared → Prop} (I : Inv X pins σ H s) (hg : Gl X x) (hm : X.mg x = some u) (h : Q u s)
    (hd : (x == ("__debug__" : Str)) = false := by decide) : wpAny (model X.prog X.w) X.A (eval (.Name x pos) X.env) Q E s :=
  Calls.Name_function_global I.ok.kind hg (Calls.loadGlobal_global (by rw [I.ok.glob]; exact I.mod.glob.keeps I.bk) hm h) hd
theorem ld_blt {E : Value → Shared → Prop} {pins : List (Addr × Obj)} {s : Shared} {σ : St} {H : Hp} {x : Str} {u : Value} {pos : Pos} {Q : Value → Shared → Prop} (I : Inv X pins σ H s) (hg : Gl X x) (hm : X.mg x = none) (hv : bootBuiltins x = some u) (h : Q u s)
    (hn : x ≠ "__name__" := by decide) (hd : (x == ("__debug__" : Str)) = false := by decide) : wpAny (model X.prog X.w) X.A (eval (.Name x pos) X.env) Q E s := by
  obtain ⟨mb, h1, h2⟩ := I.mod.blt
  exact Calls.Name_function_global I.ok.kind hg (Calls.loadGlobal_builtin (by rw [I.ok.glob]; exact I.mod.glob.keeps I.bk) hm (by rw [I.ok.blt]; exact h1.keeps I.bk) ((h2 x hn).trans hv) h) hd
/-- a module's constant, a class, a function, as a value -/
theorem pe_glob {x : Str} {v : V} {u : Value} {pos : Pos} (hg : Gl X x) (hm : X.mg x = some u) (r : RelV v u) (hd : (x == ("__debug__" : Str)) = false := by decide) : PE X (.Name x pos) (tC v) :=
  fun _ _ _ H _ I h => ld_glob I hg hm ⟨v, H, I, r, h⟩ hd
theorem pe_bltn {x : Str} {v : V} {u : Value} {pos : Pos} (hg : Gl X x) (hm : X.mg x = none) (hv : bootBuiltins x = some u) (r : RelV v u) (hn : x ≠ "__name__" := by decide) (hd : (x == ("__debug__" : Str)) = false := by decide) : PE X (.Name x pos) (tC v) :=
  fun _ _ _ H _ I h => ld_blt I hg hm hv ⟨v, H, I, r, h⟩ hn hd

/-! ### arithmetic -/
variable {a b : Expr} {ta tb : TE} {pos : Pos}
/-! ### comparisons -/
/-- a comparison as a value, as a test -/
def tB (t : TE) : TT := fun σ H Q => t σ H fun x H1 => ∃ c, x = .bl c ∧ Q c H1
/-- an expression whose value is a bool, as a test -/
theorem pt_val {e : Expr} {t : TE} (h : PE X e t) (he : ∀ whole, isTrue e X.env whole = (do let v ← whole; standAt e.pos; holding [v] (truthy v)) := by intro _; rfl) : PT X e (tB t) := by
  intro pins s σ H Q I hw
  refine isTrue_plain (thn (h pins s σ H _ I hw) fun v s1 ⟨x, H1, I1, r1, q1⟩ => ?_) (he _)
  obtain ⟨d, rfl, q⟩ := q1
  cases r1
  exact wpAny_truthy_bool ⟨H1, I1, q⟩

/-! ### and, or, not -/
variable {tA tB' : TT} {rest : List Expr}
def tAnd (t u : TT) : TT := fun σ H Q => t σ H fun c H1 => if c = true then u σ H1 Q else Q false H1
def tOr (t u : TT) : TT := fun σ H Q => t σ H fun c H1 => if c = true then Q true H1 else u σ H1 Q
def tNot (t : TT) : TT := fun σ H Q => t σ H fun c H1 => Q (!c) H1
theorem pw_and1 (ha : PT X a tA) : PW X (.BoolOp .And [a] pos) tA := by
  intro wh pins s σ H Q I h
  refine isTrue_and (thn (ha pins s σ H Q I h) fun c s1 e => ?_)
  cases c with
  | true => exact isTrue_and_nil e
  | false => exact e
theorem pw_or1 (ha : PT X a tA) : PW X (.BoolOp .Or [a] pos) tA := by
  intro wh pins s σ H Q I h
  refine isTrue_or (thn (ha pins s σ H Q I h) fun c s1 e => ?_)
  cases c with
  | false => exact isTrue_or_nil e
  | true => exact e
theorem pw_and (ha : PT X a tA) (hb : PW X (.BoolOp .And (b :: rest) pos) tB') : PW X (.BoolOp .And (a :: b :: rest) pos) (tAnd tA tB') := by
  intro wh pins s σ H Q I h
  refine isTrue_and (thn (ha pins s σ H _ I h) fun c s1 ⟨H1, I1, q1⟩ => ?_)
  cases c with
  | true => exact hb wh pins s1 σ H1 Q I1 q1
  | false => exact ⟨H1, I1, q1⟩
theorem pw_or (ha : PT X a tA) (hb : PW X (.BoolOp .Or (b :: rest) pos) tB') : PW X (.BoolOp .Or (a :: b :: rest) pos) (tOr tA tB') := by
  intro wh pins s σ H Q I h
  refine isTrue_or (thn (ha pins s σ H _ I h) fun c s1 ⟨H1, I1, q1⟩ => ?_)
  cases c with
  | true => exact ⟨H1, I1, q1⟩
  | false => exact hb wh pins s1 σ H1 Q I1 q1
theorem pt_not (ha : PT X a tA) : PT X (.UnaryOp .Not a pos) (tNot tA) := by
  intro pins s σ H Q I h
  exact isTrue_not (ha pins s σ H (fun c H1 => Q (!c) H1) I h)
/-- .. as values (bools) -/
def tAndV (ta tb : TE) : TE := fun σ H Q => ta σ H fun x H1 => ∃ c, x = .bl c ∧ if c = true then tb σ H1 Q else Q (.bl false) H1
def tOrV (ta tb : TE) : TE := fun σ H Q => ta σ H fun x H1 => ∃ c, x = .bl c ∧ if c = true then Q (.bl true) H1 else tb σ H1 Q
def tNotV (ta : TE) : TE := fun σ H Q => ta σ H fun x H1 => ∃ c, x = .bl c ∧ Q (.bl (!c)) H1
theorem pe_one {op} {t : TE} (h : PE X a t) : PE X (.BoolOp op [a] pos) t := fun pins s σ H Q I hw => BoolOp_one (h pins s σ H Q I hw)
theorem pe_and (ha : PE X a ta) (hb : PE X (.BoolOp .And (b :: rest) pos) tb) : PE X (.BoolOp .And (a :: b :: rest) pos) (tAndV ta tb) := by
  intro pins s σ H Q I h
  refine BoolOp_and (thn (ha pins s σ H _ I h) fun v s1 ⟨x, H1, I1, r1, q1⟩ => ?_)
  obtain ⟨c, rfl, q1⟩ := q1
  cases r1
  refine wpAny_truthy_bool ?_
  cases c with
  | true => exact hb pins s1 σ H1 Q I1 q1
  | false => exact ⟨.bl false, H1, I1, rfl, q1⟩
theorem pe_not (ha : PE X a ta) : PE X (.UnaryOp .Not a pos) (tNotV ta) := by
  intro pins s σ H Q I h
  refine UnaryOp_ (thn (ha pins s σ H _ I h) fun v s1 ⟨x, H1, I1, r1, q1⟩ => ?_)
  obtain ⟨c, rfl, q1⟩ := q1
  cases r1
  exact not_of (wpAny_truthy_bool ⟨.bl (!c), H1, I1, rfl, q1⟩)
/-- a if t else b -/
def tIf (t : TT) (ta tb : TE) : TE := fun σ H Q => t σ H fun c H1 => if c = true then ta σ H1 Q else tb σ H1 Q
end
end L2

namespace L2
open PySem PySem.Spec PyProof.Rows

/-! ### a list, a tuple that is read: tracked, frozen, or an object of the module -/
def SqL (K : PySem.W.Frag) (H : Hp) (a : Addr) (xs : List V) : Prop :=
  Rd H a (.lst xs) ∨
    ∃ (o : Obj) (its : Array Value) (n : Nat), K.lookup a = some o ∧ o.cls = .type "list" ∧ o.dict = none ∧ o.data = .seq its n ∧ its.size ≤ sizeLine ∧ Vals xs its.toList
def SqT (K : PySem.W.Frag) (H : Hp) (a : Addr) (xs : List V) : Prop :=
  Rd H a (.tup xs) ∨
    ∃ (o : Obj) (its : Array Value) (n : Nat), K.lookup a = some o ∧ o.cls = .type "tuple" ∧ o.data = .seq its n ∧ its.size ≤ sizeLine ∧ Vals xs its.toList
def absV : Value → Option V
  | .none => some .non
  | .bool b => some (.bl b)
  | .int i _ => some (.int i)
  | .str x _ => some (.str x)
  | .bytes b _ => some (.byt b)
  | .float b _ => some (.flt b)
  | .ref a => some (.ref a)
  | .type n => some (.ty n)
  | _ => none
theorem RelV.abs {x : V} {u : Value} (r : RelV x u) : absV u = some x := by
  cases x with
  | non => cases r; rfl
  | bl _ => cases r; rfl
  | int _ => obtain ⟨t, rfl⟩ := r; rfl
  | str _ => obtain ⟨t, rfl⟩ := r; rfl
  | byt _ => obtain ⟨t, rfl⟩ := r; rfl
  | flt _ => obtain ⟨t, rfl⟩ := r; rfl
  | ref _ => cases r; rfl
  | ty _ => cases r; rfl
theorem RelV.inj {x y : V} {u : Value} (r : RelV x u) (q : RelV y u) : x = y := Option.some.inj (r.abs.symm.trans q.abs)
theorem Vals.inj : ∀ {xs ys : List V} {us : List Value}, Vals xs us → Vals ys us → xs = ys
  | _, _, _, .nil, .nil => rfl
  | _, _, _, .cons r t, .cons r' t' => by rw [r.inj r', Vals.inj t t']
section
variable {X : Cx} {pins : List (Addr × Obj)} {σ : St} {H : Hp} {s : Shared} {a : Addr} {xs ys : List V}
theorem SqL.of {K : PySem.W.Frag} (h : H a = some (.lst xs)) : SqL K H a xs := .inl (.inl h)
theorem SqT.of {K : PySem.W.Frag} (h : H a = some (.tup xs)) : SqT K H a xs := .inl (.inl h)
theorem Inv.list (I : Inv X pins σ H s) (h : SqL X.K H a xs) : ∃ its : List Value, Vals xs its ∧ PlainL s.heap a its.toArray ∧ xs.length ≤ sizeLine := by
  rcases h with h | ⟨o, its, n, hk, hc, hd, hs, hz, r⟩
  · obtain ⟨z, its, n, r, e⟩ := h.ok I.hok
    exact ⟨its, r, ⟨_, n, e, rfl, rfl, rfl⟩, z⟩
  · refine ⟨its.toList, r, ⟨o, n, I.kIn a o hk, hc, hd, by simpa using hs⟩, ?_⟩
    have e := r.length
    simp only [Array.length_toList] at e
    omega
theorem Inv.tuple (I : Inv X pins σ H s) (h : SqT X.K H a xs) : ∃ its : List Value, Vals xs its ∧ IsTup s.heap a its.toArray ∧ xs.length ≤ sizeLine := by
  rcases h with h | ⟨o, its, n, hk, hc, hs, hz, r⟩
  · obtain ⟨z, its, r, p⟩ := h.ok I.hok
    exact ⟨its, r, p, z⟩
  · refine ⟨its.toList, r, ⟨o, I.kIn a o hk, hc, n, by simpa using hs⟩, ?_⟩
    have e := r.length
    simp only [Array.length_toList] at e
    omega
theorem Inv.list_inj (I : Inv X pins σ H s) (h : SqL X.K H a xs) (h' : SqL X.K H a ys) : xs = ys := by
  obtain ⟨its, r, ⟨o, n, e, _, _, d⟩, _⟩ := I.list h
  obtain ⟨its', r', ⟨o', n', e', _, _, d'⟩, _⟩ := I.list h'
  rw [e] at e'; cases e'
  rw [d] at d'
  injection d' with d1 _
  have : its = its' := by simpa using congrArg Array.toList d1
  subst this
  exact r.inj r'
theorem Inv.tuple_inj (I : Inv X pins σ H s) (h : SqT X.K H a xs) (h' : SqT X.K H a ys) : xs = ys := by
  obtain ⟨its, r, ⟨o, e, _, n, d⟩, _⟩ := I.tuple h
  obtain ⟨its', r', ⟨o', e', _, n', d'⟩, _⟩ := I.tuple h'
  rw [e] at e'; cases e'
  rw [d] at d'
  injection d' with d1 _
  have : its = its' := by simpa using congrArg Array.toList d1
  subst this
  exact r.inj r'
end

/-! ### another wish about exceptions -/
abbrev Cx.wish (X : Cx) (E : Value → Shared → Prop) : Cx := { X with xe := E }
/-- no exception leaves -/
abbrev Cx.nox (X : Cx) : Cx := X.wish fun _ _ => False
theorem Cx.Ok.wish {X : Cx} (ok : X.Ok) (E : Value → Shared → Prop) : (X.wish E).Ok :=
  ⟨ok.mod, ok.kind, ok.glob, ok.blt, ok.above, ok.inj, ok.has, ok.cab, ok.hd, ok.frames, ok.stk, ok.exf, ok.bs, ok.bsz, ok.noex, ok.exfs, ok.funs, ok.frf⟩
theorem Cx.Ok.unwish {X : Cx} {E : Value → Shared → Prop} (ok : (X.wish E).Ok) : X.Ok :=
  ⟨ok.mod, ok.kind, ok.glob, ok.blt, ok.above, ok.inj, ok.has, ok.cab, ok.hd, ok.frames, ok.stk, ok.exf, ok.bs, ok.bsz, ok.noex, ok.exfs, ok.funs, ok.frf⟩
section
variable {X : Cx} {pins : List (Addr × Obj)} {σ : St} {H : Hp} {s : Shared} {E : Value → Shared → Prop}
theorem Inv.wish (I : Inv X pins σ H s) (E : Value → Shared → Prop) : Inv (X.wish E) pins σ H s := ⟨I.ok.wish E, I.os, I.bare, I.base, I.loc, I.cell, I.free, I.freeC, I.pin, I.hok, I.len⟩
theorem Inv.unwish (I : Inv (X.wish E) pins σ H s) : Inv X pins σ H s := ⟨I.ok.unwish, I.os, I.bare, I.base, I.loc, I.cell, I.free, I.freeC, I.pin, I.hok, I.len⟩
theorem SP.unwish {D : Ends} {f : Flow} {s' : Shared} (h : SP (X.wish E) pins D f s') : SP X pins D f s' := by
  cases f with
  | next => obtain ⟨σ', H', I, q⟩ := h; exact ⟨σ', H', I.unwish, q⟩
  | brk => obtain ⟨σ', H', I, q⟩ := h; exact ⟨σ', H', I.unwish, q⟩
  | cont => obtain ⟨σ', H', I, q⟩ := h; exact ⟨σ', H', I.unwish, q⟩
  | ret u => obtain ⟨v, σ', H', I, r, q⟩ := h; exact ⟨v, σ', H', I.unwish, r, q⟩
theorem PE.nox {e : Expr} {t : TE} (h : PE X.nox e t) : PE X e t := fun pins s σ H Q I hw =>
  wpAny_mono (h pins s σ H Q (I.wish _) hw) (fun _ _ ⟨v, H', I', r, q⟩ => ⟨v, H', I'.unwish, r, q⟩) fun _ _ z => False.elim z
theorem PT.nox {e : Expr} {t : TT} (h : PT X.nox e t) : PT X e t := fun pins s σ H Q I hw =>
  wpAny_mono (h pins s σ H Q (I.wish _) hw) (fun _ _ ⟨H', I', q⟩ => ⟨H', I'.unwish, q⟩) fun _ _ z => False.elim z
theorem PSs.nox {st : List Stmt} {t : TS} (h : PSs X.nox st t) : PSs X st t := fun pins s σ H D I hw =>
  wpAny_mono (h pins s σ H D (I.wish _) hw) (fun _ _ q => q.unwish) fun _ _ z => False.elim z
end

/-! ### blocks and small statements -/
section
variable {X : Cx} {st : Stmt} {rest : List Stmt} {t u : TS} {e : Expr} {te : TE} {pos : Pos}
def tNext : TS := fun D σ H => D.nx σ H
def tSeq (t u : TS) : TS := fun D σ H => t { D with nx := u D } σ H
theorem pss_nil : PSs X [] tNext := fun _ _ σ H _ I h => wpAny_execs_nil ⟨σ, H, I, h⟩
theorem pss_cons (h1 : PS X st t) (h2 : PSs X rest u) : PSs X (st :: rest) (tSeq t u) := by
  intro pins s σ H D I h
  refine wpAny_execs_cons (thn (h1 pins s σ H { D with nx := u D } I h) fun f s1 q => ?_)
  cases f with
  | next =>
    obtain ⟨σ', H', I', q⟩ := q
    exact h2 pins s1 σ' H' D I' q
  | ret v => exact q
  | brk => exact q
  | cont => exact q
theorem pss_one (h1 : PS X st t) : PSs X [st] t := by
  intro pins s σ H D I h
  refine wpAny_execs_cons (thn (h1 pins s σ H D I h) fun f s1 q => ?_)
  cases f with
  | next => exact wpAny_execs_nil q
  | ret v => exact q
  | brk => exact q
  | cont => exact q
/-- in a def's body nothing is shown -/
theorem Inv.quiet {pins : List (Addr × Obj)} {σ : St} {H : Hp} {s : Shared} (I : Inv X pins σ H s) : interactive X.env = false := by simp [interactive, I.ok.kind]
/-- an expression whose value is dropped -/
def tDrop (te : TE) : TS := fun D σ H => te σ H fun _ H1 => D.nx σ H1
theorem ps_expr (he : PE X e te) (hs : swapsWith e none pos.line X.env = pure false := by rfl) : PS X (.Expr e pos) (tDrop te) := by
  intro pins s σ H D I h
  exact wpAny_Expr_any (thn (he pins s σ H _ I h) fun v s1 ⟨x, H1, I1, r1, q1⟩ => ⟨σ, H1, I1, q1⟩) I.quiet hs
def tRet (te : TE) : TS := fun D σ H => te σ H D.rt
theorem ps_ret (he : PE X e te) : PS X (.Return (some e) pos) (tRet te) := by
  intro pins s σ H D I h
  exact wpAny_Return_some (thn (he pins s σ H _ I h) fun v s1 ⟨x, H1, I1, r1, q1⟩ => ⟨x, σ, H1, I1, r1, q1⟩)
def tRetN : TS := fun D _ H => D.rt .non H
def tIfS (c : TT) (t u : TS) : TS := fun D σ H => c σ H fun b H1 => if b = true then t D σ H1 else u D σ H1
theorem ps_if {c : Expr} {a b : List Stmt} {tc : TT} (hc : PT X c tc) (ha : PSs X a t) (hb : PSs X b u) : PS X (.If c a b pos) (tIfS tc t u) := by
  intro pins s σ H D I h
  refine wpAny_If (thn (hc pins s σ H _ I h) fun d s1 ⟨H1, I1, q1⟩ => ?_)
  cases d with
  | true => exact ha pins s1 σ H1 D I1 q1
  | false => exact hb pins s1 σ H1 D I1 q1
/-- code that the proof never comes to -/
def tNever : TS := fun _ _ _ => False
end

/-! ### targets -/
abbrev TG := V → St → Hp → (St → Hp → Prop) → Prop
abbrev TGs := List V → St → Hp → (St → Hp → Prop) → Prop
def PG (X : Cx) (target : Expr) (t : TG) : Prop :=
  ∀ (pins : List (Addr × Obj)) (s : Shared) (σ : St) (H : Hp) (v : V) (u : Value) (Q : St → Hp → Prop), Inv X pins σ H s → RelV v u → t v σ H Q →
    wpAny (model X.prog X.w) X.A (assign target X.env u) (fun _ s' => ∃ σ' H', Inv X pins σ' H' s' ∧ Q σ' H') X.xe s
/-- several targets, one after another -/
def PGs (X : Cx) (ts : List Expr) (t : TGs) : Prop :=
  ∀ (pins : List (Addr × Obj)) (s : Shared) (σ : St) (H : Hp) (vs : List V) (us : List Value) (Q : St → Hp → Prop), Inv X pins σ H s → Vals vs us → t vs σ H Q →
    wpAny (model X.prog X.w) X.A (assignInOrder ((assignEach ts X.env).map (·.2)) us) (fun _ s' => ∃ σ' H', Inv X pins σ' H' s' ∧ Q σ' H') X.xe s
/-- o[i] = v, by values -/
abbrev TSet := V → V → V → Hp → (Hp → Prop) → Prop
def PSet (X : Cx) (t : TSet) : Prop :=
  ∀ (pins : List (Addr × Obj)) (s : Shared) (σ : St) (H : Hp) (o i v : V) (ov iv u : Value) (Q : Hp → Prop), Inv X pins σ H s → RelV o ov → RelV i iv → RelV v u → t o i v H Q →
    wpAny (model X.prog X.w) X.A (setItem ov iv u) (fun _ s' => ∃ H', Inv X pins σ H' s' ∧ Q H') X.xe s
/-- a op= b, by values -/
abbrev TIp := V → V → Hp → VK → Prop
def PIp (X : Cx) (op : Operator) (t : TIp) : Prop :=
  ∀ (pins : List (Addr × Obj)) (s : Shared) (σ : St) (H : Hp) (x y : V) (v u : Value) (Q : VK), Inv X pins σ H s → RelV x v → RelV y u → t x y H Q →
    wpAny (model X.prog X.w) X.A (inplaceOp op v u) (EP X pins σ Q) X.xe s
section
variable {X : Cx} {pos : Pos}
def gName (i : Nat) : TG := fun v σ H Q => Q (σ.set i (some v)) H
theorem pg_name {i : Nat} {x : Str} (hN : X.N.Nodup) (hi : X.N[i]? = some x) (hx : Loc X.env.scope x) (hf : X.fn x = true ∨ X.env.scope.names.lookup x = some .local := by first | exact .inl rfl | exact .inr rfl | assumption) : PG X (.Name x pos) (gName i) := by
  intro pins s σ H v u Q I r h
  exact wpAny_assign_Name (store_ok I hN hi hx r (fun s' I' => ⟨_, H, I', h⟩) hf)
def gNil : TGs := fun vs σ H Q => vs = [] ∧ Q σ H
def gCons (t : TG) (u : TGs) : TGs := fun vs σ H Q => ∃ v r, vs = v :: r ∧ t v σ H fun σ' H' => u r σ' H' Q
theorem pgs_nil : PGs X [] gNil := by
  intro pins s σ H vs us Q I r h
  obtain ⟨e, h⟩ := h
  subst e
  cases r
  exact assignInOrder_nil ⟨σ, H, I, h⟩
theorem pgs_cons {e : Expr} {es : List Expr} {t : TG} {u : TGs} (h1 : PG X e t) (h2 : PGs X es u)
    (hs : (assignEach (e :: es) X.env).map (·.2) = assign e X.env :: (assignEach es X.env).map (·.2) := by rfl) : PGs X (e :: es) (gCons t u) := by
  intro pins s σ H vs us Q I r h
  obtain ⟨v, vr, e1, h⟩ := h
  subst e1
  cases r with
  | cons r rr =>
    rw [hs]
    refine assignInOrder_cons (thn (h1 pins s σ H _ _ _ I r h) fun _ s1 ⟨σ1, H1, I1, q1⟩ => ?_)
    exact h2 pins s1 σ1 H1 _ _ Q I1 rr q1
/-- (a, b, ..) = a tuple of that length -/
def gTup (K : PySem.W.Frag) (n : Nat) (t : TGs) : TG := fun v σ H Q => ∃ a xs, v = .ref a ∧ SqT K H a xs ∧ xs.length = n ∧ t xs σ H Q
theorem pg_tup {es : List Expr} {k : Nat} {t : TGs} {n : Nat} (hc : X.calm = true) (h : PGs X es t)
    (hn : (assignEach es X.env).length = n := by rfl) (hst : (assignEach es X.env).findIdx? (·.1) = none := by rfl) : PG X (.Tuple es k pos) (gTup X.K n t) := by
  intro pins s σ H v u Q I r hw
  obtain ⟨a, xs, e1, hq, hl, hw⟩ := hw
  subst e1
  cases r
  obtain ⟨its, rv, ht, hz⟩ := I.tuple hq
  refine assign_Tuple_tuple (I.ok.hd hc) ht (by simp [hn, ← hl, rv.length]) hst fun h' hx => ?_
  have I1 : Inv X pins σ H { s with heap := h' } := I.kept (t' := s.toks) fun b o e => hx b o (Nat.ne_of_lt (Heap.lt_size e)) e
  exact h pins _ σ H xs _ Q I1 (by simpa using rv) hw
/-- o[i] = .. -/
def gSub (to ti : TE) (t : TSet) : TG := fun v σ H Q => to σ H fun o H1 => ti σ H1 fun i H2 => t o i v H2 fun H3 => Q σ H3
theorem pg_sub {o i : Expr} {to ti : TE} {t : TSet} (ho : PE X o to) (hi : PE X i ti) (hs : PSet X t)
    (ha : ∀ v, assign (.Subscript o i pos) X.env v = (do
      let ov ← holding [v] (eval o X.env)
      let iv ← holding [v, ov] (eval i X.env)
      standAt pos
      holding [v, ov, iv] (setItem ov iv v)
      release [v, ov, iv] []) := by intro _; rfl) : PG X (.Subscript o i pos) (gSub to ti t) := by
  intro pins s σ H v u Q I r h
  rw [ha]
  refine wpAny_bind (wpAny_holding (thn (ho pins s σ H _ I h) fun ov s1 ⟨x, H1, I1, r1, q1⟩ => ?_))
  refine wpAny_bind (wpAny_holding (thn (hi pins s1 σ H1 _ I1 q1) fun iv s2 ⟨y, H2, I2, r2, q2⟩ => ?_))
  refine wpAny_bind (wpAny_standAt (wpAny_bind (wpAny_holding (thn (hs pins s2 σ H2 x y v ov iv u _ I2 r1 r2 r q2) fun _ s3 ⟨H3, I3, q3⟩ => ?_))))
  exact wpAny_release ⟨σ, H3, I3, q3⟩
/-- target = value -/
def tAsg (te : TE) (g : TG) : TS := fun D σ H => te σ H fun x H1 => g x σ H1 D.nx
theorem ps_asg {tg e : Expr} {te : TE} {g : TG} (he : PE X e te) (hg : PG X tg g) (hs : swapsWithSole [tg] e pos.line X.env = pure false := by rfl) (hw : swappedStores [tg] e X.env = pure none := by rfl)
    (h1 : (assignEach [tg] X.env).map (·.2) = [assign tg X.env] := by rfl) : PS X (.Assign [tg] e pos) (tAsg te g) := by
  intro pins s σ H D I h
  refine wpAny_Assign_stores (thn (he pins s σ H _ I h) fun v s1 ⟨x, H1, I1, r1, q1⟩ => ?_) hs hw
  rw [h1]
  exact thn (hg pins s1 σ H1 x v _ I1 r1 q1) fun _ s2 q => q
/-- name = value -/
theorem ps_set {i : Nat} {x : Str} {e : Expr} {te : TE} {pos' : Pos} (hN : X.N.Nodup) (hi : X.N[i]? = some x) (hx : Loc X.env.scope x) (he : PE X e te) (hs : swapsWith e (some (.Name x pos')) pos.line X.env = pure false := by rfl) (hf : X.fn x = true ∨ X.env.scope.names.lookup x = some .local := by first | exact .inl rfl | exact .inr rfl | assumption) :
    PS X (.Assign [.Name x pos'] e pos) (tAsg te (gName i)) := by
  intro pins s σ H D I h
  refine wpAny_Assign_Name (thn (he pins s σ H _ I h) fun v s1 ⟨y, H1, I1, r1, q1⟩ => ?_) hs
  exact store_ok I1 hN hi hx r1 (fun s2 I2 => ⟨_, H1, I2, q1⟩) hf
/-- a, b = x, y with plain local names: stored from the right; the pair itself is not tracked (the opening rows as in PyProof/Rows/TupAssign.lean:23) -/
def tPar (i j : Nat) (ta : TA) : TS := fun D σ H => ta σ H fun vs H1 => ∃ v w, vs = [v, w] ∧ D.nx ((σ.set i (some v)).set j (some w)) H1
/-- o[i] op= e -/
def tAugS (to ti te : TE) (tget : V → V → Hp → VK → Prop) (tip : TIp) (tset : TSet) : TS := fun D σ H => to σ H fun o H1 => ti σ H1 fun i H2 => tget o i H2 fun x H3 => te σ H3 fun y H4 => tip x y H4 fun z H5 => tset o i z H5 fun H6 => D.nx σ H6
/-- o[i], by values -/
def PGet (X : Cx) (t : V → V → Hp → VK → Prop) : Prop :=
  ∀ (pins : List (Addr × Obj)) (s : Shared) (σ : St) (H : Hp) (o i : V) (ov iv : Value) (Q : VK), Inv X pins σ H s → RelV o ov → RelV i iv → t o i H Q →
    wpAny (model X.prog X.w) X.A (getItem ov iv) (EP X pins σ Q) X.xe s
theorem ps_augS {o i e : Expr} {to ti te : TE} {tget : V → V → Hp → VK → Prop} {tip : TIp} {tset : TSet} {op : Operator} {tpos : Pos} (ho : PE X o to) (hi : PE X i ti) (hg : PGet X tget) (he : PE X e te) (hp : PIp X op tip) (hs : PSet X tset)
    (ha : ∀ ov iv new, augStore i ov iv new = (do holding [new, ov, iv] (setItem ov iv new); release [new, ov, iv] []; pure .next) := by intros; rfl) : PS X (.AugAssign (.Subscript o i tpos) op e pos) (tAugS to ti te tget tip tset) := by
  intro pins s σ H D I h
  refine wpAny_AugAssign_SubscriptAny (thn (ho pins s σ H _ I h) fun ov s1 ⟨x1, H1, I1, r1, q1⟩ => ?_) ha
  refine thn (hi pins s1 σ H1 _ I1 q1) fun iv s2 ⟨x2, H2, I2, r2, q2⟩ => ?_
  refine thn (hg pins s2 σ H2 x1 x2 ov iv _ I2 r1 r2 q2) fun old s3 ⟨x3, H3, I3, r3, q3⟩ => ?_
  refine thn (he pins s3 σ H3 _ I3 q3) fun v s4 ⟨x4, H4, I4, r4, q4⟩ => ?_
  refine thn (hp pins s4 σ H4 x3 x4 old v _ I4 r3 r4 q4) fun new s5 ⟨x5, H5, I5, r5, q5⟩ => ?_
  exact thn (hs pins s5 σ H5 x1 x2 x5 ov iv new _ I5 r1 r2 r5 q5) fun _ s6 ⟨H6, I6, q6⟩ => ⟨σ, H6, I6, q6⟩
/-- ints -/
def ipI (f : Int → Int → Int) : TIp := fun x y H Q => ∃ i j, x = .int i ∧ y = .int j ∧ Q (.int (f i j)) H
theorem ip_add : PIp X .Add (ipI fun i j => i + j) := by
  intro pins s σ H x y v u Q I r1 r2 h
  obtain ⟨i, j, e1, e2, q⟩ := h
  subst e1; subst e2
  obtain ⟨t, rfl⟩ := r1
  obtain ⟨t', rfl⟩ := r2
  exact iadd_int ⟨.int _, H, I.tok _, ⟨_, rfl⟩, q⟩
theorem ip_sub : PIp X .Sub (ipI fun i j => i - j) := by
  intro pins s σ H x y v u Q I r1 r2 h
  obtain ⟨i, j, e1, e2, q⟩ := h
  subst e1; subst e2
  obtain ⟨t, rfl⟩ := r1
  obtain ⟨t', rfl⟩ := r2
  exact isub_int ⟨.int _, H, I.tok _, ⟨_, rfl⟩, q⟩
end

/-! ### while -/
section
variable {X : Cx} {pos : Pos}
/-- the invariant W with its measure -/
def tWhile (c : TT) (tb : TS) : TS := fun D σ H => ∃ W : Nat → St → Hp → Prop, (∃ m, W m σ H) ∧ ∀ m σ H, W m σ H →
  c σ H fun b H1 => if b = true then ∃ N : St → Hp → Prop, (∀ σ' H', N σ' H' → ∃ m', m' < m ∧ W m' σ' H') ∧ tb { D with nx := N, ct := N, bk := D.nx } σ H1 else D.nx σ H1
theorem ps_while {c : Expr} {body : List Stmt} {tc : TT} {tb : TS} (hp : PassesOwn (model X.prog X.w) X.A X.env X.xe) (hc : PT X c tc) (hb : PSs X body tb) : PS X (.While c body [] pos) (tWhile tc tb) := by
  intro pins s σ H D I h
  obtain ⟨W, ⟨m0, w0⟩, turn⟩ := h
  refine wpAny_While (codeAny_whileLoop (fun n s' => ∃ σ' H', Inv X pins σ' H' s' ∧ W n σ' H') ?_ m0 ⟨σ, H, I, w0⟩)
  rintro n s1 ⟨σ1, H1, I1, w1⟩
  refine wpAny_passesOwn hp (thn (hc pins s1 σ1 H1 _ I1 (turn n σ1 H1 w1)) fun b s2 ⟨H2, I2, q2⟩ => ?_)
  cases b with
  | true =>
    obtain ⟨N, hN, q2⟩ := q2
    rw [if_pos rfl]
    refine wpAny_passesOwn hp (thn (hb pins s2 σ1 H2 _ I2 q2) fun f s3 q3 => ?_)
    cases f with
    | next =>
      obtain ⟨σ3, H3, I3, n3⟩ := q3
      obtain ⟨m', hm, w3⟩ := hN σ3 H3 n3
      exact ⟨m', hm, σ3, H3, I3, w3⟩
    | cont =>
      obtain ⟨σ3, H3, I3, n3⟩ := q3
      obtain ⟨m', hm, w3⟩ := hN σ3 H3 n3
      exact ⟨m', hm, σ3, H3, I3, w3⟩
    | brk => exact q3
    | ret v => exact q3
  | false =>
    rw [if_neg Bool.false_ne_true]
    exact wpAny_execs_nil ⟨σ1, H2, I2, q2⟩
end

/-! ### what a loop or a comprehension walks -/
/-- at turn i: it yields x (the heap may grow), or it stops -/
structure It where
  go : Nat → Hp → Prop
  yld : Nat → Hp → V → Hp → Prop
  stop : Nat → Hp → Prop
/-- the iterator's own objects may turn: they are not the frame's, not pinned, younger than the entry (or a comprehension's own) -/
def FpOk (X : Cx) (pins : List (Addr × Obj)) (H : Hp) (b : Addr) : Prop :=
  H b = none ∧ b ≠ X.env.locals ∧ b ∉ X.fs ∧ (b ∈ X.ex ∨ X.s₀.heap.objs.size ≤ b) ∧ (∀ x c, X.env.cells.lookup x = some c → c ≠ b) ∧ ∀ p ∈ X.pn ++ pins, p.1 ≠ b
theorem Inv.fpOk {X : Cx} {pins : List (Addr × Obj)} {σ : St} {H H' : Hp} {s : Shared} {b : Addr} (I : Inv X pins σ H s) (hb : s.heap.objs.size ≤ b) (hn : H' b = none) : FpOk X pins H' b := by
  refine ⟨hn, Nat.ne_of_gt (Nat.lt_of_lt_of_le I.lt hb), I.nofs hb, .inr (Nat.le_trans I.sz hb), fun x c e z => ?_, fun p hp z => ?_⟩
  · obtain ⟨v, q⟩ := I.cell x c e
    exact absurd (Nat.lt_of_lt_of_le q.lt (by rw [z]; exact hb)) (Nat.lt_irrefl _)
  · exact absurd (Nat.lt_of_lt_of_le (Heap.lt_size (I.pin p hp).1) (by rw [z]; exact hb)) (Nat.lt_irrefl _)
structure Turn (P : Program) (w : World) (K : PySem.W.Frag) (tg : Expr) (J : It) (fp : List Addr) (it : Addr) (tn : Nat → Heap → Prop) : Prop where
  mem : it ∈ fp
  obj : ∀ i h, tn i h → ∀ b ∈ fp, ∃ o, h.get? b = some o ∧ ∀ v, o.data ≠ .cell v
  keep : ∀ i h h', tn i h → (∀ b ∈ fp, ∀ o, h.get? b = some o → h'.get? b = some o) → tn i h'
  item : ∀ (X : Cx), X.prog = P → X.w = w → X.K = K → X.calm = true → ∀ (i : Nat) (pins : List (Addr × Obj)) (s : Shared) (σ : St) (H : Hp) (E : Value → Shared → Prop), Inv X pins σ H s → (∀ b ∈ fp, FpOk X pins H b) → tn i s.heap → J.go i H →
    wpAny (model P w) X.A (pyNext (.ref it)) (fun r s1 => ∃ u, r = some u ∧
      wpAny (model P w) X.A (letOwnedTupleGo tg (.ref it) u) (fun _ s2 => ∃ x H', Inv X pins σ H' s2 ∧ RelV x u ∧ J.yld i H x H' ∧ tn (i + 1) s2.heap ∧ ∀ b ∈ fp, H' b = none) E s1) E s
  done : ∀ (X : Cx), X.prog = P → X.w = w → X.K = K → X.calm = true → ∀ (i : Nat) (pins : List (Addr × Obj)) (s : Shared) (σ : St) (H : Hp) (E : Value → Shared → Prop), Inv X pins σ H s → (∀ b ∈ fp, FpOk X pins H b) → tn i s.heap → J.stop i H →
    wpAny (model P w) X.A (pyNext (.ref it)) (fun r s1 => r = none ∧ Inv X pins σ H s1) E s
  self : ∀ (A : Around) (i : Nat) (s : Shared) (Q : Value → Shared → Prop) (E : Value → Shared → Prop), tn i s.heap → Q (.ref it) s → wpAny (model P w) A (pyIter (.ref it)) Q E s
abbrev TI := St → Hp → (It → Hp → Prop) → Prop
/-- an iterator has come -/
def PIE (X : Cx) (pins : List (Addr × Obj)) (σ : St) (tg : Expr) (R : It → Hp → Prop) (itv : Value) (s2 : Shared) : Prop :=
  ∃ (it : Addr) (fp : List Addr) (tn : Nat → Heap → Prop) (J : It) (H' : Hp), itv = .ref it ∧ Inv X pins σ H' s2 ∧ Turn X.prog X.w X.K tg J fp it tn ∧ tn 0 s2.heap ∧ (∀ b ∈ fp, FpOk X pins H' b) ∧ R J H'
def PI (X : Cx) (tg iter : Expr) (wi : TI) : Prop :=
  ∀ (pins : List (Addr × Obj)) (s : Shared) (σ : St) (H : Hp) (R : It → Hp → Prop), Inv X pins σ H s → wi σ H R →
    wpAny (model X.prog X.w) X.A (eval iter X.env) (fun v s1 => wpAny (model X.prog X.w) X.A (pyIter v) (PIE X pins σ tg R) X.xe s1) X.xe s

/-- the step ahead of the store is nothing for an iterator that keeps no tuple -/
theorem go_of {M : Model} {A : Around} {E : Value → Shared → Prop} {s : Shared} {tg : Expr} {it : Addr} {u : Value} {o : Obj} {n : String} {vs : Array Value} {Q : Unit → Shared → Prop} (ho : s.heap.get? it = some o) (hc : o.cls = .type n) (hd : o.data = .fields vs)
    (hn : ["enumerate", "zip", "dict_itemiterator", "dict_reverseitemiterator", "odict_iterator", "itertools.zip_longest", "itertools.pairwise"].contains n = false) (hQ : Q () s) : wpAny M A (letOwnedTupleGo tg (.ref it) u) Q E s := by
  unfold letOwnedTupleGo
  cases tg <;> first
    | exact wpAny_pure hQ
    | (cases u <;> first
        | exact wpAny_pure hQ
        | (refine wpAny_bind (wpAny_load ho ?_)
           rw [hc, hd]
           show wpAny M A (if (["enumerate", "zip", "dict_itemiterator", "dict_reverseitemiterator", "odict_iterator", "itertools.zip_longest", "itertools.pairwise"].contains n && vs[0]? == some (rawInt _)) = true then _ else _) Q E s
           rw [if_neg (by intro h; rw [hn, Bool.false_and] at h; cases h)]
           exact wpAny_pure hQ))

/-- the list at a, as it stands at each turn (a loop may append to it) -/
def Itl (K : PySem.W.Frag) (a : Addr) : It :=
  ⟨fun i H => ∃ xs x, SqL K H a xs ∧ xs[i]? = some x, fun i H x H' => H' = H ∧ ∀ xs, SqL K H a xs → xs[i]? = some x, fun i H => ∃ xs, SqL K H a xs ∧ xs.length ≤ i⟩
def Itt (K : PySem.W.Frag) (a : Addr) : It :=
  ⟨fun i H => ∃ xs x, SqT K H a xs ∧ xs[i]? = some x, fun i H x H' => H' = H ∧ ∀ xs, SqT K H a xs → xs[i]? = some x, fun i H => ∃ xs, SqT K H a xs ∧ xs.length ≤ i⟩
/-- lo, lo + 1, .. (n of them) -/
def Itr (lo : Int) (n : Nat) : It := ⟨fun i _ => i < n, fun i H x H' => H' = H ∧ x = .int (lo + i), fun i _ => n ≤ i⟩
theorem turn_list {P : Program} {w : World} {K : PySem.W.Frag} {tg : Expr} (a it : Addr) : Turn P w K tg (Itl K a) [it] it (fun i h => h.IsListIter it a i) where
  mem := by simp
  obj := fun i h st b hb => by
    have e : b = it := by simpa using hb
    subst e
    obtain ⟨o, e, c, d⟩ := st
    exact ⟨o, e, fun v z => by rw [d] at z; cases z⟩
  keep := fun i h h' st k => st.at fun o e => k it (by simp) o e
  item := by
    intro X hP hw hK hc i pins s σ H E I hf st hg
    subst hP hw hK
    obtain ⟨xs, x, hq, hx⟩ := hg
    obtain ⟨its, rv, p, hz⟩ := I.list hq
    obtain ⟨u, hu, ru⟩ := rv.get hx
    obtain ⟨f0, f1, f2, f3, f4, f5⟩ := hf it (by simp)
    refine wpAny_pyNext_list_item st p.isList (x := u) (by simpa using hu) fun h' st' sb => ?_
    have I1 : Inv X pins σ H { s with heap := h' } := I.turned (t' := s.toks) (fun b o hb e => (sb.2 b hb).trans e) f0 f1 f3 f4 f5
    obtain ⟨o, e, c, d⟩ := id st'
    exact ⟨u, rfl, go_of (s := { s with heap := h' }) e c d (by decide) ⟨x, H, I1, ru, ⟨rfl, fun ys hy => by rw [I.list_inj hy hq]; exact hx⟩, st', fun b hb => (hf b hb).1⟩⟩
  done := by
    intro X hP hw hK hc i pins s σ H E I hf st hg
    subst hP hw hK
    obtain ⟨xs, hq, hx⟩ := hg
    obtain ⟨its, rv, p, hz⟩ := I.list hq
    obtain ⟨f0, f1, f2, f3, f4, f5⟩ := hf it (by simp)
    have hl := rv.length
    exact wpAny_pyNext_list_end (I.ok.hd hc) st p.isList (by simp; omega) fun h' eb => ⟨rfl, I.turned (t' := s.toks) (fun b o hb e => eb b o hb e) f0 f1 f3 f4 f5⟩
  self := fun _ _ _ _ _ st h => wpAny_pyIter_listiter st h
theorem turn_tuple {P : Program} {w : World} {K : PySem.W.Frag} {tg : Expr} (a it : Addr) : Turn P w K tg (Itt K a) [it] it (fun i h => h.IsTupleIter it a i) where
  mem := by simp
  obj := fun i h st b hb => by
    have e : b = it := by simpa using hb
    subst e
    obtain ⟨o, e, c, d⟩ := st
    exact ⟨o, e, fun v z => by rw [d] at z; cases z⟩
  keep := fun i h h' st k => st.at fun o e => k it (by simp) o e
  item := by
    intro X hP hw hK hc i pins s σ H E I hf st hg
    subst hP hw hK
    obtain ⟨xs, x, hq, hx⟩ := hg
    obtain ⟨its, rv, p, hz⟩ := I.tuple hq
    obtain ⟨u, hu, ru⟩ := rv.get hx
    obtain ⟨f0, f1, f2, f3, f4, f5⟩ := hf it (by simp)
    refine wpAny_pyNext_tuple_item st (show s.heap.IsTuple a its.toArray from p) (x := u) (by simpa using hu) fun h' st' sb => ?_
    have I1 : Inv X pins σ H { s with heap := h' } := I.turned (t' := s.toks) (fun b o hb e => (sb.2 b hb).trans e) f0 f1 f3 f4 f5
    obtain ⟨o, e, c, d⟩ := id st'
    exact ⟨u, rfl, go_of (s := { s with heap := h' }) e c d (by decide) ⟨x, H, I1, ru, ⟨rfl, fun ys hy => by rw [I.tuple_inj hy hq]; exact hx⟩, st', fun b hb => (hf b hb).1⟩⟩
  done := by
    intro X hP hw hK hc i pins s σ H E I hf st hg
    subst hP hw hK
    obtain ⟨xs, hq, hx⟩ := hg
    obtain ⟨its, rv, p, hz⟩ := I.tuple hq
    obtain ⟨f0, f1, f2, f3, f4, f5⟩ := hf it (by simp)
    have hl := rv.length
    exact wpAny_pyNext_tuple_end (I.ok.hd hc) st (show s.heap.IsTuple a its.toArray from p) (by simp; omega) fun h' eb => ⟨rfl, I.turned (t' := s.toks) (fun b o hb e => eb b o hb e) f0 f1 f3 f4 f5⟩
  self := fun _ _ _ _ _ st h => wpAny_pyIter_tupleiter st h
theorem turn_range {P : Program} {w : World} {K : PySem.W.Frag} {tg : Expr} (it : Addr) (lo : Int) (n : Nat) : Turn P w K tg (Itr lo n) [it] it (fun i h => IsRangeIter h it (lo + (i : Nat) * 1) ((n : Int) - (i : Nat)) 1) where
  mem := by simp
  obj := fun i h st b hb => by
    have e : b = it := by simpa using hb
    subst e
    exact ⟨_, st, fun v z => by
      have z' : Data.fields _ = Data.cell v := z
      cases z'⟩
  keep := fun i h h' st k => k it (by simp) _ st
  item := by
    intro X hP hw hK hc i pins s σ H E I hf st hg
    subst hP hw hK
    obtain ⟨f0, f1, f2, f3, f4, f5⟩ := hf it (by simp)
    have W := Walks.range (prog := X.prog) (w := X.w) (I.ok.hd hc) it lo 1 n
    refine W.item i s _ _ hg st fun v h' tk hv st' kk => ?_
    obtain ⟨t, rfl⟩ := hv
    have I1 : Inv X pins σ H { s with heap := h', toks := tk } := I.turned (fun b o hb e => kk b o (by simpa using hb) e) f0 f1 f3 f4 f5
    refine ⟨_, rfl, go_of (s := { s with heap := h', toks := tk }) (n := "range_iterator") st' rfl rfl (by decide) ⟨.int (lo + i), H, I1, ⟨t, ?_⟩, ⟨rfl, rfl⟩, st', fun b hb => (hf b hb).1⟩⟩
    rw [Int.mul_one]
  done := by
    intro X hP hw hK hc i pins s σ H E I hf st hg
    subst hP hw hK
    obtain ⟨f0, f1, f2, f3, f4, f5⟩ := hf it (by simp)
    exact wpAny_pyNext_range_end (I.ok.hd hc) st (by have : n ≤ i := hg; omega) fun h' eb => ⟨rfl, I.turned (t' := s.toks) (fun b o hb e => eb b o hb e) f0 f1 f3 f4 f5⟩
  self := fun _ _ _ _ _ st h => wpAny_pyIter_rangeiter st h
end L2

namespace L2
open PySem PySem.Spec PyProof.Rows
section
variable {X : Cx} {tg : Expr}
def iList (K : PySem.W.Frag) (tl : TE) : TI := fun σ H R => tl σ H fun x H1 => ∃ a, x = .ref a ∧ (∃ xs, SqL K H1 a xs) ∧ R (Itl K a) H1
def iTup (K : PySem.W.Frag) (tl : TE) : TI := fun σ H R => tl σ H fun x H1 => ∃ a, x = .ref a ∧ (∃ xs, SqT K H1 a xs) ∧ R (Itt K a) H1
theorem pi_list {l : Expr} {tl : TE} (hl : PE X l tl) : PI X tg l (iList X.K tl) := by
  intro pins s σ H R I h
  refine thn (hl pins s σ H _ I h) fun v s1 ⟨x, H1, I1, r1, q1⟩ => ?_
  obtain ⟨a, e, ⟨xs, hq⟩, q⟩ := q1
  subst e
  cases r1
  obtain ⟨its, rv, p, hz⟩ := I1.list hq
  refine wpAny_pyIter_list p.isList ?_
  refine ⟨s1.heap.objs.size, [s1.heap.objs.size], _, _, H1, rfl, I1.kept (t' := s1.toks) fun b o e => Heap.get?_push_of_some _ e, turn_list a _, ⟨_, Heap.get?_push_size _ rfl, rfl, rfl⟩, fun b hb => ?_, q⟩
  have e : b = s1.heap.objs.size := by simpa using hb
  subst e
  exact I1.fpOk (Nat.le_refl _) (I1.hok.fresh (Nat.le_refl _))
theorem pi_tup {l : Expr} {tl : TE} (hl : PE X l tl) : PI X tg l (iTup X.K tl) := by
  intro pins s σ H R I h
  refine thn (hl pins s σ H _ I h) fun v s1 ⟨x, H1, I1, r1, q1⟩ => ?_
  obtain ⟨a, e, ⟨xs, hq⟩, q⟩ := q1
  subst e
  cases r1
  obtain ⟨its, rv, p, hz⟩ := I1.tuple hq
  refine wpAny_pyIter_tuple (show s1.heap.IsTuple a its.toArray from p) ?_
  refine ⟨s1.heap.objs.size, [s1.heap.objs.size], _, _, H1, rfl, I1.kept (t' := s1.toks) fun b o e => Heap.get?_push_of_some _ e, turn_tuple a _, ⟨_, Heap.get?_push_size _ rfl, rfl, rfl⟩, fun b hb => ?_, q⟩
  have e : b = s1.heap.objs.size := by simpa using hb
  subst e
  exact I1.fpOk (Nat.le_refl _) (I1.hok.fresh (Nat.le_refl _))
/-- a range object just made, walked -/
theorem range_it {pins : List (Addr × Obj)} {σ : St} {H : Hp} {s : Shared} {R : It → Hp → Prop} {E : Value → Shared → Prop} {lo hi : Int} {t u v : Tok} {tk : Nat} (I : Inv X pins σ H s) (h1 : -(2 ^ 62) ≤ lo) (h2 : lo < 2 ^ 62) (h3 : -(2 ^ 62) ≤ hi) (h4 : hi < 2 ^ 62)
    (q : R (Itr lo (hi - lo).toNat) H) : wpAny (model X.prog X.w) X.A (pyIter (.ref s.heap.objs.size)) (PIE X pins σ tg R) E { s with heap := s.heap.push { cls := .type "range", data := .fields #[.int lo t, .int hi u, .int 1 v] }, toks := tk } := by
  refine wpAny_pyIter_range (IsRange.new ..) (small_one h1 h2 h3 h4) ?_
  have I1 : Inv X pins σ H { s with heap := s.heap.push { cls := .type "range", data := .fields #[.int lo t, .int hi u, .int 1 v] }, toks := tk } := I.kept fun b o e => Heap.get?_push_of_some _ e
  refine ⟨(s.heap.push { cls := .type "range", data := .fields #[.int lo t, .int hi u, .int 1 v] }).objs.size, [(s.heap.push { cls := .type "range", data := .fields #[.int lo t, .int hi u, .int 1 v] }).objs.size], _, _, H, rfl,
    I1.kept (t' := tk) fun b o e => Heap.get?_push_of_some _ e, turn_range _ lo (hi - lo).toNat, ?_, fun b hb => ?_, q⟩
  · have e1 : lo + ((0 : Nat) : Int) * 1 = lo := by simp
    have e2 : (((hi - lo).toNat : Nat) : Int) - ((0 : Nat) : Int) = Builtin.Range.rangeSize lo hi 1 := by rw [rangeSize_one]; split <;> omega
    show IsRangeIter _ _ (lo + ((0 : Nat) : Int) * 1) ((((hi - lo).toNat : Nat) : Int) - ((0 : Nat) : Int)) 1
    rw [e1, e2]
    exact Heap.get?_push_size _ rfl
  · have e : b = (s.heap.push { cls := .type "range", data := .fields #[.int lo t, .int hi u, .int 1 v] }).objs.size := by simpa using hb
    subst e
    exact I1.fpOk (Nat.le_refl _) (I1.hok.fresh (Nat.le_refl _))
def iRng1 (ta : TA) : TI := fun σ H R => ta σ H fun vs H1 => ∃ j : Int, vs = [.int j] ∧ -(2 ^ 62) ≤ j ∧ j < 2 ^ 62 ∧ R (Itr 0 j.toNat) H1
def iRng2 (ta : TA) : TI := fun σ H R => ta σ H fun vs H1 => ∃ i j : Int, vs = [.int i, .int j] ∧ (-(2 ^ 62) ≤ i ∧ i < 2 ^ 62 ∧ -(2 ^ 62) ≤ j ∧ j < 2 ^ 62) ∧ R (Itr i (j - i).toNat) H1
theorem pi_range1 {a : Expr} {ta : TA} {p pos : Pos} (hg : Gl X "range") (hm : X.mg "range" = none) (ha : PA X [a] ta) (hs : starEach [a] X.env = [(false, eval a X.env)] := by rfl) : PI X tg (.Call (.Name "range" p) [a] [] pos) (iRng1 ta) := by
  intro pins s σ H R I h
  refine Call_ (ld_blt I hg hm boot_range (PyProof.Rows.callWith_type1 (thn (ha pos pins s σ H _ I h) fun us s1 ⟨vs, H1, I1, r1, q1⟩ => ?_) hs rfl))
  obtain ⟨j, e, q1, q2, q⟩ := q1
  subst e
  cases r1 with
  | cons r rr =>
    cases rr
    obtain ⟨t, rfl⟩ := r
    exact call_range_1 (range_it I1 (by omega) (by omega) q1 q2 (by simpa using q))
/-! ### for -/
/-- W: the invariant by the turn and a measure; N: what the body is to reach -/
def tFor (wi : TI) (g : TG) (tb : TS) : TS := fun D σ H => wi σ H fun J H1 => ∃ W : Nat → Nat → St → Hp → Prop, (∃ m, W 0 m σ H1) ∧ ∀ i m σ H, W i m σ H →
  (J.stop i H ∧ D.nx σ H) ∨ (J.go i H ∧ ∃ N : St → Hp → Prop, (∀ σ' H', N σ' H' → ∃ m', m' < m ∧ W (i + 1) m' σ' H') ∧ ∀ x H', J.yld i H x H' → g x σ H' fun σ2 H2 => tb { D with nx := N, ct := N, bk := D.nx } σ2 H2)
/-- the records at fp as they stand -/
def pinsAt (fp : List Addr) (h : Heap) : List (Addr × Obj) := fp.filterMap fun b => (h.get? b).map fun o => (b, o)
theorem mem_pinsAt {fp : List Addr} {h : Heap} {b : Addr} {o : Obj} (hb : b ∈ fp) (e : h.get? b = some o) : (b, o) ∈ pinsAt fp h := List.mem_filterMap.mpr ⟨b, hb, by rw [e]; rfl⟩
theorem of_pinsAt {fp : List Addr} {h : Heap} {p : Addr × Obj} (hp : p ∈ pinsAt fp h) : p.1 ∈ fp ∧ h.get? p.1 = some p.2 := by
  obtain ⟨b, hb, e⟩ := List.mem_filterMap.mp hp
  cases q : h.get? b with
  | none => rw [q] at e; cases e
  | some o =>
    rw [q] at e
    have e' : (b, o) = p := Option.some.inj e
    subst e'
    exact ⟨hb, q⟩
theorem Inv.pinned {pins : List (Addr × Obj)} {σ : St} {H : Hp} {s : Shared} {fp : List Addr} (I : Inv X pins σ H s) (hf : ∀ b ∈ fp, FpOk X pins H b) (ho : ∀ b ∈ fp, ∃ o, s.heap.get? b = some o ∧ ∀ v, o.data ≠ .cell v) : Inv X (pins ++ pinsAt fp s.heap) σ H s :=
  I.pins_of fun p hp => (List.mem_append.mp hp).elim (fun z => I.pin p (List.mem_append_right _ z)) fun z => by
    obtain ⟨hb, e⟩ := of_pinsAt z
    obtain ⟨f0, f1, f2, _⟩ := hf p.1 hb
    obtain ⟨o, e', d⟩ := ho p.1 hb
    rw [e] at e'; cases e'
    exact ⟨e, f0, f1, f2, d⟩
theorem Inv.unpinned {pins pl : List (Addr × Obj)} {σ : St} {H : Hp} {s : Shared} (I : Inv X (pins ++ pl) σ H s) : Inv X pins σ H s := I.pins_of fun p hp => I.pin p (List.mem_append_right _ (List.mem_append_left _ hp))
theorem ps_for {iter : Expr} {body : List Stmt} {wi : TI} {g : TG} {tb : TS} {pos : Pos} (hp : PassesOwn (model X.prog X.w) X.A X.env X.xe) (hc : X.calm = true) (hi : PI X tg iter wi) (hg : PG X tg g) (hb : PSs X body tb)
    (hs : ∀ x, foldedSetIterable iter X.env x = pure x := by intro _; rfl) : PS X (.For tg iter body [] pos) (tFor wi g tb) := by
  intro pins s σ H D I h
  refine wpAny_For (thn (hi pins s σ H _ I h) fun v s1 h1 => thn h1 fun itv s2 h2 => ?_) hs
  obtain ⟨it, fp, tn, J, H2, e, I2, T, st2, f2, W, ⟨m0, w0⟩, turn⟩ := h2
  subst e
  -- what stays true of the iterator's objects through the loop
  have stat : ∀ {H' : Hp}, (∀ b ∈ fp, H' b = none) → ∀ b ∈ fp, FpOk X pins H' b := fun hn b hb => ⟨hn b hb, (f2 b hb).2⟩
  refine codeAny_forLoop_any (fun n s' => ∃ i σ' H', Inv X pins σ' H' s' ∧ tn i s'.heap ∧ (∀ b ∈ fp, H' b = none) ∧ W i n σ' H') ?_ m0 ⟨0, σ, H2, I2, st2, fun b hb => (f2 b hb).1, w0⟩
  rintro n s3 ⟨i, σ3, H3, I3, st3, fr3, w3⟩
  rcases turn i n σ3 H3 w3 with ⟨stop, qn⟩ | ⟨go, N, hN, step⟩
  · refine wpAny_passesOwn hp (thn (T.done X rfl rfl rfl hc i pins s3 σ3 H3 X.xe I3 (stat fr3) st3 stop) fun r s4 ⟨hr, I4⟩ => ?_)
    subst hr
    exact wpAny_execs_nil ⟨σ3, H3, I4, qn⟩
  · refine wpAny_passesOwn hp (thn (T.item X rfl rfl rfl hc i pins s3 σ3 H3 X.xe I3 (stat fr3) st3 go) fun r s4 ⟨u, hr, h4⟩ => ?_)
    subst hr
    refine wpAny_passesOwn hp (thn h4 fun _ s5 ⟨x, H5, I5, r5, y5, st5, fr5⟩ => ?_)
    have I5' := I5.pinned (stat fr5) (T.obj _ _ st5)
    refine wpAny_passesOwn hp (thn (hg _ s5 σ3 H5 x u _ I5' r5 (step x H5 y5)) fun _ s6 ⟨σ6, H6, I6, q6⟩ => ?_)
    refine wpAny_passesOwn hp (thn (hb _ s6 σ6 H6 _ I6 q6) fun f s7 q7 => ?_)
    have again : ∀ {σ7 : St} {H7 : Hp}, Inv X (pins ++ pinsAt fp s5.heap) σ7 H7 s7 → N σ7 H7 → ∃ m, m < n ∧ ∃ i σ' H', Inv X pins σ' H' s7 ∧ tn i s7.heap ∧ (∀ b ∈ fp, H' b = none) ∧ W i m σ' H' := fun {σ7 H7} I7 n7 => by
      obtain ⟨m', hm, w7⟩ := hN σ7 H7 n7
      refine ⟨m', hm, i + 1, σ7, H7, I7.unpinned, T.keep _ _ _ st5 fun b hb o e => (I7.pin (b, o) (List.mem_append_right _ (List.mem_append_right _ (mem_pinsAt hb e)))).1, fun b hb => ?_, w7⟩
      obtain ⟨o, e, d⟩ := T.obj _ _ st5 b hb
      exact (I7.pin (b, o) (List.mem_append_right _ (List.mem_append_right _ (mem_pinsAt hb e)))).2.1
    cases f with
    | next => obtain ⟨σ7, H7, I7, n7⟩ := q7; exact again I7 n7
    | cont => obtain ⟨σ7, H7, I7, n7⟩ := q7; exact again I7 n7
    | brk => obtain ⟨σ7, H7, I7, q7⟩ := q7; exact ⟨σ7, H7, I7.unpinned, q7⟩
    | ret v => obtain ⟨x7, σ7, H7, I7, r7, q7⟩ := q7; exact ⟨x7, σ7, H7, I7.unpinned, r7, q7⟩
end

/-! ### the forms one uses -/
/-- over a list that the body leaves as it is -/
theorem for_list {K : PySem.W.Frag} {a : Addr} {xs : List V} {g : TG} {tb : TS} {D : Ends} {σ : St} {H : Hp} (Pv : Nat → St → Hp → Prop) (h0 : Pv 0 σ H) (hl : ∀ i σ H, i ≤ xs.length → Pv i σ H → SqL K H a xs)
    (hs : ∀ i x σ H, xs[i]? = some x → Pv i σ H → g x σ H fun σ2 H2 => tb { D with nx := Pv (i + 1), ct := Pv (i + 1), bk := D.nx } σ2 H2) (hd : ∀ σ H, Pv xs.length σ H → D.nx σ H) :
    ∃ W : Nat → Nat → St → Hp → Prop, (∃ m, W 0 m σ H) ∧ ∀ i m σ H, W i m σ H →
      ((Itl K a).stop i H ∧ D.nx σ H) ∨ ((Itl K a).go i H ∧ ∃ N : St → Hp → Prop, (∀ σ' H', N σ' H' → ∃ m', m' < m ∧ W (i + 1) m' σ' H') ∧ ∀ x H', (Itl K a).yld i H x H' → g x σ H' fun σ2 H2 => tb { D with nx := N, ct := N, bk := D.nx } σ2 H2) := by
  refine ⟨fun i m σ H => m = xs.length - i ∧ i ≤ xs.length ∧ Pv i σ H, ⟨xs.length, by simp, Nat.zero_le _, h0⟩, ?_⟩
  rintro i m σ H ⟨rfl, hi, p⟩
  have q := hl i σ H hi p
  by_cases hlt : i < xs.length
  · refine .inr ⟨⟨xs, xs[i], q, by simp [hlt]⟩, Pv (i + 1), fun σ' H' p' => ⟨xs.length - (i + 1), by omega, rfl, hlt, p'⟩, fun x H' y => ?_⟩
    obtain ⟨e, y⟩ := y
    subst e
    exact hs i x σ _ (y xs q) p
  · have e : i = xs.length := by omega
    subst e
    exact .inl ⟨⟨xs, q, Nat.le_refl _⟩, hd σ H p⟩
theorem for_tup {K : PySem.W.Frag} {a : Addr} {xs : List V} {g : TG} {tb : TS} {D : Ends} {σ : St} {H : Hp} (Pv : Nat → St → Hp → Prop) (h0 : Pv 0 σ H) (hl : ∀ i σ H, i ≤ xs.length → Pv i σ H → SqT K H a xs)
    (hs : ∀ i x σ H, xs[i]? = some x → Pv i σ H → g x σ H fun σ2 H2 => tb { D with nx := Pv (i + 1), ct := Pv (i + 1), bk := D.nx } σ2 H2) (hd : ∀ σ H, Pv xs.length σ H → D.nx σ H) :
    ∃ W : Nat → Nat → St → Hp → Prop, (∃ m, W 0 m σ H) ∧ ∀ i m σ H, W i m σ H →
      ((Itt K a).stop i H ∧ D.nx σ H) ∨ ((Itt K a).go i H ∧ ∃ N : St → Hp → Prop, (∀ σ' H', N σ' H' → ∃ m', m' < m ∧ W (i + 1) m' σ' H') ∧ ∀ x H', (Itt K a).yld i H x H' → g x σ H' fun σ2 H2 => tb { D with nx := N, ct := N, bk := D.nx } σ2 H2) := by
  refine ⟨fun i m σ H => m = xs.length - i ∧ i ≤ xs.length ∧ Pv i σ H, ⟨xs.length, by simp, Nat.zero_le _, h0⟩, ?_⟩
  rintro i m σ H ⟨rfl, hi, p⟩
  have q := hl i σ H hi p
  by_cases hlt : i < xs.length
  · refine .inr ⟨⟨xs, xs[i], q, by simp [hlt]⟩, Pv (i + 1), fun σ' H' p' => ⟨xs.length - (i + 1), by omega, rfl, hlt, p'⟩, fun x H' y => ?_⟩
    obtain ⟨e, y⟩ := y
    subst e
    exact hs i x σ _ (y xs q) p
  · have e : i = xs.length := by omega
    subst e
    exact .inl ⟨⟨xs, q, Nat.le_refl _⟩, hd σ H p⟩
theorem for_range {lo : Int} {n : Nat} {g : TG} {tb : TS} {D : Ends} {σ : St} {H : Hp} (Pv : Nat → St → Hp → Prop) (h0 : Pv 0 σ H)
    (hs : ∀ i σ H, i < n → Pv i σ H → g (.int (lo + i)) σ H fun σ2 H2 => tb { D with nx := Pv (i + 1), ct := Pv (i + 1), bk := D.nx } σ2 H2) (hd : ∀ σ H, Pv n σ H → D.nx σ H) :
    ∃ W : Nat → Nat → St → Hp → Prop, (∃ m, W 0 m σ H) ∧ ∀ i m σ H, W i m σ H →
      ((Itr lo n).stop i H ∧ D.nx σ H) ∨ ((Itr lo n).go i H ∧ ∃ N : St → Hp → Prop, (∀ σ' H', N σ' H' → ∃ m', m' < m ∧ W (i + 1) m' σ' H') ∧ ∀ x H', (Itr lo n).yld i H x H' → g x σ H' fun σ2 H2 => tb { D with nx := N, ct := N, bk := D.nx } σ2 H2) := by
  refine ⟨fun i m σ H => m = n - i ∧ i ≤ n ∧ Pv i σ H, ⟨n, by simp, Nat.zero_le _, h0⟩, ?_⟩
  rintro i m σ H ⟨rfl, hi, p⟩
  by_cases hlt : i < n
  · refine .inr ⟨hlt, Pv (i + 1), fun σ' H' p' => ⟨n - (i + 1), by omega, rfl, hlt, p'⟩, fun x H' y => ?_⟩
    obtain ⟨e, y⟩ := y
    subst e y
    exact hs i σ _ hlt p
  · have e : i = n := by omega
    subst e
    exact .inl ⟨Nat.le_refl _, hd σ H p⟩
end L2

namespace L2
open PySem PySem.Spec PyProof.Rows

abbrev R2 := V → V → Hp → VK → Prop
/-- a two-place operation on values: f is binaryOp op, inplaceOp op or compareOp op -/
def OpR (X : Cx) (f : Value → Value → Sem Value) (r : R2) : Prop :=
  ∀ (pins : List (Addr × Obj)) (s : Shared) (σ : St) (H : Hp) (x y : V) (v u : Value) (Q : VK), Inv X pins σ H s → RelV x v → RelV y u → r x y H Q →
    wpAny (model X.prog X.w) X.A (f v u) (EP X pins σ Q) X.xe s
/-- a call of a value that is known (a builtin, a type) with values -/
def CallR (X : Cx) (f : Value) (r : List V → Hp → VK → Prop) : Prop :=
  ∀ (pins : List (Addr × Obj)) (s : Shared) (σ : St) (H : Hp) (xs : List V) (us : List Value) (Q : VK), Inv X pins σ H s → Vals xs us → r xs H Q →
    wpAny (model X.prog X.w) X.A (call f us) (EP X pins σ Q) X.xe s
def tOp (r : R2) (ta tb : TE) : TE := fun σ H Q => ta σ H fun x H1 => tb σ H1 fun y H2 => r x y H2 Q
def tUn (r : V → Hp → VK → Prop) (ta : TE) : TE := fun σ H Q => ta σ H fun x H1 => r x H1 Q
/-- ints in, under C, and a value out -/
def rI (C : Int → Int → Prop) (g : Int → Int → V) : R2 := fun x y H Q => ∃ i j, x = .int i ∧ y = .int j ∧ C i j ∧ Q (g i j) H
def rI0 (g : Int → Int → V) : R2 := fun x y H Q => ∃ i j, x = .int i ∧ y = .int j ∧ Q (g i j) H
def rU (g : Int → V) : V → Hp → VK → Prop := fun x H Q => ∃ i, x = .int i ∧ Q (g i) H

section
variable {X : Cx} {a b c : Expr} {ta tb tc : TE} {pos : Pos}

theorem binT (ha : PE X a ta) (hb : PE X b tb) {pins : List (Addr × Obj)} {s : Shared} {σ : St} {H : Hp} {R : V → V → Hp → Prop} (I : Inv X pins σ H s)
    (h : ta σ H fun x H1 => tb σ H1 fun y H2 => R x y H2) {Q : Value → Shared → Prop} {f : Value → Value → Sem Value}
    (hf : ∀ v u s2 x y H2, Inv X pins σ H2 s2 → RelV x v → RelV y u → R x y H2 → wpAny (model X.prog X.w) X.A (f v u) Q X.xe s2) :
    wpAny (model X.prog X.w) X.A (eval a X.env) (fun v s₁ => wpAny (model X.prog X.w) X.A (eval b X.env) (fun u s₂ => wpAny (model X.prog X.w) X.A (f v u) Q X.xe s₂) X.xe s₁) X.xe s := by
  refine thn (ha pins s σ H _ I h) fun v s1 ⟨x, H1, I1, r1, q1⟩ => ?_
  refine thn (hb pins s1 σ H1 _ I1 q1) fun u s2 ⟨y, H2, I2, r2, q2⟩ => ?_
  exact hf v u s2 x y H2 I2 r1 r2 q2

theorem pe_op {op : Operator} {r : R2} (ho : OpR X (binaryOp op) r) (ha : PE X a ta) (hb : PE X b tb) : PE X (.BinOp a op b pos) (tOp r ta tb) := by
  intro pins s σ H Q I h
  exact wpAny_BinOp (binT ha hb I h fun v u s2 x y H2 I2 rx ry q => ho pins s2 σ H2 x y v u Q I2 rx ry q)
/-! ### ints -/
theorem opI {f : Value → Value → Sem Value} {C : Int → Int → Prop} {g : Int → Int → Int}
    (rule : ∀ (i j : Int) (t u : Tok) (s : Shared) (Q : Value → Shared → Prop) (E : Value → Shared → Prop), C i j → Q (.int (g i j) s.toks) { s with toks := s.toks + 1 } → wpAny (model X.prog X.w) X.A (f (.int i t) (.int j u)) Q E s) :
    OpR X f (rI C fun i j => .int (g i j)) := by
  intro pins s σ H x y v u Q I rx ry h
  obtain ⟨i, j, rfl, rfl, hc, q⟩ := h
  obtain ⟨t, rfl⟩ := rx
  obtain ⟨t', rfl⟩ := ry
  exact rule i j t t' s _ _ hc ⟨.int (g i j), H, I.tok _, ⟨_, rfl⟩, q⟩
theorem opI0 {f : Value → Value → Sem Value} {g : Int → Int → Int}
    (rule : ∀ (i j : Int) (t u : Tok) (s : Shared) (Q : Value → Shared → Prop) (E : Value → Shared → Prop), Q (.int (g i j) s.toks) { s with toks := s.toks + 1 } → wpAny (model X.prog X.w) X.A (f (.int i t) (.int j u)) Q E s) :
    OpR X f (rI0 fun i j => .int (g i j)) := by
  intro pins s σ H x y v u Q I rx ry h
  obtain ⟨i, j, rfl, rfl, q⟩ := h
  obtain ⟨t, rfl⟩ := rx
  obtain ⟨t', rfl⟩ := ry
  exact rule i j t t' s _ _ ⟨.int (g i j), H, I.tok _, ⟨_, rfl⟩, q⟩
theorem opB0 {f : Value → Value → Sem Value} {g : Int → Int → Bool}
    (rule : ∀ (i j : Int) (t u : Tok) (s : Shared) (Q : Value → Shared → Prop) (E : Value → Shared → Prop), Q (.bool (g i j)) s → wpAny (model X.prog X.w) X.A (f (.int i t) (.int j u)) Q E s) :
    OpR X f (rI0 fun i j => .bl (g i j)) := by
  intro pins s σ H x y v u Q I rx ry h
  obtain ⟨i, j, rfl, rfl, q⟩ := h
  obtain ⟨t, rfl⟩ := rx
  obtain ⟨t', rfl⟩ := ry
  exact rule i j t t' s _ _ ⟨.bl (g i j), H, I, rfl, q⟩

def CDiv (i j : Int) : Prop := 0 < j ∧ j < 1073741824
def CPow (i j : Int) : Prop := 0 ≤ j ∧ j ≤ 1000000 ∧ i.natAbs < 2 ^ 64
def CMul (i j : Int) : Prop := (-(2 ^ 64) < i ∧ i < 2 ^ 64) ∨ (-(2 ^ 64) < j ∧ j < 2 ^ 64)
theorem CMul.ok {i j : Int} (h : CMul i j) : IntMulOk i j := by
  rcases h with ⟨h1, h2⟩ | ⟨h1, h2⟩
  · exact .of_left (intBits_le_64 h1 h2)
  · exact .of_right (intBits_le_64 h1 h2)
theorem op_add : OpR X (binaryOp .Add) (rI0 fun i j => .int (i + j)) := opI0 fun _ _ _ _ _ _ _ q => add_int q
theorem op_sub : OpR X (binaryOp .Sub) (rI0 fun i j => .int (i - j)) := opI0 fun _ _ _ _ _ _ _ q => sub_int q
theorem op_mul : OpR X (binaryOp .Mult) (rI CMul fun i j => .int (i * j)) := opI fun _ _ _ _ _ _ _ hc q => mul_int q hc.ok
/-- // by a positive divisor -/
theorem op_fdiv : OpR X (binaryOp .FloorDiv) (rI CDiv fun i j => .int (i / j)) := opI fun i j _ _ _ _ _ hc q => by
  have h1 : (0 : Int) < j := hc.1
  have h2 : j < 1073741824 := hc.2
  exact floordiv_int (by omega) (by rw [Int.fdiv_eq_ediv_of_nonneg i (by omega)]; exact q) (.inl (PyProof.noPylong_small (by omega)))
/-- % by a positive divisor of any size -/
theorem op_mod : OpR X (binaryOp .Mod) (rI (fun _ j => 0 < j) fun i j => .int (i % j)) := opI fun i j _ _ _ _ _ hc q => by
  have h1 : (0 : Int) < j := hc
  exact mod_int' (by omega) (by rw [Int.fmod_eq_emod_of_nonneg i (by omega)]; exact q)
theorem op_pow : OpR X (binaryOp .Pow) (rI CPow fun i j => .int (i ^ j.toNat)) := opI fun _ _ _ _ _ _ _ hc q => pow_int_small hc.1 hc.2.1 hc.2.2 q
/-! ### bools among ints: n += (a < b) -/
end

/-! ### comparisons -/
/-- the scalars that == tells apart as data does -/
def scal : V → V → Bool
  | .non, .non => true | .non, .int _ => true | .int _, .non => true | .non, .bl _ => true | .bl _, .non => true | .non, .str _ => true | .str _, .non => true
  | .int _, .int _ => true | .bl _, .bl _ => true | .str _, .str _ => true | .byt _, .byt _ => true
  | .int _, .str _ => true | .str _, .int _ => true | .bl _, .str _ => true | .str _, .bl _ => true
  | _, _ => false
def rEq : R2 := fun x y H Q => scal x y = true ∧ Q (.bl (decide (x = y))) H
def rNe : R2 := fun x y H Q => scal x y = true ∧ Q (.bl (!decide (x = y))) H

theorem dec_int {i j : Int} : decide (V.int i = V.int j) = (i == j) := by
  rw [Bool.eq_iff_iff]
  simp
theorem dec_bl {i j : Bool} : decide (V.bl i = V.bl j) = (i == j) := by
  rw [Bool.eq_iff_iff]
  simp
theorem dec_str {i j : Str} : decide (V.str i = V.str j) = (i == j) := by
  rw [Bool.eq_iff_iff]
  simp
theorem dec_byt {i j : Array UInt8} : decide (V.byt i = V.byt j) = (i.toList == j.toList) := by
  rw [Bool.eq_iff_iff]
  cases i
  cases j
  simp

section
variable {X : Cx} {a b c : Expr} {ta tb tc : TE} {pos : Pos}
theorem fin_bl {pins : List (Addr × Obj)} {σ : St} {H : Hp} {s : Shared} {Q : VK} {k k' : Bool} (I : Inv X pins σ H s) (q : Q (.bl k) H) (e : k = k') : EP X pins σ Q (.bool k') s := by
  subst e
  exact ⟨.bl k, H, I, rfl, q⟩
theorem op_eq : OpR X (compareOp .Eq) rEq := by
  intro pins s σ H x y v u Q I rx ry h
  obtain ⟨hs, q⟩ := h
  cases x with
  | non =>
    cases rx
    cases y with
    | non => cases ry; exact PySem.EqNone.eq_none_none (fin_bl I q (by simp))
    | bl j => cases ry; exact PySem.EqNone.eq_none_bool (fin_bl I q (by simp))
    | int j => obtain ⟨t', rfl⟩ := ry; exact PySem.EqNone.eq_none_int (fin_bl I q (by simp))
    | str j => obtain ⟨t', rfl⟩ := ry; exact PySem.EqNone.eq_none_str (fin_bl I q (by simp))
    | _ => exact absurd (show false = true from hs) Bool.false_ne_true
  | bl i =>
    cases rx
    cases y with
    | non => cases ry; exact PySem.EqNone.eq_bool_none (fin_bl I q (by simp))
    | bl j => cases ry; exact eq_bool (fin_bl I q dec_bl)
    | str j => obtain ⟨t', rfl⟩ := ry; exact PySem.EqMixed.eq_bool_str (fin_bl I q (by simp))
    | _ => exact absurd (show false = true from hs) Bool.false_ne_true
  | int i =>
    obtain ⟨t, rfl⟩ := rx
    cases y with
    | non => cases ry; exact PySem.EqNone.eq_int_none (fin_bl I q (by simp))
    | int j => obtain ⟨t', rfl⟩ := ry; exact eq_int (fin_bl I q dec_int)
    | str j => obtain ⟨t', rfl⟩ := ry; exact PySem.EqMixed.eq_int_str (fin_bl I q (by simp))
    | _ => exact absurd (show false = true from hs) Bool.false_ne_true
  | str i =>
    obtain ⟨t, rfl⟩ := rx
    cases y with
    | non => cases ry; exact PySem.EqNone.eq_str_none (fin_bl I q (by simp))
    | bl j => cases ry; exact PySem.EqMixed.eq_str_bool (fin_bl I q (by simp))
    | int j => obtain ⟨t', rfl⟩ := ry; exact PySem.EqMixed.eq_str_int (fin_bl I q (by simp))
    | str j => obtain ⟨t', rfl⟩ := ry; exact eq_str (fin_bl I q dec_str)
    | _ => exact absurd (show false = true from hs) Bool.false_ne_true
  | byt i =>
    obtain ⟨t, rfl⟩ := rx
    cases y with
    | byt j => obtain ⟨t', rfl⟩ := ry; exact PySem.W.eq_bytes (fin_bl I q dec_byt)
    | _ => exact absurd (show false = true from hs) Bool.false_ne_true
  | _ => cases y <;> exact absurd (show false = true from hs) Bool.false_ne_true
theorem op_ne : OpR X (compareOp .NotEq) rNe := by
  intro pins s σ H x y v u Q I rx ry h
  obtain ⟨hs, q⟩ := h
  cases x with
  | non =>
    cases rx
    cases y with
    | non => cases ry; exact PySem.EqNone.ne_none_none (fin_bl I q (by simp))
    | bl j => cases ry; exact PySem.EqNone.ne_none_bool (fin_bl I q (by simp))
    | int j => obtain ⟨t', rfl⟩ := ry; exact PySem.EqNone.ne_none_int (fin_bl I q (by simp))
    | str j => obtain ⟨t', rfl⟩ := ry; exact PySem.EqNone.ne_none_str (fin_bl I q (by simp))
    | _ => exact absurd (show false = true from hs) Bool.false_ne_true
  | bl i =>
    cases rx
    cases y with
    | non => cases ry; exact PySem.EqNone.ne_bool_none (fin_bl I q (by simp))
    | bl j => cases ry; exact ne_bool (fin_bl I q (congrArg not dec_bl))
    | str j => obtain ⟨t', rfl⟩ := ry; exact PySem.EqMixed.ne_bool_str (fin_bl I q (by simp))
    | _ => exact absurd (show false = true from hs) Bool.false_ne_true
  | int i =>
    obtain ⟨t, rfl⟩ := rx
    cases y with
    | non => cases ry; exact PySem.EqNone.ne_int_none (fin_bl I q (by simp))
    | int j => obtain ⟨t', rfl⟩ := ry; exact ne_int (fin_bl I q (congrArg not dec_int))
    | str j => obtain ⟨t', rfl⟩ := ry; exact PySem.EqMixed.ne_int_str (fin_bl I q (by simp))
    | _ => exact absurd (show false = true from hs) Bool.false_ne_true
  | str i =>
    obtain ⟨t, rfl⟩ := rx
    cases y with
    | non => cases ry; exact PySem.EqNone.ne_str_none (fin_bl I q (by simp))
    | bl j => cases ry; exact PySem.EqMixed.ne_str_bool (fin_bl I q (by simp))
    | int j => obtain ⟨t', rfl⟩ := ry; exact PySem.EqMixed.ne_str_int (fin_bl I q (by simp))
    | str j => obtain ⟨t', rfl⟩ := ry; exact ne_str (fin_bl I q (congrArg not dec_str))
    | _ => exact absurd (show false = true from hs) Bool.false_ne_true
  | byt i =>
    obtain ⟨t, rfl⟩ := rx
    cases y with
    | byt j => obtain ⟨t', rfl⟩ := ry; exact PySem.W.ne_bytes (fin_bl I q (congrArg not dec_byt))
    | _ => exact absurd (show false = true from hs) Bool.false_ne_true
  | _ => cases y <;> exact absurd (show false = true from hs) Bool.false_ne_true

theorem op_lt : OpR X (compareOp .Lt) (rI0 fun i j => .bl (decide (i < j))) := opB0 fun _ _ _ _ _ _ _ q => lt_int q
theorem op_gt : OpR X (compareOp .Gt) (rI0 fun i j => .bl (decide (j < i))) := opB0 fun _ _ _ _ _ _ _ q => gt_int q
theorem op_ge : OpR X (compareOp .GtE) (rI0 fun i j => .bl (decide (j ≤ i))) := opB0 fun _ _ _ _ _ _ _ q => ge_int q
theorem op_lt_str : OpR X (compareOp .Lt) (fun x y H Q => ∃ i j, x = .str i ∧ y = .str j ∧ Q (.bl (decide (i.cps.toList < j.cps.toList))) H) := by
  intro pins s σ H x y v u Q I rx ry h
  obtain ⟨i, j, rfl, rfl, q⟩ := h
  obtain ⟨t, rfl⟩ := rx
  obtain ⟨t', rfl⟩ := ry
  exact lt_str (fin_bl I q rfl)
/-- is None, is not None: the right side a value none -/
theorem op_isN : OpR X (compareOp .Is) (fun x y H Q => y = .non ∧ Q (.bl (decide (x = .non))) H) := by
  intro pins s σ H x y v u Q I rx ry h
  obtain ⟨rfl, q⟩ := h
  cases ry
  refine is_none_gen (fin_bl I q ?_)
  cases x <;> first
    | (cases rx; rfl)
    | (obtain ⟨t, rfl⟩ := rx; rfl)
theorem op_notN : OpR X (compareOp .IsNot) (fun x y H Q => y = .non ∧ Q (.bl (!decide (x = .non))) H) := by
  intro pins s σ H x y v u Q I rx ry h
  obtain ⟨rfl, q⟩ := h
  cases ry
  refine isnot_none_gen (fin_bl I q ?_)
  cases x <;> first
    | (cases rx; rfl)
    | (obtain ⟨t, rfl⟩ := rx; rfl)

/-- two rules for one operation: by cases -/
theorem OpR.or {f : Value → Value → Sem Value} {r r' : R2} (h : OpR X f r) (h' : OpR X f r') : OpR X f (fun x y H Q => r x y H Q ∨ r' x y H Q) := by
  intro pins s σ H x y v u Q I rx ry q
  rcases q with q | q
  · exact h pins s σ H x y v u Q I rx ry q
  · exact h' pins s σ H x y v u Q I rx ry q

theorem nomark (b : Expr) {op : CmpOp} (h : op ≠ .In := by decide) (h2 : op ≠ .NotIn := by decide) : behindInMarks op b = false := by
  have e1 : (op == CmpOp.In) = false := by cases op <;> first | rfl | exact absurd rfl h
  have e2 : (op == CmpOp.NotIn) = false := by cases op <;> first | rfl | exact absurd rfl h2
  cases b <;> simp [behindInMarks, e1, e2]
/-- a comparison as a value; hm: nomark b, or (for in, not in) by with_unfolding_all rfl -/
theorem pe_cmpR {op : CmpOp} {r : R2} (ho : OpR X (compareOp op) r) (ha : PE X a ta) (hb : PE X b tb) (hm : behindInMarks op b = false) : PE X (.Compare a [op] [b] pos) (tOp r ta tb) := by
  intro pins s σ H Q I h
  exact wpAny_Compare1 (binT ha hb I h fun v u s2 x y H2 I2 rx ry q => ho pins s2 σ H2 x y v u Q I2 rx ry q) hm
/-- a reading of a value as a test -/
def tTest (t : TE) : TT := fun σ H Q => t σ H fun x H' => ∃ k, x = .bl k ∧ Q k H'
theorem pt_cmpR {op : CmpOp} {r : R2} (ho : OpR X (compareOp op) r) (ha : PE X a ta) (hb : PE X b tb) (hm : behindInMarks op b = false) : PT X (.Compare a [op] [b] pos) (tTest (tOp r ta tb)) := by
  intro pins s σ H Q I h
  refine wpAny_isTrue_Compare1 (thn (ha pins s σ H _ I h) fun v s1 ⟨x, H1, I1, r1, q1⟩ => thn (hb pins s1 σ H1 _ I1 q1) fun u s2 ⟨y, H2, I2, r2, q2⟩ =>
    thn (ho pins s2 σ H2 x y v u _ I2 r1 r2 q2) fun c s3 ⟨z, H3, I3, r3, k, e, q3⟩ => ?_) hm
  subst e
  cases r3
  exact wpAny_truthy_bool ⟨H3, I3, q3⟩
/-! ### truth -/
theorem line63 : (sizeLine : Nat) < 2 ^ 63 := by rw [sizeLine_eq]; decide
/-! ### strs and bytes -/
theorem op_add_str : OpR X (binaryOp .Add) (fun x y H Q => ∃ i j, x = .str i ∧ y = .str j ∧ i.length + j.length ≤ sizeLine ∧ Q (.str (i ++ j)) H) := by
  intro pins s σ H x y v u Q I rx ry h
  obtain ⟨i, j, rfl, rfl, hz, q⟩ := h
  obtain ⟨t, rfl⟩ := rx
  obtain ⟨t', rfl⟩ := ry
  exact add_str (fun t' tk => ⟨.str (i ++ j), H, I.tok _, ⟨_, rfl⟩, q⟩) hz
/-! ### scalar builtins, by CallR -/
theorem vals1 {x : V} {us : List Value} (r : Vals [x] us) : ∃ u, us = [u] ∧ RelV x u := by
  cases r with
  | cons r1 r2 => cases r2; exact ⟨_, rfl, r1⟩
theorem call_abs : CallR X (.builtin "abs") (fun xs H Q => ∃ i, xs = [.int i] ∧ Q (.int (if i < 0 then -i else i)) H) := by
  intro pins s σ H xs us Q I r h
  obtain ⟨i, rfl, q⟩ := h
  obtain ⟨u, rfl, t, rfl⟩ := vals1 r
  exact call_abs_int fun u tk => ⟨.int (if i < 0 then -i else i), H, I.tok _, ⟨_, rfl⟩, q⟩
end
end L2

namespace L2
open PySem PySem.Spec PyProof.Rows

/-! ### an instance, its attributes a map -/
structure ObjM (h : Heap) (x dx C : Addr) (mA : Str → Option Value) : Prop where
  obj : h.get? x = some (PySem.W.instObj C dx)
  ns : h.Ns1 dx mA
  ne : dx ≠ x

theorem lookIn_ns {h : Heap} {dx : Addr} {mA : Str → Option Value} (n : h.Ns1 dx mA) : ∃ od, h.get? dx = some od ∧ ∀ name, PySem.W.lookIn name od = some (mA name) := by
  obtain ⟨o, es, ep, ho, hd, hk, _, hm⟩ := n
  refine ⟨o, ho, fun name => ?_⟩
  have e := hm name
  unfold nsFind findBy at e
  rw [← Array.find?_toList] at e
  unfold PySem.W.lookIn
  rw [hd]
  dsimp only
  split
  · rename_i y q
    rw [q] at e
    exact congrArg some e
  · rename_i q
    rw [q] at e
    have a : es.toList.any (·.refKey) = false := by
      rw [List.any_eq_false]
      intro y hy
      obtain ⟨z, t, hkey⟩ := hk y (Array.mem_toList_iff.mp hy)
      simp [DictEntry.refKey, hkey]
    have a' : ¬ es.toList.any (·.refKey) = true := by rw [a]; exact Bool.false_ne_true
    rw [if_neg a']
    exact congrArg some e

theorem ObjM.look {h : Heap} {x dx C : Addr} {mA : Str → Option Value} (I : ObjM h x dx C mA) : ∃ od, PySem.W.InstAt h x (PySem.W.instObj C dx) C (some od) ∧ ∀ name, PySem.W.lookIn name od = some (mA name) :=
  let ⟨od, ho, hl⟩ := lookIn_ns I.ns
  ⟨od, ⟨I.obj, rfl, rfl, ho⟩, hl⟩

section
variable {prog : Program} {w : World} {A : Around} {E : Value → Shared → Prop} {s : Shared} {K : PySem.W.Frag} {x dx C f : Addr} {mA : Str → Option Value} {name : Str} {v : Value}

end

/-! ### the attributes as a list of pairs -/
theorem RelO.some_of {v : V} {o : Option Value} (r : RelO (some v) o) : ∃ u, o = some u ∧ RelV v u := by
  cases o with
  | none => exact (show False from r).elim
  | some u => exact ⟨u, rfl, r⟩
theorem handed_of {v : V} {u : Value} (r : RelV v u) : PySem.W.handedIn u = true := by
  cases v with
  | non => cases (show u = Value.none from r); rfl
  | bl b => cases (show u = Value.bool b from r); rfl
  | int i => obtain ⟨t, e⟩ := (show ∃ t, u = Value.int i t from r); cases e; rfl
  | str x => obtain ⟨t, e⟩ := (show ∃ t, u = Value.str x t from r); cases e; rfl
  | byt b => obtain ⟨t, e⟩ := (show ∃ t, u = Value.bytes b t from r); cases e; rfl
  | flt b => obtain ⟨t, e⟩ := (show ∃ t, u = Value.float b t from r); cases e; rfl
  | ref a => cases (show u = Value.ref a from r); rfl
  | ty n => cases (show u = Value.type n from r); rfl

section
variable {P : Program} {w : World} {H H' : Hp} {h h' : Heap} {a C dx : Addr} {fs fs' : List (Str × V)}
theorem ins_get (hok : HOk P w H h) (e : H a = some (.ins C dx fs)) : ∃ mA, ObjM h a dx C mA ∧ (∀ f, RelO (fs.lookup f) (mA f)) ∧ PySem.Within mA (fs.map (·.1)) ∧ fs.length ≤ 1000 ∧ H dx = some (.own a) := by
  obtain ⟨d, z, ne, ob, mA, n, r, q⟩ := (show ObjOk P w H h a (.ins C dx fs) from hok a _ e)
  exact ⟨mA, ⟨ob, n, ne⟩, r, q, z, d⟩
end

/-! ### what of the text a class must have -/
structure Cls (K : PySem.W.Frag) (C : Addr) : Prop where
  pg : PySem.W.plainGet K C Str.empty = true
  hd : PySem.W.hasDictIn K C = true
  po : PySem.W.plainOver K C = true
  sa : PySem.W.findIn K (.ref C) "__setattr__" = some (some (.builtin "object.__setattr__"))
theorem Cls.get {K : PySem.W.Frag} {C : Addr} (c : Cls K C) (f : Str) : PySem.W.plainGet K C f = true := c.pg
section
variable {X : Cx} {pins : List (Addr × Obj)} {σ : St} {H : Hp} {s : Shared} {a C dx : Addr} {fs : List (Str × V)} {f : Str} {v : V} {A : Around} {E : Value → Shared → Prop}

/-- a new instance, tracked, without attributes -/
theorem Inv.made (I : Inv X pins σ H s) : Inv X pins σ (upd (upd H s.heap.objs.size (.own (s.heap.objs.size + 1))) (s.heap.objs.size + 1) (.ins C s.heap.objs.size []))
    { s with heap := (s.heap.push PySem.W.emptyDict).push (PySem.W.instObj C s.heap.objs.size) } := by
  have e1 : (s.heap.push PySem.W.emptyDict).get? s.heap.objs.size = some PySem.W.emptyDict := Heap.get?_push_size s.heap rfl
  have e2 : ((s.heap.push PySem.W.emptyDict).push (PySem.W.instObj C s.heap.objs.size)).get? (s.heap.objs.size + 1) = some (PySem.W.instObj C s.heap.objs.size) := by
    have := Heap.get?_push_size (s.heap.push PySem.W.emptyDict) (o := PySem.W.instObj C s.heap.objs.size) rfl
    rwa [Heap.size_push] at this
  have e3 : (s.heap.push PySem.W.emptyDict).Ns s.heap.objs.size (fun _ => none) := ⟨PySem.W.emptyDict, #[], _, e1, rfl, (fun e he => absurd he (by simp)), fun _ => rfl⟩
  have I1 := I.laid (a := s.heap.objs.size) (o := .own (s.heap.objs.size + 1)) (h' := s.heap.push PySem.W.emptyDict) (t' := s.toks) (fun b u q => Heap.get?_push_of_some _ q) (Nat.le_refl _) ⟨_, e1⟩
  refine I1.laid (a := s.heap.objs.size + 1) (o := .ins C s.heap.objs.size []) (t' := s.toks) (fun b u q => Heap.get?_push_of_some _ q) (Nat.le_of_eq (Heap.size_push _ _)) ?_
  have ne : s.heap.objs.size ≠ s.heap.objs.size + 1 := Nat.ne_of_lt (Nat.lt_succ_self _)
  refine ⟨by rw [upd_ne ne, upd_same], Nat.zero_le _, ne, e2, fun _ => none, (Heap.Ns1.of_empty e3).at fun o q => Heap.get?_push_of_some _ q, fun _ => True.intro, fun y hy => absurd rfl hy⟩

/-- e.f where nothing but the object is asked: through attributeBase (super) and the last hold -/
theorem attr_of {prog : Program} {w : World} {env : Env} {e : Expr} {f : Str} {pos : Pos} {s : Shared} {Q : Value → Shared → Prop} (hb : attributeBase e f env (eval e env) = eval e env)
    (h : wpAny (model prog w) A (eval e env) (fun o s₁ => wpAny (model prog w) A (getAttr o f true) Q E s₁) E s) : wpAny (model prog w) A (eval (.Attribute e f pos) env) Q E s :=
  Attribute_any_ h (by rw [arm_eval_Attribute, hb])
end

/-! ### readings and rules -/
section
variable {X : Cx} {o e value : Expr} {f : Str} {pos pos' tpos : Pos} {ta tv : TE}
end

/-! ### isinstance -/
section
variable {X : Cx} {pins : List (Addr × Obj)} {σ : St} {H : Hp} {s : Shared} {A : Around} {E : Value → Shared → Prop} {Q : Value → Shared → Prop} {c : Value} {b : Bool}
/-- the type of a value, as the fragment's deciders take it; for an instance its class -/
inductive TyOf (K : PySem.W.Frag) (H : Hp) : V → Value → Prop where
  | non : TyOf K H .non (.type "NoneType")
  | bl (x : Bool) : TyOf K H (.bl x) (.type "bool")
  | int (i : Int) : TyOf K H (.int i) (.type "int")
  | str (x : Str) : TyOf K H (.str x) (.type "str")
  | flt (x : UInt64) : TyOf K H (.flt x) (.type "float")
  | lst {a : Addr} {xs : List V} (e : H a = some (.lst xs)) : TyOf K H (.ref a) (.type "list")
  | frz {a : Addr} {o : Obj} {xs : List V} (e : H a = some (.frz o (.lst xs))) : TyOf K H (.ref a) (.type "list")
  | tup {a : Addr} {xs : List V} (e : H a = some (.tup xs)) : TyOf K H (.ref a) (.type "tuple")
  | dK {a : Addr} {kvs : List (Key × V)} (e : H a = some (.dK kvs)) : TyOf K H (.ref a) (.type "dict")
  | dT {a : Addr} {kvs : List (List Key × V)} (e : H a = some (.dT kvs)) : TyOf K H (.ref a) (.type "dict")
  | ins {a C dx : Addr} {fs : List (Str × V)} (e : H a = some (.ins C dx fs)) (cl : Cls K C) (ha : PySem.W.findIn K (.ref C) "__class__" = some (some (.builtin "object.__class__")))
      (hn : PySem.W.specialIn K (.builtin "object.__class__") "__get__" = some (some (.builtin "getset_descriptor.__get__"))) (htk : PySem.W.takesIn K (.builtin "object.__class__") = some true)
      (hm : PySem.W.mroIn K C (.type "object") = some true) : TyOf K H (.ref a) (.ref C)
/-- isinstance(x, c) for one class c, a built-in or an own one: kitOne's answer -/
theorem isinst_ok {x : V} {u t : Value} (I : Inv X pins σ H s) (rx : RelV x u) (ty : TyOf X.K H x t) (e : PySem.W.kitOne X.K t c = some b) (h : ∀ tk, Q (.bool b) { s with toks := tk }) :
    wpAny (model X.prog X.w) A (call (.builtin "isinstance") [u, c]) Q E s := by
  cases ty with
  | non => cases (show u = Value.none from rx); exact PySem.W.kia_one PySem.W.kitx_none I.kIn True.intro e (fun z => nomatch z) h
  | bl y => cases (show u = Value.bool y from rx); exact PySem.W.kia_one PySem.W.kitx_bool I.kIn True.intro e (fun z => nomatch z) h
  | int i => obtain ⟨t, q⟩ := (show ∃ t, u = Value.int i t from rx); cases q; exact PySem.W.kia_one PySem.W.kitx_int I.kIn True.intro e (fun z => nomatch z) h
  | str y => obtain ⟨t, q⟩ := (show ∃ t, u = Value.str y t from rx); cases q; exact PySem.W.kia_one PySem.W.kitx_str I.kIn True.intro e (fun z => nomatch z) h
  | flt y => obtain ⟨t, q⟩ := (show ∃ t, u = Value.float y t from rx); cases q; exact PySem.W.kia_one PySem.W.kitx_float I.kIn True.intro e (fun z => nomatch z) h
  | @lst a xs ea =>
    cases (show u = Value.ref a from rx)
    obtain ⟨_, _, n, _, h1⟩ := (show ObjOk X.prog X.w H s.heap a (.lst xs) from I.hok a _ ea)
    exact PySem.W.kia_one PySem.W.kitx_list I.kIn ⟨_, h1, rfl⟩ e (fun z => nomatch z) h
  | @frz a ob xs ea =>
    cases (show u = Value.ref a from rx)
    obtain ⟨_, _, _, n, _, h1⟩ := (show ObjOk X.prog X.w H s.heap a (.frz ob (.lst xs)) from I.hok a _ ea)
    exact PySem.W.kia_one PySem.W.kitx_list I.kIn ⟨_, h1, rfl⟩ e (fun z => nomatch z) h
  | @tup a xs ea =>
    cases (show u = Value.ref a from rx)
    obtain ⟨_, _, _, p⟩ := (show ObjOk X.prog X.w H s.heap a (.tup xs) from I.hok a _ ea)
    obtain ⟨o, h1, h2, _⟩ := p
    exact PySem.W.kia_one PySem.W.kitx_tuple I.kIn ⟨o, h1, h2⟩ e (fun z => nomatch z) h
  | @dK a kvs ea =>
    cases (show u = Value.ref a from rx)
    obtain ⟨_, _, vs, _, p⟩ := (show ObjOk X.prog X.w H s.heap a (.dK kvs) from I.hok a _ ea)
    obtain ⟨o, es, ep, h1, h2, _⟩ := p
    exact PySem.W.kia_one PySem.W.kitx_dict I.kIn ⟨o, h1, h2.1⟩ e (fun z => nomatch z) h
  | @dT a kvs ea =>
    cases (show u = Value.ref a from rx)
    obtain ⟨_, _, xs, _, o, es, ep, h1, h2, _⟩ := (show ObjOk X.prog X.w H s.heap a (.dT kvs) from I.hok a _ ea)
    exact PySem.W.kia_one PySem.W.kitx_dict I.kIn ⟨o, h1, h2.1⟩ e (fun z => nomatch z) h
  | @ins a C dx fs ea cl ha hn htk hm =>
    cases (show u = Value.ref a from rx)
    obtain ⟨mA, O, _⟩ := ins_get I.hok ea
    obtain ⟨od, J, _⟩ := O.look
    exact PySem.W.kia_one (PySem.W.kitx_own (cl.get _) cl.hd ha hn htk hm) I.kIn J e (fun z => nomatch z) h
end
end L2

namespace L2
open PySem PySem.Spec PyProof.Rows

/-! ### room -/
structure Room (k : Nat) (A : Around) : Prop where
  hd : A.handled = none
  dp : A.depth + 3 * k + 5 < recursionLimit
  un : A.units + 16 * k + 200 < cLine
theorem Room.mono {j k : Nat} {A : Around} (r : Room k A) (h : j ≤ k) : Room j A := ⟨r.hd, by have := r.dp; omega, by have := r.un; omega⟩
theorem Room.deeper {k : Nat} {A : Around} (r : Room (k + 1) A) (env : Env) : Room k (A.deeper env) :=
  ⟨r.hd, by have := r.dp; show A.depth + 1 + 3 * k + 5 < _; omega, by have := r.un; show A.units + 3 + 16 * k + 200 < _; omega⟩
theorem Room.in1 {k : Nat} {A : Around} (r : Room (k + 1) A) : Room k A.in1 :=
  ⟨r.hd, by have := r.dp; show A.depth + 3 * k + 5 < _; omega, by have := r.un; show A.units + 1 + 16 * k + 200 < _; omega⟩
theorem make_depth {A : Around} {C : Addr} {us : List Value} {kw : List (Str × Value)} : (A.under (.builtin "type.__call__" ⟨.ref C :: us, kw⟩)).depth = A.depth + 1 := by
  first | rfl | simp [Around.under, Code.weight, Code.isCreation, Code.isGuard, Code.isCaller, Code.frames, Code.isFrame, guardIds]
theorem make_units {A : Around} {C : Addr} {us : List Value} {kw : List (Str × Value)} : (A.under (.builtin "type.__call__" ⟨.ref C :: us, kw⟩)).units = A.units + 1 := by
  first | rfl | simp [Around.under, Code.cUnits, Code.frames, Code.isFrame]
theorem Room.make {k : Nat} {A : Around} (r : Room (k + 1) A) (C : Addr) (us : List Value) (kw : List (Str × Value)) : Room k (A.under (.builtin "type.__call__" ⟨.ref C :: us, kw⟩)) :=
  ⟨r.hd, by have := r.dp; rw [make_depth]; omega, by have := r.un; rw [make_units]; omega⟩
theorem Room.depth {k : Nat} {A : Around} (r : Room k A) : A.depth < recursionLimit := by have := r.dp; omega
theorem Room.units {k : Nat} {A : Around} (r : Room k A) : A.units + 64 < cLine := by have := r.un; omega
theorem Room.units0 {k : Nat} {A : Around} (r : Room k A) : A.units < cLine := by have := r.un; omega

/-! ### argument lists and displays -/
def tNil : TA := fun _ H Q => Q [] H
def tCons (ta : TE) (tr : TA) : TA := fun σ H Q => ta σ H fun x H1 => tr σ H1 fun xs H2 => Q (x :: xs) H2
section
variable {X : Cx} {e : Expr} {es : List Expr} {te : TE} {t : TA} {pos : Pos}
theorem pa_nil : PA X [] tNil := fun _ _ _ _ H Q I h => Calls.spliced_nil ⟨[], H, I, .nil, h⟩
theorem pa_cons (ha : PE X e te) (hr : PA X es t) (hs : starEach (e :: es) X.env = (false, eval e X.env) :: starEach es X.env := by rfl) : PA X (e :: es) (tCons te t) := by
  intro pos pins s σ H Q I h
  rw [hs]
  show wpAny _ _ (spliced ((false, eval e X.env) :: backTo pos (starEach es X.env))) _ _ s
  refine Calls.spliced_cons (thn (ha pins s σ H _ I h) fun u s1 ⟨x, H1, I1, r1, q1⟩ => ?_)
  exact thn (hr pos pins s1 σ H1 _ I1 q1) fun us s2 ⟨xs, H2, I2, r2, q2⟩ => ⟨x :: xs, H2, I2, .cons r1 r2, q2⟩

/-- a tuple, a list of written items -/
def tTup (t : TA) : TE := fun σ H Q => t σ H fun xs H1 => xs.length ≤ sizeLine ∧ ∀ p, H1 p = none → Q (.ref p) (upd H1 p (.tup xs))
def tLst (t : TA) : TE := fun σ H Q => t σ H fun xs H1 => xs.length ≤ sizeLine ∧ ∀ p, H1 p = none → Q (.ref p) (upd H1 p (.lst xs))
theorem pe_tup {x1} (h : PA X es t) : PE X (.Tuple es x1 pos) (tTup t) := by
  intro pins s σ H Q I hq
  refine wpAny_Tuple_spliced (thn (h pos pins s σ H _ I hq) fun us s1 ⟨xs, H1, I1, r, z, q⟩ => ⟨by rw [← r.length]; exact z, ?_⟩)
  have hf : H1 s1.heap.objs.size = none := I1.hok.fresh (Nat.le_refl _)
  refine ⟨.ref s1.heap.objs.size, upd H1 s1.heap.objs.size (.tup xs), I1.laid (t' := s1.toks) (fun b u e => Heap.get?_push_of_some _ e) (Nat.le_refl _) ?_, rfl, q _ hf⟩
  exact ⟨z, us, r, ⟨_, Heap.get?_push_size _ rfl, rfl, _, rfl⟩⟩
theorem pe_lst (h : PA X es t) : PE X (.List es pos) (tLst t) := by
  intro pins s σ H Q I hq
  refine wpAny_List_spliced (thn (h pos pins s σ H _ I hq) fun us s1 ⟨xs, H1, I1, r, z, q⟩ => ⟨by rw [← r.length]; exact z, ?_⟩)
  have hf : H1 s1.heap.objs.size = none := I1.hok.fresh (Nat.le_refl _)
  refine ⟨.ref s1.heap.objs.size, upd H1 s1.heap.objs.size (.lst xs), I1.laid (t' := s1.toks) (fun b u e => Heap.get?_push_of_some _ e) (Nat.le_refl _) ?_, rfl, q _ hf⟩
  exact ⟨z, us, 0, r, Heap.get?_push_size _ rfl⟩
end

/-! ### what a def promises -/
/-- a def's promise: the bound arguments in the parameters' order, the heap, the wanted end, the wanted exception -/
abbrev Sp := List V → Hp → VK → XK → Prop
/-- how an exception lies behind a call (file 08 gives it): the callers' frames, abstract heap and state ahead of the call, the wish, the exception, the state -/
abbrev CXT := List Env → Hp → Shared → XK → Value → Shared → Prop

/-- the state at a call -/
structure Env0 (P : Program) (w : World) (K : PySem.W.Frag) (mg : Str → Option Value) (base : Heap) (A : Around) (outer : List Env) (s : Shared) (H : Hp) : Prop where
  frames : A.frames = some outer
  mod : Mod K mg base
  bs : ∀ b o, base.get? b = some o → s.heap.get? b = some o ∧ H b = none
  bsz : base.objs.size ≤ s.heap.objs.size
  funs : s.heap.FunFrames base outer
  frf : ∀ b ∈ frs outer, H b = none
  hok : HOk P w H s.heap
  bare : AllBare s.gens
/-- a call's end -/
def CE (outer : List Env) (P : Program) (w : World) (H : Hp) (s : Shared) (Q : VK) (u : Value) (s' : Shared) : Prop :=
  ∃ v H', s'.os = s.os ∧ AllBare s'.gens ∧ Un (frs outer) [] H H' s.heap s'.heap ∧ HOk P w H' s'.heap ∧ RelV v u ∧ Q v H'
def CR (CX : CXT) (outer : List Env) (P : Program) (w : World) (H : Hp) (s : Shared) (Q : VK) (E : XK) (r : Result) (s' : Shared) : Prop :=
  match r with
  | .ok (.ret u) => CE outer P w H s Q u s'
  | .ok _ => False
  | .error e => CX outer H s E e s'
structure FnOk (P : Program) (w : World) (K : PySem.W.Frag) (mg : Str → Option Value) (base : Heap) (CX : CXT) (k : Nat) (f : Addr) (fd : FuncData) (ps : List Str) (sp : Sp) : Prop where
  len : ∀ vs H Q E, sp vs H Q E → vs.length = ps.length
  run : ∀ (A : Around) (outer : List Env) (s : Shared) (H : Hp) (args : Args) (us : List Value) (vs : List V) (Q : VK) (E : XK), Room k A → Env0 P w K mg base A outer s H → BindsTo s fd args (ps.zip us) → Vals vs us → sp vs H Q E →
    codeAny (model P w) A (.call (.ref f) args) (CR CX outer P w H s Q E) s
theorem FnOk.mono {P : Program} {w : World} {K : PySem.W.Frag} {mg : Str → Option Value} {base : Heap} {CX : CXT} {j k : Nat} {f : Addr} {fd : FuncData} {ps : List Str} {sp : Sp} (F : FnOk P w K mg base CX j f fd ps sp) (h : j ≤ k) :
    FnOk P w K mg base CX k f fd ps sp := ⟨F.len, fun A outer s H args us vs Q E hr => F.run A outer s H args us vs Q E (hr.mono h)⟩
/-- a weaker promise -/
theorem FnOk.imp {P : Program} {w : World} {K : PySem.W.Frag} {mg : Str → Option Value} {base : Heap} {CX : CXT} {k : Nat} {f : Addr} {fd : FuncData} {ps : List Str} {sp sp' : Sp} (F : FnOk P w K mg base CX k f fd ps sp)
    (h : ∀ vs H Q E, sp' vs H Q E → sp vs H Q E) : FnOk P w K mg base CX k f fd ps sp' :=
  ⟨fun vs H Q E q => F.len vs H Q E (h _ _ _ _ q), fun A outer s H args us vs Q E hr he hb hv hs => F.run A outer s H args us vs Q E hr he hb hv (h _ _ _ _ hs)⟩

theorem Env0.make {P : Program} {w : World} {K : PySem.W.Frag} {mg : Str → Option Value} {base : Heap} {A : Around} {outer : List Env} {s : Shared} {H : Hp} (e : Env0 P w K mg base A outer s H) (C : Addr) (us : List Value) (kw : List (Str × Value)) :
    Env0 P w K mg base (A.under (.builtin "type.__call__" ⟨.ref C :: us, kw⟩)) outer s H := ⟨by first | exact e.frames | (simpa [Around.under, Code.envs, Code.isFrame, pushEnvs] using e.frames), e.mod, e.bs, e.bsz, e.funs, e.frf, e.hok, e.bare⟩
theorem Env0.in1 {P : Program} {w : World} {K : PySem.W.Frag} {mg : Str → Option Value} {base : Heap} {A : Around} {outer : List Env} {s : Shared} {H : Hp} (e : Env0 P w K mg base A outer s H) :
    Env0 P w K mg base A.in1 outer s H := ⟨e.frames, e.mod, e.bs, e.bsz, e.funs, e.frf, e.hok, e.bare⟩

section
variable {X : Cx} {pins : List (Addr × Obj)} {σ : St} {H : Hp} {s s' : Shared}
/-- from a body: what a callee wants -/
theorem Inv.env0 (I : Inv X pins σ H s) : Env0 X.prog X.w X.K X.mg X.base X.A X.stack s H :=
  ⟨I.ok.frames, I.ok.mod, I.bs, Nat.le_trans I.ok.bsz I.sz, I.stack, I.stkFree, I.hok, I.bare⟩
/-- behind a call -/
theorem Inv.after {Q : VK} {u : Value} (I : Inv X pins σ H s) (h : CE X.stack X.prog X.w H s Q u s') : EP X pins σ Q u s' := by
  obtain ⟨v, H', os, bare, un, hok, r, q⟩ := h
  obtain ⟨hh, g, d, t, os'⟩ := s'
  obtain rfl : os' = s.os := os
  exact ⟨v, H', I.call (h' := hh) (g' := g) (d' := d) (t' := t) (ch := []) un hok bare (fun b z => absurd z (by simp)), r, q⟩
end

/-! ### calls -/
/-- f(..): the written arguments, then the defaults dvs; E: what is wanted of an exception -/
def tCall (sp : Sp) (dvs : List V) (E : XK) (t : TA) : TE := fun σ H Q => t σ H fun vs H1 => sp (vs ++ dvs) H1 Q E
/-- how the parameters are bound: us the positional arguments, kw the keywords' values by name, ds the defaults that fill up -/
def Binds (K : PySem.W.Frag) (fd : FuncData) (ps : List Str) (ds : List Value) : Prop :=
  ∀ (s : Shared) (us : List Value), K.In s.heap → (us ++ ds).length = ps.length → BindsTo s fd ⟨us, []⟩ (ps.zip (us ++ ds))
/-- every parameter is given -/
theorem Binds.all {K : PySem.W.Frag} {fd : FuncData} {ps : List Str} (h : ∀ us : List Value, us.length = ps.length → bindArgs fd ⟨us, []⟩ = pure (ps.zip us)) : Binds K fd ps [] := fun s us _ hl => by
  rw [List.append_nil] at hl ⊢
  exact .of_eq (h us hl)

/-- an exception of a callee reaches what this body wants of exceptions -/
def Passes (CX : CXT) (X : Cx) (E : XK) : Prop := ∀ (pins : List (Addr × Obj)) (σ : St) (H : Hp) (s : Shared) (e : Value) (s' : Shared), Inv X pins σ H s → CX X.stack H s E e s' → X.xe e s'

section
variable {X : Cx} {CX : CXT} {k : Nat} {f C : Addr} {fd : FuncData} {ps : List Str} {sp : Sp} {dvs : List V} {ds : List Value} {E : XK} {x m : Str} {p pos apos : Pos} {e o : Expr} {es : List Expr} {ta : TE} {t : TA}

/-- the callee runs -/
theorem run_fn {pins : List (Addr × Obj)} {σ : St} {H : Hp} {s : Shared} {Q : VK} {us : List Value} {vs : List V} (F : FnOk X.prog X.w X.K X.mg X.base CX k f fd ps sp) (hr : Room k X.A) (hb : Binds X.K fd ps ds) (hd : Vals dvs ds) (hx : Passes CX X E)
    (I : Inv X pins σ H s) (r : Vals vs us) (h : sp (vs ++ dvs) H Q E) : wpAny (model X.prog X.w) X.A (call (.ref f) us) (EP X pins σ Q) X.xe s := by
  have r2 : Vals (vs ++ dvs) (us ++ ds) := r.append hd
  have hl : (us ++ ds).length = ps.length := by rw [← r2.length]; exact F.len _ _ _ _ h
  refine wpAny_call (codeAny_mono (F.run X.A X.stack s H ⟨us, []⟩ (us ++ ds) (vs ++ dvs) Q E hr I.env0 (hb s us I.kIn hl) r2 h) fun r s' hq => ?_)
  cases r with
  | error e => exact hx pins σ H s e s' I hq
  | ok fl =>
    cases fl with
    | ret u => exact I.after hq
    | next => exact False.elim hq
    | brk => exact False.elim hq
    | cont => exact False.elim hq

theorem pe_call (F : FnOk X.prog X.w X.K X.mg X.base CX k f fd ps sp) (hr : Room k X.A) (hg : Gl X x) (hm : X.mg x = some (.ref f)) (hk : PySem.W.keepIn X.K (.ref f) = true) (hb : Binds X.K fd ps ds) (hd : Vals dvs ds) (hx : Passes CX X E)
    (ha : PA X (e :: es) t) (hdb : (x == ("__debug__" : Str)) = false := by decide) (he : starEach (e :: es) X.env = (false, eval e X.env) :: starEach es X.env := by rfl) (hpl : (backTo pos (starEach es X.env)).any (·.1) = false := by rfl) :
    PE X (.Call (.Name x p) (e :: es) [] pos) (tCall sp dvs E t) := by
  intro pins s σ H Q I h
  refine wpAny_Call_Name_kw (ld_glob I hg hm ?_ hdb)
  refine PySem.W.callWith_K (h₀ := X.base) I.ok.mod.kin hk (thn (ha pos pins s σ H _ I h) fun us s1 ⟨vs, H1, I1, r, q⟩ => ⟨I1.kIn, ?_⟩) he hpl
  exact run_fn F hr hb hd hx I1 r q
end

/-! ### keywords -/
section
variable {X : Cx} {CX : CXT} {k : Nat} {f C : Addr} {fd : FuncData} {ps ks : List Str} {sp : Sp} {E : XK} {x m : Str} {p pos apos kpos : Pos} {e o : Expr} {es : List Expr} {kws : List Keyword} {te ta : TE} {t tk : TA} {nm : Option Str}
variable {g : List Value → List Value → List Value} {gV : List V → List V → List V}
end

/-! ### a def's body keeps its promise -/
/-- names: the parameters first -/
structure FnScope (N P : List Str) (sc : Scope) : Prop where
  kind : sc.kind = .function
  co : sc.isCoroutine = false
  gen : sc.isGenerator = false
  nd : N.Nodup
  pre : N.take P.length = P
  par : ∀ x ∈ P, sc.names.lookup x = some .local ∨ sc.names.lookup x = some .cell
  nofree : ∀ y ∈ sc.names, y.2 ≠ .free

theorem bindL_out {kindOf : Str → Option NameKind} {x : Str} : ∀ {binds : List (Str × Value)} {m : Str → Option Value}, (∀ v, (x, v) ∉ binds) → bindL kindOf binds m x = m x
  | [], _, _ => rfl
  | (n, v) :: r, m, h => by
    unfold bindL
    rw [bindL_out fun w hw => h w (List.mem_cons_of_mem _ hw)]
    split
    · have : x ≠ n := by rintro rfl; exact h v List.mem_cons_self
      simp [this]
    · rfl
theorem bindC_out {kindOf : Str → Option NameKind} {x : Str} : ∀ {binds : List (Str × Value)} {m : Str → Option Value}, (∀ v, (x, v) ∉ binds) → bindC kindOf binds m x = m x
  | [], _, _ => rfl
  | (n, v) :: r, m, h => by
    unfold bindC
    rw [bindC_out fun w hw => h w (List.mem_cons_of_mem _ hw)]
    split
    · rfl
    · have : x ≠ n := by rintro rfl; exact h v List.mem_cons_self
      simp [this]
theorem bindL_get {kindOf : Str → Option NameKind} {x : Str} {v : Value} : ∀ {P : List Str} {vs : List Value} {i : Nat} {m : Str → Option Value}, P.Nodup → P[i]? = some x → vs[i]? = some v → kindOf x = some .local →
    bindL kindOf (P.zip vs) m x = some v
  | [], _, _, _, _, h, _, _ => by simp at h
  | _ :: _, [], _, _, _, _, h, _ => by simp at h
  | p :: P, w :: vs, 0, m, nd, h1, h2, hk => by
    simp at h1 h2; subst h1; subst h2
    show bindL kindOf ((p, w) :: P.zip vs) m p = _
    unfold bindL
    rw [bindL_out fun v hv => (List.nodup_cons.mp nd).1 (List.of_mem_zip hv).1, if_pos hk]
    simp
  | p :: P, w :: vs, i + 1, m, nd, h1, h2, hk => by
    show bindL kindOf ((p, w) :: P.zip vs) m x = _
    unfold bindL
    exact bindL_get (i := i) (List.nodup_cons.mp nd).2 (by simpa using h1) (by simpa using h2) hk
theorem bindC_get {kindOf : Str → Option NameKind} {x : Str} {v : Value} : ∀ {P : List Str} {vs : List Value} {i : Nat} {m : Str → Option Value}, P.Nodup → P[i]? = some x → vs[i]? = some v → kindOf x ≠ some .local →
    bindC kindOf (P.zip vs) m x = some v
  | [], _, _, _, _, h, _, _ => by simp at h
  | _ :: _, [], _, _, _, _, h, _ => by simp at h
  | p :: P, w :: vs, 0, m, nd, h1, h2, hk => by
    simp at h1 h2; subst h1; subst h2
    show bindC kindOf ((p, w) :: P.zip vs) m p = _
    unfold bindC
    rw [bindC_out fun v hv => (List.nodup_cons.mp nd).1 (List.of_mem_zip hv).1, if_neg hk]
    simp
  | p :: P, w :: vs, i + 1, m, nd, h1, h2, hk => by
    show bindC kindOf ((p, w) :: P.zip vs) m x = _
    unfold bindC
    exact bindC_get (i := i) (List.nodup_cons.mp nd).2 (by simpa using h1) (by simpa using h2) hk

/-- the names' values at the entry -/
def start (N : List Str) (vs : List V) : St := vs.map some ++ List.replicate (N.length - vs.length) none

/-- the context of a def's body, at its entry; an exception leaves the frame, then lies as CX says -/
def cxOf (CX : CXT) (P : Program) (w : World) (K : PySem.W.Frag) (mg : Str → Option Value) (base : Heap) (N : List Str) (qual : Str) (scope : Scope) (f : Addr) (cd : Value) (A : Around) (outer : List Env) (s : Shared) (H : Hp) (E : XK) : Cx where
  prog := P
  w := w
  K := K
  mg := mg
  base := base
  A := A.deeper (envOfC qual scope s.heap.objs.size f cd)
  N := N
  s₀ := s
  H₀ := H
  env := envOfC qual scope s.heap.objs.size f cd
  outer := outer
  stack := envOfC qual scope s.heap.objs.size f cd :: outer
  ex := []
  calm := true
  fn := fun _ => true
  pn := []
  xe := fun e s' => wpAny (model P w) (A.deeper (envOfC qual scope s.heap.objs.size f cd)) (leaving (envOfC qual scope s.heap.objs.size f cd) e) (fun _ s'' => CX outer H s E e s'') (fun e' s'' => CX outer H s E e' s'') s'

theorem cell_has {sc : Scope} {n : Nat} {x : Str} (h : sc.names.lookup x = some .cell) : ∃ c, (cellsFrom n sc.names []).lookup x = some c := by
  have q := PySem.W.cellsFrom_some sc.names n [] (.inl h)
  exact Option.isSome_iff_exists.mp q

theorem inv_start {CX : CXT} {P : Program} {w : World} {K : PySem.W.Frag} {mg : Str → Option Value} {base : Heap} {N ps : List Str} {qual : Str} {scope : Scope} {f : Addr} {cd : Value} {A : Around} {outer : List Env} {s s1 : Shared} {H : Hp} {E : XK} {us : List Value} {vs : List V}
    (S : FnScope N ps scope) (hd : A.handled = none) (e0 : Env0 P w K mg base A outer s H) (hl : vs.length = ps.length) (r : Vals vs us)
    (x : InCallC s s.heap.objs.size (bindL (envOfC qual scope s.heap.objs.size f cd).kindOf (ps.zip us) fun _ => none) (cellsFrom (s.heap.objs.size + 1) scope.names []) (bindC (envOfC qual scope s.heap.objs.size f cd).kindOf (ps.zip us) fun _ => none) s1) :
    Inv (cxOf CX P w K mg base N qual scope f cd A outer s H E) [] (start N vs) H s1 := by
  have hpl : ps.length ≤ N.length := by have := congrArg List.length S.pre; rw [List.length_take] at this; omega
  obtain ⟨h1, tk, rfl, hk⟩ := x.done
  have noA : ∀ b : Addr, b ∉ (cxOf CX P w K mg base N qual scope f cd A outer s H E).ex := fun b z => absurd (show b ∈ ([] : List Addr) from z) (by simp)
  refine ⟨⟨e0.mod, S.kind, rfl, rfl, Nat.le_refl _, fun y z c h1 h2 => ?_, fun y hy => ?_, fun y c _ h => ?_, fun _ => hd, Around.frames_deeper e0.frames, .inr ⟨rfl, rfl⟩, fun b z => absurd z (noA b), e0.bs, e0.bsz, fun b _ _ => noA b, fun b z => absurd z (noA b), e0.funs, e0.frf⟩,
    rfl, e0.bare, Un.kept hk, ⟨_, x.toInCall.ns, fun i y v h1 h2 h3 => ?_⟩, fun y c h => ⟨_, x.cell y c h⟩, e0.hok.fresh (Nat.le_refl _), fun y c h => ?_, fun p hp => absurd (show p ∈ ([] : List (Addr × Obj)) from hp) (by simp), e0.hok.kept hk, ?_⟩
  · exact name_of_addr x.apart (PySem.mem_of_lookup h1) (PySem.mem_of_lookup h2)
  · have hy : scope.names.lookup y = some .cell ∨ scope.names.lookup y = some .free := hy
    rcases hy with hy | hy
    · exact cell_has hy
    · exact absurd rfl (S.nofree _ (PySem.mem_of_lookup hy))
  · exact Nat.le_of_lt (x.above y c (PySem.mem_of_lookup h))
  · have hi : i < vs.length := by
      unfold start at h2
      by_cases hi : i < vs.length
      · exact hi
      · rw [List.getElem?_append_right (by simpa using hi)] at h2
        rw [List.getElem?_replicate] at h2
        split at h2 <;> cases h2
    have ha : vs[i]? = some v := by
      unfold start at h2
      rw [List.getElem?_append_left (by simpa using hi), List.getElem?_map] at h2
      cases e : vs[i]? with
      | none => rw [e] at h2; cases h2
      | some a => rw [e] at h2; cases h2; rfl
    obtain ⟨u, hu, rv⟩ := r.get ha
    have hp : ps[i]? = some y := by
      rw [← S.pre, List.getElem?_take_of_lt (by omega)]; exact h1
    have ndP : ps.Nodup := by rw [← S.pre]; exact S.nd.sublist (List.take_sublist _ _)
    refine ⟨u, rv, ?_⟩
    rcases S.par y (List.mem_of_getElem? hp) with k | k
    · exact .inl ⟨k, bindL_get ndP hp hu k⟩
    · obtain ⟨c, e⟩ := cell_has (n := s.heap.objs.size + 1) k
      refine .inr ⟨.inl k, c, e, ?_⟩
      have q := x.cell y c e
      rw [bindC_get ndP hp hu (by show scope.names.lookup y ≠ _; rw [k]; decide)] at q
      exact q
  · exact e0.hok.fresh (Nat.le_of_lt (x.above y c (PySem.mem_of_lookup h)))
  · unfold start
    show _ = N.length
    rw [List.length_append, List.length_map, List.length_replicate]
    omega

/-- THE RULE: a def (or a method) of the text, by its body. The body's reading t is chosen for each entry; it is run at the parameters' values -/
theorem fn_of {CX : CXT} {P : Program} {w : World} {K : PySem.W.Frag} {mg : Str → Option Value} {base : Heap} {k : Nat} {f : Addr} {name qual : Str} {params : Arguments} {body : List Stmt} {scope : Scope} {dV kV doc pm cdv ct oc : Value} {an od : Option Addr}
    {osl : Array (Option Value)} {N ps : List Str} {sp : Sp} (lk : K.lookup f = some ⟨oc, od, .func (PySem.W.fnOf name qual params body scope dV kV doc pm an cdv ct), osl⟩) (hcd : PySem.W.codeIn K cdv qual = true) (S : FnScope N ps scope)
    (len : ∀ vs H Q E, sp vs H Q E → vs.length = ps.length)
    (hbody : ∀ (A : Around) (outer : List Env) (s : Shared) (H : Hp) (vs : List V) (Q : VK) (E : XK), Room k (A.deeper (envOfC qual scope s.heap.objs.size f cdv)) → sp vs H Q E →
      ∃ t, PSs (cxOf CX P w K mg base N qual scope f cdv A outer s H E) body t ∧ t { nx := fun _ H' => Q .non H', rt := Q } (start N vs) H) :
    FnOk P w K mg base CX (k + 1) f (PySem.W.fnOf name qual params body scope dV kV doc pm an cdv ct) ps sp := by
  refine ⟨len, fun A outer s H args us vs Q E hr e0 hb r hsp => ?_⟩
  have hl := len _ _ _ _ hsp
  have KX : K.In s.heap := e0.mod.kin.keeps fun b o e => (e0.bs b o e).1
  have lim : s.heap.NoLimit := e0.mod.nolimit.keeps fun b o e => (e0.bs b o e).1
  have hkind : ∀ y ∈ ps.zip us, scope.names.lookup y.1 = some .local ∨ (scope.names.lookup y.1 = some .cell ∧ ((cellsFrom (s.heap.objs.size + 1) scope.names []).lookup y.1).isSome = true) := fun ⟨n, v⟩ hy => by
    rcases S.par n (List.of_mem_zip hy).1 with q | q
    · exact .inl q
    · exact .inr ⟨q, PySem.W.cellsFrom_some _ _ _ (.inl q)⟩
  refine codeAny_call_function hr.depth (KX _ _ lk) rfl S.co S.gen rfl (PySem.W.codeRec_of KX hcd) (hb _ _ _ _ ?_)
  refine wpAny_newFunctionEnv_cells S.kind hkind fun env he s1 x => ?_
  subst he
  refine ⟨lim.keeps x.toInCall.keep, codeAny_func ?_⟩
  obtain ⟨t, ht, hq⟩ := hbody A outer s H vs Q E (hr.deeper _) hsp
  have I : Inv (cxOf CX P w K mg base N qual scope f cdv A outer s H E) [] (start N vs) H s1 := inv_start S hr.hd e0 hl r x
  refine wpAny_mono (ht [] s1 (start N vs) H _ I hq) (fun fl s' hs => ?_) fun e s' hs => hs
  have fin : ∀ {σ' : St} {H' : Hp} {v : V} {u : Value}, Inv (cxOf CX P w K mg base N qual scope f cdv A outer s H E) [] σ' H' s' → RelV v u → Q v H' → CE outer P w H s Q u s' :=
    fun {σ' H' v u} J rv q => ⟨v, H', J.os, J.bare, J.base, J.hok, rv, q⟩
  cases fl with
  | ret u =>
    obtain ⟨v, σ', H', J, rv, q⟩ := hs
    exact fin J rv q
  | next =>
    obtain ⟨σ', H', J, q⟩ := hs
    exact fin (v := V.non) (u := Value.none) J rfl q
  | brk =>
    obtain ⟨_, _, _, q⟩ := hs
    exact False.elim q
  | cont =>
    obtain ⟨_, _, _, q⟩ := hs
    exact False.elim q
end L2

namespace L2
open PySem PySem.Spec PyProof.Rows
section
variable {X : Cx} {x : Str} {p pos : Pos} {e : Expr} {es : List Expr} {t : TA} {id T : String} {r : List V → Hp → VK → Prop}

def tCB (r : List V → Hp → VK → Prop) (t : TA) : TE := fun σ H Q => t σ H fun vs H1 => r vs H1 Q
/-- f(e, ..), f a built-in function -/
theorem pe_callB (hc : CallR X (.builtin id) r) (hg : Gl X x) (hm : X.mg x = none) (hv : bootBuiltins x = some (.builtin id)) (ha : PA X (e :: es) t) (hn : x ≠ "__name__" := by decide) (hdb : (x == ("__debug__" : Str)) = false := by decide)
    (he : starEach (e :: es) X.env = (false, eval e X.env) :: starEach es X.env := by rfl) (hpl : (backTo pos (starEach es X.env)).any (·.1) = false := by rfl) : PE X (.Call (.Name x p) (e :: es) [] pos) (tCB r t) := by
  intro pins s σ H Q I h
  refine wpAny_Call_Name_kw (ld_blt I hg hm hv ?_ hn hdb)
  exact PyProof.Rows.callWith_builtin1 (thn (ha pos pins s σ H _ I h) fun us s1 ⟨vs, H1, I1, r1, q1⟩ => hc pins s1 σ H1 vs us Q I1 r1 q1) he hpl
/-- T(e, ..), T a built-in type -/
theorem pe_callTy (hc : CallR X (.type T) r) (hg : Gl X x) (hm : X.mg x = none) (hv : bootBuiltins x = some (.type T)) (ha : PA X (e :: es) t) (hn : x ≠ "__name__" := by decide) (hdb : (x == ("__debug__" : Str)) = false := by decide)
    (he : starEach (e :: es) X.env = (false, eval e X.env) :: starEach es X.env := by rfl) (hpl : (backTo pos (starEach es X.env)).any (·.1) = false := by rfl) : PE X (.Call (.Name x p) (e :: es) [] pos) (tCB r t) := by
  intro pins s σ H Q I h
  refine wpAny_Call_Name_kw (ld_blt I hg hm hv ?_ hn hdb)
  exact PyProof.Rows.callWith_type1 (thn (ha pos pins s σ H _ I h) fun us s1 ⟨vs, H1, I1, r1, q1⟩ => hc pins s1 σ H1 vs us Q I1 r1 q1) he hpl
end
end L2

namespace HT
open PySem PyProof.Rows

/-- t < u of tuples of ints -/
def lexLt : List Int → List Int → Bool
  | [], [] => false
  | [], _ :: _ => true
  | _ :: _, [] => false
  | x :: xs, y :: ys => if x = y then lexLt xs ys else decide (x < y)
section
open PySem.SeqAt
open PySem.AutoSeq1 (wpAny_loadPart')
open PySem.MeetsSeq PySem.MeetsSeq2 PySem.MeetsSeq3

end

section
variable {prog : Program} {w : World} {A : Around} {E : Value → Shared → Prop} {s : Shared}

/-- t + u, t not empty -/
theorem cat_tup {t b : Addr} {vs ws : List Value} {Q : Value → Shared → Prop} (ht : IsTup s.heap t vs.toArray) (hb : IsTup s.heap b ws.toArray) (hv : vs ≠ [])
    (h1 : ws = [] → Q (.ref t) s) (h2 : ws ≠ [] → Q (.ref s.heap.objs.size) { s with heap := s.heap.push { cls := .type "tuple", data := .seq (vs ++ ws).toArray } })
    (hsz : vs.length + ws.length ≤ sizeLine) : wpAny (model prog w) A (binaryOp .Add (.ref t) (.ref b)) Q E s := by
  obtain ⟨⟨cls, dd, data, sl⟩, ho, hc, n, hd⟩ := id ht
  obtain ⟨⟨cls2, dd2, data2, sl2⟩, ho2, hc2, n2, hd2⟩ := id hb
  simp only at hc hd hc2 hd2
  subst hc hd hc2 hd2
  have e : vs.toArray ++ ws.toArray = (vs ++ ws).toArray := by simp
  by_cases hw : ws = []
  · exact concat_meets ⟨_, ho, rfl⟩ ⟨_, ho2, rfl⟩ noFill_tuple_add seq_tuple_add PySem.F.slot_tuple_add PySem.F.entry_tuple_add (PySem.F.args_tuple_add_2 _ _)
      (tuple_addW1 t b vs.toArray ws.toArray n n2 dd dd2 sl sl2 (by simpa using hv) (by simp [hw])) ⟨ho, ho2, h1 hw⟩
  · refine concat_meets ⟨_, ho, rfl⟩ ⟨_, ho2, rfl⟩ noFill_tuple_add seq_tuple_add PySem.F.slot_tuple_add PySem.F.entry_tuple_add (PySem.F.args_tuple_add_2 _ _)
      (tuple_addW2 t b vs.toArray ws.toArray n n2 dd dd2 sl sl2 (by simpa using hv) (by simpa using hw) (by rw [List.size_toArray, List.size_toArray]; exact hsz)) ⟨ho, ho2, ?_⟩
    rw [e]
    exact h2 hw

/-! ### t[a:b], not the whole -/
/-- a slice's bound as a place among n (d where it is left out) -/
def sIx (n d : Nat) : Option Int → Nat
  | none => d
  | some v => if v < 0 then (v + (n : Int)).toNat else min v.toNat n
theorem sIx_le (n d : Nat) (hd : d ≤ n) (o : Option Int) : sIx n d o ≤ n := by
  cases o with
  | none => exact hd
  | some v =>
    show (if v < 0 then (v + (n : Int)).toNat else min v.toNat n) ≤ n
    by_cases hv : v < 0
    · rw [if_pos hv]; omega
    · rw [if_neg hv]; exact Nat.min_le_right _ _
end
end HT

namespace L2
open PySem PySem.Spec PyProof.Rows

/-! ### the parts of a slice -/
abbrev TO := St → Hp → (Option Int → Hp → Prop) → Prop
/-- a slice's part (left out, or an int) -/
def PO (X : Cx) (e : Option Expr) (t : TO) : Prop :=
  ∀ (pins : List (Addr × Obj)) (s : Shared) (σ : St) (H : Hp) (Q : Option Int → Hp → Prop), Inv X pins σ H s → t σ H Q →
    wpAny (model X.prog X.w) X.A (evalPart e X.env) (fun u s' => ∃ o H', Inv X pins σ H' s' ∧ IsPart u o ∧ Q o H') X.xe s
def tNoPart : TO := fun _ H Q => Q none H
def tPart (t : TE) : TO := fun σ H Q => t σ H fun x H1 => ∃ i, x = .int i ∧ Q (some i) H1

section
variable {X : Cx} {e : Expr} {te : TE} {lo hi : Option Expr} {tl th : TO} {pos p2 : Pos}

theorem po_none : PO X none tNoPart := by
  intro pins s σ H Q I h
  rw [evalPart_none]
  exact wpAny_pure ⟨none, H, I, .none, h⟩
theorem po_some (h : PE X e te) : PO X (some e) (tPart te) := by
  intro pins s σ H Q I hw
  rw [evalPart_some]
  refine thn (h pins s σ H _ I hw) fun u s1 ⟨x, H1, I1, r1, q1⟩ => ?_
  obtain ⟨i, rfl, q⟩ := q1
  obtain ⟨t, rfl⟩ := r1
  exact ⟨some i, H1, I1, .int i t, q⟩

/-- what a slice of a value is, by values: the slice object stands at sl -/
def SlR (X : Cx) (r : V → Option Int → Option Int → Hp → VK → Prop) : Prop :=
  ∀ (pins : List (Addr × Obj)) (s : Shared) (σ : St) (H : Hp) (x : V) (v vl vu : Value) (lo hi : Option Int) (sl : Addr) (Q : VK), Inv X pins σ H s → RelV x v → s.heap.IsSliceOf sl vl vu .none → IsPart vl lo → IsPart vu hi → r x lo hi H Q →
    ∃ T id, typeLookup (.type T) "__getitem__" = pure (some (.builtin id)) ∧ s.TypeIs v T ∧ wpAny (model X.prog X.w) X.A (getItem v (.ref sl)) (EP X pins σ Q) X.xe s
theorem SlR.or {r r' : V → Option Int → Option Int → Hp → VK → Prop} (h : SlR X r) (h' : SlR X r') : SlR X (fun x lo hi H Q => r x lo hi H Q ∨ r' x lo hi H Q) := by
  intro pins s σ H x v vl vu lo hi sl Q I rx hs pl pu q
  rcases q with q | q
  · exact h pins s σ H x v vl vu lo hi sl Q I rx hs pl pu q
  · exact h' pins s σ H x v vl vu lo hi sl Q I rx hs pl pu q
def tSl (r : V → Option Int → Option Int → Hp → VK → Prop) (te : TE) (tl th : TO) : TE := fun σ H Q => te σ H fun x H1 => tl σ H1 fun l H2 => th σ H2 fun u H3 => r x l u H3 Q
/-- a[lo:hi], any a -/
theorem pe_slice {r : V → Option Int → Option Int → Hp → VK → Prop} (hr : SlR X r) (he : PE X e te) (hl : PO X lo tl) (hu : PO X hi th) : PE X (.Subscript e (.Slice lo hi none p2) pos) (tSl r te tl th) := by
  intro pins s σ H Q I h
  refine Subscript_ (thn (he pins s σ H _ I h) fun v s1 ⟨x, H1, I1, r1, q1⟩ => ?_)
  refine wpAny_Slice (thn (hl pins s1 σ H1 _ I1 q1) fun vl s2 ⟨l, H2, I2, pl, q2⟩ => thn (hu pins s2 σ H2 _ I2 q2) fun vu s3 ⟨u, H3, I3, pu, q3⟩ => ?_)
  rw [evalPart_none]
  refine wpAny_pure ?_
  have I4 : Inv X pins σ H3 { s3 with heap := s3.heap.push { cls := .type "slice", data := .fields #[vl, vu, .none] } } := I3.kept (t' := s3.toks) fun b ob q => Heap.get?_push_of_some _ q
  obtain ⟨T, id, hT, ht, hg⟩ := hr pins { s3 with heap := s3.heap.push { cls := .type "slice", data := .fields #[vl, vu, .none] } } σ H3 x v vl vu l u s3.heap.objs.size Q I4 r1 (Heap.IsSliceOf.new ..) pl pu q3
  show wpAny (model X.prog X.w) X.A (subscriptTail e (.Slice lo hi none p2) v (.ref s3.heap.objs.size)) (EP X pins σ Q) X.xe { s3 with heap := s3.heap.push { cls := .type "slice", data := .fields #[vl, vu, .none] } }
  exact tail_any (ops := [.ref s3.heap.objs.size, v]) ht hT hg (by with_unfolding_all rfl)

/-- the items of xs[lo:hi] -/
def cutV (xs : List V) (lo hi : Option Int) : List V := (xs.drop (HT.sIx xs.length 0 lo)).take (HT.sIx xs.length xs.length hi - HT.sIx xs.length 0 lo)
theorem cutV_length (xs : List V) (lo hi : Option Int) : (cutV xs lo hi).length ≤ xs.length := by
  unfold cutV
  rw [List.length_take, List.length_drop]
  omega
/-! ### t < u, t + u -/
/-- t + u, t not empty: u empty gives t itself -/
def rCatT (K : PySem.W.Frag) : R2 := fun x y H Q => ∃ a b xs ys, x = .ref a ∧ y = .ref b ∧ SqT K H a xs ∧ SqT K H b ys ∧ xs ≠ [] ∧ xs.length + ys.length ≤ sizeLine ∧
  (ys = [] → Q (.ref a) H) ∧ (ys ≠ [] → ∀ p, H p = none → Q (.ref p) (upd H p (.tup (xs ++ ys))))
theorem Vals.nil_iff {xs : List V} {us : List Value} (r : Vals xs us) : us = [] ↔ xs = [] := by
  cases r with
  | nil => simp
  | cons _ _ => simp
theorem op_catT : OpR X (binaryOp .Add) (rCatT X.K) := by
  intro pins s σ H x y v u Q I rx ry h
  obtain ⟨a, b, xs, ys, rfl, rfl, ha, hb, hx, hz, q1, q2⟩ := h
  cases rx
  cases ry
  obtain ⟨its, r1, p1, _⟩ := I.tuple ha
  obtain ⟨its2, r2, p2, _⟩ := I.tuple hb
  refine HT.cat_tup p1 p2 (fun z => hx (r1.nil_iff.mp z)) (fun z => ⟨.ref a, H, I, rfl, q1 (r2.nil_iff.mp z)⟩) (fun z => ?_) (by rw [← r1.length, ← r2.length]; exact hz)
  refine ⟨.ref s.heap.objs.size, _, I.laid (t' := s.toks) (o := .tup (xs ++ ys)) (fun b ob q => Heap.get?_push_of_some _ q) (Nat.le_refl _) ?_, rfl, q2 (fun w => z (r2.nil_iff.mpr w)) _ (I.hok.fresh (Nat.le_refl _))⟩
  exact ⟨by rw [List.length_append]; exact hz, _, r1.append r2, IsTup.new _ _⟩
end
end L2

namespace L2
open PySem PySem.Spec PyProof.Rows

/-! ### places -/
/-- the place that an index of any sign means -/
def ixN (n : Nat) (i : Int) : Option Nat := if 0 ≤ i then (if i < n then some i.toNat else none) else if -(n : Int) ≤ i then some (i + n).toNat else none
def atI {α : Type} (xs : List α) (i : Int) : Option α := (ixN xs.length i).bind fun j => xs[j]?
theorem ixN_seq {n : Nat} {i : Int} {j : Nat} (h : ixN n i = some j) : seqIndex? i n = some j ∧ j < n ∧ -(n : Int) ≤ i ∧ i < n := by
  unfold ixN at h
  by_cases h0 : 0 ≤ i
  · rw [if_pos h0] at h
    by_cases h1 : i < n
    · rw [if_pos h1] at h
      have e : i.toNat = j := Option.some.inj h
      exact ⟨by rw [seqIndex_of h0 h1, e], by omega, by omega, h1⟩
    · rw [if_neg h1] at h; cases h
  · rw [if_neg h0] at h
    by_cases h1 : -(n : Int) ≤ i
    · rw [if_pos h1] at h
      have e : (i + n).toNat = j := Option.some.inj h
      exact ⟨by rw [seqIndex_neg (by omega) h1, e], by omega, h1, by omega⟩
    · rw [if_neg h1] at h; cases h
theorem atI_get {α : Type} {xs : List α} {i : Int} {v : α} (h : atI xs i = some v) : ∃ j, seqIndex? i xs.length = some j ∧ xs[j]? = some v ∧ j < xs.length ∧ -(xs.length : Int) ≤ i ∧ i < xs.length := by
  unfold atI at h
  cases e : ixN xs.length i with
  | none => rw [e] at h; cases h
  | some j =>
    rw [e] at h
    obtain ⟨h1, h2, h3, h4⟩ := ixN_seq e
    exact ⟨j, h1, h, h2, h3, h4⟩
theorem atI_nat {α : Type} {xs : List α} {j : Nat} {v : α} (h : xs[j]? = some v) : atI xs (j : Int) = some v := by
  have hj : j < xs.length := (List.getElem?_eq_some_iff.mp h).1
  have e : ixN xs.length (j : Int) = some j := by
    unfold ixN
    rw [if_pos (by omega), if_pos (by omega)]; simp
  unfold atI; rw [e]; exact h
/-! ### what may be subscripted -/
/-- what stands as an index of a plain subscript -/
def PlainIx (b : Expr) : Prop := ∀ o i, subscripted b false o i = operate [o, i] (getItem o i)
/-- a subscript by values -/
def IxR (X : Cx) (r : R2) : Prop :=
  ∀ (value slice : Expr) (pins : List (Addr × Obj)) (s : Shared) (σ : St) (H : Hp) (x y : V) (v u : Value) (Q : VK), Inv X pins σ H s → RelV x v → RelV y u → r x y H Q →
    subscripted slice false v u = operate [v, u] (getItem v u) → wpAny (model X.prog X.w) X.A (subscriptTail value slice v u) (EP X pins σ Q) X.xe s
/-- a call of a builtin's method by values: the receiver, the arguments -/
def MtR (X : Cx) (id : String) (r : V → List V → Hp → VK → Prop) : Prop :=
  ∀ (pins : List (Addr × Obj)) (s : Shared) (σ : St) (H : Hp) (x : V) (xs : List V) (v : Value) (us : List Value) (Q : VK), Inv X pins σ H s → RelV x v → Vals xs us → r x xs H Q →
    wpAny (model X.prog X.w) X.A (call (.builtin id) (v :: us)) (EP X pins σ Q) X.xe s
section
variable {X : Cx} {a b : Expr} {ta tb : TE} {pos : Pos}
theorem IxR.or {r r' : R2} (h : IxR X r) (h' : IxR X r') : IxR X (fun x y H Q => r x y H Q ∨ r' x y H Q) := by
  intro value slice pins s σ H x y v u Q I rx ry q hs
  rcases q with q | q
  · exact h value slice pins s σ H x y v u Q I rx ry q hs
  · exact h' value slice pins s σ H x y v u Q I rx ry q hs
theorem MtR.or {id : String} {r r' : V → List V → Hp → VK → Prop} (h : MtR X id r) (h' : MtR X id r') : MtR X id (fun x xs H Q => r x xs H Q ∨ r' x xs H Q) := by
  intro pins s σ H x xs v us Q I rx rs q
  rcases q with q | q
  · exact h pins s σ H x xs v us Q I rx rs q
  · exact h' pins s σ H x xs v us Q I rx rs q
/-- a[b] -/
theorem pe_ix {r : R2} (hr : IxR X r) (ha : PE X a ta) (hb : PE X b tb) (hs : PlainIx b) : PE X (.Subscript a b pos) (tOp r ta tb) := by
  intro pins s σ H Q I h
  exact Subscript_ (binT ha hb I h fun v u s2 x y H2 I2 rx ry q => hr a b pins s2 σ H2 x y v u Q I2 rx ry q (hs _ _))

def rIxL (K : PySem.W.Frag) : R2 := fun x y H Q => ∃ p xs i v, x = .ref p ∧ y = .int i ∧ SqL K H p xs ∧ atI xs i = some v ∧ Q v H
def rIxT (K : PySem.W.Frag) : R2 := fun x y H Q => ∃ p xs i v, x = .ref p ∧ y = .int i ∧ SqT K H p xs ∧ atI xs i = some v ∧ Q v H
def rIxS : R2 := fun x y H Q => ∃ z i c, x = .str z ∧ y = .int i ∧ z.length ≤ sizeLine ∧ atI z.cps.toList i = some c ∧ Q (.str ⟨#[c]⟩) H
theorem ix_list : IxR X (rIxL X.K) := by
  intro value slice pins s σ H x y v u Q I rx ry h hs
  obtain ⟨p, xs, i, z, rfl, rfl, hq, he, q⟩ := h
  cases rx
  obtain ⟨t, rfl⟩ := ry
  obtain ⟨its, r, pl, hz⟩ := I.list hq
  obtain ⟨j, h1, h2, h3, h4, h5⟩ := atI_get he
  obtain ⟨w, ew, rw'⟩ := r.get h2
  have hl := r.length
  have hn := line63
  have fin : EP X pins σ Q w s := ⟨z, H, I, rw', q⟩
  by_cases h0 : 0 ≤ i
  · have hj : i.toNat = j := by
      rw [seqIndex_of h0 h5] at h1
      exact Option.some.inj h1
    exact item_listR pl.isList h0 (by omega) (by rw [hj]; simpa using ew) fin hs
  · have hj : (i + (its.toArray.size : Int)).toNat = j := by
      rw [seqIndex_neg (by omega) h4] at h1
      rw [List.size_toArray, ← hl]
      exact Option.some.inj h1
    exact subscriptTail_builtinR (x := w) pl.isList.typeIs slot_list_getitem.lookup
      (wpAny_getItem_list_neg (Q := fun r s' => r = w ∧ EP X pins σ Q r s') pl.isList (by omega) (by rw [List.size_toArray] <;> omega) (by omega) (by rw [hj]; simpa using ew) ⟨rfl, fin⟩) hs
theorem ix_tup : IxR X (rIxT X.K) := by
  intro value slice pins s σ H x y v u Q I rx ry h hs
  obtain ⟨p, xs, i, z, rfl, rfl, hq, he, q⟩ := h
  cases rx
  obtain ⟨t, rfl⟩ := ry
  obtain ⟨its, r, pl, hz⟩ := I.tuple hq
  obtain ⟨j, h1, h2, h3, h4, h5⟩ := atI_get he
  obtain ⟨w, ew, rw'⟩ := r.get h2
  have hl := r.length
  have hn := line63
  have fin : EP X pins σ Q w s := ⟨z, H, I, rw', q⟩
  exact subscriptTail_builtinR (x := w) pl.typeIs slot_tuple_getitem.lookup
    (getItem_tuple (j := j) (Q := fun r s' => r = w ∧ EP X pins σ Q r s') pl (by omega) (by omega) (by rw [List.size_toArray, ← hl]; exact h1) (by simpa using ew) ⟨rfl, fin⟩) hs
theorem ix_str : IxR X rIxS := by
  intro value slice pins s σ H x y v u Q I rx ry h hs
  obtain ⟨z, i, c, rfl, rfl, hz, he, q⟩ := h
  obtain ⟨t, rfl⟩ := rx
  obtain ⟨t', rfl⟩ := ry
  obtain ⟨j, h1, h2, h3, h4, h5⟩ := atI_get he
  have hl : z.cps.toList.length = z.length := by simp [Str.length]
  rw [hl] at h1 h4 h5
  have hn := line63
  exact tail_any (typeIs_str s z t) slot_str_getitem.lookup (getItem_str (c := c) (by
    have e1 : decide (i < -(2 ^ 63 : Int)) = false := decide_eq_false (by omega)
    have e2 : decide (i ≥ 2 ^ 63) = false := decide_eq_false (by omega)
    rw [e1, e2, Bool.or_false]) (by rw [h1]; simpa using h2) ⟨.str ⟨#[c]⟩, H, I.tok _, ⟨_, rfl⟩, q⟩) hs
/-! ### xs[i] = v, any sign -/
/-- the list's object behind a store -/
theorem mapSeq_set (its : List Value) (n j : Nat) (u : Value) : Obj.mapSeq (·.setIfInBounds j u) { cls := .type "list", data := .seq its.toArray n } = { cls := .type "list", data := .seq (its.set j u).toArray n } := by
  simp [Obj.mapSeq]
theorem Inv.lst {pins : List (Addr × Obj)} {σ : St} {H : Hp} {s : Shared} {p : Addr} {xs : List V} (I : Inv X pins σ H s) (h : H p = some (.lst xs)) :
    ∃ (its : List Value) (n : Nat), Vals xs its ∧ s.heap.get? p = some { cls := .type "list", data := .seq its.toArray n } ∧ xs.length ≤ sizeLine := by
  obtain ⟨z, its, n, r, e⟩ := I.hok p _ h
  exact ⟨its, n, r, e, z⟩
/-- the list at p is written by an update of its object -/
theorem Inv.lstUpd {pins : List (Addr × Obj)} {σ : St} {H : Hp} {s : Shared} {p : Addr} {xs ys : List V} {its its' : List Value} {n n' : Nat} {f : Obj → Obj} (I : Inv X pins σ H s) (h : H p = some (.lst xs))
    (ho : s.heap.get? p = some { cls := .type "list", data := .seq its.toArray n }) (hf : f { cls := .type "list", data := .seq its.toArray n } = { cls := .type "list", data := .seq its'.toArray n' }) (r : Vals ys its') (hz : ys.length ≤ sizeLine) (t : Nat) :
    Inv X pins σ (upd H p (.lst ys)) { s with heap := s.heap.update p f, toks := t } := by
  have e : (s.heap.update p f).get? p = some { cls := .type "list", data := .seq its'.toArray n' } := by
    rw [Heap.get?_update_self f ho (by rw [hf] <;> rfl), hf]
  refine I.write (x := p) (e := p) (by rw [h]; trivial) (.inl rfl) (fun b u hb q => (Heap.get?_update_other _ _ (Ne.symm hb)).trans q) ⟨_, e⟩ ?_
  exact ⟨hz, its', n', r, e⟩
def rSetL : V → V → V → Hp → (Hp → Prop) → Prop := fun o i v H Q => ∃ p xs k j, o = .ref p ∧ i = .int k ∧ H p = some (.lst xs) ∧ ixN xs.length k = some j ∧ Q (upd H p (.lst (xs.set j v)))
theorem set_list : PSet X rSetL := by
  intro pins s σ H o i v ov iv u Q I ro ri rv h
  obtain ⟨p, xs, k, j, rfl, rfl, hp, hj, q⟩ := h
  cases ro
  obtain ⟨t, rfl⟩ := ri
  obtain ⟨its, n, r, ho, hz⟩ := I.lst hp
  obtain ⟨h1, h2, h3, h4⟩ := ixN_seq hj
  have hl := r.length
  have hn := line63
  have I' : Inv X pins σ (upd H p (.lst (xs.set j v))) { s with heap := s.heap.update p (Obj.mapSeq (·.setIfInBounds j u)) } :=
    I.lstUpd hp ho (mapSeq_set its n j u) (r.set rv j) (by rw [List.length_set]; exact hz) s.toks
  by_cases h0 : 0 ≤ k
  · have hk : k.toNat = j := by
      rw [seqIndex_of h0 h4] at h1
      exact Option.some.inj h1
    exact PySem.W.ki_setAt ho h0 (by omega) (by rw [List.size_toArray, ← hl]; exact h4) (by rw [hk]; exact ⟨_, I', q⟩)
  · have hk : (k + (its.toArray.size : Int)).toNat = j := by
      rw [seqIndex_neg (by omega) h3] at h1
      rw [List.size_toArray, ← hl]
      exact Option.some.inj h1
    exact PySem.W.ki_setBack ho (by omega) (by rw [List.size_toArray, ← hl]; exact h3) (by omega) (by rw [hk]; exact ⟨_, I', q⟩)

/-! ### slices -/
theorem slice_bounds (lo hi : Option Int) (n : Nat) : (sliceBounds lo hi none n).1 = ((HT.sIx n 0 lo : Nat) : Int) ∧ (sliceBounds lo hi none n).2.1 = ((HT.sIx n n hi : Nat) : Int) ∧ (sliceBounds lo hi none n).2.2 = 1 := by
  refine ⟨?_, ?_, rfl⟩
  · cases lo with
    | none => simp [sliceBounds, HT.sIx]
    | some i =>
      simp only [sliceBounds, HT.sIx, Option.getD_none, show (1 : Int) > 0 by decide, if_true]
      by_cases h : i < 0
      · simp only [h, if_true] <;> omega
      · simp only [h, if_false] <;> omega
  · cases hi with
    | none => simp [sliceBounds, HT.sIx]
    | some i =>
      simp only [sliceBounds, HT.sIx, Option.getD_none, show (1 : Int) > 0 by decide, if_true]
      by_cases h : i < 0
      · simp only [h, if_true] <;> omega
      · simp only [h, if_false] <;> omega
theorem slicePick_cut (its : List Value) (lo hi : Option Int) : slicePick its.toArray lo hi none = ((its.drop (HT.sIx its.length 0 lo)).take (HT.sIx its.length its.length hi - HT.sIx its.length 0 lo)).toArray := by
  obtain ⟨h1, h2, h3⟩ := slice_bounds lo hi its.toArray.size
  unfold slicePick
  rw [h1, h2, h3]
  simp only [sliceRange_one, pick_run, List.size_toArray] <;> rfl
/-- xs[lo:hi] of a list: a new list -/
def rSlL (K : PySem.W.Frag) : V → Option Int → Option Int → Hp → VK → Prop := fun x lo hi H Q => ∃ a xs, x = .ref a ∧ SqL K H a xs ∧ ∀ p, H p = none → Q (.ref p) (upd H p (.lst (cutV xs lo hi)))
theorem sl_list : SlR X (rSlL X.K) := by
  intro pins s σ H x v vl vu lo hi sl Q I rx hs pl pu h
  obtain ⟨a, xs, rfl, hx, q⟩ := h
  cases rx
  obtain ⟨its, r, ht, hz⟩ := I.list hx
  have hlen := r.length
  refine ⟨"list", _, slot_list_getitem.lookup, ht.isList.typeIs, ?_⟩
  refine wpAny_getItem_list_slice ht.isList hs pl pu .none (by simp) ?_ (by rw [List.size_toArray] <;> omega)
  rw [slicePick_cut, ← hlen]
  refine ⟨.ref s.heap.objs.size, _, I.laid (t' := s.toks) (o := .lst (cutV xs lo hi)) (fun b ob q => Heap.get?_push_of_some _ q) (Nat.le_refl _) ?_, rfl, q _ (I.hok.fresh (Nat.le_refl _))⟩
  exact ⟨Nat.le_trans (cutV_length xs lo hi) hz, _, 0, (r.drop (HT.sIx xs.length 0 lo)).take (HT.sIx xs.length xs.length hi - HT.sIx xs.length 0 lo), Heap.get?_push_size _ rfl⟩

/-! ### in, not in: flat items -/
def flatV : V → Bool
  | .non => true
  | .bl _ => true
  | .int _ => true
  | .str _ => true
  | _ => false
/-- == of flat values -/
def eqV : V → V → Bool
  | .non, .non => true
  | .bl a, .bl b => a == b
  | .bl a, .int b => (if a then 1 else 0) == b
  | .int a, .bl b => a == (if b then 1 else 0)
  | .int a, .int b => a == b
  | .str a, .str b => a == b
  | _, _ => false
theorem eqAt_V {A : Around} {s : Shared} {y x : V} {u v : Value} (ry : RelV y u) (rx : RelV x v) (fy : flatV y = true) (fx : flatV x = true) : SeqAt.EqAt A s u v (eqV y x) := by
  cases y with
  | non =>
    cases ry
    cases x with
    | non => cases rx; exact SeqAt.EqAt.same _
    | bl b => cases rx; exact SeqAt.EqAt.none_bool b
    | int b => obtain ⟨t, rfl⟩ := rx; exact SeqAt.EqAt.none_int b t
    | str b => obtain ⟨t, rfl⟩ := rx; exact SeqAt.EqAt.none_str b t
    | _ => exact absurd (show false = true from fx) Bool.false_ne_true
  | bl a =>
    cases ry
    cases x with
    | non => cases rx; exact SeqAt.EqAt.bool_none a
    | bl b => cases rx; exact SeqAt.EqAt.bool_bool a b
    | int b => obtain ⟨t, rfl⟩ := rx; exact SeqAt.EqAt.bool_int a b t
    | str b => obtain ⟨t, rfl⟩ := rx; exact SeqAt.EqAt.bool_str a b t
    | _ => exact absurd (show false = true from fx) Bool.false_ne_true
  | int a =>
    obtain ⟨t', rfl⟩ := ry
    cases x with
    | non => cases rx; exact SeqAt.EqAt.int_none a t'
    | bl b => cases rx; exact SeqAt.EqAt.int_bool a t' b
    | int b => obtain ⟨t, rfl⟩ := rx; exact SeqAt.EqAt.int_int a t' b t
    | str b => obtain ⟨t, rfl⟩ := rx; exact SeqAt.EqAt.int_str a t' b t
    | _ => exact absurd (show false = true from fx) Bool.false_ne_true
  | str a =>
    obtain ⟨t', rfl⟩ := ry
    cases x with
    | non => cases rx; exact SeqAt.EqAt.str_none a t'
    | bl b => cases rx; exact SeqAt.EqAt.str_bool a t' b
    | int b => obtain ⟨t, rfl⟩ := rx; exact SeqAt.EqAt.str_int a t' b t
    | str b => obtain ⟨t, rfl⟩ := rx; exact SeqAt.EqAt.str_str a t' b t
    | _ => exact absurd (show false = true from fx) Bool.false_ne_true
  | _ => exact absurd (show false = true from fy) Bool.false_ne_true
def inV (x : V) (xs : List V) : Bool := xs.any fun y => eqV y x
/-! ### len, list(x), tuple(x) of any list or tuple that is read -/
theorem call_len_seq : CallR X (.builtin "len") (fun xs H Q => ∃ p ys, xs = [.ref p] ∧ (SqL X.K H p ys ∨ SqT X.K H p ys) ∧ Q (.int ys.length) H) := by
  intro pins s σ H xs us Q I r h
  obtain ⟨p, ys, rfl, hq, q⟩ := h
  obtain ⟨u, rfl, rx⟩ := vals1 r
  cases rx
  have hn := line63
  rcases hq with hq | hq
  · obtain ⟨its, r', pl, hz⟩ := I.list hq
    have hlen := r'.length
    exact Calls.call_len_list pl.isList (by simp only [List.size_toArray] <;> omega) ⟨.int ys.length, H, I.tok _, ⟨s.toks + 1, by rw [List.size_toArray, hlen]⟩, q⟩
  · obtain ⟨its, r', pl, hz⟩ := I.tuple hq
    have hlen := r'.length
    exact len_tuple pl (by simp only [List.size_toArray] <;> omega) ⟨.int ys.length, H, I.tok _, ⟨s.toks + 1, by rw [List.size_toArray, hlen]⟩, q⟩
theorem CallR.or {f : Value} {r r' : List V → Hp → VK → Prop} (h : CallR X f r) (h' : CallR X f r') : CallR X f (fun xs H Q => r xs H Q ∨ r' xs H Q) := by
  intro pins s σ H xs us Q I rs q
  rcases q with q | q
  · exact h pins s σ H xs us Q I rs q
  · exact h' pins s σ H xs us Q I rs q
theorem call_list_of : CallR X (.type "list") (fun xs H Q => ∃ p ys, xs = [.ref p] ∧ (SqL X.K H p ys ∨ SqT X.K H p ys) ∧ ∀ l, H l = none → Q (.ref l) (upd H l (.lst ys))) := by
  intro pins s σ H xs us Q I r h
  obtain ⟨p, ys, rfl, hq, q⟩ := h
  obtain ⟨u, rfl, rx⟩ := vals1 r
  cases rx
  have fin : ∀ (its : List Value), Vals ys its → ys.length ≤ sizeLine → ∀ (h' : Heap) (c' : Nat), (∀ b o', s.heap.get? b = some o' → h'.get? b = some o') →
      h'.get? s.heap.objs.size = some { cls := .type "list", dict := none, data := .seq its.toArray c', slots := #[] } → EP X pins σ Q (.ref s.heap.objs.size) { s with heap := h' } := fun its r' hz h' c' kp e =>
    ⟨.ref s.heap.objs.size, _, I.laid (t' := s.toks) kp (Nat.le_refl _) (show ObjOk X.prog X.w _ h' _ (.lst ys) from ⟨hz, its, c', r', e⟩), rfl, q _ (I.hok.fresh (Nat.le_refl _))⟩
  rcases hq with hq | hq
  · obtain ⟨its, r', pl, hz⟩ := I.list hq
    have hlen := r'.length
    obtain ⟨o, ho, hc, n, hd⟩ := pl.isList
    exact call_list_seq p (.inl rfl) ho hc hd (fun h' c' kp e => fin its r' hz h' c' kp e) (by simp only [List.size_toArray] <;> omega)
  · obtain ⟨its, r', pl, hz⟩ := I.tuple hq
    have hlen := r'.length
    obtain ⟨o, ho, hc, n, hd⟩ := pl
    exact call_list_seq p (.inr rfl) ho hc hd (fun h' c' kp e => fin its r' hz h' c' kp e) (by simp only [List.size_toArray] <;> omega)
theorem call_tuple_of : CallR X (.type "tuple") (fun xs H Q => ∃ p ys, xs = [.ref p] ∧ ((SqL X.K H p ys ∧ ∀ l, H l = none → Q (.ref l) (upd H l (.tup ys))) ∨ (SqT X.K H p ys ∧ Q (.ref p) H))) := by
  intro pins s σ H xs us Q I r h
  obtain ⟨p, ys, rfl, h⟩ := h
  obtain ⟨u, rfl, rx⟩ := vals1 r
  cases rx
  rcases h with ⟨hq, q⟩ | ⟨hq, q⟩
  · obtain ⟨its, r', pl, hz⟩ := I.list hq
    have hlen := r'.length
    refine call_tuple_list pl.isList (fun h' kp => ?_) (by simp only [List.size_toArray] <;> omega)
    have I1 : Inv X pins σ H { s with heap := h' } := I.kept (t' := s.toks) kp
    have I2 : Inv X pins σ (upd H h'.objs.size (.tup ys)) { s with heap := h'.push { cls := .type "tuple", data := .seq its.toArray } } :=
      I1.laid (t' := s.toks) (fun b o e => Heap.get?_push_of_some _ e) (Nat.le_refl _) (show ObjOk X.prog X.w _ _ _ (.tup ys) from ⟨hz, its, r', IsTup.new _ _⟩)
    exact ⟨.ref h'.objs.size, _, I2, rfl, q _ (I1.hok.fresh (Nat.le_refl _))⟩
  · obtain ⟨its, r', pl, hz⟩ := I.tuple hq
    exact call_tuple_same pl ⟨.ref p, H, I, rfl, q⟩

/-! ### the call of a builtin's method: o.m(..) -/
/-- the value is of that builtin type -/
def tyV (K : PySem.W.Frag) (T : String) (x : V) (H : Hp) : Prop := match x with
  | .str _ => T = "str"
  | .int _ => T = "int"
  | .ref p => (T = "list" ∧ ∃ xs, SqL K H p xs) ∨ (T = "tuple" ∧ ∃ o, K.lookup p = some o ∧ o.cls = .type "tuple" ∧ o.dict = none) ∨
      (T = "dict" ∧ ((∃ kvs, H p = some (.dK kvs)) ∨ ∃ kvs, H p = some (.dT kvs))) ∨ (T = "set" ∧ ∃ S n, H p = some (.set S n))
  | _ => False
theorem tyV_is {pins : List (Addr × Obj)} {σ : St} {H : Hp} {s : Shared} {T : String} {x : V} {v : Value} (I : Inv X pins σ H s) (r : RelV x v) (ty : tyV X.K T x H) :
    s.TypeIs v T ∧ ∀ a, v = .ref a → ∃ ob, s.heap.get? a = some ob ∧ ob.dict = none := by
  cases x with
  | str z =>
    obtain ⟨t, rfl⟩ := r
    cases (show T = "str" from ty)
    exact ⟨typeIs_str s z t, fun _ e => nomatch e⟩
  | int i =>
    obtain ⟨t, rfl⟩ := r
    cases (show T = "int" from ty)
    exact ⟨typeIs_int s i t, fun _ e => nomatch e⟩
  | ref p =>
    cases r
    rcases ty with ⟨rfl, xs, hq⟩ | ⟨rfl, o, hk, hc, hd⟩ | ⟨rfl, hk⟩ | ⟨rfl, S, n, hk⟩
    · obtain ⟨its, _, pl, _⟩ := I.list hq
      refine ⟨pl.isList.typeIs, fun a e => ?_⟩
      cases e
      obtain ⟨o, n, e, c, hd, _⟩ := pl
      exact ⟨o, e, hd⟩
    · refine ⟨⟨o, I.kIn p o hk, hc⟩, fun a e => ?_⟩
      cases e
      exact ⟨o, I.kIn _ o hk, hd⟩
    · have z : ∃ o, s.heap.get? p = some o ∧ o.ExactDict := by
        rcases hk with ⟨kvs, hk⟩ | ⟨kvs, hk⟩
        · obtain ⟨_, _, _, _, o, _, _, e, ex, _⟩ := I.hok p _ hk
          exact ⟨o, e, ex⟩
        · obtain ⟨_, _, _, _, o, _, _, e, ex, _⟩ := I.hok p _ hk
          exact ⟨o, e, ex⟩
      obtain ⟨o, e, ex⟩ := z
      refine ⟨⟨o, e, ex.1⟩, fun a e2 => ?_⟩
      cases e2
      exact ⟨o, e, ex.2.1⟩
    · obtain ⟨o, _, _, _, e, ex, _⟩ := I.hok p _ hk
      refine ⟨⟨o, e, ex.1⟩, fun a e2 => ?_⟩
      cases e2
      exact ⟨o, e, ex.2.1⟩
  | _ => exact False.elim ty
def tBM0 (K : PySem.W.Frag) (T : String) (r : V → List V → Hp → VK → Prop) (to : TE) : TE := fun σ H Q => to σ H fun x H1 => tyV K T x H1 ∧ r x [] H1 Q
def tBM (K : PySem.W.Frag) (T : String) (r : V → List V → Hp → VK → Prop) (to : TE) (t : TA) : TE := fun σ H Q => to σ H fun x H1 => tyV K T x H1 ∧ t σ H1 fun xs H2 => r x xs H2 Q
variable {o e : Expr} {es : List Expr} {to : TE} {t : TA} {name : Str} {apos cpos : Pos} {T id : String} {r : V → List V → Hp → VK → Prop}
theorem pe_bm (pa : PlainAttrs T) (slot : Slot T name id) (hty : typeOf (.builtin id) = pure (.type "method_descriptor")) (hm : MtR X id r) (ho : PE X o to) (ha : PA X (e :: es) t)
    (hbase : attributeBase o name X.env (eval o X.env) = eval o X.env := by rfl)
    (hfew : ((backTo cpos (starEach (e :: es) X.env)).all (fun x => !x.1) && (backToKw cpos (keywordEach [] X.env)).all (fun x => x.1.isSome)
      && decide ((e :: es).length + ([] : List Keyword).length + (if ([] : List Keyword).isEmpty then 0 else 1) < 30)) = true := by rfl)
    (hline : (apos.endLine == cpos.line) = true := by rfl) (hs : starEach (e :: es) X.env = (false, eval e X.env) :: starEach es X.env := by rfl) (hplain : (backTo cpos (starEach es X.env)).any (·.1) = false := by rfl) :
    PE X (.Call (.Attribute o name apos) (e :: es) [] cpos) (tBM X.K T r to t) := by
  intro pins s σ H Q I h
  refine wpAny_Call_method_late hbase hfew hline rfl (thn (ho pins s σ H _ I h) fun v s1 ⟨x, H1, I1, r1, ty, q1⟩ => ?_)
  obtain ⟨h1, h2⟩ := tyV_is I1 r1 ty
  refine ⟨T, id, pa, slot, hty, h1, h2, ?_⟩
  have hA := ha cpos pins s1 σ H1 _ I1 q1
  rw [hs] at hA ⊢
  refine Calls.callWith_builtin (by show (false || (backTo cpos (starEach es X.env)).any (·.1)) = false; rw [hplain] <;> rfl) (Calls.evalArgs_plain ?_)
  exact thn hA fun us s2 ⟨vs, H2, I2, r2, q2⟩ => hm pins s2 σ H2 x vs v us Q I2 r1 r2 q2
/- xs.append(e), list.index on a module's tuple .. are MtR facts of 06m -/
end
end L2

namespace L2
open PySem PySem.Spec PyProof.Rows

def MtM (X : Cx) (id : String) (r : V → List V → Hp → VK → Prop) : Prop :=
  ∀ (pins : List (Addr × Obj)) (s : Shared) (σ : St) (H : Hp) (x : V) (xs : List V) (v : Value) (us : List Value) (Q : VK), Inv X pins σ H s → RelV x v → Vals xs us → r x xs H Q →
    wpAny (model X.prog X.w) X.A (call (.builtin id) (v :: us)) (EP X pins σ Q) X.xe s

/-! ### lists of values -/
theorem Vals.one : ∀ {x : V} {us : List Value}, Vals [x] us → ∃ u, us = [u] ∧ RelV x u
  | _, _, .cons r .nil => ⟨_, rfl, r⟩
theorem Vals.two : ∀ {x y : V} {us : List Value}, Vals [x, y] us → ∃ u v, us = [u, v] ∧ RelV x u ∧ RelV y v
  | _, _, _, .cons r (.cons q .nil) => ⟨_, _, rfl, r, q⟩
theorem Vals.zero : ∀ {us : List Value}, Vals [] us → us = []
  | _, .nil => rfl
theorem Vals.eraseIdx : ∀ {xs : List V} {us : List Value} (i : Nat), Vals xs us → Vals (xs.eraseIdx i) (us.eraseIdx i)
  | _, _, _, .nil => .nil
  | _, _, 0, .cons _ t => t
  | _, _, i + 1, .cons r t => .cons r (Vals.eraseIdx i t)
theorem Vals.reverse {xs : List V} {us : List Value} (h : Vals xs us) : Vals xs.reverse us.reverse := by
  induction h with
  | nil => exact .nil
  | cons r t ih => rw [List.reverse_cons, List.reverse_cons]; exact Vals.append ih (.cons r .nil)
section
variable {X : Cx} {pins : List (Addr × Obj)} {σ : St} {H : Hp} {s : Shared} {l b : Addr} {xs ys zs : List V}

/-! ### the two steps: a tracked list is rewritten, a new list is laid -/
theorem Inv.lset {its its' : List Value} {n : Nat} {f : Array Value → Array Value} {t' : Nat} (I : Inv X pins σ H s) (hH : H l = some (.lst xs))
    (e : s.heap.get? l = some { cls := .type "list", data := .seq its.toArray n }) (hf : f its.toArray = its'.toArray) (hv : Vals ys its') (hz : ys.length ≤ sizeLine) :
    Inv X pins σ (upd H l (.lst ys)) { s with heap := s.heap.update l (Obj.mapSeq f), toks := t' } := by
  have q := PySem.IsL.update e f
  rw [hf] at q
  refine I.write (x := l) (e := l) (by rw [hH]; exact trivial) (.inl rfl) (fun b' u hb hu => (Heap.get?_update_other s.heap (Obj.mapSeq f) (Ne.symm hb)).trans hu) ⟨_, q⟩ ?_
  exact ⟨hz, its', _, hv, q⟩
theorem Inv.lnew {its : List Value} {t' : Nat} (I : Inv X pins σ H s) (hv : Vals ys its) (hz : ys.length ≤ sizeLine) :
    Inv X pins σ (upd H s.heap.objs.size (.lst ys)) { s with heap := s.heap.push { cls := .type "list", data := .seq its.toArray }, toks := t' } :=
  I.laid (fun _ _ q => Heap.get?_push_of_some _ q) (Nat.le_refl _) ⟨hz, its, 0, hv, Heap.get?_push_size _ rfl⟩
theorem Inv.fresh (I : Inv X pins σ H s) : H s.heap.objs.size = none := I.hok.fresh (Nat.le_refl _)
theorem Inv.lstM (I : Inv X pins σ H s) (hH : H l = some (.lst xs)) : xs.length ≤ sizeLine ∧ ∃ (its : List Value) (n : Nat), Vals xs its ∧ xs.length = its.length ∧ s.heap.get? l = some { cls := .type "list", data := .seq its.toArray n } := by
  obtain ⟨z, its, n, r, e⟩ := I.hok l _ hH
  exact ⟨z, its, n, r, r.length, e⟩

end

section
variable {X : Cx}

/-! ### methods -/
def rAppend : V → List V → Hp → VK → Prop := fun x vs H Q => ∃ l xs y, x = .ref l ∧ vs = [y] ∧ H l = some (.lst xs) ∧ xs.length < sizeLine ∧ Q .non (upd H l (.lst (xs ++ [y])))
theorem mt_append : MtM X "list.append" rAppend := by
  intro pins s σ H x vs v us Q I rx rv h
  obtain ⟨l, xs, y, rfl, rfl, hH, hz, q⟩ := h
  cases rx
  obtain ⟨u, rfl, ru⟩ := rv.one
  obtain ⟨z, its, n, r, hl, e⟩ := I.lstM hH
  refine call_meets F.slot_list_append ⟨_, e, rfl⟩ F.entry_list_append (F.args_list_append_2 _ _) (PySem.list_append l its.toArray n u (by rw [List.size_toArray]; omega)) ⟨e, ?_⟩
  refine ⟨.non, _, I.lset (its' := its ++ [u]) hH e (by simp) (r.append (.cons ru .nil)) ?_, rfl, q⟩
  rw [List.length_append, List.length_singleton]
  omega

def rExtend : V → List V → Hp → VK → Prop := fun x vs H Q => ∃ l b xs zs, x = .ref l ∧ vs = [.ref b] ∧ H l = some (.lst xs) ∧ H b = some (.lst zs) ∧ xs.length + zs.length ≤ sizeLine ∧ Q .non (upd H l (.lst (xs ++ zs)))
def rPopAt : V → List V → Hp → VK → Prop := fun x vs H Q => ∃ l xs i k y, x = .ref l ∧ vs = [.int i] ∧ H l = some (.lst xs) ∧ -(2 ^ 63) ≤ i ∧ i < 2 ^ 63 ∧ seqIndex? i xs.length = some k ∧ xs[k]? = some y ∧ Q y (upd H l (.lst (xs.eraseIdx k)))
def rReverse : V → List V → Hp → VK → Prop := fun x vs H Q => ∃ l xs, x = .ref l ∧ vs = [] ∧ H l = some (.lst xs) ∧ Q .non (upd H l (.lst xs.reverse))
def rClear : V → List V → Hp → VK → Prop := fun x vs H Q => ∃ l xs, x = .ref l ∧ vs = [] ∧ H l = some (.lst xs) ∧ Q .non (upd H l (.lst []))
/-! ### list + list, list += list, list * int -/
def rCat : R2 := fun x y H Q => ∃ l b xs zs, x = .ref l ∧ y = .ref b ∧ H l = some (.lst xs) ∧ H b = some (.lst zs) ∧ xs.length + zs.length ≤ sizeLine ∧ ∀ p, H p = none → Q (.ref p) (upd H p (.lst (xs ++ zs)))
theorem op_cat : OpR X (binaryOp .Add) rCat := by
  intro pins s σ H x y v u Q I rx ry h
  obtain ⟨l, b, xs, zs, rfl, rfl, hH, hB, hz, q⟩ := h
  cases rx
  cases ry
  obtain ⟨z, its, n, r, hl, e⟩ := I.lstM hH
  obtain ⟨z2, its2, n2, r2, hl2, e2⟩ := I.lstM hB
  refine PySem.P.add_list e e2 ?_ (by rw [List.size_toArray, List.size_toArray]; omega)
  have ea : its.toArray ++ its2.toArray = (its ++ its2).toArray := by simp
  rw [ea]
  exact ⟨.ref _, _, I.lnew (t' := s.toks) (r.append r2) (by rw [List.length_append]; omega), rfl, q _ I.fresh⟩
/-! ### del xs[i] -/
end

/-! ### xs[a:b] = ys -/
section
variable {prog : Program} {w : World} {A : Around} {E : Value → Shared → Prop} {s : Shared}
set_option maxRecDepth 100000 in
end

section
variable {X : Cx}
end
end L2

namespace L2
open PySem PySem.Spec PyProof.Rows

/-! ### lists of pairs as tables -/
section
variable {κ : Type} [DecidableEq κ]
def valV (kvs : List (κ × V)) (k : κ) : Option V := (kvs.find? fun kv => decide (kv.1 = k)).map (·.2)
/-- in its place, or at the end -/
def putK (kvs : List (κ × V)) (k : κ) (v : V) : List (κ × V) :=
  if (kvs.any fun kv => decide (kv.1 = k)) = true then kvs.map (fun kv => if kv.1 = k then (kv.1, v) else kv) else kvs ++ [(k, v)]
def dropK (kvs : List (κ × V)) (k : κ) : List (κ × V) := kvs.filter fun kv => decide (kv.1 ≠ k)

theorem valV_pos {p : κ × V} {r : List (κ × V)} {k : κ} (e : p.1 = k) : valV (p :: r) k = some p.2 := by simp [valV, List.find?_cons, e]
theorem valV_neg {p : κ × V} {r : List (κ × V)} {k : κ} (e : ¬ p.1 = k) : valV (p :: r) k = valV r k := by simp [valV, List.find?_cons, e]
theorem valV_any (k : κ) : ∀ kvs : List (κ × V), (kvs.any fun kv => decide (kv.1 = k)) = (valV kvs k).isSome
  | [] => rfl
  | p :: r => by
    rw [List.any_cons]
    by_cases e : p.1 = k
    · simp only [valV_pos e, decide_eq_true e, Bool.true_or, Option.isSome_some]
    · rw [valV_neg e, decide_eq_false e, Bool.false_or]; exact valV_any k r
theorem valV_map (k j : κ) (y : V) : ∀ kvs : List (κ × V), valV (kvs.map fun kv => if kv.1 = k then (kv.1, y) else kv) j = (valV kvs j).map fun x => if j = k then y else x
  | [] => rfl
  | p :: r => by
    have ih := valV_map k j y r
    rw [List.map_cons]
    by_cases h : p.1 = k
    · rw [if_pos h]
      by_cases e : p.1 = j
      · rw [valV_pos (p := (p.1, y)) e, valV_pos e, Option.map_some, if_pos (e.symm.trans h)]
      · rw [valV_neg (p := (p.1, y)) e, valV_neg e, ih]
    · rw [if_neg h]
      by_cases e : p.1 = j
      · rw [valV_pos (p := p) e, valV_pos e, Option.map_some, if_neg (fun z => h (e.trans z))]
      · rw [valV_neg (p := p) e, valV_neg e, ih]
theorem valV_snoc (k j : κ) (y : V) : ∀ kvs : List (κ × V), valV kvs k = none → valV (kvs ++ [(k, y)]) j = if j = k then some y else valV kvs j
  | [], _ => by
    by_cases e : k = j
    · rw [if_pos e.symm]; exact valV_pos (p := (k, y)) e
    · rw [if_neg (fun z => e z.symm)]; exact valV_neg (p := (k, y)) e
  | p :: r, hn => by
    rw [List.cons_append]
    have hk : ¬ p.1 = k := fun z => by rw [valV_pos z] at hn; cases hn
    rw [valV_neg hk] at hn
    have ih := valV_snoc k j y r hn
    by_cases e : p.1 = j
    · rw [valV_pos e, valV_pos e, if_neg (fun z => hk (e.trans z))]
    · rw [valV_neg e, valV_neg e, ih]
theorem valV_put (kvs : List (κ × V)) (k j : κ) (y : V) : valV (putK kvs k y) j = if j = k then some y else valV kvs j := by
  unfold putK
  by_cases a : (kvs.any fun kv => decide (kv.1 = k)) = true
  · rw [if_pos a, valV_map]
    rw [valV_any] at a
    by_cases e : j = k
    · obtain ⟨x, hx⟩ := Option.isSome_iff_exists.mp a
      rw [if_pos e, e, hx, Option.map_some, if_pos rfl]
    · rw [if_neg e]
      cases valV kvs j with
      | none => rfl
      | some x => rw [Option.map_some, if_neg e]
  · rw [if_neg a]
    refine valV_snoc k j y kvs ?_
    rw [valV_any] at a
    cases q : valV kvs k with
    | none => rfl
    | some x => rw [q] at a; exact (a rfl).elim
theorem length_putK (kvs : List (κ × V)) (k : κ) (v : V) : (putK kvs k v).length ≤ kvs.length + 1 := by
  unfold putK
  split
  · rw [List.length_map]; omega
  · rw [List.length_append, List.length_cons, List.length_nil]; omega
theorem putK_new {kvs : List (κ × V)} {k : κ} (v : V) (h : valV kvs k = none) : putK kvs k v = kvs ++ [(k, v)] := by
  unfold putK
  rw [valV_any, h]
  exact if_neg (by decide)

theorem RelO.isSome_eq {o : Option V} {u : Option Value} (r : RelO o u) : o.isSome = u.isSome := by
  cases o with
  | none => cases u with
    | none => rfl
    | some _ => exact (show False from r).elim
  | some _ => cases u with
    | none => exact (show False from r).elim
    | some _ => rfl
theorem RelO.getD {o : Option V} {u : Option Value} {d : V} {d' : Value} (r : RelO o u) (rd : RelV d d') : RelV (o.getD d) (u.getD d') := by
  cases o with
  | none => cases u with
    | none => exact rd
    | some _ => exact (show False from r).elim
  | some _ => cases u with
    | none => exact (show False from r).elim
    | some _ => exact r

/-- raw tables of the same keys -/
theorem KV.val {kvs : List (κ × V)} {vs : List (κ × Value)} (r : KV kvs vs) (k : κ) : RelO (valV kvs k) (valueAt vs k) := by
  unfold KV at r
  induction r with
  | nil => exact True.intro
  | @cons p q ps qs h t ih =>
    obtain ⟨h1, h2⟩ := h
    by_cases e : p.1 = k
    · have e' : q.1 = k := h1.symm.trans e
      have b : valueAt (q :: qs) k = some q.2 := by simp [valueAt, List.find?_cons, e']
      rw [valV_pos e, b]; exact h2
    · have e' : ¬ q.1 = k := fun z => e (h1.trans z)
      have b : valueAt (q :: qs) k = valueAt qs k := by simp [valueAt, List.find?_cons, e']
      rw [valV_neg e, b]; exact ih
theorem KV.any {kvs : List (κ × V)} {vs : List (κ × Value)} (r : KV kvs vs) (k : κ) : (kvs.any fun kv => decide (kv.1 = k)) = vs.any fun kv => decide (kv.1 = k) := by
  unfold KV at r
  induction r with
  | nil => rfl
  | cons h t ih => rw [List.any_cons, List.any_cons, ih, h.1]
theorem KV.repl {kvs : List (κ × V)} {vs : List (κ × Value)} (r : KV kvs vs) (k : κ) {y : V} {u : Value} (ry : RelV y u) :
    KV (kvs.map fun kv => if kv.1 = k then (kv.1, y) else kv) (vs.map fun kv => if kv.1 = k then (kv.1, u) else kv) := by
  unfold KV at r ⊢
  induction r with
  | nil => exact .nil
  | @cons p q ps qs h t ih =>
    rw [List.map_cons, List.map_cons]
    refine .cons ?_ ih
    obtain ⟨h1, h2⟩ := h
    by_cases e : p.1 = k
    · rw [if_pos e, if_pos (h1.symm.trans e)]; exact ⟨h1, ry⟩
    · rw [if_neg e, if_neg (fun z => e (h1.trans z))]; exact ⟨h1, h2⟩
theorem KV.put {kvs : List (κ × V)} {vs : List (κ × Value)} (r : KV kvs vs) (k : κ) {y : V} {u : Value} (ry : RelV y u) : KV (putK kvs k y) (stored vs k u) := by
  unfold putK stored
  rw [r.any k]
  by_cases e : (vs.any fun kv => decide (kv.1 = k)) = true
  · rw [if_pos e, if_pos e]; exact r.repl k ry
  · rw [if_neg e, if_neg e]; exact Paired.snoc r ⟨rfl, ry⟩
theorem KV.drop {kvs : List (κ × V)} {vs : List (κ × Value)} (r : KV kvs vs) (k : κ) : KV (dropK kvs k) (without vs k) := by
  unfold KV at r ⊢
  unfold dropK without
  induction r with
  | nil => exact .nil
  | @cons p q ps qs h t ih =>
    obtain ⟨h1, h2⟩ := h
    rw [List.filter_cons, List.filter_cons]
    by_cases e : p.1 = k
    · have a : ¬ decide (p.1 ≠ k) = true := by simp [e]
      have b : ¬ decide (q.1 ≠ k) = true := by simp [h1.symm.trans e]
      rw [if_neg a, if_neg b]; exact ih
    · have e' : ¬ q.1 = k := fun z => e (h1.trans z)
      have a : decide (p.1 ≠ k) = true := by simp [e]
      have b : decide (q.1 ≠ k) = true := by simp [e']
      rw [if_pos a, if_pos b]; exact .cons ⟨h1, h2⟩ ih
theorem KV.keys {kvs : List (κ × V)} {vs : List (κ × Value)} (r : KV kvs vs) : kvs.map (·.1) = vs.map (·.1) := by
  unfold KV at r
  induction r with
  | nil => rfl
  | cons h t ih => rw [List.map_cons, List.map_cons, ih, h.1]
theorem KV.length {kvs : List (κ × V)} {vs : List (κ × Value)} (r : KV kvs vs) : kvs.length = vs.length := Paired.length r
end


/-! ### a tracked dict, its keys ints and texts or tuples of these -/
theorem kV_is {P : Program} {w : World} {k : Key} {u : Value} (r : RelV (kV k) u) : (mixKind P w).is k u = true := by
  cases k with
  | inl i => obtain ⟨t, e⟩ := (show ∃ t, u = Value.int i t from r); subst e; exact mixKind_int P w i t
  | inr x => obtain ⟨t, e⟩ := (show ∃ t, u = Value.str x t from r); subst e; exact mixKind_str P w x t
theorem items_are {P : Program} {w : World} : ∀ {ks : List Key} {us : List Value}, Vals (ks.map kV) us → ItemsAre (mixKind P w) ks us
  | [], _, r => by rw [List.map_nil] at r; cases r; exact .nil
  | k :: ks, _, r => by
    rw [List.map_cons] at r
    cases r with
    | cons h t => exact .cons (kV_is h) (items_are t)

/-- raw entries of a dict with tuple keys -/
abbrev KT (H : Hp) : List (List Key × V) → List (List Key × Addr × Value) → Prop := Paired fun p q => p.1 = q.1 ∧ H q.2.1 = some (.tup (p.1.map kV)) ∧ RelV p.2 q.2.2
theorem KT.val {H : Hp} {kvs : List (List Key × V)} {xs : List (List Key × Addr × Value)} (r : KT H kvs xs) (k : List Key) : RelO (valV kvs k) ((atKey xs k).map (·.2)) := by
  induction r with
  | nil => exact True.intro
  | @cons p q ps qs h t ih =>
    obtain ⟨h1, _, h2⟩ := h
    by_cases e : p.1 = k
    · have e' : q.1 = k := h1.symm.trans e
      have b : atKey (q :: qs) k = some q.2 := by simp [atKey, List.find?_cons, e']
      rw [valV_pos e, b]; exact h2
    · have e' : ¬ q.1 = k := fun z => e (h1.trans z)
      have b : atKey (q :: qs) k = atKey qs k := by simp [atKey, List.find?_cons, e']
      rw [valV_neg e, b]; exact ih
theorem KT.repl {H : Hp} {kvs : List (List Key × V)} {xs : List (List Key × Addr × Value)} (r : KT H kvs xs) (k : List Key) {y : V} {u : Value} (ry : RelV y u) :
    KT H (kvs.map fun kv => if kv.1 = k then (kv.1, y) else kv) (xs.map (putAt k u)) := by
  induction r with
  | nil => exact .nil
  | @cons p q ps qs h t ih =>
    rw [List.map_cons, List.map_cons]
    refine .cons ?_ ih
    obtain ⟨h1, h2, h3⟩ := h
    unfold putAt
    by_cases e : p.1 = k
    · rw [if_pos e, if_pos (h1.symm.trans e)]; exact ⟨h1, h2, ry⟩
    · rw [if_neg e, if_neg (fun z => e (h1.trans z))]; exact ⟨h1, h2, h3⟩
theorem KT.put {H : Hp} {kvs : List (List Key × V)} {xs : List (List Key × Addr × Value)} (r : KT H kvs xs) (k : List Key) {b : Addr} {y : V} {u : Value} (hb : H b = some (.tup (k.map kV))) (ry : RelV y u) :
    KT H (putK kvs k y) (storedH xs k b u) := by
  have e : (kvs.any fun kv => decide (kv.1 = k)) = (atKey xs k).isSome := by
    rw [valV_any, (r.val k).isSome_eq, Option.isSome_map]
  unfold putK storedH
  rw [e]
  by_cases q : (atKey xs k).isSome = true
  · rw [if_pos q, if_pos q]; exact r.repl k ry
  · rw [if_neg q, if_neg q]; exact Paired.snoc r ⟨rfl, hb, ry⟩
theorem KT.keeps {H H' : Hp} {kvs : List (List Key × V)} {xs : List (List Key × Addr × Value)} (r : KT H kvs xs) (ht : ∀ b ys, H b = some (.tup ys) → H' b = some (.tup ys)) : KT H' kvs xs :=
  Paired.mapP r fun _ _ z => ⟨z.1, ht _ _ z.2.1, z.2.2⟩

section
variable {P : Program} {w : World} {H : Hp} {h : Heap} {a : Addr}
theorem rd_of {u : HO} (ok : HOk P w H h) (e : Rd H a u) : ObjOk P w H h a u := e.ok ok
theorem dk_rd {kvs : List (Key × V)} (ok : HOk P w H h) (e : Rd H a (.dK kvs)) : kvs.length ≤ sizeLine ∧ (a == sysModules) = false ∧ ∃ vs, KV kvs vs ∧ h.DictOf (mixKind P w) a vs :=
  show ObjOk P w H h a (.dK kvs) from rd_of ok e
theorem dk_of {kvs : List (Key × V)} (ok : HOk P w H h) (e : H a = some (.dK kvs)) : kvs.length ≤ sizeLine ∧ (a == sysModules) = false ∧ ∃ vs, KV kvs vs ∧ h.DictOf (mixKind P w) a vs := dk_rd ok (.inl e)
/-- a tracked tuple of ints and texts is a key -/
theorem key_of {ks : List Key} (ok : HOk P w H h) (e : H a = some (.tup (ks.map kV))) : (tupleKind (mixKind P w)).is h ks a := by
  obtain ⟨_, its, r, o, h1, h2, n, h3⟩ := (show ObjOk P w H h a (.tup (ks.map kV)) from ok a _ e)
  exact ⟨o, its.toArray, n, h1, h2, h3, by simpa using items_are r⟩
theorem dt_rd {kvs : List (List Key × V)} (ok : HOk P w H h) (e : Rd H a (.dT kvs)) : kvs.length ≤ sizeLine ∧ (a == sysModules) = false ∧
    ∃ xs, KT H kvs xs ∧ h.DictOfH (tupleKind (mixKind P w)) a xs := by
  obtain ⟨z, y, xs, r, o, es, ep, h1, h2, h3, h4, h5⟩ := (show ObjOk P w H h a (.dT kvs) from rd_of ok e)
  refine ⟨z, y, xs, r, o, es, ep, h1, h2, h3, h4, fun x hx => ?_, h5⟩
  have all : ∀ {l : List (List Key × V)} {m : List (List Key × Addr × Value)}, KT H l m → ∀ x ∈ m, (tupleKind (mixKind P w)).is h x.1 x.2.1 := by
    intro l m q
    induction q with
    | nil => intro x hx; exact nomatch hx
    | @cons p q ps qs hq t ih =>
      intro x hx
      rcases List.mem_cons.mp hx with e | hx
      · subst e
        exact key_of ok (by rw [← hq.1]; exact hq.2.1)
      · exact ih x hx
  exact all r x hx
theorem dt_of {kvs : List (List Key × V)} (ok : HOk P w H h) (e : H a = some (.dT kvs)) : kvs.length ≤ sizeLine ∧ (a == sysModules) = false ∧
    ∃ xs, KT H kvs xs ∧ h.DictOfH (tupleKind (mixKind P w)) a xs := dt_rd ok (.inl e)
end

/-- what the dict at a holds at the key y -/
def DGet (H : Hp) (a : Addr) (y : V) (r : Option V) : Prop :=
  (∃ kvs k, Rd H a (.dK kvs) ∧ y = kV k ∧ r = valV kvs k) ∨ ∃ kvs k b, Rd H a (.dT kvs) ∧ y = .ref b ∧ H b = some (.tup (k.map kV)) ∧ r = valV kvs k
/-- the heap behind a[y] = v -/
def DPut (H : Hp) (a : Addr) (y v : V) (H' : Hp) : Prop :=
  (∃ kvs k, H a = some (.dK kvs) ∧ y = kV k ∧ kvs.length < sizeLine ∧ H' = upd H a (.dK (putK kvs k v))) ∨
  ∃ kvs k b, H a = some (.dT kvs) ∧ y = .ref b ∧ H b = some (.tup (k.map kV)) ∧ kvs.length < sizeLine ∧ H' = upd H a (.dT (putK kvs k v))
theorem DGet.k {H : Hp} {a : Addr} {kvs : List (Key × V)} {k : Key} (e : H a = some (.dK kvs)) : DGet H a (kV k) (valV kvs k) := .inl ⟨kvs, k, .inl e, rfl, rfl⟩
theorem DGet.t {H : Hp} {a b : Addr} {kvs : List (List Key × V)} {k : List Key} (e : H a = some (.dT kvs)) (eb : H b = some (.tup (k.map kV))) : DGet H a (.ref b) (valV kvs k) := .inr ⟨kvs, k, b, .inl e, rfl, eb, rfl⟩
theorem DPut.k {H : Hp} {a : Addr} {kvs : List (Key × V)} {k : Key} {v : V} (e : H a = some (.dK kvs)) (hl : kvs.length < sizeLine) : DPut H a (kV k) v (upd H a (.dK (putK kvs k v))) := .inl ⟨kvs, k, e, rfl, hl, rfl⟩
theorem DPut.t {H : Hp} {a b : Addr} {kvs : List (List Key × V)} {k : List Key} {v : V} (e : H a = some (.dT kvs)) (eb : H b = some (.tup (k.map kV))) (hl : kvs.length < sizeLine) :
    DPut H a (.ref b) v (upd H a (.dT (putK kvs k v))) := .inr ⟨kvs, k, b, e, rfl, eb, hl, rfl⟩


section
variable {X : Cx} {pins : List (Addr × Obj)} {σ : St} {H : Hp} {s : Shared} {a : Addr} {y v : V} {u r : Value} {o : Option V} {A : Around} {E : Value → Shared → Prop}

theorem Inv.big (I : Inv X pins σ H s) : sysModules < s.heap.objs.size := by
  have h : mainGlobals < s.heap.objs.size := (I.mod.glob.keeps I.bk).lt
  exact Nat.lt_trans (by decide) h

/-- d[y], there -/
theorem d_getItem {Q : Value → Shared → Prop} (hu : A.units + 1 < cLine) (I : Inv X pins σ H s) (g : DGet H a y (some v)) (ry : RelV y u) (h : ∀ w' s', Inv X pins σ H s' → RelV v w' → Q w' s') :
    wpAny (model X.prog X.w) A (getItem (.ref a) u) Q E s := by
  rcases g with ⟨kvs, k, e, ey, l⟩ | ⟨kvs, k, b, e, ey, eb, l⟩
  · subst ey
    obtain ⟨z, hd, vs, rel, dd⟩ := dk_rd I.hok e
    obtain ⟨w', hw, rw'⟩ := RelO.some_of (v := v) (o := valueAt vs k) (by rw [l]; exact rel.val k)
    exact wpAny_getItem_of (kV_is ry) dd.mapOf hw (h w' _ (I.tok _) rw')
  · subst ey
    cases (show u = Value.ref b from ry)
    obtain ⟨z, hd, xs, rel, dd⟩ := dt_rd I.hok e
    obtain ⟨w', hw, rw'⟩ := RelO.some_of (v := v) (o := (atKey xs k).map (·.2)) (by rw [l]; exact rel.val k)
    obtain ⟨p, hp, hp2⟩ := Option.map_eq_some_iff.mp hw
    refine wpAny_getItem_heap (tupleKind_room_in1 hu) (key_of I.hok eb) dd hp ?_
    rw [hp2]
    exact h w' _ (I.tok _) rw'
/-- a dict's object is replaced -/
theorem d_write {h' : Heap} {t' : Nat} {ob : HO} (I : Inv X pins σ H s) (mu : Mut (H a)) (hs : Heap.SameBut a s.heap h') (he : ∃ q, h'.get? a = some q) (new : ObjOk X.prog X.w (upd H a ob) h' a ob) :
    Inv X pins σ (upd H a ob) { s with heap := h', toks := t' } :=
  I.write (x := a) (e := a) mu (.inl rfl) (fun b q hb z => (hs.2 b hb).trans z) he new
theorem dk_new {P : Program} {w : World} {H' : Hp} {h' : Heap} {kvs : List (Key × V)} {vs : List (Key × Value)} (z : kvs.length ≤ sizeLine) (hd : (a == sysModules) = false) (rel : KV kvs vs) (dd : h'.DictOf (mixKind P w) a vs) :
    ObjOk P w H' h' a (.dK kvs) := ⟨z, hd, vs, rel, dd⟩
/-- d[y] = v -/
theorem d_setItem {H' : Hp} {Q : Unit → Shared → Prop} (hu : A.units + 1 < cLine) (I : Inv X pins σ H s) (g : DPut H a y v H') (ry : RelV y u) (rv : RelV v r) (h : ∀ s', Inv X pins σ H' s' → Q () s') :
    wpAny (model X.prog X.w) A (setItem (.ref a) u r) Q E s := by
  rcases g with ⟨kvs, k, e, ey, l, eH⟩ | ⟨kvs, k, b, e, ey, eb, l, eH⟩
  · subst ey eH
    obtain ⟨z, hd, vs, rel, dd⟩ := dk_of I.hok e
    have hz : vs.length ≤ sizeLine := by rw [← rel.length]; exact z
    have hl : (putK kvs k v).length ≤ sizeLine := by have := length_putK kvs k v; omega
    refine wpAny_setItem_pairs (hsz := hz) (kV_is ry) dd fun h' dd' hs => h _ ?_
    have he : ∃ q, h'.get? a = some q := let ⟨q, _, _, hq, _⟩ := dd'; ⟨q, hq⟩
    exact d_write I (by rw [e]; exact True.intro) hs he (dk_new hl hd (rel.put k rv) dd')
  · subst ey eH
    cases (show u = Value.ref b from ry)
    obtain ⟨z, hd, xs, rel, dd⟩ := dt_of I.hok e
    have hz : xs.length ≤ sizeLine := by rw [← Paired.length rel]; exact z
    have hl : (putK kvs k v).length ≤ sizeLine := by have := length_putK kvs k v; omega
    refine wpAny_setItem_heap (hsz := hz) (tupleKind_room_in1 hu) (key_of I.hok eb) dd fun h' dd' hs => h _ ?_
    obtain ⟨q, es, ep, hq, h2, h3, h4, _, h5⟩ := dd'
    refine d_write I (by rw [e]; exact True.intro) hs ⟨q, hq⟩ ⟨hl, hd, _, (rel.put k eb rv).keeps fun c ys ec => ?_, q, es, ep, hq, h2, h3, h4, h5⟩
    rw [upd_ne (ne_of ec e (fun z => nomatch z))]
    exact ec
end

section
variable {X : Cx} {pins : List (Addr × Obj)} {σ : St} {H : Hp} {s : Shared} {a : Addr} {kvs : List (Key × V)} {k : Key} {u : Value} {A : Around} {E : Value → Shared → Prop}
end


/-! ### readings and rules -/
/-- the element of a subscription, not a slice -/
def NoSl (i : Expr) : Prop := ∀ ov iv, subscripted i false ov iv = operate [ov, iv] (getItem ov iv)
theorem subD_of {prog : Program} {w : World} {A : Around} {E : Value → Shared → Prop} {s : Shared} {env : Env} {value slice : Expr} {pos : Pos} {T id : String} {Q : Value → Shared → Prop}
    (hl : typeLookup (.type T) "__getitem__" = pure (some (.builtin id))) (hs : NoSl slice)
    (h : wpAny (model prog w) A (eval value env) (fun o s₁ => wpAny (model prog w) A (eval slice env) (fun i s₂ => s₂.TypeIs o T ∧ wpAny (model prog w) A (getItem o i) Q E s₂) E s₁) E s) :
    wpAny (model prog w) A (eval (.Subscript value slice pos) env) Q E s := by
  refine Subscript_ (wpAny_mono h (fun o s₁ h₁ => wpAny_mono h₁ (fun i s₂ h₂ => ?_) fun _ _ x => x) fun _ _ x => x)
  obtain ⟨hT, h₂⟩ := h₂
  unfold subscriptTail
  refine wpAny_bind ?_
  rw [getitemInPython_of_ne hT.not_modules]
  refine wpAny_bind (wpAny_specialOf hT hl ?_)
  have fin : wpAny (model prog w) A (subscripted slice false o i) (fun r s₃ => wpAny (model prog w) A (letTemporaryGo value o r >>= fun _ => pure r) Q E s₃) E s₂ := by
    rw [hs o i]
    exact wpAny_operating (wpAny_mono h₂ (fun r s₃ h₃ => wpAny_bind (wpAny_letTemporaryGo (wpAny_pure h₃))) fun _ _ x => x)
  first
    | exact wpAny_pure (wpAny_bind fin)
    | exact wpAny_bind (wpAny_pure (wpAny_bind fin))
    | exact wpAny_bind fin

theorem dict_typeIs {X : Cx} {pins : List (Addr × Obj)} {σ : St} {H : Hp} {s : Shared} {a : Addr} {y : V} {o : Option V} (I : Inv X pins σ H s) (g : DGet H a y o) : s.TypeIs (.ref a) "dict" := by
  rcases g with ⟨kvs, k, e, _, _⟩ | ⟨kvs, k, b, e, _, _, _⟩
  · obtain ⟨_, _, vs, _, dd⟩ := dk_rd I.hok e
    exact dd.typeIs
  · obtain ⟨_, _, xs, _, dd⟩ := dt_rd I.hok e
    exact dd.typeIs
/-- d[y] -/
def tDGet (td ty : TE) : TE := fun σ H Q => td σ H fun x H1 => ty σ H1 fun y H2 => ∃ a v, x = .ref a ∧ DGet H2 a y (some v) ∧ Q v H2
/-- d[y] = v -/
def sDPut (td ty tv : TE) : TS := fun D σ H => tv σ H fun v H1 => td σ H1 fun x H2 => ty σ H2 fun y H3 => ∃ a H4, x = .ref a ∧ DPut H3 a y v H4 ∧ D.nx σ H4
section
variable {X : Cx} {o i e value : Expr} {pos pos' tpos : Pos} {td ty tv : TE}
theorem pe_dget (hu : X.A.units + 1 < cLine) (ho : PE X o td) (hi : PE X i ty) (hs : NoSl i) : PE X (.Subscript o i pos) (tDGet td ty) := by
  intro pins s σ H Q I h
  refine subD_of PySem.F.slot_dict_getitem.lookup hs (thn (ho pins s σ H _ I h) fun u s1 ⟨x, H1, I1, rx, q1⟩ => thn (hi pins s1 σ H1 _ I1 q1) fun iv s2 ⟨y, H2, I2, ry, a, v, ex, g, q2⟩ => ?_)
  subst ex
  obtain rfl : u = Value.ref a := rx
  exact ⟨dict_typeIs I2 g, d_getItem hu I2 g ry fun w' s3 I3 rw' => ⟨v, H2, I3, rw', q2⟩⟩
theorem ps_dput (hu : X.A.units + 1 < cLine) (ho : PE X o td) (hi : PE X i ty) (hv : PE X value tv) (hs : swapsWith value (some (.Subscript o i pos')) pos.line X.env = pure false) :
    PS X (.Assign [.Subscript o i pos'] value pos) (sDPut td ty tv) := by
  intro pins s σ H D I h
  refine wpAny_Assign_Subscript (thn (hv pins s σ H _ I h) fun r s1 ⟨v, H1, I1, rv, q1⟩ => thn (ho pins s1 σ H1 _ I1 q1) fun u s2 ⟨x, H2, I2, rx, q2⟩ => thn (hi pins s2 σ H2 _ I2 q2) fun iv s3 ⟨y, H3, I3, ry, a, H4, ex, g, q3⟩ => ?_) hs
  subst ex
  obtain rfl : u = Value.ref a := rx
  exact d_setItem hu I3 g ry rv fun s4 I4 => ⟨σ, H4, I4, q3⟩
end


/-! ### displays -/
theorem dk_empty {P : Program} {w : World} {H : Hp} (h : Heap) (hb : sysModules < h.objs.size) : ObjOk P w H (h.push { cls := .type "dict", data := .dict #[] }) h.objs.size (.dK []) :=
  ⟨Nat.zero_le _, beq_eq_false_iff_ne.mpr (Ne.symm (Nat.ne_of_lt hb)), [], .nil, Heap.DictOf.new h⟩
/-- {}, to be a dict of the kind that is wanted -/
def tDNewK : TE := fun _ H Q => ∀ p, H p = none → Q (.ref p) (upd H p (.dK []))
def tDNewT : TE := fun _ H Q => ∀ p, H p = none → Q (.ref p) (upd H p (.dT []))
section
variable {X : Cx} {pos : Pos}
theorem pe_dnewK : PE X (.Dict [] [] pos) tDNewK := fun pins s σ H Q I h =>
  wpAny_Dict_empty ⟨.ref s.heap.objs.size, _, I.laid (a := s.heap.objs.size) (o := .dK []) (t' := s.toks) (fun _ _ q => Heap.get?_push_of_some _ q) (Nat.le_refl _) (dk_empty s.heap I.big), rfl, h _ (I.hok.fresh (Nat.le_refl _))⟩
end

def mergeK (kvs more : List (Key × V)) : List (Key × V) := more.foldl (fun acc kv => putK acc kv.1 kv.2) kvs
theorem KV.merge : ∀ {more : List (Key × V)} {rs : List (Key × Value)} {kvs : List (Key × V)} {vs : List (Key × Value)}, KV more rs → KV kvs vs → KV (mergeK kvs more) (merged vs rs) := by
  intro more rs kvs vs r
  unfold KV at r
  induction r generalizing kvs vs with
  | nil => intro q; exact q
  | @cons p q ps qs h t ih =>
    intro r0
    have e : KV (putK kvs p.1 p.2) (stored vs q.1 q.2) := by
      have := r0.put p.1 h.2
      rw [← h.1]; exact this
    exact ih e
/-! ### methods -/
/-- a is a dict, whatever its keys -/
def IsD (H : Hp) (a : Addr) : Prop := (∃ kvs, Rd H a (.dK kvs)) ∨ ∃ kvs, Rd H a (.dT kvs)
section
variable {X : Cx} {pins : List (Addr × Obj)} {σ : St} {H : Hp} {s : Shared} {a : Addr} {y d : V} {u r : Value} {o : Option V} {A : Around} {E : Value → Shared → Prop}
/-- d.get(y, x) -/
theorem d_get2 {Q : Value → Shared → Prop} (hu : A.units + 1 < cLine) (I : Inv X pins σ H s) (g : DGet H a y o) (ry : RelV y u) (rd : RelV d r) (h : ∀ w' s', Inv X pins σ H s' → RelV (o.getD d) w' → Q w' s') :
    wpAny (model X.prog X.w) A (call (.builtin "dict.get") [.ref a, u, r]) Q E s := by
  rcases g with ⟨kvs, k, e, ey, l⟩ | ⟨kvs, k, b, e, ey, eb, l⟩
  · subst ey
    obtain ⟨z, hd, vs, rel, dd⟩ := dk_rd I.hok e
    refine call_meetsIn PySem.F.slot_dict_get dd.typeIs PySem.F.entry_dict_get (PySem.F.args_dict_get_3 _ _ _) (meets_dict_get_default (mixKind X.prog X.w) a (kV_is ry) hd r) ⟨_, dd.mapOf, h _ _ (I.tok _) ?_⟩
    rw [l]
    exact (rel.val k).getD rd
  · subst ey
    cases (show u = Value.ref b from ry)
    obtain ⟨z, hd, xs, rel, dd⟩ := dt_rd I.hok e
    refine call_meetsIn PySem.F.slot_dict_get dd.typeIs PySem.F.entry_dict_get (PySem.F.args_dict_get_3 _ _ _) (meetsH_dict_get_default (tupleKind (mixKind X.prog X.w)) a b hd r) ⟨tupleKind_room_in1 hu, k, xs, key_of I.hok eb, dd, h _ _ (I.tok _) ?_⟩
    rw [l]
    exact (rel.val k).getD rd
end

/-- d.pop(k): there; d.pop(k, x): there or not -/
def tDPop1 (td ty : TE) : TE := fun σ H Q => td σ H fun x H1 => ∃ a, x = .ref a ∧ IsD H1 a ∧ ty σ H1 fun y H2 => ∃ kvs k v, H2 a = some (.dK kvs) ∧ y = kV k ∧ valV kvs k = some v ∧ Q v (upd H2 a (.dK (dropK kvs k)))
section
variable {X : Cx} {o e f : Expr} {apos cpos : Pos} {td ty tx : TE}
end

/-! ### dict(d): a copy -/
section
variable {X : Cx} {pins : List (Addr × Obj)} {σ : St} {H : Hp} {s : Shared} {a : Addr} {kvs : List (Key × V)} {A : Around} {E : Value → Shared → Prop}
theorem d_copyOf {Q : Value → Shared → Prop} (I : Inv X pins σ H s) (e : Rd H a (.dK kvs)) (h : ∀ p s', H p = none → Inv X pins σ (upd H p (.dK kvs)) s' → Q (.ref p) s') : wpAny (model X.prog X.w) A (call (.type "dict") [.ref a]) Q E s := by
  obtain ⟨z, hd, vs, rel, dd⟩ := dk_rd I.hok e
  refine kt_call_dict hd dd (by rw [← rel.length]; exact z) fun h' dd' hs => ?_
  refine h _ _ (I.hok.fresh (Nat.le_refl _)) (I.laid (a := s.heap.objs.size) (o := .dK kvs) (t' := s.toks) (fun b q hq => ?_) (Nat.le_refl _) (dk_new z (beq_eq_false_iff_ne.mpr (Ne.symm (Nat.ne_of_lt I.big))) rel dd'))
  exact (hs.2 b (Nat.ne_of_lt (Heap.lt_size hq))).trans (Heap.get?_push_of_some _ hq)
end


section
variable {X : Cx} {pins : List (Addr × Obj)} {σ : St} {H : Hp} {s : Shared} {a : Addr} {y : V} {u : Value} {A : Around} {E : Value → Shared → Prop}
end
end L2

namespace Att
open PySem PySem.W PySem.Calls PyProof.Rows

/-! ### the script -/
theorem ints_of_wellAll {P : Params} {h : Heap} : ∀ (ns : List Int) (vs : List Value), WellAll P h vs (ns.map WData.int) → IntsAre vs ns := by
  intro ns
  induction ns with
  | nil =>
    intro vs w
    rw [List.map_nil] at w
    cases w
    exact .nil
  | cons n ns ih =>
    intro vs w
    rw [List.map_cons] at w
    cases w with
    | cons a b =>
      cases a
      exact .cons _ _ (ih _ b)

theorem script_of {l : OpenLaw} {n : Nat} (hn : l.most = some n) {P : Params} {h : Heap} {args : List WData} {vals : List Value}
    (hpre : l.row.toRowW.claim.pre args = true) (hwl : WellAll P h vals args) :
    ∃ a vs ns, vals = [Value.ref a] ∧ args = [WData.list (ns.map WData.int)] ∧ h.get? a = some { cls := .type "list", data := .seq vs.toArray } ∧ IntsAre vs ns ∧ ns.length ≤ n := by
  have hsh : WShape.hasAll [] args [.list .int] = true := (pre_splitW hpre).1
  have hc : l.pre.holds [] { args := args } = true := (pre_splitW hpre).2
  obtain ⟨d, r, rfl, h1, h2⟩ := hasAllW_cons hsh
  obtain rfl := hasAllW_nil h2
  obtain ⟨xs, rfl, h3⟩ := hasW_list h1
  obtain ⟨ns, rfl⟩ := items_int h3
  have hlen : ns.length ≤ n := by
    unfold OpenLaw.pre at hc
    have h4 : (WTm.not (.lt (.lit (.int (n : Int))) (.len (.arg 0)))).holds [] { args := [.list (ns.map .int)] } = true := by
      have h4 := (holds_andW hc).1
      rw [hn] at h4
      exact h4
    have h5 := condW_of h4 (w_not (w_lt w_lit (w_len_list (w_arg rfl))))
    rw [List.length_map] at h5
    refine Nat.le_of_not_lt fun q => ?_
    have q' : (n : Int) < ((ns.length : Nat) : Int) := by omega
    first
      | (rw [decide_eq_true q'] at h5; exact absurd h5 (by decide))
      | (simp at h5; omega)
  cases hwl with
  | cons w1 w2 =>
    cases w2
    cases w1 with
    | list ho hall => exact ⟨_, _, ns, rfl, rfl, ho, ints_of_wellAll ns _ hall, hlen⟩

theorem post_true (l : OpenLaw) (args : List WData) : l.row.toRowW.claim.post args (.bool true) args = true :=
  postW_of (r := l.row.toRowW) (X := (true == true))
    (show WShape.has [] (.bool true) .bool = true by first | rfl | decide | simp [WShape.has, WShape.arms, WShape.armsAll])
    (show (WTm.eq .res (.lit (.bool true))).value [] { args := args, res := some (.bool true), after := args } = some (.bool (true == true)) from w_eq_bool (w_res rfl) w_lit) rfl

/-! ### the attachment: holds_open's last premise (the goal 'hc' behind k_head) from a wpAny of the law's body -/
/-- the same from a codeAny of the CALL (for a layer whose function contracts speak of calls) -/
theorem attach_call {l : OpenLaw} {n : Nat} {q : Program} {loose : List Str} {XP : (Str → Option Value) → Heap → Prop} {YP : World → Heap → Prop} {d : DefRec}
    (hn : l.most = some n) (hdf : d.params.defaults = [])
    (call : ∀ (w : World) (s₀ s₁ : Shared) (mg mb : Str → Option Value) (fa : Addr) (o : Obj) (pm cd doc : Value) (a : Addr) (vs : List Value) (ns : List Int),
      Ground q loose [] XP w s₀ mg mb s₁.heap → YP w s₁.heap →
      s₁.heap.get? fa = some o → o.data = .func (docDef d.name d.params d.body d.scope pm cd doc) → s₁.heap.CodeRec cd d.name → mg d.name = some (.ref fa) →
      s₁.heap.get? a = some { cls := .type "list", data := .seq vs.toArray } → IntsAre vs ns → ns.length ≤ n → s₁.gens = #[] →
      codeAny (model l.prog w) callerA (.call (.ref fa) ⟨[.ref a], []⟩) (fun r s' => r = .ok (.ret (.bool true)) ∧ OldK s₁.heap s'.heap ∧ s'.os = s₁.os ∧ AllBare s'.gens) s₁) :
    WalkO q loose XP YP l.row.toRowW d [] (fun f vs => PySem.call f vs) := by
  intro w s₀ s₁ mg mb G Y fa o pm cd doc dV kV ho hd hcd hD hmg hg args vals as hpre hlay hrd hwl hlo
  obtain rfl : dV = .none := Dflts.none hD hdf
  obtain rfl : kV = .none := Dflts.noKw hD
  obtain ⟨a, vs, ns, rfl, rfl, hobj, hints, hlen⟩ := script_of hn hpre hwl
  refine enter_call (codeAny_mono (call w s₀ s₁ mg mb fa o pm cd doc a vs ns G Y ho (fd_plain hd) hcd hmg hobj hints hlen hg) fun r s' hq => ?_)
  obtain ⟨rfl, h2, h3, h4⟩ := hq
  exact ⟨.inl ⟨.bool true, .bool true, [], rfl, fun _ => rfl, .bool true, post_true l _, fun _ => ⟨List.Pairwise.nil, fun _ hm => (nomatch hm)⟩⟩, h2, h3, h4⟩

/-! ### rules over ANY heap (no ledger) from facts about the written part K: the library's own take a ledger (News) for what they write -/
section
variable {prog : Program} {w : World} {A : Around} {E : Value → Shared → Prop} {s : Shared} {K : Frag}

/-! the whole heap as the ledger: makes every rule that writes through a ledger a rule over any heap -/
end
end Att

namespace L2
open PySem PySem.Spec PyProof.Rows

theorem vals_ints : ∀ {vs : List Value} {ns : List Int}, IntsAre vs ns → Vals (ns.map V.int) vs
  | _, _, .nil => .nil
  | _, _, .cons n t h => .cons ⟨t, rfl⟩ (vals_ints h)

/-- nothing is tracked but the script, known to the object (or it is an object of the module) -/
def Only (H : Hp) : Prop := ∀ b, H b = none ∨ ∃ o xs, H b = some (.frz o (.lst xs))

/-- THE HEAD: the law's promise, at the heap behind the top. F, the promise of the law's def, may use that base is part of the heap (so K.In base, base.Ns mainGlobals mg stand in Mod) -/
theorem law_call {P : Program} {w : World} {K : PySem.W.Frag} {mg mb : Str → Option Value} {CX : CXT} {k : Nat} {fa a : Addr} {fd : FuncData} {x : Str} {sp : Sp} {s₁ : Shared} {vs : List Value} {ns : List Int}
    (KX : K.In s₁.heap) (hns : s₁.heap.Ns mainGlobals mg) (hb : s₁.heap.Ns builtinsNs mb) (hbb : ∀ x : Str, x ≠ "__name__" → mb x = bootBuiltins x) (hlim : s₁.heap.NoLimit) (hg : s₁.gens = #[])
    (ha : s₁.heap.get? a = some { cls := .type "list", data := .seq vs.toArray }) (hi : IntsAre vs ns) (hl : ns.length ≤ sizeLine) (hr : Room k callerA)
    (F : ∀ base : Heap, K.In base → base.Ns mainGlobals mg → FnOk P w K mg base CX k fa fd [x] sp) (hbind : ∀ (s : Shared) (u : Value), BindsTo s fd ⟨[u], []⟩ [(x, u)])
    (hsp : ∀ H : Hp, Only H → SqL K H a (ns.map V.int) → sp [.ref a] H (fun v _ => v = .bl true) fun _ _ _ => False)
    (hCX : ∀ H e s', CX [] H s₁ (fun _ _ _ => False) e s' → False) :
    codeAny (model P w) callerA (.call (.ref fa) ⟨[.ref a], []⟩) (fun r s' => r = .ok (.ret (.bool true)) ∧ OldK s₁.heap s'.heap ∧ s'.os = s₁.os ∧ AllBare s'.gens) s₁ := by
  have rv := vals_ints hi
  have lenV := hi.length
  -- from an abstract heap in which nothing but the script may be tracked
  have core : ∀ H : Hp, Only H → SqL K H a (ns.map V.int) → HOk P w H s₁.heap → (∀ b, H b ≠ none → b = a) → (H a ≠ none → K.lookup a = none) →
      codeAny (model P w) callerA (.call (.ref fa) ⟨[.ref a], []⟩) (fun r s' => r = .ok (.ret (.bool true)) ∧ OldK s₁.heap s'.heap ∧ s'.os = s₁.os ∧ AllBare s'.gens) s₁ := by
    intro H hO hS hok hA hK
    have base_of : ∀ {b : Addr} {o : Obj}, s₁.heap.get? b = some o → H b = none → (hidT s₁.heap H).get? b = some o := fun e n => hidT_get e n
    have noA : ∀ {b : Addr} {o : Obj} {es : Array DictEntry} {ep : Nat}, s₁.heap.get? b = some o → o.data = .dict es ep → H b = none := fun {b o es ep} e d => by
      cases q : H b with
      | none => rfl
      | some u =>
        have e' : b = a := hA b (by rw [q]; simp)
        subst e'
        rw [ha] at e; cases e
        have d' : Data.seq vs.toArray _ = Data.dict es ep := d
        cases d'
    have nsK : ∀ {b : Addr} {m : Str → Option Value}, s₁.heap.Ns b m → (hidT s₁.heap H).Ns b m := fun {b m} ⟨o, es, ep, e, d, r⟩ => ⟨o, es, ep, base_of e (noA e d), d, r⟩
    have hKb : K.In (hidT s₁.heap H) := fun b o e => base_of (KX b o e) (by
      cases q : H b with
      | none => rfl
      | some u =>
        have e' : b = a := hA b (by rw [q]; simp)
        subst e'
        rw [hK (by rw [q]; simp)] at e; cases e)
    have hM : Mod K mg (hidT s₁.heap H) := ⟨hKb, nsK hns, ⟨mb, nsK hb, hbb⟩, let ⟨mc, h1, h2⟩ := hlim; ⟨mc, nsK h1, h2⟩⟩
    have e0 : Env0 P w K mg (hidT s₁.heap H) callerA [] s₁ H := ⟨rfl, hM, fun b o e => of_hidT e, Nat.le_of_eq (hidT_size _ _), trivial, fun b hb => absurd (show b ∈ ([] : List Addr) from hb) (by simp), hok, .of_eq hg⟩
    refine codeAny_mono ((F _ hKb (nsK hns)).run callerA [] s₁ H ⟨[.ref a], []⟩ [.ref a] [.ref a] _ _ hr e0 (hbind s₁ (.ref a)) (.cons rfl .nil) (hsp H hO hS)) fun r s' h => ?_
    cases r with
    | error e => exact (hCX H e s' h).elim
    | ok fl =>
      cases fl with
      | next => exact False.elim h
      | brk => exact False.elim h
      | cont => exact False.elim h
      | ret u =>
        obtain ⟨v, H', os, bare, un, hok', r', q⟩ := h
        have q' : v = .bl true := q
        subst q'
        obtain rfl : u = Value.bool true := r'
        refine ⟨rfl, OldK.of_keep fun b o e => ?_, os, bare⟩
        cases q : H b with
        | none => exact un.keep b o e q (by intro z; exact absurd (show b ∈ ([] : List Addr) from z) (by simp)) (by simp)
        | some u =>
          rcases hO b with z | ⟨ob, xs, z⟩
          · rw [q] at z; cases z
          · have z2 := un.frzs b ob _ z
            obtain ⟨e1, _⟩ := hok b _ z
            obtain ⟨e2, _⟩ := hok' b _ z2
            rw [e] at e1; cases e1
            exact e2
  cases hk : K.lookup a with
  | some o =>
    -- the script is one of the module's own objects
    have e := KX a o hk
    rw [ha] at e
    cases e
    refine core (fun _ => none) (fun _ => .inl rfl) (.inr ⟨_, vs.toArray, _, hk, rfl, rfl, rfl, by rw [List.size_toArray, lenV]; exact hl, by simpa using rv⟩) (fun b u z => by have z' : (none : Option HO) = some u := z; cases z') (fun b z => absurd rfl z) fun z => absurd rfl z
  | none =>
    refine core (fun b => if b = a then some (.frz { cls := .type "list", data := .seq vs.toArray } (.lst (ns.map V.int))) else none) (fun b => ?_) (.inl (.inr ⟨{ cls := .type "list", data := .seq vs.toArray }, if_pos rfl⟩)) (fun b u z => ?_) (fun b z => ?_) fun _ => hk
    · by_cases hb : b = a
      · exact .inr ⟨_, _, if_pos hb⟩
      · exact .inl (if_neg hb)
    · by_cases hb : b = a
      · have z' := (if_pos hb).symm.trans z
        cases z'
        subst hb
        exact ⟨ha, by rw [List.length_map]; exact hl, vs, _, rv, ha⟩
      · have z' := (if_neg hb).symm.trans z
        cases z'
    · by_cases hb : b = a
      · exact hb
      · exact absurd (if_neg hb) z
end L2

namespace L2
open PySem PySem.Spec PyProof.Rows

/-- the goal that k_head leaves (case hc), from the law's promise. F gives the function object fd (K's own) once, then the promise over every base -/
theorem walk_of {l : PySem.W.OpenLaw} {n k : Nat} {q : Program} {loose : List Str} {XP : (Str → Option Value) → Heap → Prop} {YP : World → Heap → Prop} {d : DefRec} {K : Params → PySem.W.Frag} {CX : World → CXT} {sp : World → Sp} {x : Str}
    (hn : l.most = some n) (hn2 : n ≤ sizeLine) (hdf : d.params.defaults = []) (hr : Room k callerA)
    (hY : ∀ (w : World) (h : Heap), YP w h → (K w.params).In h)
    (F : ∀ (w : World) (mg : Str → Option Value) (fa : Addr) (h : Heap), (K w.params).In h → h.Ns mainGlobals mg → mg d.name = some (.ref fa) →
      ∃ fd : FuncData, (∀ (s : Shared) (u : Value), BindsTo s fd ⟨[u], []⟩ [(x, u)]) ∧
        ∀ base : Heap, (K w.params).In base → base.Ns mainGlobals mg → FnOk l.prog w (K w.params) mg base (CX w) k fa fd [x] (sp w))
    (hsp : ∀ (w : World) (H : Hp) (a : Addr) (ns : List Int), ns.length ≤ n → Only H → SqL (K w.params) H a (ns.map V.int) → sp w [.ref a] H (fun v _ => v = .bl true) fun _ _ _ => False)
    (hCX : ∀ (w : World) (H : Hp) (s : Shared) (e : Value) (s' : Shared), CX w [] H s (fun _ _ _ => False) e s' → False) :
    PySem.W.WalkO q loose XP YP l.row.toRowW d [] (fun f vs => PySem.call f vs) := by
  refine Att.attach_call hn hdf fun w s₀ s₁ mg mb fa o pm cd doc a vs ns G Y ho hd hcd hmg hobj hints hlen hg => ?_
  have KX := hY w _ Y
  obtain ⟨fd, hb, hF⟩ := F w mg fa _ KX G.T.g hmg
  exact law_call KX G.T.g G.T.b G.T.builtins G.T.nolimit hg hobj hints (Nat.le_trans hlen hn2) hr hF hb (fun H hO hS => hsp w H a ns hlen hO hS) fun H e s' => hCX w H s₁ e s'
end L2

/-! SHORT WORDS over the layer: a def of the text, its body, what a loop and a test want. -/
namespace L2
open PySem PySem.Spec PyProof.Rows

/-! ### the text by places -/
def defArgs (s : Stmt) : Arguments := match s with
  | .FunctionDef _ a _ _ _ _ _ _ _ _ => a
  | _ => { posonlyargs := [], args := [], vararg := none, kwonlyargs := [], kw_defaults := [], kwarg := none, defaults := [] }
def defBody (s : Stmt) : List Stmt := match s with
  | .FunctionDef _ _ b _ _ _ _ _ _ _ => b
  | _ => []
def defScope (s : Stmt) : Scope := match s with
  | .FunctionDef _ _ _ _ _ _ sc _ _ _ => sc
  | _ => { kind := .function, names := [], isGenerator := false, isCoroutine := false }

/-! ### no exception leaves a def -/
abbrev CX0 : CXT := fun _ _ _ _ _ _ => False
abbrev E0 : XK := fun _ _ _ => False
theorem pass0 {X : Cx} : Passes CX0 X E0 := fun _ _ _ _ _ _ _ h => h.elim

/-! ### a def (or method) of the text as it stands behind the top -/
structure Fun (K : PySem.W.Frag) (x qual : Str) (st : Stmt) (f : Addr) (fd : FuncData) : Prop where
  ex : ∃ (oc : Value) (od : Option Addr) (kV doc pm : Value) (an : Option Addr) (cdv ct : Value) (osl : Array (Option Value)),
    fd = PySem.W.fnOf x qual (defArgs st) (defBody st) (defScope st) .none kV doc pm an cdv ct ∧ K.lookup f = some ⟨oc, od, .func fd, osl⟩ ∧ PySem.W.codeIn K cdv qual = true
  kp : PySem.W.keepIn K (.ref f) = true
section
variable {P : Program} {w : World} {K : PySem.W.Frag} {mg : Str → Option Value} {base : Heap}
/-- THE RULE for a def: its body as a term of rules, and the reading of that term -/
theorem Fun.ok {x qual : Str} {st : Stmt} {f : Addr} {fd : FuncData} {N ps : List Str} {k : Nat} {sp : Sp} (F : Fun K x qual st f fd) (S : FnScope N ps (defScope st)) (len : ∀ vs H Q E, sp vs H Q E → vs.length = ps.length)
    (hbody : ∀ (cdv : Value) (A : Around) (outer : List Env) (s : Shared) (H : Hp) (vs : List V) (Q : VK) (E : XK), Room k (A.deeper (envOfC qual (defScope st) s.heap.objs.size f cdv)) → sp vs H Q E →
      ∃ t, PSs (cxOf CX0 P w K mg base N qual (defScope st) f cdv A outer s H E).nox (defBody st) t ∧ t { nx := fun _ H' => Q .non H', rt := Q } (start N vs) H) : FnOk P w K mg base CX0 (k + 1) f fd ps sp := by
  obtain ⟨oc, od, kV, doc, pm, an, cdv, ct, osl, rfl, lk, hcd⟩ := F.ex
  refine fn_of lk hcd S len fun A outer s H vs Q E hr hsp => ?_
  obtain ⟨t, h, q⟩ := hbody cdv A outer s H vs Q E hr hsp
  exact ⟨t, h.nox, q⟩
/-- how its arguments bind (no defaults): h is «fun _ _ _ _ _ _ us hl => match us, hl with | [_, _], _ => rfl», one _ a parameter -/
theorem Fun.binds {x qual : Str} {st : Stmt} {f : Addr} {fd : FuncData} {ps : List Str} (F : Fun K x qual st f fd)
    (h : ∀ (kV doc pm : Value) (an : Option Addr) (cdv ct : Value) (us : List Value), us.length = ps.length → bindArgs (PySem.W.fnOf x qual (defArgs st) (defBody st) (defScope st) .none kV doc pm an cdv ct) ⟨us, []⟩ = pure (ps.zip us)) : Binds K fd ps [] := by
  obtain ⟨oc, od, kV, doc, pm, an, cdv, ct, osl, rfl, lk, hcd⟩ := F.ex
  exact .all (h kV doc pm an cdv ct)
theorem fun_mk {x qual : Str} {st : Stmt} {f : Addr} {oc : Value} {od an : Option Addr} {osl : Array (Option Value)} {kV doc pm cdv ct : Value} (l : K.lookup f = some ⟨oc, od, .func (PySem.W.fnOf x qual (defArgs st) (defBody st) (defScope st) .none kV doc pm an cdv ct), osl⟩)
    (c : PySem.W.codeIn K cdv qual = true) (k : PySem.W.keepIn K (.ref f) = true) : Fun K x qual st f (PySem.W.fnOf x qual (defArgs st) (defBody st) (defScope st) .none kV doc pm an cdv ct) := ⟨⟨oc, od, kV, doc, pm, an, cdv, ct, osl, rfl, l, c⟩, k⟩
end
theorem hu_of {A : Around} {k : Nat} (hr : Room k A) : A.units + 1 < cLine := Nat.lt_of_le_of_lt (Nat.add_le_add_left (by decide : 1 ≤ 64) _) hr.units
theorem small1000 {n : Nat} (h : n ≤ 1000) : n < sizeLine := Nat.lt_of_le_of_lt h (by decide)

/-! ### expressions in short: the name that stands in the i-th slot -/
section
variable {X : Cx}
theorem pv (i : Nat) {x : Str} {pos : Pos} (hN : X.N[i]? = some x := by rfl) (hv : Vis X.env.scope x := by first | exact Or.inl rfl | exact Or.inr (Or.inl rfl) | exact Or.inr (Or.inr rfl)) (hd : (x == ("__debug__" : Str)) = false := by decide)
    (hcd : (x == ("__classdict__" : Str)) = false := by decide) : PE X (.Name x pos) (tVar i) := pe_var hN hv hd hcd
end

/-! ### tests -/
/-! ### heaps -/
/-- all that was tracked is as it was -/
def Same (H H' : Hp) : Prop := ∀ b o, H b = some o → H' b = some o
theorem Same.refl (H : Hp) : Same H H := fun _ _ h => h
theorem Same.trans {H H1 H2 : Hp} (a : Same H H1) (b : Same H1 H2) : Same H H2 := fun c o h => b c o (a c o h)
theorem Same.free {H H' : Hp} (e : Same H H') {l : Addr} (h : H' l = Option.none) : H l = Option.none := by
  cases q : H l with
  | none => rfl
  | some o =>
    rw [e l o q] at h
    cases h
theorem Same.seq {K : PySem.W.Frag} {H H' : Hp} {a : Addr} {xs : List V} (e : Same H H') (h : SqL K H a xs) : SqL K H' a xs := by
  rcases h with (h | ⟨o, h⟩) | h
  · exact .inl (.inl (e _ _ h))
  · exact .inl (.inr ⟨o, e _ _ h⟩)
  · exact .inr h

/-! ### a dict's pairs: keys that differ -/
section
variable {κ : Type} [DecidableEq κ]
theorem valV_in {kvs : List (κ × V)} {k : κ} {v : V} (h : valV kvs k = some v) : k ∈ kvs.map (·.1) := by
  have q : (kvs.any fun kv => decide (kv.1 = k)) = true := by
    rw [valV_any, h]
    all_goals rfl
  obtain ⟨p, hp, e⟩ := List.any_eq_true.mp q
  exact List.mem_map.mpr ⟨p, hp, of_decide_eq_true e⟩
end
end L2
end

section
set_option Elab.async false
set_option linter.all false
set_option maxRecDepth 100000
set_option maxHeartbeats 4000000
/-! ## A comprehension's block, one `for`, over the layer -/
namespace L2
open PySem PySem.Spec PyProof.Rows

theorem forIn_pureX {α β : Type} {f : α → β → Sem (ForInStep β)} (g : α → β → β) : ∀ (l : List α) (b : β), (∀ x ∈ l, ∀ c, f x c = pure (.yield (g x c))) → forIn l b f = pure (l.foldl (fun c x => g x c) b)
  | [], b, _ => rfl
  | x :: l, b, h => by
    rw [List.forIn_cons, h x List.mem_cons_self, pure_bind]
    exact forIn_pureX g l (g x b) fun y hy => h y (List.mem_cons_of_mem _ hy)

/-- the cells that the block takes over -/
def closL (env : Env) (names : List (Str × NameKind)) (cs : List (Str × Addr)) : List (Str × Addr) :=
  names.foldl (fun c y => if y.2 == NameKind.free then (y.1, (env.cells.lookup y.1).getD 0) :: c else c) cs
theorem closureFor_closL {scope : Scope} {env : Env} (h : ∀ y ∈ scope.names, y.2 = .free → ∃ c, env.cells.lookup y.1 = some c) : closureFor scope env = pure (closL env scope.names []) := by
  simp only [closureFor]
  rw [forIn_pureX (fun y c => if y.2 == NameKind.free then (y.1, (env.cells.lookup y.1).getD 0) :: c else c) scope.names [] (fun x hx c => by
    obtain ⟨n, kind⟩ := x
    dsimp only
    by_cases hk : kind = .free
    · subst hk
      obtain ⟨a, e⟩ := h (n, .free) hx rfl
      have e' : env.cells.lookup n = some a := e
      have : cellOf env n = pure a := by unfold cellOf; rw [e']
      rw [this, e']
      rfl
    · have hb : (kind == NameKind.free) = false := by simpa using hk
      rw [hb]; rfl)]
  simp only [pure_bind]
  rfl
theorem closL_mem {env : Env} : ∀ (names : List (Str × NameKind)) (cs : List (Str × Addr)), (∀ y ∈ names, y.2 = .free → ∃ c, env.cells.lookup y.1 = some c) → (∀ p ∈ cs, env.cells.lookup p.1 = some p.2) →
    ∀ p ∈ closL env names cs, env.cells.lookup p.1 = some p.2
  | [], cs, _, hc => hc
  | y :: r, cs, h, hc => by
    unfold closL
    rw [List.foldl_cons]
    refine closL_mem r _ (fun z hz => h z (List.mem_cons_of_mem _ hz)) fun p hp => ?_
    by_cases hk : y.2 = .free
    · have hb : (y.2 == NameKind.free) = true := by simpa using hk
      rw [if_pos hb] at hp
      rcases List.mem_cons.mp hp with e | hp
      · obtain ⟨c, e1⟩ := h y List.mem_cons_self hk
        rw [e]; dsimp only; rw [e1]; rfl
      · exact hc p hp
    · have hb : ¬ (y.2 == NameKind.free) = true := by simpa using hk
      rw [if_neg hb] at hp
      exact hc p hp
theorem closL_keeps {env : Env} {p : Str × Addr} : ∀ (names : List (Str × NameKind)) (cs : List (Str × Addr)), p ∈ cs → p ∈ closL env names cs
  | [], _, h => h
  | y :: r, cs, h => by
    unfold closL
    rw [List.foldl_cons]
    refine closL_keeps r _ ?_
    split
    · exact List.mem_cons_of_mem _ h
    · exact h
theorem closL_has {env : Env} {x : Str} : ∀ (names : List (Str × NameKind)) (cs : List (Str × Addr)), (x, NameKind.free) ∈ names → ∃ c, (x, c) ∈ closL env names cs
  | y :: r, cs, h => by
    rcases List.mem_cons.mp h with e | h
    · subst e
      exact ⟨_, by
        unfold closL; rw [List.foldl_cons]
        refine closL_keeps r _ ?_
        rw [if_pos (by rfl)]
        exact List.mem_cons_self⟩
    · obtain ⟨c, hc⟩ := closL_has r (if y.2 == NameKind.free then (y.1, (env.cells.lookup y.1).getD 0) :: cs else cs) h
      exact ⟨c, by unfold closL; rw [List.foldl_cons]; exact hc⟩
theorem lookup_of_all {f : Str → Option Addr} {x : Str} : ∀ {cs : List (Str × Addr)}, (∀ p ∈ cs, f p.1 = some p.2) → (∃ c, (x, c) ∈ cs) → cs.lookup x = f x
  | [], _, ⟨_, h⟩ => nomatch h
  | (n, a) :: r, hc, ⟨c, h⟩ => by
    rw [List.lookup_cons]
    by_cases e : x = n
    · subst e
      rw [beq_self_eq_true]
      exact (hc (x, a) List.mem_cons_self).symm
    · have hb : (x == n) = false := by simpa using e
      rw [hb]
      refine lookup_of_all (fun p hp => hc p (List.mem_cons_of_mem _ hp)) ⟨c, ?_⟩
      rcases List.mem_cons.mp h with q | q
      · exact absurd (congrArg Prod.fst q) e
      · exact q
/-- a cell or free name of the block is a free one of its scope -/
theorem relabel_free {env : Env} {y : Str} : ∀ {names : List (Str × NameKind)}, (∀ z ∈ names, z.2 ≠ .cell) →
    ((names.map fun (n, k) => if (k == NameKind.free && env.scope.kind == .function && env.kindOf n == some .cell) then (n, NameKind.cell) else (n, k)).lookup y = some .cell ∨
     (names.map fun (n, k) => if (k == NameKind.free && env.scope.kind == .function && env.kindOf n == some .cell) then (n, NameKind.cell) else (n, k)).lookup y = some .free) → names.lookup y = some .free
  | [], _, h => by rcases h with h | h <;> cases h
  | (n, k) :: r, hc, h => by
    have ih := @relabel_free env y r fun z hz => hc z (List.mem_cons_of_mem _ hz)
    rw [List.map_cons] at h
    rw [List.lookup_cons]
    by_cases e : y = n
    · subst e
      rw [beq_self_eq_true]
      by_cases hb : (k == NameKind.free && env.scope.kind == .function && env.kindOf y == some .cell) = true
      · have hk : k = .free := by
          rw [Bool.and_eq_true, Bool.and_eq_true] at hb
          simpa using hb.1.1
        rw [hk]
      · dsimp only at h
        rw [if_neg hb, List.lookup_cons, beq_self_eq_true] at h
        dsimp only at h
        rcases h with h | h
        · exact absurd (Option.some.inj h) (hc (y, k) List.mem_cons_self)
        · exact h
    · have hn : (y == n) = false := by simpa using e
      rw [hn]
      dsimp only at h ⊢
      apply ih
      by_cases hb : (k == NameKind.free && env.scope.kind == .function && env.kindOf n == some .cell) = true
      · rw [if_pos hb, List.lookup_cons, hn] at h
        exact h
      · rw [if_neg hb, List.lookup_cons, hn] at h
        exact h

/-! ### the block's context -/
structure CB where
  C : Addr
  cl : List (Str × Addr)
  s2 : Shared
  H2 : Hp
  ex : List Addr
@[reducible] def cxC (X : Cx) (scope : Scope) (N : List Str) (c : CB) : Cx :=
  { prog := X.prog, w := X.w, K := X.K, mg := X.mg, base := X.base, A := X.A, N := N, s₀ := c.s2, H₀ := c.H2, env := compEnvC scope c.cl c.C X.env, outer := X.stack, stack := X.stack, ex := c.ex, fn := fun _ => false, calm := X.calm, pn := [], xe := fun _ _ => False }
def subS (σ : St) (idx : List Nat) : St := idx.map fun i => (σ[i]?).join
def subN (N : List Str) (idx : List Nat) : List Str := idx.map fun i => N.getD i ""
/-- the tests of a clause -/
def PIfs (X : Cx) (ifs : List Expr) (t : TT) : Prop :=
  ∀ (pins : List (Addr × Obj)) (s : Shared) (σ : St) (H : Hp) (Q : Bool → Hp → Prop), Inv X pins σ H s → t σ H Q →
    wpAny (model X.prog X.w) X.A (forIn ifs true fun c r => if r = true then do let ok ← isTrue c X.env (eval c X.env); pure (ForInStep.yield ok) else pure (ForInStep.yield r)) (TP X pins σ Q) X.xe s
def tYes : TT := fun _ H Q => Q true H
theorem pifs_nil {X : Cx} : PIfs X [] tYes := fun _ _ _ H _ I h => wpAny_tests_nil ⟨H, I, h⟩
theorem pifs_one {X : Cx} {e : Expr} {t : TT} (h : PT X e t) : PIfs X [e] t := fun pins s σ H Q I q => wpAny_tests_one (h pins s σ H Q I q)

/-- W: by the turn, a measure and the items so far -/
def tComp (wi : TI) (k : Nat) (idx : List Nat) (g : CB → TG) (tt : CB → TT) (te : CB → TE) : TE := fun σ H Q => wi σ H fun J H1 => ∀ D, H1 D = none → ∃ W : Nat → Nat → List V → Hp → Prop, (∃ m, W 0 m [] (upd H1 D (.lst []))) ∧
  ∀ i m ys H', W i m ys H' → (J.stop i H' ∧ Q (.ref D) H') ∨ (J.go i H' ∧ ∃ N : List V → Hp → Prop, (∀ ys' H'', N ys' H'' → ∃ m', m' < m ∧ W (i + 1) m' ys' H'') ∧ ∀ (c : CB) (own : St), own.length = k → ∀ x H2, J.yld i H' x H2 → g c x (own ++ subS σ idx) H2 fun σ3 H3 =>
    (∃ own', own'.length = k ∧ σ3 = own' ++ subS σ idx) ∧ tt c σ3 H3 fun b H4 => if b = true then te c σ3 H4 fun y H5 => H5 D = some (.lst ys) ∧ ys.length < sizeLine ∧ N (ys ++ [y]) (upd H5 D (.lst (ys ++ [y]))) else N ys H4)

/-- what the scope of the block must be -/
structure CScope (X : Cx) (scope : Scope) (xs : List Str) (idx : List Nat) : Prop where
  kind : scope.kind = .function
  nocell : ∀ y ∈ scope.names, y.2 ≠ .cell
  loc : ∀ y ∈ scope.names, y.2 = .local → scope.names.lookup y.1 = some .local
  free : ∀ y ∈ scope.names, y.2 = .free → scope.names.lookup y.1 = some .free ∧ (X.env.kindOf y.1 = some .cell ∨ X.env.kindOf y.1 = some .free)
  ix : ∀ i ∈ idx, ∃ y, X.N[i]? = some y ∧ scope.names.lookup y = some .free

section
variable {prog : Program} {w : World} {A : Around} {R : Result → Shared → Prop} {s : Shared}
theorem codeAny_compLoop_any {elt target iter : Expr} {ifs : List Expr} {scope : Scope} {pos : Pos} {it acc : Value} {env : Env} (I : Nat → Shared → Prop)
    (turn : ∀ n s, I n s → wpAny (model prog w) A (pyNext it) (fun r s₁ => match r with
      | none => R (.ok .next) s₁
      | some v => wpAny (model prog w) A (letOwnedTupleGo target it v) (fun _ s₁' => wpAny (model prog w) A (assign target env v) (fun _ s₂ =>
          wpAny (model prog w) A (forIn ifs true fun c r => if r = true then do let ok ← isTrue c env (eval c env); pure (ForInStep.yield ok) else pure (ForInStep.yield r)) (fun ok s₃ =>
            if ok = true then wpAny (model prog w) A (eval elt env) (fun x s₄ =>
              wpAny (model prog w) A (call (.builtin "list.append") [acc, x]) (fun _ s₅ => ∃ m, m < n ∧ I m s₅) (fun _ _ => False) s₄) (fun _ _ => False) s₃
            else ∃ m, m < n ∧ I m s₃) (fun _ _ => False) s₂) (fun _ _ => False) s₁') (fun _ _ => False) s₁) (fun _ _ => False) s)
    (n : Nat) (h : I n s) :
    codeAny (model prog w) A (.compLoop (.ListComp elt [⟨target, iter, ifs, 0⟩] scope pos) 0 it acc env) R s := by
  refine codeAny_loop rfl I (fun n s hI => ?_) n h
  show wpAny _ A ((compTurn (.ListComp elt [⟨target, iter, ifs, 0⟩] scope pos) 0 it acc env).onRaise (fun x => do noteFrame x env; theTreesLotGoes x)) _ _ s
  refine wpAny_noted ?_
  rw [compTurn_list]
  refine wpAny_bind (wpAny_standAt (wpAny_bind (wpAny_mono (turn n s hI) (fun r s₁ h₁ => ?_) fun _ _ h' => False.elim h')))
  cases r with
  | none => exact wpAny_pure h₁
  | some v =>
    refine wpAny_bind (wpAny_mono h₁ (fun _ s₁' h₁' => ?_) fun _ _ h' => False.elim h')
    refine wpAny_bind (wpAny_mono h₁' (fun _ s₂ h₂ => wpAny_bind (wpAny_mono h₂ (fun ok s₃ h₃ => ?_) fun _ _ h' => False.elim h')) fun _ _ h' => False.elim h')
    cases ok with
    | false => exact wpAny_pure ⟨rfl, h₃⟩
    | true =>
      exact wpAny_bind (wpAny_bind (wpAny_mono h₃ (fun x s₄ h₄ => wpAny_bind (wpAny_mono h₄ (fun _ s₅ h₅ => wpAny_pure (wpAny_pure ⟨rfl, h₅⟩)) fun _ _ h' => False.elim h')) fun _ _ h' => False.elim h'))
end

section
variable {X : Cx} {pins : List (Addr × Obj)} {σ : St} {H : Hp} {s : Shared}
/-- an untracked record of no one's changes -/
theorem HOk.but {P : Program} {w : World} {h h' : Heap} {C : Addr} (x : HOk P w H h) (hn : H C = none) (hs : Heap.SameBut C h h') : HOk P w H h' := fun b ob e => by
  refine (x b ob e).stay (fun c w' hc q => (hs.2 c ?_).trans q) (fun _ q => q) fun _ _ q => q
  rintro rfl
  rcases hc with rfl | hc
  · rw [hn] at e; cases e
  · rw [hn] at hc; cases hc
theorem Un.but {fs ex : List Addr} {H' : Hp} {h h1 h2 : Heap} {C : Addr} (u : Un fs ex H H' h h1) (hC : h.get? C = none) (hs : Heap.SameBut C h1 h2) : Un fs ex H H' h h2 := by
  have ne : ∀ b o, h.get? b = some o → b ≠ C := fun b o e z => by rw [z, hC] at e; cases e
  exact ⟨fun b o e n h1 h2 => (hs.2 b (ne b o e)).trans (u.keep b o e n h1 h2), fun b o e n h1 h2 => by
      obtain ⟨sl, q⟩ := u.slot b o e n h1 h2
      exact ⟨sl, (hs.2 b (ne b o e)).trans q⟩, u.free, fun b o e h2 => by
      obtain ⟨o', q⟩ := u.there b o e h2
      exact ⟨o', (hs.2 b (ne b o e)).trans q⟩, u.tups, u.frzs, u.tbls⟩

theorem subS_get {idx : List Nat} {j : Nat} {v : V} (h : (subS σ idx)[j]? = some (some v)) : ∃ i, idx[j]? = some i ∧ σ[i]? = some (some v) := by
  unfold subS at h
  rw [List.getElem?_map] at h
  cases e : idx[j]? with
  | none => rw [e] at h; cases h
  | some i =>
    rw [e] at h
    refine ⟨i, rfl, ?_⟩
    have h' : (σ[i]?).join = some v := Option.some.inj h
    cases q : σ[i]? with
    | none => rw [q] at h'; cases h'
    | some o => rw [q] at h'; cases o with
      | none => cases h'
      | some z => cases h'; rfl
theorem subN_get {N : List Str} {idx : List Nat} {j i : Nat} {y : Str} (h : idx[j]? = some i) (e : N[i]? = some y) : (subN N idx)[j]? = some y := by
  unfold subN
  rw [List.getElem?_map, h]
  show some (N.getD i "") = some y
  rw [List.getD_eq_getElem?_getD, e]; rfl

/-- the block begins -/
theorem Inv.block {scope : Scope} {xs : List Str} {idx : List Nat} {fp : List Addr} {C : Addr} {h' : Heap} {t' : Nat} {H1 : Hp} {D : Addr} {m0 : Str → Option Value} (I : Inv X pins σ H s) (S : CScope X scope xs idx)
    (hfp : ∀ b ∈ fp, FpOk X pins H b) (hfo : ∀ b ∈ fp, ∃ o, s.heap.get? b = some o) (hC : s.heap.objs.size ≤ C) (hDC : D ≠ C) (hD : s.heap.objs.size ≤ D) (hn : h'.Ns C m0) (hk : ∀ b o, s.heap.get? b = some o → h'.get? b = some o)
    (hl : ∃ n, h'.get? D = some { cls := .type "list", data := .seq #[] n }) :
    Inv (cxC X scope (xs ++ subN X.N idx) ⟨C, closL X.env scope.names [], s, H, fp⟩) [] (List.replicate xs.length none ++ subS σ idx) (upd H D (.lst [])) { s with heap := h', toks := t' } := by
  have hfree : ∀ y ∈ scope.names, y.2 = .free → ∃ c, X.env.cells.lookup y.1 = some c := fun y hy e => I.ok.has y.1 (S.free y hy e).2
  have hall := closL_mem (env := X.env) scope.names [] hfree (fun p hp => (nomatch hp))
  have hcell : ∀ y c, (closL X.env scope.names []).lookup y = some c → X.env.cells.lookup y = some c := fun y c e => hall (y, c) (PySem.mem_of_lookup e)
  have hhas : ∀ y, scope.names.lookup y = some .free → (closL X.env scope.names []).lookup y = X.env.cells.lookup y := fun y e => lookup_of_all (f := fun n => X.env.cells.lookup n) hall (closL_has scope.names [] (PySem.mem_of_lookup e))
  have lt : ∀ b, (∃ o, s.heap.get? b = some o) → b < s.heap.objs.size := fun b ⟨o, e⟩ => Heap.lt_size e
  have hDn : H D = none := I.hok.fresh hD
  refine ⟨⟨I.ok.mod, S.kind, I.ok.glob, I.ok.blt, hC, fun x y c h1 h2 => I.ok.inj x y c (hcell x c h1) (hcell y c h2), fun y hy => ?_, fun _ _ e => (nomatch e), I.ok.hd, I.ok.frames, .inl rfl, fun b hb => ⟨?_, fun x c e => (hfp b hb).2.2.2.2.1 x c (hcell x c e)⟩, I.bs, Nat.le_trans I.ok.bsz I.sz, fun b o e hb => ?_, fun b hb z => ?_, I.stack, I.stkFree⟩,
    rfl, I.bare, ?_, ⟨m0, hn, fun i y v e1 e2 hv => ?_⟩, fun x c e => ?_, ?_, fun x c e => ?_, fun p hp => (nomatch hp), ?_, ?_⟩
  · -- has
    have q : scope.names.lookup y = some .free := relabel_free S.nocell hy
    have q2 := PySem.mem_of_lookup q
    obtain ⟨c, e⟩ := hfree _ q2 rfl
    exact ⟨c, (hhas y q).trans e⟩
  · -- exf
    exact Nat.ne_of_lt (Nat.lt_of_lt_of_le (lt b (hfo b hb)) hC)
  · -- noex
    rcases (hfp b hb).2.2.2.1 with z | z
    · exact I.ok.noex b o e z
    · exact absurd (Nat.lt_of_lt_of_le (Heap.lt_size e) (Nat.le_trans I.ok.bsz z)) (Nat.lt_irrefl _)
  · -- exfs
    rcases List.mem_cons.mp (I.stkSub b z) with q | q
    · exact (hfp b hb).2.1 q
    · exact (hfp b hb).2.2.1 q
  · -- base
    exact Un.laid hk hD hDn
  · -- loc
    by_cases hi : i < xs.length
    · rw [List.getElem?_append_left (by simpa using hi)] at e2
      rw [List.getElem?_replicate] at e2
      split at e2 <;> cases e2
    · have hi' : xs.length ≤ i := Nat.le_of_not_lt hi
      rw [List.getElem?_append_right (by simpa using hi'), List.length_replicate] at e2
      obtain ⟨i0, ei, es⟩ := subS_get e2
      obtain ⟨y', ey, ef⟩ := S.ix i0 (List.mem_of_getElem? ei)
      have e1' : (xs ++ subN X.N idx)[i]? = some y := e1
      rw [List.getElem?_append_right hi', subN_get ei ey] at e1'
      cases e1'
      obtain ⟨m, hm, hl'⟩ := I.loc
      have ef2 := S.free (y, .free) (PySem.mem_of_lookup ef) rfl
      have vis : Vis X.env.scope y := .inr ef2.2
      obtain ⟨u, ru, lk⟩ := hl' i0 y v ey es vis
      refine ⟨u, ru, ?_⟩
      rcases lk with ⟨k1, _⟩ | ⟨_, c, ec, hc⟩
      · rcases ef2.2 with z | z
        · have z' : X.env.kindOf y = some .cell := z
          rw [k1] at z'; cases z'
        · have z' : X.env.kindOf y = some .free := z
          rw [k1] at z'; cases z'
      · refine .inr ⟨?_, c, (hhas y ef).trans ec, hc.keeps hk⟩
        rcases hv with z | z | z
        · exfalso
          have z' : (relabel scope X.env).names.lookup y = some .local := z
          -- a free name is not local in the block
          have : ∀ (names : List (Str × NameKind)), names.lookup y = some .free → (names.map fun (n, k) => if (k == NameKind.free && X.env.scope.kind == .function && X.env.kindOf n == some .cell) then (n, NameKind.cell) else (n, k)).lookup y ≠ some .local := by
            intro names
            induction names with
            | nil => intro h; cases h
            | cons p r ih =>
              obtain ⟨n, k⟩ := p
              intro h
              rw [List.map_cons]
              by_cases e : y = n
              · subst e
                rw [List.lookup_cons, beq_self_eq_true] at h
                cases h
                dsimp only
                split
                · rw [List.lookup_cons, beq_self_eq_true]; exact fun q => nomatch q
                · rw [List.lookup_cons, beq_self_eq_true]; exact fun q => nomatch q
              · have hn : (y == n) = false := by simpa using e
                rw [List.lookup_cons, hn] at h
                dsimp only
                split
                · rw [List.lookup_cons, hn]; exact ih h
                · rw [List.lookup_cons, hn]; exact ih h
          exact this scope.names ef z'
        · exact .inl z
        · exact .inr z
  · -- cell
    obtain ⟨v, q⟩ := I.cell x c (hcell x c e)
    exact ⟨v, q.keeps hk⟩
  · -- free
    show upd H D (.lst []) C = none
    rw [upd_ne (Ne.symm hDC)]
    exact I.hok.fresh hC
  · -- freeC
    have e' := hcell x c e
    obtain ⟨v, q⟩ := I.cell x c e'
    rw [upd_ne (Nat.ne_of_lt (Nat.lt_of_lt_of_le q.lt hD))]
    exact I.freeC x c e'
  · -- hok
    obtain ⟨n, e⟩ := hl
    exact I.hok.laid hk hD ⟨Nat.zero_le _, [], n, .nil, e⟩
  · show (List.replicate xs.length none ++ subS σ idx).length = (xs ++ subN X.N idx).length
    rw [List.length_append, List.length_append, List.length_replicate]
    unfold subS subN
    rw [List.length_map, List.length_map]
end

section
variable {X : Cx} {elt target iter : Expr} {ifs : List Expr} {scope : Scope} {pos : Pos} {xs : List Str} {idx : List Nat} {wi : TI} {g : CB → TG} {tt : CB → TT} {te : CB → TE}
/-- the block, up to where its list stands -/
theorem comp_run {pins : List (Addr × Obj)} {σ : St} {H2 : Hp} {s2 : Shared} {fp : List Addr} {it : Addr} {tn : Nat → Heap → Prop} {J : It} {Q : V → Hp → Prop} {RR : Value → Addr → Result → Shared → Prop} {E : Value → Shared → Prop} (hc : X.calm = true) (S : CScope X scope xs idx)
    (hg : ∀ c, PG (cxC X scope (xs ++ subN X.N idx) c) target (g c)) (ht : ∀ c, PIfs (cxC X scope (xs ++ subN X.N idx) c) ifs (tt c)) (he : ∀ c, PE (cxC X scope (xs ++ subN X.N idx) c) elt (te c))
    (I2 : Inv X pins σ H2 s2) (T : Turn X.prog X.w X.K target J fp it tn) (st2 : tn 0 s2.heap) (f2 : ∀ b ∈ fp, FpOk X pins H2 b)
    (h : ∀ D, H2 D = none → ∃ W : Nat → Nat → List V → Hp → Prop, (∃ m, W 0 m [] (upd H2 D (.lst []))) ∧
      ∀ i m ys H', W i m ys H' → (J.stop i H' ∧ Q (.ref D) H') ∨ (J.go i H' ∧ ∃ N : List V → Hp → Prop, (∀ ys' H'', N ys' H'' → ∃ m', m' < m ∧ W (i + 1) m' ys' H'') ∧ ∀ (c : CB) (own : St), own.length = xs.length → ∀ x H2, J.yld i H' x H2 → g c x (own ++ subS σ idx) H2 fun σ3 H3 =>
        (∃ own', own'.length = xs.length ∧ σ3 = own' ++ subS σ idx) ∧ tt c σ3 H3 fun b H4 => if b = true then te c σ3 H4 fun y H5 => H5 D = some (.lst ys) ∧ ys.length < sizeLine ∧ N (ys ++ [y]) (upd H5 D (.lst (ys ++ [y]))) else N ys H4))
    (hRR : ∀ D C σ' H' s', s2.heap.objs.size ≤ C → Inv (cxC X scope (xs ++ subN X.N idx) ⟨C, closL X.env scope.names [], s2, H2, fp⟩) [] σ' H' s' → Q (.ref D) H' → RR (.ref D) C (.ok .next) s') :
    wpAny (model X.prog X.w) X.A (newList []) (fun acc s₃ => wpAny (model X.prog X.w) X.A (newFunctionEnv scope X.env.globals (closL X.env scope.names []) [] X.env.qual none .none (some X.env)) (fun cenv s₄ =>
      codeAny (model X.prog X.w) X.A (.compStart (.ListComp elt [⟨target, iter, ifs, 0⟩] scope pos) 0 (.ref it) acc { cenv with scope := relabel scope X.env }) (RR acc cenv.locals) s₄) E s₃) E s2 := by
  refine wpAny_newObj_type (wpAny_newFunctionEnv S.nocell (by intro y hy; simp at hy) (fun h₁ hns₁ hsb₁ => ?_) S.kind)
  dsimp only at hns₁ hsb₁ ⊢
  generalize hH2 : s2.heap.push { cls := .type "list", dict := none, data := .seq ([] : List Value).toArray } = HH at hns₁ hsb₁ ⊢
  have hCs : HH.objs.size = s2.heap.objs.size + 1 := by rw [← hH2, Heap.size_push]
  have hDC : s2.heap.objs.size ≠ HH.objs.size := by rw [hCs]; exact Nat.ne_of_lt (Nat.lt_succ_self _)
  have hCle : s2.heap.objs.size ≤ HH.objs.size := by rw [hCs]; exact Nat.le_succ _
  have old : ∀ b o, s2.heap.get? b = some o → h₁.get? b = some o := fun b o e => hsb₁.extBut b o (by rw [hCs]; exact Nat.ne_of_lt (Nat.lt_succ_of_lt (Heap.lt_size e))) (Heap.get?_push_of_some _ (hH2 ▸ Heap.get?_push_of_some _ e))
  have hacc : ∃ n, h₁.get? s2.heap.objs.size = some { cls := .type "list", data := .seq #[] n } := ⟨_, hsb₁.extBut _ _ hDC (Heap.get?_push_of_some _ (hH2 ▸ Heap.get?_push_size _ rfl))⟩
  have st1 : tn 0 h₁ := T.keep _ _ _ st2 fun b _ o e => old b o e
  obtain ⟨W, ⟨m0, w0⟩, turn⟩ := h s2.heap.objs.size I2.fresh
  have loop : ∀ s₃ : Shared, s₃ = { s2 with heap := h₁, toks := s2.toks + ([] : List (Str × Value)).length } →
      codeAny (model X.prog X.w) X.A (.compLoop (.ListComp elt [⟨target, iter, ifs, 0⟩] scope pos) 0 (.ref it) (.ref s2.heap.objs.size) (compEnvC scope (closL X.env scope.names []) HH.objs.size X.env)) (RR (.ref s2.heap.objs.size) HH.objs.size) s₃ := by
    rintro s₃ rfl
    have I3 := I2.block (t' := s2.toks + ([] : List (Str × Value)).length) (H1 := H2) S f2 (fun b hb => let ⟨o, e, _⟩ := T.obj _ _ st2 b hb; ⟨o, e⟩) hCle hDC (Nat.le_refl _) hns₁ old hacc
    generalize hY : cxC X scope (xs ++ subN X.N idx) ⟨HH.objs.size, closL X.env scope.names [], s2, H2, fp⟩ = Y at I3
    have eY : Y = cxC X scope (xs ++ subN X.N idx) ⟨HH.objs.size, closL X.env scope.names [], s2, H2, fp⟩ := hY.symm
    have nof : ∀ b ∈ fp, b ∉ Y.fs := fun b hb z => by
      rw [eY] at z
      rcases List.mem_cons.mp (I2.stkSub b z) with q | q
      · exact (f2 b hb).2.1 q
      · exact (f2 b hb).2.2.1 q
    have stat : ∀ {H' : Hp}, (∀ b ∈ fp, H' b = none) → ∀ b ∈ fp, FpOk Y [] H' b := fun {H'} hn b hb => by
      have lt : b < s2.heap.objs.size := let ⟨o, e, _⟩ := T.obj _ _ st2 b hb; Heap.lt_size e
      refine ⟨hn b hb, ?_, nof b hb, .inl (by rw [eY]; exact hb), fun x c e => ?_, fun p hp => ?_⟩
      · rw [eY]; exact Nat.ne_of_lt (Nat.lt_of_lt_of_le lt hCle)
      · rw [eY] at e
        have hall := closL_mem (env := X.env) scope.names [] (fun y hy e => I2.ok.has y.1 (S.free y hy e).2) (fun p hp => nomatch hp)
        exact (f2 b hb).2.2.2.2.1 x c (hall (x, c) (PySem.mem_of_lookup e))
      · rw [eY] at hp; exact nomatch hp
    have T' : Turn Y.prog Y.w Y.K target J fp it tn := by rw [eY]; exact T
    have hg' : PG Y target (g ⟨HH.objs.size, closL X.env scope.names [], s2, H2, fp⟩) := by rw [eY]; exact hg _
    have ht' : PIfs Y ifs (tt ⟨HH.objs.size, closL X.env scope.names [], s2, H2, fp⟩) := by rw [eY]; exact ht _
    have he' : PE Y elt (te ⟨HH.objs.size, closL X.env scope.names [], s2, H2, fp⟩) := by rw [eY]; exact he _
    have hcY : Y.calm = true := by rw [eY]; exact hc
    have eA : Y.A = X.A := by rw [eY]
    have eP : Y.prog = X.prog := by rw [eY]
    have eW : Y.w = X.w := by rw [eY]
    have eE : Y.env = compEnvC scope (closL X.env scope.names []) HH.objs.size X.env := by rw [eY]
    have eX : Y.xe = fun _ _ => False := by rw [eY]
    have fin : ∀ σ' H' s', Inv Y [] σ' H' s' → Q (.ref s2.heap.objs.size) H' → RR (.ref s2.heap.objs.size) HH.objs.size (.ok .next) s' := fun σ' H' s' I' q => hRR _ _ σ' H' s' hCle (by rw [← eY]; exact I') q
    rw [← eE, ← eA, ← eP, ← eW]
    have fr0 : ∀ b ∈ fp, (upd H2 s2.heap.objs.size (.lst [])) b = none := fun b hb => by
      have lt : b < s2.heap.objs.size := let ⟨o, e, _⟩ := T.obj _ _ st2 b hb; Heap.lt_size e
      rw [upd_ne (Nat.ne_of_lt lt)]; exact (f2 b hb).1
    refine codeAny_compLoop_any (fun n s' => ∃ i ys own H', own.length = xs.length ∧ Inv Y [] (own ++ subS σ idx) H' s' ∧ tn i s'.heap ∧ (∀ b ∈ fp, H' b = none) ∧ W i n ys H') ?_ m0
      ⟨0, [], _, _, List.length_replicate, I3, st1, fr0, w0⟩
    rintro n s4 ⟨i, ys, own, H4, hown, I4, st4, fr4, w4⟩
    rcases turn i n ys H4 w4 with ⟨stop, qn⟩ | ⟨go, NN, hNN, step⟩
    · exact thn (T'.done Y rfl rfl rfl hcY i [] s4 _ H4 _ I4 (stat fr4) st4 stop) fun r s5 ⟨hr, I5⟩ => by subst hr; exact fin _ _ _ I5 qn
    · refine thn (T'.item Y rfl rfl rfl hcY i [] s4 _ H4 _ I4 (stat fr4) st4 go) fun r s5 ⟨u, hr, h5⟩ => ?_
      subst hr
      refine thn h5 fun _ s6 ⟨x, H6, I6, r6, y6, st6, fr6⟩ => ?_
      have I6' := I6.pinned (stat fr6) (T'.obj _ _ st6)
      have step' := step ⟨HH.objs.size, closL X.env scope.names [], s2, H2, fp⟩ own hown x H6 y6
      refine wpAny_mono (hg' _ s6 _ H6 x u _ I6' r6 step') (fun _ s7 ⟨σ7, H7, I7, q7⟩ => ?_) (fun _ _ z => by rw [eX] at z; exact z)
      obtain ⟨⟨own7, ho7, e7⟩, q7⟩ := q7
      refine wpAny_mono (ht' _ s7 σ7 H7 _ I7 q7) (fun b s8 ⟨H8, I8, q8⟩ => ?_) (fun _ _ z => by rw [eX] at z; exact z)
      have again : ∀ {H9 : Hp} {s9 : Shared} {ys' : List V}, Inv Y ([] ++ pinsAt fp s6.heap) σ7 H9 s9 → NN ys' H9 → ∃ m, m < n ∧ ∃ i ys own H', own.length = xs.length ∧ Inv Y [] (own ++ subS σ idx) H' s9 ∧ tn i s9.heap ∧ (∀ b ∈ fp, H' b = none) ∧ W i m ys H' := fun {H9 s9 ys'} I9 n9 => by
        obtain ⟨m', hm, w9⟩ := hNN _ _ n9
        rw [e7] at I9
        refine ⟨m', hm, i + 1, ys', own7, H9, ho7, I9.unpinned, T'.keep _ _ _ st6 fun b hb o e => (I9.pin (b, o) (List.mem_append_right _ (List.mem_append_right _ (mem_pinsAt hb e)))).1, fun b hb => ?_, w9⟩
        obtain ⟨o, e, d⟩ := T'.obj _ _ st6 b hb
        exact (I9.pin (b, o) (List.mem_append_right _ (List.mem_append_right _ (mem_pinsAt hb e)))).2.1
      cases b with
      | false => exact again I8 q8
      | true =>
        refine wpAny_mono (he' _ s8 σ7 H8 _ I8 q8) (fun u9 s9 ⟨y, H9, I9, r9, hy, hz, q9⟩ => ?_) (fun _ _ z => by rw [eX] at z; exact z)
        have ap := mt_append (X := Y) _ s9 σ7 H9 (.ref s2.heap.objs.size) [y] (.ref s2.heap.objs.size) [u9] (fun _ H10 => NN (ys ++ [y]) H10) I9 rfl (.cons r9 .nil) ⟨_, ys, y, rfl, rfl, hy, hz, q9⟩
        refine wpAny_mono ap (fun _ s10 ⟨_, H10, I10, _, q10⟩ => again I10 q10) (fun _ _ z => by rw [eX] at z; exact z)
  exact codeAny_compStart_list (loop _ rfl) (T.self _ 0 _ _ _ st1 (loop _ rfl))

/-- a list comprehension -/
theorem pe_comp (hc : X.calm = true) (S : CScope X scope xs idx) (hi : PI X target iter wi)
    (hg : ∀ c, PG (cxC X scope (xs ++ subN X.N idx) c) target (g c)) (ht : ∀ c, PIfs (cxC X scope (xs ++ subN X.N idx) c) ifs (tt c)) (he : ∀ c, PE (cxC X scope (xs ++ subN X.N idx) c) elt (te c))
    (hs : ∀ x, foldedSetIterable iter X.env x = pure x := by intro _; rfl) : PE X (.ListComp elt [⟨target, iter, ifs, 0⟩] scope pos) (tComp wi xs.length idx g tt te) := by
  intro pins s σ H Q I h
  rw [eval_ListComp]
  have hclos : closureFor scope X.env = pure (closL X.env scope.names []) := closureFor_closL fun y hy e => I.ok.has y.1 (S.free y hy e).2
  refine wpAny_comprehension_free (use := none) rfl hs hclos S.kind S.loc (thn (hi pins s σ H _ I h) fun xv s₁ h₁ => thn h₁ fun itv s₂ h₂ => ?_)
  obtain ⟨it, fp, tn, J, H2, e, I2, T, st2, f2, hW⟩ := h₂
  subst e
  refine comp_run (Q := Q) (RR := fun acc C => compPost (model X.prog X.w) X.A X.xe none (EP X pins σ Q) acc C) hc S hg ht he I2 T st2 f2 hW ?_
  intro D C σ' H' s' hC I' q
  obtain ⟨m', hn, _⟩ := I'.loc
  refine ⟨m', hn, fun h'' hs'' => ?_⟩
  obtain ⟨hh, gg, d, t, os⟩ := s'
  obtain rfl : os = s₂.os := I'.os
  have Cn : s₂.heap.get? C = none := Heap.get?_none_of_le hC
  refine ⟨.ref D, H', I2.call (s := s₂) (h' := h'') (g' := gg) (d' := d) (t' := t) (ch := fp) (I'.base.but Cn hs'') (I'.hok.but I'.free hs'') I'.bare (fun b hb => ?_), rfl, q⟩
  obtain ⟨_, f1, _, f3, f4, f5⟩ := f2 b hb
  exact ⟨f3, f1, f4, f5⟩
end
/-! ### the forms one uses -/
theorem comp_range {lo : Int} {n k : Nat} {idx : List Nat} {g : CB → TG} {tt : CB → TT} {te : CB → TE} {σ : St} {Q : VK} {H1 : Hp} {D : Addr} (Pv : Nat → List V → Hp → Prop) (h0 : Pv 0 [] (upd H1 D (.lst [])))
    (hs : ∀ i ys H, i < n → Pv i ys H → ∀ (c : CB) (own : St), own.length = k → g c (.int (lo + i)) (own ++ subS σ idx) H fun σ3 H3 =>
      (∃ own', own'.length = k ∧ σ3 = own' ++ subS σ idx) ∧ tt c σ3 H3 fun b H4 => if b = true then te c σ3 H4 fun y H5 => H5 D = some (.lst ys) ∧ ys.length < sizeLine ∧ Pv (i + 1) (ys ++ [y]) (upd H5 D (.lst (ys ++ [y]))) else Pv (i + 1) ys H4)
    (hd : ∀ ys H, Pv n ys H → Q (.ref D) H) :
    ∃ W : Nat → Nat → List V → Hp → Prop, (∃ m, W 0 m [] (upd H1 D (.lst []))) ∧
      ∀ i m ys H', W i m ys H' → ((Itr lo n).stop i H' ∧ Q (.ref D) H') ∨ ((Itr lo n).go i H' ∧ ∃ N : List V → Hp → Prop, (∀ ys' H'', N ys' H'' → ∃ m', m' < m ∧ W (i + 1) m' ys' H'') ∧ ∀ (c : CB) (own : St), own.length = k → ∀ x H2, (Itr lo n).yld i H' x H2 → g c x (own ++ subS σ idx) H2 fun σ3 H3 =>
        (∃ own', own'.length = k ∧ σ3 = own' ++ subS σ idx) ∧ tt c σ3 H3 fun b H4 => if b = true then te c σ3 H4 fun y H5 => H5 D = some (.lst ys) ∧ ys.length < sizeLine ∧ N (ys ++ [y]) (upd H5 D (.lst (ys ++ [y]))) else N ys H4) := by
  refine ⟨fun i m ys H => m = n - i ∧ i ≤ n ∧ Pv i ys H, ⟨n, by simp, Nat.zero_le _, h0⟩, ?_⟩
  rintro i m ys H ⟨rfl, hi, p⟩
  by_cases hlt : i < n
  · refine .inr ⟨hlt, Pv (i + 1), fun ys' H' p' => ⟨n - (i + 1), by omega, rfl, hlt, p'⟩, fun c own ho x H' y => ?_⟩
    obtain ⟨e, y⟩ := y
    subst e y
    exact hs i ys _ hlt p c own ho
  · have e : i = n := by omega
    subst e
    exact .inl ⟨Nat.le_refl _, hd ys H p⟩
theorem comp_list {K : PySem.W.Frag} {a : Addr} {zs : List V} {k : Nat} {idx : List Nat} {g : CB → TG} {tt : CB → TT} {te : CB → TE} {σ : St} {Q : VK} {H1 : Hp} {D : Addr} (Pv : Nat → List V → Hp → Prop) (h0 : Pv 0 [] (upd H1 D (.lst [])))
    (hl : ∀ i ys H, i ≤ zs.length → Pv i ys H → SqL K H a zs)
    (hs : ∀ i x ys H, zs[i]? = some x → Pv i ys H → ∀ (c : CB) (own : St), own.length = k → g c x (own ++ subS σ idx) H fun σ3 H3 =>
      (∃ own', own'.length = k ∧ σ3 = own' ++ subS σ idx) ∧ tt c σ3 H3 fun b H4 => if b = true then te c σ3 H4 fun y H5 => H5 D = some (.lst ys) ∧ ys.length < sizeLine ∧ Pv (i + 1) (ys ++ [y]) (upd H5 D (.lst (ys ++ [y]))) else Pv (i + 1) ys H4)
    (hd : ∀ ys H, Pv zs.length ys H → Q (.ref D) H) :
    ∃ W : Nat → Nat → List V → Hp → Prop, (∃ m, W 0 m [] (upd H1 D (.lst []))) ∧
      ∀ i m ys H', W i m ys H' → ((Itl K a).stop i H' ∧ Q (.ref D) H') ∨ ((Itl K a).go i H' ∧ ∃ N : List V → Hp → Prop, (∀ ys' H'', N ys' H'' → ∃ m', m' < m ∧ W (i + 1) m' ys' H'') ∧ ∀ (c : CB) (own : St), own.length = k → ∀ x H2, (Itl K a).yld i H' x H2 → g c x (own ++ subS σ idx) H2 fun σ3 H3 =>
        (∃ own', own'.length = k ∧ σ3 = own' ++ subS σ idx) ∧ tt c σ3 H3 fun b H4 => if b = true then te c σ3 H4 fun y H5 => H5 D = some (.lst ys) ∧ ys.length < sizeLine ∧ N (ys ++ [y]) (upd H5 D (.lst (ys ++ [y]))) else N ys H4) := by
  refine ⟨fun i m ys H => m = zs.length - i ∧ i ≤ zs.length ∧ Pv i ys H, ⟨zs.length, by simp, Nat.zero_le _, h0⟩, ?_⟩
  rintro i m ys H ⟨rfl, hi, p⟩
  have q := hl i ys H hi p
  by_cases hlt : i < zs.length
  · refine .inr ⟨⟨zs, zs[i], q, by simp [hlt]⟩, Pv (i + 1), fun ys' H' p' => ⟨zs.length - (i + 1), by omega, rfl, hlt, p'⟩, fun c own ho x H' y => ?_⟩
    obtain ⟨e, y⟩ := y
    subst e
    exact hs i x ys _ (y zs q) p c own ho
  · have e : i = zs.length := by omega
    subst e
    exact .inl ⟨⟨zs, q, Nat.le_refl _⟩, hd ys H p⟩
theorem own1 {own : St} {k : St} {x : V} (h : own.length = 1) : (own ++ k).set 0 (some x) = [some x] ++ k := by
  match own, h with
  | [_], _ => rfl
theorem comp_range1 {lo : Int} {n : Nat} {idx : List Nat} {tt : CB → TT} {te : CB → TE} {σ : St} {Q : VK} {H1 : Hp} {D : Addr} (Pv : Nat → List V → Hp → Prop) (h0 : Pv 0 [] (upd H1 D (.lst [])))
    (hs : ∀ i ys H, i < n → Pv i ys H → ∀ (c : CB), tt c (some (.int (lo + i)) :: subS σ idx) H fun b H4 => if b = true then te c (some (.int (lo + i)) :: subS σ idx) H4 fun y H5 => H5 D = some (.lst ys) ∧ ys.length < sizeLine ∧ Pv (i + 1) (ys ++ [y]) (upd H5 D (.lst (ys ++ [y]))) else Pv (i + 1) ys H4)
    (hd : ∀ ys H, Pv n ys H → Q (.ref D) H) :
    ∃ W : Nat → Nat → List V → Hp → Prop, (∃ m, W 0 m [] (upd H1 D (.lst []))) ∧
      ∀ i m ys H', W i m ys H' → ((Itr lo n).stop i H' ∧ Q (.ref D) H') ∨ ((Itr lo n).go i H' ∧ ∃ N : List V → Hp → Prop, (∀ ys' H'', N ys' H'' → ∃ m', m' < m ∧ W (i + 1) m' ys' H'') ∧ ∀ (c : CB) (own : St), own.length = 1 → ∀ x H2, (Itr lo n).yld i H' x H2 → gName 0 x (own ++ subS σ idx) H2 fun σ3 H3 =>
        (∃ own', own'.length = 1 ∧ σ3 = own' ++ subS σ idx) ∧ tt c σ3 H3 fun b H4 => if b = true then te c σ3 H4 fun y H5 => H5 D = some (.lst ys) ∧ ys.length < sizeLine ∧ N (ys ++ [y]) (upd H5 D (.lst (ys ++ [y]))) else N ys H4) :=
  comp_range (g := fun _ => gName 0) Pv h0 (fun i ys H hi p c own ho => by
    show (∃ own', own'.length = 1 ∧ (own ++ subS σ idx).set 0 _ = own' ++ subS σ idx) ∧ tt c ((own ++ subS σ idx).set 0 _) H _
    rw [own1 ho]
    exact ⟨⟨[_], rfl, rfl⟩, hs i ys H hi p c⟩) hd
theorem comp_list1 {K : PySem.W.Frag} {a : Addr} {zs : List V} {idx : List Nat} {tt : CB → TT} {te : CB → TE} {σ : St} {Q : VK} {H1 : Hp} {D : Addr} (Pv : Nat → List V → Hp → Prop) (h0 : Pv 0 [] (upd H1 D (.lst [])))
    (hl : ∀ i ys H, i ≤ zs.length → Pv i ys H → SqL K H a zs)
    (hs : ∀ i x ys H, zs[i]? = some x → Pv i ys H → ∀ (c : CB), tt c (some x :: subS σ idx) H fun b H4 => if b = true then te c (some x :: subS σ idx) H4 fun y H5 => H5 D = some (.lst ys) ∧ ys.length < sizeLine ∧ Pv (i + 1) (ys ++ [y]) (upd H5 D (.lst (ys ++ [y]))) else Pv (i + 1) ys H4)
    (hd : ∀ ys H, Pv zs.length ys H → Q (.ref D) H) :
    ∃ W : Nat → Nat → List V → Hp → Prop, (∃ m, W 0 m [] (upd H1 D (.lst []))) ∧
      ∀ i m ys H', W i m ys H' → ((Itl K a).stop i H' ∧ Q (.ref D) H') ∨ ((Itl K a).go i H' ∧ ∃ N : List V → Hp → Prop, (∀ ys' H'', N ys' H'' → ∃ m', m' < m ∧ W (i + 1) m' ys' H'') ∧ ∀ (c : CB) (own : St), own.length = 1 → ∀ x H2, (Itl K a).yld i H' x H2 → gName 0 x (own ++ subS σ idx) H2 fun σ3 H3 =>
        (∃ own', own'.length = 1 ∧ σ3 = own' ++ subS σ idx) ∧ tt c σ3 H3 fun b H4 => if b = true then te c σ3 H4 fun y H5 => H5 D = some (.lst ys) ∧ ys.length < sizeLine ∧ N (ys ++ [y]) (upd H5 D (.lst (ys ++ [y]))) else N ys H4) :=
  comp_list (g := fun _ => gName 0) Pv h0 hl (fun i x ys H hi p c own ho => by
    show (∃ own', own'.length = 1 ∧ (own ++ subS σ idx).set 0 _ = own' ++ subS σ idx) ∧ tt c ((own ++ subS σ idx).set 0 _) H _
    rw [own1 ho]
    exact ⟨⟨[_], rfl, rfl⟩, hs i x ys H hi p c⟩) hd
end L2
end

section
set_option Elab.async false
set_option linter.all false
set_option maxRecDepth 100000
set_option maxHeartbeats 4000000
/-! ## texts, sorted, isinstance, ==, list(d), d.clear() over the layer -/
namespace L2
open PySem PySem.Spec PyProof.Rows

/-! ### x[lo:hi] of a text -/
def cutS (z : Str) (lo hi : Option Int) : Str := ⟨((z.cps.toList.drop (HT.sIx z.length 0 lo)).take (HT.sIx z.length z.length hi - HT.sIx z.length 0 lo)).toArray⟩
theorem strIdx_one (lo hi : Option Int) (n : Nat) : Builtin.Str.strSliceIndices lo hi 1 n = sliceRange ((HT.sIx n 0 lo : Nat) : Int) ((HT.sIx n n hi : Nat) : Int) 1 := by
  obtain ⟨h1, h2, h3⟩ := slice_bounds lo hi n
  rw [← h1, ← h2]
  cases lo <;> cases hi <;> simp [Builtin.Str.strSliceIndices, sliceBounds]
theorem str_ext {a b : Str} (h : a.cps.toList = b.cps.toList) : a = b := by
  obtain ⟨x⟩ := a; obtain ⟨y⟩ := b
  have : x = y := Array.toList_inj.mp h
  rw [this]
theorem Txt_slice_cut (x : Str) (lo hi : Option Int) : Txt.slice x lo hi = cutS x lo hi := by
  have hl : x.cps.toList.length = x.length := by simp [Str.length]
  have e : (Builtin.Str.strSliceIndices lo hi 1 x.length).filterMap (x.cps[·]?) = (x.cps.toList.drop (HT.sIx x.length 0 lo)).take (HT.sIx x.length x.length hi - HT.sIx x.length 0 lo) := by
    rw [strIdx_one, sliceRange_one, pick_run]
  have el : (Builtin.Str.strSliceIndices lo hi 1 x.length).length = HT.sIx x.length x.length hi - HT.sIx x.length 0 lo := by
    rw [strIdx_one, sliceRange_one, List.length_map, List.length_range]
  unfold Txt.slice
  rw [e, el]
  have hj : HT.sIx x.length x.length hi ≤ x.length := HT.sIx_le _ _ (Nat.le_refl _) hi
  by_cases h : HT.sIx x.length x.length hi - HT.sIx x.length 0 lo = x.length
  · have hb : ((1 : Int) == 1 && HT.sIx x.length x.length hi - HT.sIx x.length 0 lo == x.length) = true := by rw [h]; simp
    rw [if_pos hb]
    refine str_ext ?_
    unfold cutS
    by_cases hx : x.length = 0
    · have e0 : x.cps.toList = [] := List.eq_nil_of_length_eq_zero (by omega)
      rw [e0]; simp
    · have h0 : HT.sIx x.length 0 lo = 0 := by omega
      rw [h, h0, List.drop_zero, ← hl, List.take_length]
  · have hb : ¬ ((1 : Int) == 1 && HT.sIx x.length x.length hi - HT.sIx x.length 0 lo == x.length) = true := by simpa using h
    rw [if_neg hb]
    rfl
theorem isPart_val {v : Value} {o : Option Int} (h : IsPart v o) : ∃ p : Option (Int × Tok), v = partValue p ∧ p.map (·.1) = o := by
  cases h with
  | none => exact ⟨none, rfl, rfl⟩
  | int i t => exact ⟨some (i, t), rfl, rfl⟩
theorem small1000' {n : Nat} (h : n ≤ 1000) : n ≤ sizeLine := Nat.le_of_lt (Nat.lt_of_le_of_lt h (by decide))
section
variable {X : Cx}
def rSlS : V → Option Int → Option Int → Hp → VK → Prop := fun x lo hi H Q => ∃ z, x = .str z ∧ z.length ≤ sizeLine ∧ Q (.str (cutS z lo hi)) H
theorem sl_str : SlR X rSlS := by
  intro pins s σ H x v vl vu lo hi sl Q I rx hs pl pu h
  obtain ⟨z, rfl, hz, q⟩ := h
  obtain ⟨t, rfl⟩ := rx
  obtain ⟨pl', rfl, el⟩ := isPart_val pl
  obtain ⟨pu', rfl, eu⟩ := isPart_val pu
  refine ⟨"str", _, F.slot_str_getitem.lookup, typeIs_str _ _ _, wpAny_getItem_str_slice (l := pl') (u := pu') (st := none) hs rfl ?_⟩
  unfold sliceMade slicePicked
  rw [el, eu]
  refine post_val_or_str ⟨?_, fun t' k => ?_⟩
  · exact Nat.le_trans (Txt.slice_le z lo hi) hz
  · exact ⟨.str (cutS z lo hi), H, I.tok _, ⟨t', by rw [← Txt_slice_cut]; rfl⟩, q⟩

/-! ### xs[::-1] -/
def tRev (K : PySem.W.Frag) (te ts : TE) : TE := fun σ H Q => te σ H fun x H1 => ts σ H1 fun y H2 => ∃ a xs, x = .ref a ∧ y = .int (-1) ∧ SqL K H2 a xs ∧ ∀ p, H2 p = none → Q (.ref p) (upd H2 p (.lst xs.reverse))
/-! ### sep.join(list of texts) -/
theorem strVals {ss : List Str} : ∀ {us : List Value}, Vals (ss.map V.str) us → ∃ l : List (Str × Tok), us = strValues l ∧ l.map (·.1) = ss := by
  induction ss with
  | nil => intro us r; cases r; exact ⟨[], rfl, rfl⟩
  | cons z ss ih =>
    intro us r
    rw [List.map_cons] at r
    cases r with
    | cons r1 r2 =>
      obtain ⟨t, rfl⟩ := r1
      obtain ⟨l, rfl, e⟩ := ih r2
      exact ⟨(z, t) :: l, rfl, by rw [List.map_cons, e]⟩
def rJoin (K : PySem.W.Frag) : V → List V → Hp → VK → Prop := fun x vs H Q => ∃ sep a ss, x = .str sep ∧ vs = [.ref a] ∧ SqL K H a (ss.map V.str) ∧ JoinOk sep ss = true ∧ Q (.str (Txt.join sep ss)) H
theorem mt_join : MtR X "str.join" (rJoin X.K) := by
  intro pins s σ H x vs v us Q I rx rv h
  obtain ⟨sep, a, ss, rfl, rfl, hq, hok, q⟩ := h
  obtain ⟨t, rfl⟩ := rx
  obtain ⟨u, rfl, ru⟩ := rv.one
  cases ru
  obtain ⟨its, r, pl, hz⟩ := I.list hq
  obtain ⟨l, rfl, e⟩ := strVals r
  exact SC.join pl.isList e hok fun t' k => ⟨.str (Txt.join sep ss), H, I.tok _, ⟨t', rfl⟩, q⟩

/-! ### sorted(list of texts) -/
theorem strsAre_of {ss : List Str} : ∀ {us : List Value}, Vals (ss.map V.str) us → StrsAre us ss := by
  induction ss with
  | nil => intro us r; cases r; exact .nil
  | cons z ss ih =>
    intro us r
    rw [List.map_cons] at r
    cases r with
    | cons r1 r2 => obtain ⟨t, rfl⟩ := r1; exact .cons z t (ih r2)
theorem vals_strs : ∀ {us : List Value} {ss : List Str}, StrsAre us ss → Vals (ss.map V.str) us
  | _, _, .nil => .nil
  | _, _, .cons x t r => .cons ⟨t, rfl⟩ (vals_strs r)
def rSorted (K : PySem.W.Frag) : List V → Hp → VK → Prop := fun vs H Q => ∃ a ss, vs = [.ref a] ∧ SqL K H a (ss.map V.str) ∧ ss.length < 64 ∧
  ∀ ss' : List Str, ss'.Perm ss → sortedS ss' = true → ∀ p, H p = none → Q (.ref p) (upd H p (.lst (ss'.map V.str)))
theorem call_sorted : CallR X (.builtin "sorted") (rSorted X.K) := by
  intro pins s σ H vs us Q I rv h
  obtain ⟨a, ss, rfl, hq, h64, q⟩ := h
  obtain ⟨u, rfl, ru⟩ := vals1 rv
  cases ru
  obtain ⟨its, r, pl, hz⟩ := I.list hq
  have hl := r.length
  rw [List.length_map] at hl
  refine sorted_strs pl.isList (strsAre_of r) (by omega) fun out ss' h1 h2 h3 => ?_
  obtain ⟨c, hc⟩ := sortedAll_at s.heap its out
  have hc' : (sortedAll s.heap its out).get? (s.heap.objs.size + 1) = some { cls := .type "list", data := .seq out.toList.toArray c } := hc
  have hn : H (s.heap.objs.size + 1) = none := I.hok.fresh (Nat.le_succ _)
  refine ⟨.ref (s.heap.objs.size + 1), _, I.laid (t' := s.toks) (o := .lst (ss'.map V.str)) (fun b ob e => sortedAll_old e) (Nat.le_succ _) ?_, rfl, q ss' h2 h3 _ hn⟩
  have hlen : ss'.length = ss.length := h2.length_eq
  exact ⟨by rw [List.length_map, hlen]; exact small1000' (by omega), out.toList, c, vals_strs h1, hc'⟩

/-! ### isinstance(x, T), T a built-in type -/
theorem call_isi (c : Value) : CallR X (.builtin "isinstance") (fun vs H Q => ∃ x t b n, vs = [x, .ty n] ∧ TyOf X.K H x t ∧ PySem.W.kitOne X.K t (.type n) = some b ∧ Q (.bl b) H) := by
  intro pins s σ H vs us Q I rv h
  obtain ⟨x, t, b, n, rfl, ty, e, q⟩ := h
  obtain ⟨u, v, rfl, ru, rv'⟩ := rv.two
  obtain rfl : v = Value.type n := rv'
  exact isinst_ok I ru ty e fun tk => ⟨.bl b, H, I.tok _, rfl, q⟩

/-! ### == and != of lists of flat items -/
def eqVs (xs ys : List V) : Bool := xs.length == ys.length && (List.range xs.length).all fun j => eqV (xs.getD j .non) (ys.getD j .non)
/-! ### list(d), d.clear() -/
def rClearD : V → List V → Hp → VK → Prop := fun x vs H Q => ∃ a kvs, x = .ref a ∧ vs = [] ∧ H a = some (.dK kvs) ∧ Q .non (upd H a (.dK []))
theorem call_dictD : CallR X (.type "dict") (fun vs H Q => ∃ a kvs, vs = [.ref a] ∧ H a = some (.dK kvs) ∧ ∀ p, H p = none → Q (.ref p) (upd H p (.dK kvs))) := by
  intro pins s σ H vs us Q I rv h
  obtain ⟨a, kvs, rfl, hq, q⟩ := h
  obtain ⟨u, rfl, ru⟩ := vals1 rv
  cases ru
  exact d_copyOf I (.inl hq) fun p s' hp I' => ⟨.ref p, _, I', rfl, q p hp⟩
end

/-! ### name = [.. for ..]: the store comes ahead of the block's end -/
section
variable {X : Cx} {elt target iter : Expr} {ifs : List Expr} {scope : Scope} {pos spos py : Pos} {xs : List Str} {idx : List Nat} {wi : TI} {g : CB → TG} {tt : CB → TT} {te : CB → TE}
theorem ps_setC {i : Nat} {y : Str} (hN : X.N.Nodup) (hi0 : X.N[i]? = some y) (hy : X.env.scope.names.lookup y = some .local) (hc : X.calm = true) (S : CScope X scope xs idx) (hi : PI X target iter wi)
    (hg : ∀ c, PG (cxC X scope (xs ++ subN X.N idx) c) target (g c)) (ht : ∀ c, PIfs (cxC X scope (xs ++ subN X.N idx) c) ifs (tt c)) (he : ∀ c, PE (cxC X scope (xs ++ subN X.N idx) c) elt (te c))
    (hsw : swapsWith (.ListComp elt [⟨target, iter, ifs, 0⟩] scope pos) (some (.Name y py)) spos.line X.env = pure true := by rfl)
    (hs : ∀ x, foldedSetIterable iter X.env x = pure x := by intro _; rfl) : PS X (.Assign [.Name y py] (.ListComp elt [⟨target, iter, ifs, 0⟩] scope pos) spos) (tAsg (tComp wi xs.length idx g tt te) (gName i)) := by
  intro pins s σ H D I h
  have hclos : closureFor scope X.env = pure (closL X.env scope.names []) := closureFor_closL fun y hy e => I.ok.has y.1 (S.free y hy e).2
  rw [exec_Assign_Name_used _ _ _ _ hsw]
  refine wpAny_bind (wpAny_standAt (wpAny_bind ?_))
  show wpAny _ X.A (do let _ ← comprehension (.ListComp elt [⟨target, iter, ifs, 0⟩] scope pos) scope X.env _ (newList []) false (eval iter X.env) (some (assign (.Name y py) X.env))) _ _ s
  refine wpAny_bind (wpAny_mono (wpAny_comprehension_free (use := some (assign (.Name y py) X.env)) (Q := fun _ s' => SP X pins D .next s') rfl hs hclos S.kind S.loc
    (thn (hi pins s σ H _ I h) fun xv s₁ h₁ => thn h₁ fun itv s₂ h₂ => ?_)) (fun _ s' hq => wpAny_pure (wpAny_pure hq)) fun _ _ e => e)
  obtain ⟨it, fp, tn, J, H2, e, I2, T, st2, f2, hW⟩ := h₂
  subst e
  refine comp_run (Q := fun v H' => gName i v σ H' D.nx) (RR := fun acc C => compPost (model X.prog X.w) X.A X.xe (some (assign (.Name y py) X.env)) (fun _ s' => SP X pins D .next s') acc C) hc S hg ht he I2 T st2 f2 hW ?_
  intro DD C σ' H' s' hC I' q
  show wpAny _ X.A (assign (.Name y py) X.env (.ref DD)) _ _ _
  obtain ⟨hh, gg, d, t, os⟩ := s'
  obtain rfl : os = s₂.os := I'.os
  have Cn : s₂.heap.get? C = none := Heap.get?_none_of_le hC
  have I3 : Inv X pins σ H' { s₂ with heap := hh, gens := gg, drawn := d, toks := t } := I2.call (s := s₂) (h' := hh) (g' := gg) (d' := d) (t' := t) (ch := fp) (I'.base.but Cn (Heap.SameBut.refl _ _)) I'.hok I'.bare (fun b hb => by
    obtain ⟨_, f1, _, f3, f4, f5⟩ := f2 b hb
    exact ⟨f3, f1, f4, f5⟩)
  obtain ⟨m', hn, _⟩ := I'.loc
  have hLC : X.env.locals ≠ C := Nat.ne_of_lt (Nat.lt_of_lt_of_le I2.lt hC)
  refine wpAny_assign_Name (store_ok2 I3 hN hi0 (.inl hy) (v := .ref DD) rfl (fun s'' I4 ⟨a, hs4, ha⟩ => ?_) (.inr hy))
  have haC : C ≠ a := by
    rcases ha with e | e
    · rw [e]; exact Ne.symm hLC
    · obtain ⟨v, q⟩ := I2.cell y a e
      exact Nat.ne_of_gt (Nat.lt_of_lt_of_le q.lt hC)
  refine ⟨m', hn.sameBut hs4 haC, fun h3 hs3 => ?_⟩
  obtain ⟨hh4, gg4, d4, t4, os4⟩ := s''
  have I5 : Inv X pins (σ.set i (some (.ref DD))) H' { heap := h3, gens := gg4, drawn := d4, toks := t4, os := os4 } :=
    I4.turned (s := { heap := hh4, gens := gg4, drawn := d4, toks := t4, os := os4 }) (h' := h3) (t' := t4) (it := C) (fun b o hb e => (hs3.2 b hb).trans e) I'.free (Ne.symm hLC) (.inr (Nat.le_trans I2.sz hC)) (fun x c e z => by
      obtain ⟨v, q⟩ := I2.cell x c e
      exact absurd (Nat.lt_of_lt_of_le q.lt hC) (by rw [z]; exact Nat.lt_irrefl _)) (fun p hp z => by
      have := (I2.pin p hp).1
      rw [z, Cn] at this; cases this)
  exact ⟨_, H', I5, q⟩
end
end L2
end

section
set_option Elab.async false
set_option linter.all false
set_option maxRecDepth 100000
set_option maxHeartbeats 4000000
/-! ## the rules in the form that a reading by simp takes: an object by its equation -/
namespace L2
open PySem PySem.Spec PyProof.Rows

def csOk (osc : Scope) (N : List Str) (scope : Scope) (idx : List Nat) : Bool :=
  scope.kind == .function && scope.names.all (fun y => y.2 != .cell) && scope.names.all (fun y => y.2 != .local || scope.names.lookup y.1 == some .local) &&
  scope.names.all (fun y => y.2 != .free || (scope.names.lookup y.1 == some .free && (osc.names.lookup y.1 == some .cell || osc.names.lookup y.1 == some .free))) &&
  idx.all (fun i => match N[i]? with | some y => scope.names.lookup y == some .free | none => false)
theorem cscope_of {X : Cx} {scope : Scope} {xs : List Str} {idx : List Nat} {osc : Scope} {N : List Str} (h : csOk osc N scope idx = true) (e1 : X.env.scope = osc := by rfl) (e2 : X.N = N := by rfl) : CScope X scope xs idx := by
  unfold csOk at h
  simp only [Bool.and_eq_true] at h
  obtain ⟨⟨⟨⟨h1, h2⟩, h3⟩, h4⟩, h5⟩ := h
  refine ⟨by simpa using h1, fun y hy e => ?_, fun y hy e => ?_, fun y hy e => ?_, fun i hi => ?_⟩
  · have := List.all_eq_true.mp h2 y hy
    rw [e] at this; exact absurd this (by decide)
  · have := List.all_eq_true.mp h3 y hy
    rw [e] at this; simpa using this
  · have := List.all_eq_true.mp h4 y hy
    rw [e] at this
    have t : (scope.names.lookup y.1 == some NameKind.free && (osc.names.lookup y.1 == some .cell || osc.names.lookup y.1 == some .free)) = true := by simpa using this
    rw [Bool.and_eq_true, Bool.or_eq_true] at t
    refine ⟨by simpa using t.1, ?_⟩
    show X.env.scope.names.lookup y.1 = _ ∨ X.env.scope.names.lookup y.1 = _
    rw [e1]
    exact t.2.imp (by simp) (by simp)
  · have := List.all_eq_true.mp h5 i hi
    rw [e2]
    cases e : N[i]? with
    | none => rw [e] at this; cases this
    | some y => rw [e] at this; exact ⟨y, rfl, by simpa using this⟩

theorem atI_0 {α : Type} (a : α) (xs : List α) : atI (a :: xs) 0 = some a := atI_nat (j := 0) rfl
theorem atI_1 {α : Type} (a b : α) (xs : List α) : atI (a :: b :: xs) 1 = some b := atI_nat (j := 1) rfl
theorem atI_2 {α : Type} (a b c : α) (xs : List α) : atI (a :: b :: c :: xs) 2 = some c := atI_nat (j := 2) rfl
theorem atI_3 {α : Type} (a b c d : α) (xs : List α) : atI (a :: b :: c :: d :: xs) 3 = some d := atI_nat (j := 3) rfl
theorem atI_4 {α : Type} (a b c d e : α) (xs : List α) : atI (a :: b :: c :: d :: e :: xs) 4 = some e := atI_nat (j := 4) rfl
theorem atI_5 {α : Type} (a b c d e f : α) (xs : List α) : atI (a :: b :: c :: d :: e :: f :: xs) 5 = some f := atI_nat (j := 5) rfl
theorem ixN6_1 : ixN 6 1 = some 1 := rfl
theorem ixN6_2 : ixN 6 2 = some 2 := rfl
theorem ixN6_3 : ixN 6 3 = some 3 := rfl
theorem ixN6_4 : ixN 6 4 = some 4 := rfl
theorem ixN6_5 : ixN 6 5 = some 5 := rfl
theorem cmulR (i : Int) : CMul i 48271 ∧ CMul i 40693 ∧ CMul i 3 ∧ CMul i 4294967296 := ⟨.inr ⟨by decide, by decide⟩, .inr ⟨by decide, by decide⟩, .inr ⟨by decide, by decide⟩, .inr ⟨by decide, by decide⟩⟩
theorem cmul1 (i : Int) : CMul i 48271 := (cmulR i).1
theorem cmul2 (i : Int) : CMul i 40693 := (cmulR i).2.1
theorem cmul3 (i : Int) : CMul i 3 := (cmulR i).2.2.1
theorem cmul4 (i : Int) : CMul i 4294967296 := (cmulR i).2.2.2
theorem cmul5 (i : Int) : CMul 5 i ∧ CMul 3 i ∧ CMul 7 i ∧ CMul 10 i := ⟨.inl ⟨by decide, by decide⟩, .inl ⟨by decide, by decide⟩, .inl ⟨by decide, by decide⟩, .inl ⟨by decide, by decide⟩⟩
theorem cmul5a (i : Int) : CMul 5 i := (cmul5 i).1
theorem cmul5b (i : Int) : CMul 3 i := (cmul5 i).2.1
theorem cmul5c (i : Int) : CMul 7 i := (cmul5 i).2.2.1
theorem cmul5d (i : Int) : CMul 10 i := (cmul5 i).2.2.2
theorem cpow18 : CPow 10 18 := ⟨by decide, by decide, by decide⟩
/-- a block cut behind its first statement: N is what holds there -/
def tCut (t u : TS) : TS := fun D σ H => ∃ N : St → Hp → Prop, t { D with nx := N } σ H ∧ ∀ σ' H', N σ' H' → u D σ' H'
theorem pss_cut {X : Cx} {st : Stmt} {rest : List Stmt} {t u : TS} (h1 : PS X st t) (h2 : PSs X rest u) : PSs X (st :: rest) (tCut t u) := by
  intro pins s σ H D I ⟨N, hn, hu⟩
  refine wpAny_execs_cons (thn (h1 pins s σ H { D with nx := N } I hn) fun f s1 q => ?_)
  cases f with
  | next =>
    obtain ⟨σ', H', I', q⟩ := q
    exact h2 pins s1 σ' H' D I' (hu σ' H' q)
  | ret v => exact q
  | brk => exact q
  | cont => exact q
theorem atI_ints {ns : List Int} {k : Int} (h0 : 0 ≤ k) (h : k < (ns.length : Int)) : ∃ v : Int, atI (ns.map V.int) k = some (.int v) := by
  have hk : k.toNat < ns.length := by omega
  have ek : k = ((k.toNat : Nat) : Int) := by omega
  have q : atI (ns.map V.int) ((k.toNat : Nat) : Int) = some (.int ns[k.toNat]) := atI_nat (by rw [List.getElem?_map, List.getElem?_eq_getElem hk] <;> rfl)
  rw [← ek] at q
  exact ⟨_, q⟩
theorem atI_of {α : Type} {xs : List α} {k : Int} (h0 : 0 ≤ k) (h : k < (xs.length : Int)) : ∃ v, atI xs k = some v ∧ xs[k.toNat]? = some v := by
  have hk : k.toNat < xs.length := by omega
  have ek : k = ((k.toNat : Nat) : Int) := by omega
  have q : atI xs ((k.toNat : Nat) : Int) = some xs[k.toNat] := atI_nat (List.getElem?_eq_getElem hk)
  rw [← ek] at q
  exact ⟨_, q, List.getElem?_eq_getElem hk⟩
section
variable {X : Cx}
theorem OpR.imp {f : Value → Value → Sem Value} {r r' : R2} (h : OpR X f r) (i : ∀ x y H Q, r' x y H Q → r x y H Q) : OpR X f r' := fun pins s σ H x y v u Q I rx ry q => h pins s σ H x y v u Q I rx ry (i _ _ _ _ q)
theorem IxR.imp {r r' : R2} (h : IxR X r) (i : ∀ x y H Q, r' x y H Q → r x y H Q) : IxR X r' := fun value slice pins s σ H x y v u Q I rx ry q hs => h value slice pins s σ H x y v u Q I rx ry (i _ _ _ _ q) hs
theorem CallR.imp {f : Value} {r r' : List V → Hp → VK → Prop} (h : CallR X f r) (i : ∀ x H Q, r' x H Q → r x H Q) : CallR X f r' := fun pins s σ H vs us Q I rv q => h pins s σ H vs us Q I rv (i _ _ _ q)
theorem MtR.imp {id : String} {r r' : V → List V → Hp → VK → Prop} (h : MtR X id r) (i : ∀ x xs H Q, r' x xs H Q → r x xs H Q) : MtR X id r' := fun pins s σ H x xs v us Q I rx rv q => h pins s σ H x xs v us Q I rx rv (i _ _ _ _ q)
theorem SlR.imp {r r' : V → Option Int → Option Int → Hp → VK → Prop} (h : SlR X r) (i : ∀ x lo hi H Q, r' x lo hi H Q → r x lo hi H Q) : SlR X r' := fun pins s σ H x v vl vu lo hi sl Q I rx hs pl pu q => h pins s σ H x v vl vu lo hi sl Q I rx hs pl pu (i _ _ _ _ _ q)
theorem sqL_of {K : PySem.W.Frag} {H : Hp} {a : Addr} {xs : List V} (h : H a = some (.lst xs)) : SqL K H a xs := SqL.of h
theorem sqT_of {K : PySem.W.Frag} {H : Hp} {a : Addr} {xs : List V} (h : H a = some (.tup xs)) : SqT K H a xs := SqT.of h

/-- xs[i] of a tracked list, tuple -/
def qIxL : R2 := fun x y H Q => ∃ p i, x = .ref p ∧ y = .int i ∧ ∃ xs, H p = some (.lst xs) ∧ ∃ v, atI xs i = some v ∧ Q v H
theorem ix_l : IxR X qIxL := ix_list.imp fun x y H Q ⟨p, i, e1, e2, xs, h, v, e3, q⟩ => ⟨p, xs, i, v, e1, e2, sqL_of h, e3, q⟩
def qIxT : R2 := fun x y H Q => ∃ p i, x = .ref p ∧ y = .int i ∧ ∃ xs, H p = some (.tup xs) ∧ ∃ v, atI xs i = some v ∧ Q v H
theorem ix_t : IxR X qIxT := ix_tup.imp fun x y H Q ⟨p, i, e1, e2, xs, h, v, e3, q⟩ => ⟨p, xs, i, v, e1, e2, sqT_of h, e3, q⟩
def qIxS : R2 := fun x y H Q => ∃ z i, x = .str z ∧ y = .int i ∧ z.length ≤ sizeLine ∧ ∃ c, atI z.cps.toList i = some c ∧ Q (.str ⟨#[c]⟩) H
theorem ix_s : IxR X qIxS := ix_str.imp fun x y H Q ⟨z, i, e1, e2, hz, c, e3, q⟩ => ⟨z, i, c, e1, e2, hz, e3, q⟩
/-- xs[lo:hi] -/
def qSlL : V → Option Int → Option Int → Hp → VK → Prop := fun x lo hi H Q => ∃ a, x = .ref a ∧ ∃ xs, H a = some (.lst xs) ∧ ∀ p, H p = none → Q (.ref p) (upd H p (.lst (cutV xs lo hi)))
def qSlT : V → Option Int → Option Int → Hp → VK → Prop := fun x lo hi H Q => ∃ a, x = .ref a ∧ ∃ xs, H a = some (.tup xs) ∧ ¬ (HT.sIx xs.length 0 lo = 0 ∧ HT.sIx xs.length xs.length hi = xs.length) ∧ ∀ p, H p = none → Q (.ref p) (upd H p (.tup (cutV xs lo hi)))
/-- len -/
def qLenL : List V → Hp → VK → Prop := fun vs H Q => ∃ p, vs = [.ref p] ∧ ∃ xs, H p = some (.lst xs) ∧ Q (.int xs.length) H
theorem call_lenL : CallR X (.builtin "len") qLenL := call_len_seq.imp fun x H Q ⟨p, e, xs, h, q⟩ => ⟨p, xs, e, .inl (sqL_of h), q⟩
def qLenT : List V → Hp → VK → Prop := fun vs H Q => ∃ p, vs = [.ref p] ∧ ∃ xs, H p = some (.tup xs) ∧ Q (.int xs.length) H
theorem call_lenT : CallR X (.builtin "len") qLenT := call_len_seq.imp fun x H Q ⟨p, e, xs, h, q⟩ => ⟨p, xs, e, .inr (sqT_of h), q⟩
/-- list(xs) -/
def qListL : List V → Hp → VK → Prop := fun vs H Q => ∃ p, vs = [.ref p] ∧ ∃ xs, H p = some (.lst xs) ∧ ∀ l, H l = none → Q (.ref l) (upd H l (.lst xs))
theorem call_listL : CallR X (.type "list") qListL := call_list_of.imp fun x H Q ⟨p, e, xs, h, q⟩ => ⟨p, xs, e, .inl (sqL_of h), q⟩
def qListT : List V → Hp → VK → Prop := fun vs H Q => ∃ p, vs = [.ref p] ∧ ∃ xs, H p = some (.tup xs) ∧ ∀ l, H l = none → Q (.ref l) (upd H l (.lst xs))
def qTupleL : List V → Hp → VK → Prop := fun vs H Q => ∃ p, vs = [.ref p] ∧ ∃ xs, H p = some (.lst xs) ∧ ∀ l, H l = none → Q (.ref l) (upd H l (.tup xs))
theorem call_tupleL : CallR X (.type "tuple") qTupleL := call_tuple_of.imp fun x H Q ⟨p, e, xs, h, q⟩ => ⟨p, xs, e, .inl ⟨sqL_of h, q⟩⟩
def qListD : List V → Hp → VK → Prop := fun vs H Q => ∃ a, vs = [.ref a] ∧ ∃ kvs, H a = some (.dK kvs) ∧ ∀ p, H p = none → Q (.ref p) (upd H p (.lst (kvs.map fun kv => kV kv.1)))
def qDictD : List V → Hp → VK → Prop := fun vs H Q => ∃ a, vs = [.ref a] ∧ ∃ kvs, H a = some (.dK kvs) ∧ ∀ p, H p = none → Q (.ref p) (upd H p (.dK kvs))
theorem call_dictDK : CallR X (.type "dict") qDictD := call_dictD.imp fun x H Q ⟨p, e, xs, h, q⟩ => ⟨p, xs, e, h, q⟩
/-- sorted(texts), join -/
def qSorted : List V → Hp → VK → Prop := fun vs H Q => ∃ a, vs = [.ref a] ∧ ∃ ss : List Str, H a = some (.lst (ss.map V.str)) ∧ ss.length < 64 ∧
  ∀ ss' : List Str, ss'.Perm ss → sortedS ss' = true → ∀ p, H p = none → Q (.ref p) (upd H p (.lst (ss'.map V.str)))
theorem call_sortedS : CallR X (.builtin "sorted") qSorted := call_sorted.imp fun x H Q ⟨p, e, ss, h, n, q⟩ => ⟨p, ss, e, sqL_of h, n, q⟩
def qJoin : V → List V → Hp → VK → Prop := fun x vs H Q => ∃ sep a, x = .str sep ∧ vs = [.ref a] ∧ ∃ ss : List Str, H a = some (.lst (ss.map V.str)) ∧ JoinOk sep ss = true ∧ Q (.str (Txt.join sep ss)) H
theorem mt_joinS : MtR X "str.join" qJoin := mt_join.imp fun x vs H Q ⟨sep, a, e1, e2, ss, h, n, q⟩ => ⟨sep, a, ss, e1, e2, sqL_of h, n, q⟩
/-- in, not in a list or tuple of flat items -/
def qInL (neg : Bool) : R2 := fun x y H Q => ∃ p, y = .ref p ∧ ∃ xs, H p = some (.lst xs) ∧ flatV x = true ∧ xs.all flatV = true ∧ Q (.bl (if neg then !inV x xs else inV x xs)) H
def qInT (neg : Bool) : R2 := fun x y H Q => ∃ p, y = .ref p ∧ ∃ xs, H p = some (.tup xs) ∧ flatV x = true ∧ xs.all flatV = true ∧ Q (.bl (if neg then !inV x xs else inV x xs)) H
def qEqL (neg : Bool) : R2 := fun x y H Q => ∃ a b, x = .ref a ∧ y = .ref b ∧ ∃ xs, H a = some (.lst xs) ∧ ∃ ys, H b = some (.lst ys) ∧ xs.all flatV = true ∧ ys.all flatV = true ∧ Q (.bl (if neg then !eqVs xs ys else eqVs xs ys)) H
/-- isinstance -/
def qIsi (K : PySem.W.Frag) : List V → Hp → VK → Prop := fun vs H Q => ∃ x n, vs = [x, .ty n] ∧ ∃ t, TyOf K H x t ∧ ∃ b, PySem.W.kitOne K t (.type n) = some b ∧ Q (.bl b) H
theorem call_isiT : CallR X (.builtin "isinstance") (qIsi X.K) := (call_isi .none).imp fun x H Q ⟨y, n, e, t, ty, b, h, q⟩ => ⟨y, t, b, n, e, ty, h, q⟩
def qSet : V → V → V → Hp → (Hp → Prop) → Prop := fun o i v H Q => ∃ p k, o = .ref p ∧ i = .int k ∧ ∃ xs, H p = some (.lst xs) ∧ ∃ j, ixN xs.length k = some j ∧ Q (upd H p (.lst (xs.set j v)))
theorem set_l : PSet X qSet := fun pins s σ H o i v ov iv u Q I ro ri rv ⟨p, k, e1, e2, xs, h, j, hj, q⟩ => set_list pins s σ H o i v ov iv u Q I ro ri rv ⟨p, xs, k, j, e1, e2, h, hj, q⟩
/-- xs[i] op= v -/
theorem get_l : PGet X (fun o i H Q => qIxL o i H Q) := by
  intro pins s σ H o i ov iv Q I ro ri h
  obtain ⟨p, i, rfl, rfl, xs, hp, z, he, q⟩ := h
  cases ro
  obtain ⟨t, rfl⟩ := ri
  obtain ⟨its, r, pl, hz⟩ := I.list (sqL_of hp)
  obtain ⟨j, h1, h2, h3, h4, h5⟩ := atI_get he
  obtain ⟨w, ew, rw'⟩ := r.get h2
  have hl := r.length
  have hn := line63
  have fin : EP X pins σ Q w s := ⟨z, H, I, rw', q⟩
  by_cases h0 : 0 ≤ i
  · have hj : i.toNat = j := by
      rw [seqIndex_of h0 h5] at h1
      exact Option.some.inj h1
    exact wpAny_getItem_list pl.isList h0 (by omega) (by rw [hj]; simpa using ew) fin
  · have hj : (i + (its.toArray.size : Int)).toNat = j := by
      rw [seqIndex_neg (by omega) h4] at h1
      rw [List.size_toArray, ← hl]
      exact Option.some.inj h1
    exact wpAny_getItem_list_neg pl.isList (by omega) (by rw [List.size_toArray] <;> omega) (by omega) (by rw [hj]; simpa using ew) fin
end
end L2
namespace L2
open PySem PySem.Spec PyProof.Rows
/-- a display of written texts, at once -/
def txtOf : Expr → Option Str
  | .Constant (.str x) _ _ => some x
  | _ => none
def txtsOf (es : List Expr) : List Str := es.filterMap txtOf
def tTxts (es : List Expr) : TA := fun _ H Q => Q ((txtsOf es).map V.str) H
theorem txt_is {e : Expr} (h : (txtOf e).isSome = true) : ∃ x j p, e = .Constant (.str x) j p := by
  cases e with
  | Constant v j p =>
    cases v with
    | str x => exact ⟨x, j, p, rfl⟩
    | _ => exact Bool.noConfusion h
  | _ => exact Bool.noConfusion h
/-- lists of a known length -/
theorem of1 {α : Type} {C : List α → Prop} (h : ∀ a, C [a]) : ∀ us : List α, us.length = 1 → C us
  | [a], _ => h a
theorem of2 {α : Type} {C : List α → Prop} (h : ∀ a b, C [a, b]) : ∀ us : List α, us.length = 2 → C us
  | [a, b], _ => h a b
theorem of3 {α : Type} {C : List α → Prop} (h : ∀ a b c, C [a, b, c]) : ∀ us : List α, us.length = 3 → C us
  | [a, b, c], _ => h a b c
theorem of4 {α : Type} {C : List α → Prop} (h : ∀ a b c d, C [a, b, c, d]) : ∀ us : List α, us.length = 4 → C us
  | [a, b, c, d], _ => h a b c d
theorem pa_txts {X : Cx} : ∀ {es : List Expr}, (es.all fun e => (txtOf e).isSome) = true → PA X es (tTxts es)
  | [], _ => fun pos pins s σ H Q I h => pa_nil pos pins s σ H Q I h
  | e :: es, h => by
    rw [List.all_cons, Bool.and_eq_true] at h
    have ih := pa_txts (X := X) h.2
    obtain ⟨x, j, p, rfl⟩ := txt_is h.1
    have c := pa_cons (X := X) (e := .Constant (.str x) j p) (te := tC (.str x)) pe_str ih rfl
    exact fun pos pins s σ H Q I q => c pos pins s σ H Q I q
end L2
end

section
set_option Elab.async false
set_option linter.all false
set_option maxRecDepth 100000
set_option maxHeartbeats 4000000
/-! ## names by closed looks: a look at a scope is decided by the kernel -/
namespace L2
open PySem PySem.Spec PyProof.Rows
structure HC (X : Cx) (N : List Str) (sc : Scope) : Prop where
  n : X.N = N
  s : X.env.scope = sc
def okV (N : List Str) (sc : Scope) (i : Nat) (x : Str) : Bool :=
  N[i]? == some x && (sc.names.lookup x == some .local || sc.names.lookup x == some .cell || sc.names.lookup x == some .free) && !(x == ("__debug__" : Str)) && !(x == ("__classdict__" : Str))
def okL (N : List Str) (sc : Scope) (i : Nat) (x : Str) : Bool := N[i]? == some x && (sc.names.lookup x == some .local || sc.names.lookup x == some .cell)
def okL1 (N : List Str) (sc : Scope) (i : Nat) (x : Str) : Bool := N[i]? == some x && sc.names.lookup x == some .local
def okG (sc : Scope) (x : Str) : Bool := sc.names.lookup x == some .globalImplicit
section
variable {X : Cx} {N : List Str} {sc : Scope} {x : Str} {pos : Pos}
theorem pvk (hc : HC X N sc) (i : Nat) (h : okV N sc i x = true) : PE X (.Name x pos) (tVar i) := by
  unfold okV at h
  simp only [Bool.and_eq_true, Bool.or_eq_true, beq_iff_eq, Bool.not_eq_true'] at h
  obtain ⟨⟨⟨h1, h2⟩, h3⟩, h4⟩ := h
  refine pe_var (by rw [hc.n]; exact h1) ?_ h3 h4
  unfold Vis
  rw [hc.s]
  rcases h2 with (h2 | h2) | h2
  · exact .inl h2
  · exact .inr (.inl h2)
  · exact .inr (.inr h2)
theorem glk (hc : HC X N sc) (h : okG sc x = true) : Gl X x := by
  show X.env.scope.names.lookup x = some .globalImplicit
  rw [hc.s]; simpa [okG] using h
theorem okL_loc (hc : HC X N sc) {i : Nat} (h : okL N sc i x = true) : X.N[i]? = some x ∧ Loc X.env.scope x := by
  unfold okL at h
  simp only [Bool.and_eq_true, Bool.or_eq_true, beq_iff_eq] at h
  refine ⟨by rw [hc.n]; exact h.1, ?_⟩
  unfold Loc; rw [hc.s]; exact h.2
theorem okL1_loc (hc : HC X N sc) {i : Nat} (h : okL1 N sc i x = true) : X.N[i]? = some x ∧ X.env.scope.names.lookup x = some .local := by
  unfold okL1 at h
  simp only [Bool.and_eq_true, beq_iff_eq] at h
  exact ⟨by rw [hc.n]; exact h.1, by rw [hc.s]; exact h.2⟩
/-- in a def's body: every cell is its own -/
theorem pgk (hc : HC X N sc) (nd : N.Nodup) (hf : ∀ x, X.fn x = true) (i : Nat) (h : okL N sc i x = true) : PG X (.Name x pos) (gName i) :=
  pg_name (by rw [hc.n]; exact nd) (okL_loc hc h).1 (okL_loc hc h).2 (.inl (hf x))
/-- in a block: its own names are local -/
theorem pgb (hc : HC X N sc) (nd : N.Nodup) (i : Nat) (h : okL1 N sc i x = true) : PG X (.Name x pos) (gName i) :=
  pg_name (by rw [hc.n]; exact nd) (okL1_loc hc h).1 (.inl (okL1_loc hc h).2) (.inr (okL1_loc hc h).2)
theorem psk_set {e : Expr} {te : TE} {pos' : Pos} (hc : HC X N sc) (nd : N.Nodup) (hf : ∀ x, X.fn x = true) (i : Nat) (h : okL N sc i x = true) (he : PE X e te) (hs : swapsWith e (some (.Name x pos')) pos.line X.env = pure false := by rfl) :
    PS X (.Assign [.Name x pos'] e pos) (tAsg te (gName i)) :=
  ps_set (by rw [hc.n]; exact nd) (okL_loc hc h).1 (okL_loc hc h).2 he hs (.inl (hf x))
end
/-- the scope of a block, its free names of the def's own cells named so -/
def relabelS (scope osc : Scope) : Scope :=
  { scope with names := scope.names.map fun (n, k) => if (k == .free && osc.kind == .function && osc.names.lookup n == some .cell) then (n, .cell) else (n, k) }
theorem relabelS_eq {scope osc : Scope} {env : Env} (h : env.scope = osc) : relabel scope env = relabelS scope osc := by
  subst h; rfl
theorem hc_block {X : Cx} {N : List Str} {osc scope : Scope} {xs : List Str} {idx : List Nat} (hc : HC X N osc) (c : CB) : HC (cxC X scope (xs ++ subN X.N idx) c) (xs ++ subN N idx) (relabelS scope osc) :=
  ⟨by show xs ++ subN X.N idx = _; rw [hc.n], relabelS_eq hc.s⟩
section
variable {X : Cx} {N : List Str} {osc : Scope} {elt target iter : Expr} {ifs : List Expr} {scope : Scope} {pos spos py : Pos} {xs : List Str} {idx : List Nat} {wi : TI} {g : CB → TG} {tt : CB → TT} {te : CB → TE}
theorem pek_comp (hc : HC X N osc) (xs : List Str) (idx : List Nat) (hcalm : X.calm = true) (S : csOk osc N scope idx = true) (hi : PI X target iter wi)
    (hg : ∀ c, HC (cxC X scope (xs ++ subN X.N idx) c) (xs ++ subN N idx) (relabelS scope osc) → PG (cxC X scope (xs ++ subN X.N idx) c) target (g c))
    (ht : ∀ c, HC (cxC X scope (xs ++ subN X.N idx) c) (xs ++ subN N idx) (relabelS scope osc) → PIfs (cxC X scope (xs ++ subN X.N idx) c) ifs (tt c))
    (he : ∀ c, HC (cxC X scope (xs ++ subN X.N idx) c) (xs ++ subN N idx) (relabelS scope osc) → PE (cxC X scope (xs ++ subN X.N idx) c) elt (te c))
    (hs : ∀ x, foldedSetIterable iter X.env x = pure x := by intro _; rfl) : PE X (.ListComp elt [⟨target, iter, ifs, 0⟩] scope pos) (tComp wi xs.length idx g tt te) :=
  pe_comp hcalm (cscope_of S hc.s hc.n) hi (fun c => hg c (hc_block hc c)) (fun c => ht c (hc_block hc c)) (fun c => he c (hc_block hc c)) hs
theorem psk_comp {y : Str} (hc : HC X N osc) (nd : N.Nodup) (i : Nat) (h : okL1 N osc i y = true) (xs : List Str) (idx : List Nat) (hcalm : X.calm = true) (S : csOk osc N scope idx = true) (hi : PI X target iter wi)
    (hg : ∀ c, HC (cxC X scope (xs ++ subN X.N idx) c) (xs ++ subN N idx) (relabelS scope osc) → PG (cxC X scope (xs ++ subN X.N idx) c) target (g c))
    (ht : ∀ c, HC (cxC X scope (xs ++ subN X.N idx) c) (xs ++ subN N idx) (relabelS scope osc) → PIfs (cxC X scope (xs ++ subN X.N idx) c) ifs (tt c))
    (he : ∀ c, HC (cxC X scope (xs ++ subN X.N idx) c) (xs ++ subN N idx) (relabelS scope osc) → PE (cxC X scope (xs ++ subN X.N idx) c) elt (te c))
    (hsw : swapsWith (.ListComp elt [⟨target, iter, ifs, 0⟩] scope pos) (some (.Name y py)) spos.line X.env = pure true)
    (hs : ∀ x, foldedSetIterable iter X.env x = pure x := by intro _; rfl) : PS X (.Assign [.Name y py] (.ListComp elt [⟨target, iter, ifs, 0⟩] scope pos) spos) (tAsg (tComp wi xs.length idx g tt te) (gName i)) :=
  ps_setC (by rw [hc.n]; exact nd) (okL1_loc hc h).1 (okL1_loc hc h).2 hcalm (cscope_of S hc.s hc.n) hi (fun c => hg c (hc_block hc c)) (fun c => ht c (hc_block hc c)) (fun c => he c (hc_block hc c)) hsw hs
end
end L2
namespace L2
open PySem PySem.Spec PyProof.Rows
/-- a block's judgement, kept shut -/
@[irreducible] def QSs (X : Cx) (st : List Stmt) (t : TS) : Prop := PSs X st t
theorem QSs.to {X : Cx} {st : List Stmt} {t : TS} (h : QSs X st t) : PSs X st t := by unfold QSs at h; exact h
theorem QSs.of {X : Cx} {st : List Stmt} {t : TS} (h : PSs X st t) : QSs X st t := by unfold QSs; exact h
section
variable {X : Cx} {st : Stmt} {rest : List Stmt} {t u : TS} {pos : Pos}
theorem qss_nil : QSs X [] tNext := .of pss_nil
theorem qss_one (h1 : PS X st t) : QSs X [st] t := .of (pss_one h1)
theorem qss_cons (h1 : PS X st t) (h2 : QSs X rest u) : QSs X (st :: rest) (tSeq t u) := .of (pss_cons h1 h2.to)
theorem qss_cut (h1 : PS X st t) (h2 : QSs X rest u) : QSs X (st :: rest) (tCut t u) := .of (pss_cut h1 h2.to)
theorem qs_if {c : Expr} {a b : List Stmt} {tc : TT} (hc : PT X c tc) (ha : QSs X a t) (hb : QSs X b u) : PS X (.If c a b pos) (tIfS tc t u) := ps_if hc ha.to hb.to
theorem qs_while {c : Expr} {body : List Stmt} {tc : TT} {tb : TS} (hp : PassesOwn (model X.prog X.w) X.A X.env X.xe) (hc : PT X c tc) (hb : QSs X body tb) : PS X (.While c body [] pos) (tWhile tc tb) := ps_while hp hc hb.to
theorem qs_for {tg iter : Expr} {body : List Stmt} {wi : TI} {g : TG} {tb : TS} (hp : PassesOwn (model X.prog X.w) X.A X.env X.xe) (hc : X.calm = true) (hi : PI X tg iter wi) (hg : PG X tg g) (hb : QSs X body tb)
    (hs : ∀ x, foldedSetIterable iter X.env x = pure x := by intro _; rfl) : PS X (.For tg iter body [] pos) (tFor wi g tb) := ps_for hp hc hi hg hb.to hs
end
theorem Fun.okK {P : Program} {w : World} {K : PySem.W.Frag} {mg : Str → Option Value} {base : Heap} {x qual : Str} {st : Stmt} {f : Addr} {fd : FuncData} {N ps : List Str} {k : Nat} {sp : Sp} (F : Fun K x qual st f fd) (S : FnScope N ps (defScope st)) (len : ∀ vs H Q E, sp vs H Q E → vs.length = ps.length)
    (hbody : ∀ (cdv : Value) (A : Around) (outer : List Env) (s : Shared) (H : Hp) (vs : List V) (Q : VK) (E : XK), Room k (A.deeper (envOfC qual (defScope st) s.heap.objs.size f cdv)) → sp vs H Q E →
      HC (cxOf CX0 P w K mg base N qual (defScope st) f cdv A outer s H E).nox N (defScope st) → (∀ x, (cxOf CX0 P w K mg base N qual (defScope st) f cdv A outer s H E).nox.fn x = true) →
      ∃ t, QSs (cxOf CX0 P w K mg base N qual (defScope st) f cdv A outer s H E).nox (defBody st) t ∧ t { nx := fun _ H' => Q .non H', rt := Q } (start N vs) H) : FnOk P w K mg base CX0 (k + 1) f fd ps sp :=
  F.ok S len fun cdv A outer s H vs Q E hr h => let ⟨t, h1, h2⟩ := hbody cdv A outer s H vs Q E hr h ⟨rfl, rfl⟩ fun _ => rfl; ⟨t, h1.to, h2⟩
end L2
namespace L2
open PySem PySem.Spec PyProof.Rows
/-! ### loops and blocks by their own words, so that a reading halts ahead of them -/
def ForAll (J : It) (g : TG) (tb : TS) (D : Ends) (σ : St) (H : Hp) : Prop := ∃ W : Nat → Nat → St → Hp → Prop, (∃ m, W 0 m σ H) ∧ ∀ i m σ H, W i m σ H →
  (J.stop i H ∧ D.nx σ H) ∨ (J.go i H ∧ ∃ N : St → Hp → Prop, (∀ σ' H', N σ' H' → ∃ m', m' < m ∧ W (i + 1) m' σ' H') ∧ ∀ x H', J.yld i H x H' → g x σ H' fun σ2 H2 => tb { D with nx := N, ct := N, bk := D.nx } σ2 H2)
theorem tFor_eq {wi : TI} {g : TG} {tb : TS} {D : Ends} {σ : St} {H : Hp} : tFor wi g tb D σ H = wi σ H (fun J H1 => ForAll J g tb D σ H1) := rfl
def CompAll (J : It) (k : Nat) (idx : List Nat) (g : CB → TG) (tt : CB → TT) (te : CB → TE) (σ : St) (Q : VK) (H1 : Hp) : Prop := ∀ D, H1 D = none → ∃ W : Nat → Nat → List V → Hp → Prop, (∃ m, W 0 m [] (upd H1 D (.lst []))) ∧
  ∀ i m ys H', W i m ys H' → (J.stop i H' ∧ Q (.ref D) H') ∨ (J.go i H' ∧ ∃ N : List V → Hp → Prop, (∀ ys' H'', N ys' H'' → ∃ m', m' < m ∧ W (i + 1) m' ys' H'') ∧ ∀ (c : CB) (own : St), own.length = k → ∀ x H2, J.yld i H' x H2 → g c x (own ++ subS σ idx) H2 fun σ3 H3 =>
    (∃ own', own'.length = k ∧ σ3 = own' ++ subS σ idx) ∧ tt c σ3 H3 fun b H4 => if b = true then te c σ3 H4 fun y H5 => H5 D = some (.lst ys) ∧ ys.length < sizeLine ∧ N (ys ++ [y]) (upd H5 D (.lst (ys ++ [y]))) else N ys H4)
theorem tComp_eq {wi : TI} {k : Nat} {idx : List Nat} {g : CB → TG} {tt : CB → TT} {te : CB → TE} {σ : St} {H : Hp} {Q : VK} : tComp wi k idx g tt te σ H Q = wi σ H (fun J H1 => CompAll J k idx g tt te σ Q H1) := rfl
theorem forAll_rng {lo : Int} {n : Nat} {g : TG} {tb : TS} {D : Ends} {σ : St} {H : Hp} (Pv : Nat → St → Hp → Prop) (h0 : Pv 0 σ H)
    (hs : ∀ i σ H, i < n → Pv i σ H → g (.int (lo + i)) σ H fun σ2 H2 => tb { D with nx := Pv (i + 1), ct := Pv (i + 1), bk := D.nx } σ2 H2) (hd : ∀ σ H, Pv n σ H → D.nx σ H) : ForAll (Itr lo n) g tb D σ H := for_range Pv h0 hs hd
theorem forAll_list {K : PySem.W.Frag} {a : Addr} {xs : List V} {g : TG} {tb : TS} {D : Ends} {σ : St} {H : Hp} (Pv : Nat → St → Hp → Prop) (h0 : Pv 0 σ H) (hl : ∀ i σ H, i ≤ xs.length → Pv i σ H → H a = some (.lst xs))
    (hs : ∀ i x σ H, xs[i]? = some x → Pv i σ H → g x σ H fun σ2 H2 => tb { D with nx := Pv (i + 1), ct := Pv (i + 1), bk := D.nx } σ2 H2) (hd : ∀ σ H, Pv xs.length σ H → D.nx σ H) : ForAll (Itl K a) g tb D σ H :=
  for_list Pv h0 (fun i σ H hi p => sqL_of (hl i σ H hi p)) hs hd
theorem forAll_tup {K : PySem.W.Frag} {a : Addr} {xs : List V} {g : TG} {tb : TS} {D : Ends} {σ : St} {H : Hp} (Pv : Nat → St → Hp → Prop) (h0 : Pv 0 σ H) (hl : ∀ i σ H, i ≤ xs.length → Pv i σ H → H a = some (.tup xs))
    (hs : ∀ i x σ H, xs[i]? = some x → Pv i σ H → g x σ H fun σ2 H2 => tb { D with nx := Pv (i + 1), ct := Pv (i + 1), bk := D.nx } σ2 H2) (hd : ∀ σ H, Pv xs.length σ H → D.nx σ H) : ForAll (Itt K a) g tb D σ H :=
  for_tup Pv h0 (fun i σ H hi p => sqT_of (hl i σ H hi p)) hs hd
theorem compAll_rng {lo : Int} {n : Nat} {idx : List Nat} {tt : CB → TT} {te : CB → TE} {σ : St} {Q : VK} {H1 : Hp} (Pv : Addr → Nat → List V → Hp → Prop) (h0 : ∀ D, H1 D = none → Pv D 0 [] (upd H1 D (.lst [])))
    (hs : ∀ D, H1 D = none → ∀ i ys H, i < n → Pv D i ys H → ∀ (c : CB), tt c (some (.int (lo + i)) :: subS σ idx) H fun b H4 => if b = true then te c (some (.int (lo + i)) :: subS σ idx) H4 fun y H5 => H5 D = some (.lst ys) ∧ ys.length < sizeLine ∧ Pv D (i + 1) (ys ++ [y]) (upd H5 D (.lst (ys ++ [y]))) else Pv D (i + 1) ys H4)
    (hd : ∀ D, H1 D = none → ∀ ys H, Pv D n ys H → Q (.ref D) H) : CompAll (Itr lo n) 1 idx (fun _ => gName 0) tt te σ Q H1 :=
  fun D hD => comp_range1 (Pv D) (h0 D hD) (hs D hD) (hd D hD)
theorem compAll_list {K : PySem.W.Frag} {a : Addr} {zs : List V} {idx : List Nat} {tt : CB → TT} {te : CB → TE} {σ : St} {Q : VK} {H1 : Hp} (Pv : Addr → Nat → List V → Hp → Prop) (h0 : ∀ D, H1 D = none → Pv D 0 [] (upd H1 D (.lst [])))
    (hl : ∀ D, H1 D = none → ∀ i ys H, i ≤ zs.length → Pv D i ys H → H a = some (.lst zs))
    (hs : ∀ D, H1 D = none → ∀ i x ys H, zs[i]? = some x → Pv D i ys H → ∀ (c : CB), tt c (some x :: subS σ idx) H fun b H4 => if b = true then te c (some x :: subS σ idx) H4 fun y H5 => H5 D = some (.lst ys) ∧ ys.length < sizeLine ∧ Pv D (i + 1) (ys ++ [y]) (upd H5 D (.lst (ys ++ [y]))) else Pv D (i + 1) ys H4)
    (hd : ∀ D, H1 D = none → ∀ ys H, Pv D zs.length ys H → Q (.ref D) H) : CompAll (Itl K a) 1 idx (fun _ => gName 0) tt te σ Q H1 :=
  fun D hD => comp_list1 (Pv D) (h0 D hD) (fun i ys H hi p => sqL_of (hl D hD i ys H hi p)) (hs D hD) (hd D hD)
end L2
namespace L2
open PySem PySem.Spec PyProof.Rows
def tTxtsL (ss : List Str) : TA := fun _ H Q => Q (List.map V.str ss) H
theorem txts_all : ∀ {es : List Expr} {ss : List Str}, (es.map txtOf == ss.map some) = true → (es.all fun e => (txtOf e).isSome) = true ∧ txtsOf es = ss
  | [], [], _ => ⟨rfl, rfl⟩
  | [], _ :: _, h => by cases h
  | _ :: _, [], h => by cases h
  | e :: es, x :: ss, h => by
    have h' : (txtOf e == some x && (es.map txtOf == ss.map some)) = true := h
    rw [Bool.and_eq_true] at h'
    have e1 : txtOf e = some x := by simpa using h'.1
    have ih := txts_all h'.2
    refine ⟨by rw [List.all_cons, e1, ih.1]; rfl, ?_⟩
    show (e :: es).filterMap txtOf = _
    rw [List.filterMap_cons, e1]
    show x :: txtsOf es = _
    rw [ih.2]
theorem pa_txtsL {X : Cx} {es : List Expr} (ss : List Str) (h : (es.map txtOf == ss.map some) = true) : PA X es (tTxtsL ss) := by
  have c := pa_txts (X := X) (txts_all h).1
  rw [show tTxts es = tTxtsL ss by unfold tTxts tTxtsL; rw [(txts_all h).2]] at c
  exact c
end L2
end

section
set_option Elab.async false
set_option linter.all false
set_option maxRecDepth 100000
namespace L2
open PySem PySem.Spec PyProof.Rows
/-! ### the judgements, shut: nothing looks into them while a program's text is walked -/
structure ZE (X : Cx) (e : Expr) (t : TE) : Prop where
  to : PE X e t
structure ZT (X : Cx) (e : Expr) (t : TT) : Prop where
  to : PT X e t
structure ZW (X : Cx) (e : Expr) (t : TT) : Prop where
  to : PW X e t
structure ZA (X : Cx) (e : List Expr) (t : TA) : Prop where
  to : PA X e t
structure ZS (X : Cx) (e : Stmt) (t : TS) : Prop where
  to : PS X e t
structure ZSs (X : Cx) (e : List Stmt) (t : TS) : Prop where
  to : PSs X e t
structure ZG (X : Cx) (e : Expr) (t : TG) : Prop where
  to : PG X e t
structure ZGs (X : Cx) (e : List Expr) (t : TGs) : Prop where
  to : PGs X e t
structure ZIfs (X : Cx) (e : List Expr) (t : TT) : Prop where
  to : PIfs X e t
structure ZO (X : Cx) (e : Option Expr) (t : TO) : Prop where
  to : PO X e t
structure ZI (X : Cx) (tg iter : Expr) (t : TI) : Prop where
  to : PI X tg iter t
theorem zpe_bl {X : Cx} {b : Bool} {j : Nat} {pos : Pos} : ZE X (Expr.Constant (Const.bool b) j pos) (tC (V.bl b)) := ⟨pe_bl⟩
theorem zpe_int {X : Cx} {i : Int} {j : Nat} {pos : Pos} : ZE X (Expr.Constant (Const.int i) j pos) (tC (V.int i)) := ⟨pe_int⟩
theorem zpe_str {X : Cx} {x : Str} {j : Nat} {pos : Pos} : ZE X (Expr.Constant (Const.str x) j pos) (tC (V.str x)) := ⟨pe_str⟩
theorem zpe_non {X : Cx} {j : Nat} {pos : Pos} : ZE X (Expr.Constant Const.none j pos) (tC V.non) := ⟨pe_non⟩
theorem zpvk {X : Cx} {N : List Str} {sc : Scope} {x : Str} {pos : Pos} (h1 : HC X N sc) (i : Nat) (h2 : okV N sc i x = true) : ZE X (Expr.Name x pos) (tVar i) := ⟨pvk h1 i h2⟩
theorem zpe_bltn {X : Cx} {x : Str} {v : V} {u : Value} {pos : Pos} (h1 : Gl X x) (h2 : Cx.mg X x = none) (h3 : bootBuiltins x = some u) (h4 : RelV v u) (h5 : autoParam (x ≠ Str.ofString "__name__") pe_bltn._auto_1) (h6 : autoParam ((x == Str.ofString "__debug__") = false) pe_bltn._auto_2) : ZE X (Expr.Name x pos) (tC v) := ⟨pe_bltn h1 h2 h3 h4 h5 h6⟩
theorem zpe_lst {X : Cx} {es : List Expr} {t : TA} {pos : Pos} (h1 : ZA X es t) : ZE X (Expr.List es pos) (tLst t) := ⟨pe_lst h1.to⟩
theorem zpe_tup {X : Cx} {es : List Expr} {t : TA} {pos : Pos} {x1 : Nat} (h1 : ZA X es t) : ZE X (Expr.Tuple es x1 pos) (tTup t) := ⟨pe_tup h1.to⟩
theorem zpe_dnewK {X : Cx} {pos : Pos} : ZE X (Expr.Dict [] [] pos) tDNewK := ⟨pe_dnewK⟩
theorem zpe_op {X : Cx} {a b : Expr} {ta tb : TE} {pos : Pos} {op : Operator} {r : R2} (h1 : OpR X (binaryOp op) r) (h2 : ZE X a ta) (h3 : ZE X b tb) : ZE X (Expr.BinOp a op b pos) (tOp r ta tb) := ⟨pe_op h1 h2.to h3.to⟩
theorem zpe_not {X : Cx} {a : Expr} {ta : TE} {pos : Pos} (h1 : ZE X a ta) : ZE X (Expr.UnaryOp UnaryOp.Not a pos) (tNotV ta) := ⟨pe_not h1.to⟩
theorem zpe_cmpR {X : Cx} {a b : Expr} {ta tb : TE} {pos : Pos} {op : CmpOp} {r : R2} (h1 : OpR X (compareOp op) r) (h2 : ZE X a ta) (h3 : ZE X b tb) (h4 : behindInMarks op b = false) : ZE X (Expr.Compare a [op] [b] pos) (tOp r ta tb) := ⟨pe_cmpR h1 h2.to h3.to h4⟩
theorem zpe_one {X : Cx} {a : Expr} {pos : Pos} {op : BoolOp} {t : TE} (h1 : ZE X a t) : ZE X (Expr.BoolOp op [a] pos) t := ⟨pe_one h1.to⟩
theorem zpe_and {X : Cx} {a b : Expr} {ta tb : TE} {pos : Pos} {rest : List Expr} (h1 : ZE X a ta) (h2 : ZE X (Expr.BoolOp BoolOp.And (b :: rest) pos) tb) : ZE X (Expr.BoolOp BoolOp.And (a :: b :: rest) pos) (tAndV ta tb) := ⟨pe_and h1.to h2.to⟩
theorem zpo_none {X : Cx} : ZO X none tNoPart := ⟨po_none⟩
theorem zpo_some {X : Cx} {e : Expr} {te : TE} (h1 : ZE X e te) : ZO X (some e) (tPart te) := ⟨po_some h1.to⟩
theorem zpe_slice {X : Cx} {e : Expr} {te : TE} {lo hi : Option Expr} {tl th : TO} {pos p2 : Pos} {r : V → Option Int → Option Int → Hp → VK → Prop} (h1 : SlR X r) (h2 : ZE X e te) (h3 : ZO X lo tl) (h4 : ZO X hi th) : ZE X (Expr.Subscript e (Expr.Slice lo hi none p2) pos) (tSl r te tl th) := ⟨pe_slice h1 h2.to h3.to h4.to⟩
theorem zpe_dget {X : Cx} {o i : Expr} {pos : Pos} {td ty : TE} (h1 : Around.units (Cx.A X) + 1 < cLine) (h2 : ZE X o td) (h3 : ZE X i ty) (h4 : NoSl i) : ZE X (Expr.Subscript o i pos) (tDGet td ty) := ⟨pe_dget h1 h2.to h3.to h4⟩
theorem zpe_ix {X : Cx} {a b : Expr} {ta tb : TE} {pos : Pos} {r : R2} (h1 : IxR X r) (h2 : ZE X a ta) (h3 : ZE X b tb) (h4 : PlainIx b) : ZE X (Expr.Subscript a b pos) (tOp r ta tb) := ⟨pe_ix h1 h2.to h3.to h4⟩
theorem zpek_comp {X : Cx} {N : List Str} {osc : Scope} {elt target iter : Expr} {ifs : List Expr} {scope : Scope} {pos : Pos} {wi : TI} {g : CB → TG} {tt : CB → TT} {te : CB → TE} (h1 : HC X N osc) (xs : List Str) (idx : List Nat) (h2 : Cx.calm X = true) (h3 : csOk osc N scope idx = true) (h4 : ZI X target iter wi) (h5 : (∀ (c : CB),
                HC (cxC X scope (xs ++ subN (Cx.N X) idx) c) (xs ++ subN N idx) (relabelS scope osc) →
                  ZG (cxC X scope (xs ++ subN (Cx.N X) idx) c) target (g c))) (h6 : (∀ (c : CB),
                  HC (cxC X scope (xs ++ subN (Cx.N X) idx) c) (xs ++ subN N idx) (relabelS scope osc) →
                    ZIfs (cxC X scope (xs ++ subN (Cx.N X) idx) c) ifs (tt c))) (h7 : (∀ (c : CB),
                    HC (cxC X scope (xs ++ subN (Cx.N X) idx) c) (xs ++ subN N idx) (relabelS scope osc) →
                      ZE (cxC X scope (xs ++ subN (Cx.N X) idx) c) elt (te c))) (h8 : autoParam (∀ (x : Value), foldedSetIterable iter (Cx.env X) x = pure x) pek_comp._auto_1) : ZE X (Expr.ListComp elt [{ target := target, iter := iter, ifs := ifs, is_async := 0 }] scope pos)
                      (tComp wi (List.length xs) idx g tt te) := ⟨pek_comp h1 xs idx h2 h3 h4.to (fun c z => (h5 c z).to) (fun c z => (h6 c z).to) (fun c z => (h7 c z).to) h8⟩
theorem zpa_txtsL {X : Cx} {es : List Expr} (ss : List Str) (h1 : (List.map txtOf es == List.map some ss) = true) : ZA X es (tTxtsL ss) := ⟨pa_txtsL ss h1⟩
theorem zpa_nil {X : Cx} : ZA X [] tNil := ⟨pa_nil⟩
theorem zpa_cons {X : Cx} {e : Expr} {es : List Expr} {te : TE} {t : TA} (h1 : ZE X e te) (h2 : ZA X es t) (h3 : autoParam (starEach (e :: es) (Cx.env X) = (false, eval e (Cx.env X)) :: starEach es (Cx.env X)) pa_cons._auto_1) : ZA X (e :: es) (tCons te t) := ⟨pa_cons h1.to h2.to h3⟩
theorem zpg_tup {X : Cx} {pos : Pos} {es : List Expr} {k : Nat} {t : TGs} {n : Nat} (h1 : Cx.calm X = true) (h2 : ZGs X es t) (h3 : autoParam (List.length (assignEach es (Cx.env X)) = n) pg_tup._auto_1) (h4 : autoParam (List.findIdx? (fun (x : Bool × (Value → Sem Unit)) => Prod.fst x) (assignEach es (Cx.env X)) = none)
            pg_tup._auto_2) : ZG X (Expr.Tuple es k pos) (gTup (Cx.K X) n t) := ⟨pg_tup h1 h2.to h3 h4⟩
theorem zpgb {X : Cx} {N : List Str} {sc : Scope} {x : Str} {pos : Pos} (h1 : HC X N sc) (h2 : List.Nodup N) (i : Nat) (h3 : okL1 N sc i x = true) : ZG X (Expr.Name x pos) (gName i) := ⟨pgb h1 h2 i h3⟩
theorem zpifs_nil {X : Cx} : ZIfs X [] tYes := ⟨pifs_nil⟩
theorem zpifs_one {X : Cx} {e : Expr} {t : TT} (h1 : ZT X e t) : ZIfs X [e] t := ⟨pifs_one h1.to⟩
theorem zpgs_nil {X : Cx} : ZGs X [] gNil := ⟨pgs_nil⟩
theorem zpgs_cons {X : Cx} {e : Expr} {es : List Expr} {t : TG} {u : TGs} (h1 : ZG X e t) (h2 : ZGs X es u) (h3 : autoParam
          (List.map (fun (x : Bool × (Value → Sem Unit)) => Prod.snd x) (assignEach (e :: es) (Cx.env X)) =
            assign e (Cx.env X) ::
              List.map (fun (x : Bool × (Value → Sem Unit)) => Prod.snd x) (assignEach es (Cx.env X)))
          pgs_cons._auto_1) : ZGs X (e :: es) (gCons t u) := ⟨pgs_cons h1.to h2.to h3⟩
theorem zpi_range1 {X : Cx} {tg a : Expr} {ta : TA} {p pos : Pos} (h1 : Gl X (Str.ofString "range")) (h2 : Cx.mg X (Str.ofString "range") = none) (h3 : ZA X [a] ta) (h4 : autoParam (starEach [a] (Cx.env X) = [(false, eval a (Cx.env X))]) pi_range1._auto_1) : ZI X tg (Expr.Call (Expr.Name (Str.ofString "range") p) [a] [] pos) (iRng1 ta) := ⟨pi_range1 h1 h2 h3.to h4⟩
theorem zpi_list {X : Cx} {tg l : Expr} {tl : TE} (h1 : ZE X l tl) : ZI X tg l (iList (Cx.K X) tl) := ⟨pi_list h1.to⟩
theorem zpi_tup {X : Cx} {tg l : Expr} {tl : TE} (h1 : ZE X l tl) : ZI X tg l (iTup (Cx.K X) tl) := ⟨pi_tup h1.to⟩
theorem zpt_cmpR {X : Cx} {a b : Expr} {ta tb : TE} {pos : Pos} {op : CmpOp} {r : R2} (h1 : OpR X (compareOp op) r) (h2 : ZE X a ta) (h3 : ZE X b tb) (h4 : behindInMarks op b = false) : ZT X (Expr.Compare a [op] [b] pos) (tTest (tOp r ta tb)) := ⟨pt_cmpR h1 h2.to h3.to h4⟩
theorem zpt_not {X : Cx} {a : Expr} {pos : Pos} {tA : TT} (h1 : ZT X a tA) : ZT X (Expr.UnaryOp UnaryOp.Not a pos) (tNot tA) := ⟨pt_not h1.to⟩
theorem zPWpt {X : Cx} {e : Expr} {t : TT} (h1 : ZW X e t) : ZT X e t := ⟨PW.pt h1.to⟩
theorem zpt_val {X : Cx} {e : Expr} {t : TE} (h1 : ZE X e t) (h2 : autoParam
        (∀ (whole : Sem Value),
          PySem.isTrue e (Cx.env X) whole = do
            let v ← whole
            standAt (Expr.pos e)
            holding [v] (truthy v))
        pt_val._auto_1) : ZT X e (tB t) := ⟨pt_val h1.to h2⟩
theorem zpw_and1 {X : Cx} {a : Expr} {pos : Pos} {tA : TT} (h1 : ZT X a tA) : ZW X (Expr.BoolOp BoolOp.And [a] pos) tA := ⟨pw_and1 h1.to⟩
theorem zpw_or1 {X : Cx} {a : Expr} {pos : Pos} {tA : TT} (h1 : ZT X a tA) : ZW X (Expr.BoolOp BoolOp.Or [a] pos) tA := ⟨pw_or1 h1.to⟩
theorem zpw_and {X : Cx} {a b : Expr} {pos : Pos} {tA tB' : TT} {rest : List Expr} (h1 : ZT X a tA) (h2 : ZW X (Expr.BoolOp BoolOp.And (b :: rest) pos) tB') : ZW X (Expr.BoolOp BoolOp.And (a :: b :: rest) pos) (tAnd tA tB') := ⟨pw_and h1.to h2.to⟩
theorem zpw_or {X : Cx} {a b : Expr} {pos : Pos} {tA tB' : TT} {rest : List Expr} (h1 : ZT X a tA) (h2 : ZW X (Expr.BoolOp BoolOp.Or (b :: rest) pos) tB') : ZW X (Expr.BoolOp BoolOp.Or (a :: b :: rest) pos) (tOr tA tB') := ⟨pw_or h1.to h2.to⟩
theorem zpe_call {X : Cx} {CX : CXT} {k : Nat} {f : Addr} {fd : FuncData} {ps : List Str} {sp : Sp} {dvs : List V} {ds : List Value} {E : XK} {x : Str} {p pos : Pos} {e : Expr} {es : List Expr} {t : TA} (h1 : FnOk (Cx.prog X) (Cx.w X) (Cx.K X) (Cx.mg X) (Cx.base X) CX k f fd ps sp) (h2 : Room k (Cx.A X)) (h3 : Gl X x) (h4 : Cx.mg X x = some (Value.ref f)) (h5 : W.keepIn (Cx.K X) (Value.ref f) = true) (h6 : Binds (Cx.K X) fd ps ds) (h7 : Vals dvs ds) (h8 : Passes CX X E) (h9 : ZA X (e :: es) t) (h10 : autoParam ((x == Str.ofString "__debug__") = false) pe_call._auto_1) (h11 : autoParam (starEach (e :: es) (Cx.env X) = (false, eval e (Cx.env X)) :: starEach es (Cx.env X))
                          pe_call._auto_2) (h12 : autoParam
                            ((List.any (backTo pos (starEach es (Cx.env X))) fun (x : Bool × Sem Value) => Prod.fst x) =
                              false)
                            pe_call._auto_3) : ZE X (Expr.Call (Expr.Name x p) (e :: es) [] pos) (tCall sp dvs E t) := ⟨pe_call h1 h2 h3 h4 h5 h6 h7 h8 h9.to h10 h11 h12⟩
theorem zpe_callTy {X : Cx} {x : Str} {p pos : Pos} {e : Expr} {es : List Expr} {t : TA} {T : String} {r : List V → Hp → VK → Prop} (h1 : CallR X (Value.type T) r) (h2 : Gl X x) (h3 : Cx.mg X x = none) (h4 : bootBuiltins x = some (Value.type T)) (h5 : ZA X (e :: es) t) (h6 : autoParam (x ≠ Str.ofString "__name__") pe_callTy._auto_1) (h7 : autoParam ((x == Str.ofString "__debug__") = false) pe_callTy._auto_2) (h8 : autoParam (starEach (e :: es) (Cx.env X) = (false, eval e (Cx.env X)) :: starEach es (Cx.env X))
                    pe_callTy._auto_3) (h9 : autoParam
                      ((List.any (backTo pos (starEach es (Cx.env X))) fun (x : Bool × Sem Value) => Prod.fst x) =
                        false)
                      pe_callTy._auto_4) : ZE X (Expr.Call (Expr.Name x p) (e :: es) [] pos) (tCB r t) := ⟨pe_callTy h1 h2 h3 h4 h5.to h6 h7 h8 h9⟩
theorem zpe_callB {X : Cx} {x : Str} {p pos : Pos} {e : Expr} {es : List Expr} {t : TA} {id : String} {r : List V → Hp → VK → Prop} (h1 : CallR X (Value.builtin id) r) (h2 : Gl X x) (h3 : Cx.mg X x = none) (h4 : bootBuiltins x = some (Value.builtin id)) (h5 : ZA X (e :: es) t) (h6 : autoParam (x ≠ Str.ofString "__name__") pe_callB._auto_1) (h7 : autoParam ((x == Str.ofString "__debug__") = false) pe_callB._auto_2) (h8 : autoParam (starEach (e :: es) (Cx.env X) = (false, eval e (Cx.env X)) :: starEach es (Cx.env X))
                    pe_callB._auto_3) (h9 : autoParam
                      ((List.any (backTo pos (starEach es (Cx.env X))) fun (x : Bool × Sem Value) => Prod.fst x) =
                        false)
                      pe_callB._auto_4) : ZE X (Expr.Call (Expr.Name x p) (e :: es) [] pos) (tCB r t) := ⟨pe_callB h1 h2 h3 h4 h5.to h6 h7 h8 h9⟩
theorem zpe_bm {X : Cx} {o e : Expr} {es : List Expr} {to : TE} {t : TA} {name : Str} {apos cpos : Pos} {T id : String} {r : V → List V → Hp → VK → Prop} (h1 : PlainAttrs T) (h2 : Slot T name id) (h3 : typeOf (Value.builtin id) = pure (Value.type "method_descriptor")) (h4 : MtR X id r) (h5 : ZE X o to) (h6 : ZA X (e :: es) t) (h7 : autoParam (attributeBase o name (Cx.env X) (eval o (Cx.env X)) = eval o (Cx.env X)) pe_bm._auto_1) (h8 : autoParam
                    ((((List.all (backTo cpos (starEach (e :: es) (Cx.env X))) fun (x : Bool × Sem Value) =>
                            !Prod.fst x) &&
                          List.all (backToKw cpos (keywordEach [] (Cx.env X))) fun (x : Option Str × Sem Value) =>
                            Option.isSome (Prod.fst x)) &&
                        decide
                          ((List.length (e :: es) + List.length ([] : List Keyword) + if List.isEmpty ([] : List Keyword) = true then 0 else 1) < 30)) =
                      true)
                    pe_bm._auto_2) (h9 : autoParam ((Pos.endLine apos == Pos.line cpos) = true) pe_bm._auto_3) (h10 : autoParam (starEach (e :: es) (Cx.env X) = (false, eval e (Cx.env X)) :: starEach es (Cx.env X))
                        pe_bm._auto_4) (h11 : autoParam
                          ((List.any (backTo cpos (starEach es (Cx.env X))) fun (x : Bool × Sem Value) => Prod.fst x) =
                            false)
                          pe_bm._auto_5) : ZE X (Expr.Call (Expr.Attribute o name apos) (e :: es) [] cpos) (tBM (Cx.K X) T r to t) := ⟨pe_bm h1 h2 h3 h4 h5.to h6.to h7 h8 h9 h10 h11⟩
theorem zps_ret {X : Cx} {e : Expr} {te : TE} {pos : Pos} (h1 : ZE X e te) : ZS X (Stmt.Return (some e) pos) (tRet te) := ⟨ps_ret h1.to⟩
theorem zps_expr {X : Cx} {e : Expr} {te : TE} {pos : Pos} (h1 : ZE X e te) (h2 : autoParam (swapsWith e none (Pos.line pos) (Cx.env X) = pure false) ps_expr._auto_1) : ZS X (Stmt.Expr e pos) (tDrop te) := ⟨ps_expr h1.to h2⟩
theorem zpsk_comp {X : Cx} {N : List Str} {osc : Scope} {elt target iter : Expr} {ifs : List Expr} {scope : Scope} {pos spos py : Pos} {wi : TI} {g : CB → TG} {tt : CB → TT} {te : CB → TE} {y : Str} (h1 : HC X N osc) (h2 : List.Nodup N) (i : Nat) (h3 : okL1 N osc i y = true) (xs : List Str) (idx : List Nat) (h4 : Cx.calm X = true) (h5 : csOk osc N scope idx = true) (h6 : ZI X target iter wi) (h7 : (∀ (c : CB),
                      HC (cxC X scope (xs ++ subN (Cx.N X) idx) c) (xs ++ subN N idx) (relabelS scope osc) →
                        ZG (cxC X scope (xs ++ subN (Cx.N X) idx) c) target (g c))) (h8 : (∀ (c : CB),
                        HC (cxC X scope (xs ++ subN (Cx.N X) idx) c) (xs ++ subN N idx) (relabelS scope osc) →
                          ZIfs (cxC X scope (xs ++ subN (Cx.N X) idx) c) ifs (tt c))) (h9 : (∀ (c : CB),
                          HC (cxC X scope (xs ++ subN (Cx.N X) idx) c) (xs ++ subN N idx) (relabelS scope osc) →
                            ZE (cxC X scope (xs ++ subN (Cx.N X) idx) c) elt (te c))) (h10 : swapsWith
                              (Expr.ListComp elt [{ target := target, iter := iter, ifs := ifs, is_async := 0 }] scope
                                pos)
                              (some (Expr.Name y py)) (Pos.line spos) (Cx.env X) =
                            pure true) (h11 : autoParam (∀ (x : Value), foldedSetIterable iter (Cx.env X) x = pure x) psk_comp._auto_1) : ZS X
                              (Stmt.Assign [Expr.Name y py]
                                (Expr.ListComp elt [{ target := target, iter := iter, ifs := ifs, is_async := 0 }] scope
                                  pos)
                                spos)
                              (tAsg (tComp wi (List.length xs) idx g tt te) (gName i)) := ⟨psk_comp h1 h2 i h3 xs idx h4 h5 h6.to (fun c z => (h7 c z).to) (fun c z => (h8 c z).to) (fun c z => (h9 c z).to) h10 h11⟩
theorem zpsk_set {X : Cx} {N : List Str} {sc : Scope} {x : Str} {pos : Pos} {e : Expr} {te : TE} {pos' : Pos} (h1 : HC X N sc) (h2 : List.Nodup N) (h3 : (∀ (x : Str), Cx.fn X x = true)) (i : Nat) (h4 : okL N sc i x = true) (h5 : ZE X e te) (h6 : autoParam (swapsWith e (some (Expr.Name x pos')) (Pos.line pos) (Cx.env X) = pure false) psk_set._auto_1) : ZS X (Stmt.Assign [Expr.Name x pos'] e pos) (tAsg te (gName i)) := ⟨psk_set h1 h2 h3 i h4 h5.to h6⟩
theorem zps_dput {X : Cx} {o i value : Expr} {pos pos' : Pos} {td ty tv : TE} (h1 : Around.units (Cx.A X) + 1 < cLine) (h2 : ZE X o td) (h3 : ZE X i ty) (h4 : ZE X value tv) (h5 : swapsWith value (some (Expr.Subscript o i pos')) (Pos.line pos) (Cx.env X) = pure false) : ZS X (Stmt.Assign [Expr.Subscript o i pos'] value pos) (sDPut td ty tv) := ⟨ps_dput h1 h2.to h3.to h4.to h5⟩
theorem zps_asg {X : Cx} {pos : Pos} {tg e : Expr} {te : TE} {g : TG} (h1 : ZE X e te) (h2 : ZG X tg g) (h3 : autoParam (swapsWithSole [tg] e (Pos.line pos) (Cx.env X) = pure false) ps_asg._auto_1) (h4 : autoParam (swappedStores [tg] e (Cx.env X) = pure none) ps_asg._auto_2) (h5 : autoParam
              (List.map (fun (x : Bool × (Value → Sem Unit)) => Prod.snd x) (assignEach [tg] (Cx.env X)) =
                [assign tg (Cx.env X)])
              ps_asg._auto_3) : ZS X (Stmt.Assign [tg] e pos) (tAsg te g) := ⟨ps_asg h1.to h2.to h3 h4 h5⟩
theorem zpg_sub {X : Cx} {pos : Pos} {o i : Expr} {to ti : TE} {t : TSet} (h1 : ZE X o to) (h2 : ZE X i ti) (h3 : PSet X t) (h4 : autoParam
            (∀ (v : Value),
              assign (Expr.Subscript o i pos) (Cx.env X) v = do
                let ov ← holding [v] (eval o (Cx.env X))
                let iv ← holding [v, ov] (eval i (Cx.env X))
                standAt pos
                holding [v, ov, iv] (setItem ov iv v)
                release [v, ov, iv] [])
            pg_sub._auto_1) : ZG X (Expr.Subscript o i pos) (gSub to ti t) := ⟨pg_sub h1.to h2.to h3 h4⟩
theorem zps_augS {X : Cx} {pos : Pos} {o i e : Expr} {to ti te : TE} {tget : V → V → Hp → VK → Prop} {tip : TIp} {tset : TSet} {op : Operator} {tpos : Pos} (h1 : ZE X o to) (h2 : ZE X i ti) (h3 : PGet X tget) (h4 : ZE X e te) (h5 : PIp X op tip) (h6 : PSet X tset) (h7 : autoParam
                  (∀ (ov iv new : Value),
                    augStore i ov iv new = do
                      holding [new, ov, iv] (setItem ov iv new)
                      release [new, ov, iv] []
                      pure Flow.next)
                  ps_augS._auto_1) : ZS X (Stmt.AugAssign (Expr.Subscript o i tpos) op e pos) (tAugS to ti te tget tip tset) := ⟨ps_augS h1.to h2.to h3 h4.to h5 h6 h7⟩
theorem zqs_if {X : Cx} {t u : TS} {pos : Pos} {c : Expr} {a b : List Stmt} {tc : TT} (h1 : ZT X c tc) (h2 : ZSs X a t) (h3 : ZSs X b u) : ZS X (Stmt.If c a b pos) (tIfS tc t u) := ⟨qs_if h1.to (.of h2.to) (.of h3.to)⟩
theorem zqs_while {X : Cx} {pos : Pos} {c : Expr} {body : List Stmt} {tc : TT} {tb : TS} (h1 : PassesOwn (model (Cx.prog X) (Cx.w X)) (Cx.A X) (Cx.env X) (Cx.xe X)) (h2 : ZT X c tc) (h3 : ZSs X body tb) : ZS X (Stmt.While c body [] pos) (tWhile tc tb) := ⟨qs_while h1 h2.to (.of h3.to)⟩
theorem zpgk {X : Cx} {N : List Str} {sc : Scope} {x : Str} {pos : Pos} (h1 : HC X N sc) (h2 : List.Nodup N) (h3 : (∀ (x : Str), Cx.fn X x = true)) (i : Nat) (h4 : okL N sc i x = true) : ZG X (Expr.Name x pos) (gName i) := ⟨pgk h1 h2 h3 i h4⟩
theorem zqs_for {X : Cx} {pos : Pos} {tg iter : Expr} {body : List Stmt} {wi : TI} {g : TG} {tb : TS} (h1 : PassesOwn (model (Cx.prog X) (Cx.w X)) (Cx.A X) (Cx.env X) (Cx.xe X)) (h2 : Cx.calm X = true) (h3 : ZI X tg iter wi) (h4 : ZG X tg g) (h5 : ZSs X body tb) (h6 : autoParam (∀ (x : Value), foldedSetIterable iter (Cx.env X) x = pure x) qs_for._auto_1) : ZS X (Stmt.For tg iter body [] pos) (tFor wi g tb) := ⟨qs_for h1 h2 h3.to h4.to (.of h5.to) h6⟩
theorem zqss_nil {X : Cx} : ZSs X [] tNext := ⟨QSs.to qss_nil⟩
theorem zqss_one {X : Cx} {st : Stmt} {t : TS} (h1 : ZS X st t) : ZSs X [st] t := ⟨QSs.to (qss_one h1.to)⟩
theorem zqss_cons {X : Cx} {st : Stmt} {rest : List Stmt} {t u : TS} (h1 : ZS X st t) (h2 : ZSs X rest u) : ZSs X (st :: rest) (tSeq t u) := ⟨QSs.to (qss_cons h1.to (.of h2.to))⟩
theorem zqss_cut {X : Cx} {st : Stmt} {rest : List Stmt} {t u : TS} (h1 : ZS X st t) (h2 : ZSs X rest u) : ZSs X (st :: rest) (tCut t u) := ⟨QSs.to (qss_cut h1.to (.of h2.to))⟩
theorem Fun.okZ {P : Program} {w : World} {K : PySem.W.Frag} {mg : Str → Option Value} {base : Heap} {x qual : Str} {st : Stmt} {f : Addr} {fd : FuncData} {N ps : List Str} {k : Nat} {sp : Sp} (F : Fun K x qual st f fd) (S : FnScope N ps (defScope st)) (len : ∀ vs H Q E, sp vs H Q E → vs.length = ps.length)
    (hbody : ∀ (cdv : Value) (A : Around) (outer : List Env) (s : Shared) (H : Hp) (vs : List V) (Q : VK) (E : XK), Room k (A.deeper (envOfC qual (defScope st) s.heap.objs.size f cdv)) → sp vs H Q E →
      HC (cxOf CX0 P w K mg base N qual (defScope st) f cdv A outer s H E).nox N (defScope st) → (∀ x, (cxOf CX0 P w K mg base N qual (defScope st) f cdv A outer s H E).nox.fn x = true) →
      ∃ t, ZSs (cxOf CX0 P w K mg base N qual (defScope st) f cdv A outer s H E).nox (defBody st) t ∧ t { nx := fun _ H' => Q .non H', rt := Q } (start N vs) H) : FnOk P w K mg base CX0 (k + 1) f fd ps sp :=
  F.okK S len fun cdv A outer s H vs Q E hr h hc hf => let ⟨t, h1, h2⟩ := hbody cdv A outer s H vs Q E hr h hc hf; ⟨t, .of h1.to, h2⟩
end L2
end

section
set_option Elab.async false
set_option linter.all false
set_option maxRecDepth 100000
namespace L2
open PySem PySem.Spec PyProof.Rows
/-! ### sets of texts: whether a table is plain, whether its maker was led -/
def byT (w : World) : Bool := w.params.followText "set-order"
theorem lay_led (t : SetTable) (es : Array (Int × Value)) (h : Int) (x : Value) : (layNew t es h x).2.1.led = t.led := by
  unfold layNew
  split
  · dsimp only; unfold SetTable.orStandIn
    split <;> rfl
  · rfl
theorem laid_led {mask finger moves : Nat} {led plain : Bool} {hs : Array Int} {t' : SetTable} {o : Array Nat} (h : SetTable.laid mask finger moves led plain hs = some (t', o)) : t'.led = led ∧ t'.plain = plain := by
  unfold SetTable.laid at h
  cases q : SetTable.layClean mask hs with
  | none => rw [q] at h; cases h
  | some owner => rw [q] at h; cases h; exact ⟨rfl, rfl⟩
theorem relay_led (t : SetTable) (es : Array (Int × Value)) (k : Nat) : (relayAll t es k).2.1.led = t.led := by
  unfold relayAll
  split
  · rename_i t' o q
    dsimp only
    split
    · exact (laid_led q).1
    · rfl
  · rfl
/-- the members of a set's table, as texts -/
def entS (w : World) (p : Str × Tok) : Int × Value := (hashStr w p.1, .str p.1 p.2)
def sObj (es : Array (Int × Value)) (ep : Nat) (t : SetTable) : Obj := { cls := .type "set", dict := none, data := .set es ep t }
/-- the set at a holds just the texts of l -/
structure SetT (w : World) (h : Heap) (a : Addr) (l : List (Str × Tok)) : Prop where
  ex : ∃ es ep t, h.get? a = some (sObj es ep t) ∧ es.toList = l.map (entS w) ∧ t.fits es.size = true ∧ t.led = !byT w ∧ (l ≠ [] → t.plain = false)
  nd : (l.map (·.1)).Nodup
  sz : l.length < scanBound
theorem SetT.at {w : World} {h h' : Heap} {a : Addr} {l : List (Str × Tok)} (x : SetT w h a l) (k : ∀ o, h.get? a = some o → h'.get? a = some o) : SetT w h' a l :=
  ⟨let ⟨es, ep, t, e, r⟩ := x.ex; ⟨es, ep, t, k _ e, r⟩, x.nd, x.sz⟩
section
variable {P : Program} {w : World} {A : Around} {E : Value → Shared → Prop} {s : Shared} {a : Addr} {l : List (Str × Tok)}
end
end L2
end

section
set_option Elab.async false
set_option linter.all false
set_option maxRecDepth 100000
namespace L2
open PySem PySem.Spec PyProof.Rows
section
variable {P : Program} {w : World} {A : Around} {R : Result → Shared → Prop} {I : Addr} {fp wr : List Addr} {G : Array GenState → Array GenState → Prop} {n : Nat} {Pv : Nat → Value → Prop} {St : Nat → Shared → Prop}
end
section
variable {P : Program} {w : World} {A : Around} {E : Value → Shared → Prop} {s : Shared}
set_option maxHeartbeats 3200000 in
end
end L2
end

section
set_option Elab.async false
set_option linter.all false
set_option maxRecDepth 100000
namespace L2
open PySem PySem.Spec PyProof.Rows
/-! ### a set's walk -/
end L2
end

section
set_option Elab.async false
set_option linter.all false
set_option maxRecDepth 100000
namespace L2
open PySem PySem.Spec PyProof.Rows
section
variable {P : Program} {w : World} {A : Around} {E : Value → Shared → Prop} {s : Shared} {a I : Addr} {es : Array (Int × Value)} {t : SetTable} {ep i n : Nat} {first : Value}
end
end L2
end

section
set_option Elab.async false
set_option linter.all false
set_option maxRecDepth 100000
namespace L2
open PySem PySem.Spec PyProof.Rows
/-! ### drawn rows are rows of the same things -/
section
variable {P : Program} {w : World} {A : Around} {E : Value → Shared → Prop}
variable {s : Shared} {a : Addr} {es : Array (Int × Value)} {t : SetTable} {ep slot i : Nat}
end
end L2
end

section
set_option Elab.async false
set_option linter.all false
set_option maxRecDepth 100000
namespace L2
open PySem PySem.Spec PyProof.Rows
section
variable {P : Program} {w : World} {B : Around} {a I : Addr} {es : Array (Int × Value)} {t : SetTable} {ep n : Nat} {ord : List Value}
end
section
variable {P : Program} {w : World} {A : Around} {E : Value → Shared → Prop} {s : Shared} {a : Addr} {l : List (Str × Tok)}
theorem SetT.typeIs (S : SetT w s.heap a l) : s.TypeIs (.ref a) "set" := let ⟨_, _, _, e, _⟩ := S.ex; ⟨_, e, rfl⟩
end
end L2
end

section
set_option Elab.async false
set_option linter.all false
set_option maxRecDepth 100000
namespace L2
open PySem PySem.Spec PyProof.Rows
section
variable {P : Program} {w : World} {A : Around} {E : Value → Shared → Prop} {s : Shared} {a : Addr} {l : List (Str × Tok)}
set_option maxHeartbeats 2000000 in
/-- sorted(x), where x gives texts -/
theorem sorted_by {x : Value} {us : List Str} {Q : Value → Shared → Prop} (h64 : us.length < 64)
    (hc : ∀ (Q' : List Value → Shared → Prop), (∀ (s' : Shared) (vs : List Value) (ts : List Str), (∀ b o, s.heap.get? b = some o → s'.heap.get? b = some o) → s.heap.objs.size ≤ s'.heap.objs.size → s'.gens = s.gens → s'.os = s.os → StrsAre vs ts → ts.Perm us → Q' vs s') → wpAny (model P w) A.in1 (collect x) Q' E s)
    (q : ∀ (s' : Shared) (D c : Nat) (vs : List Value) (ss : List Str), (∀ b o, s.heap.get? b = some o → s'.heap.get? b = some o) → s.heap.objs.size ≤ D → s'.gens = s.gens → s'.os = s.os → s'.heap.get? D = some { cls := .type "list", data := .seq vs.toArray c } → StrsAre vs ss →
      ss.Perm us → sortedS ss = true → Q (.ref D) s') : wpAny (model P w) A (call (.builtin "sorted") [x]) Q E s := by
  refine Calls.call_function_entry kind_sorted plain_sorted entry_sorted (args_sorted1 _) ?_
  unfold Builtin.«sorted»
  refine wpAny_bind (m := checkCount "sorted" 1 1 _) (wpAny_pure ?_)
  refine wpAny_bind (hc _ fun s1 vs ts k1 old g1 o1 hts pts => ?_)
  have hl : vs.length = us.length := by rw [hts.length, pts.length_eq]
  refine wpAny_bind (wpAny_newList ?_ (by rw [hl]; exact small1000' (by omega)))
  have hoL : (s1.heap.push (seqObj "list" vs.toArray 0)).get? s1.heap.objs.size = some (seqObj "list" vs.toArray 0) := Heap.get?_push_size _ rfl
  refine wpAny_bind (wpAny_holding (wpAny_call_entry slot_list_sort ⟨_, hoL, rfl⟩ entry_list_sort (list_sort_treeK strKind_oneLt hoL hts.keysOf (fun v₁ v₂ rest e => keyKind_strs (by rw [← e]; exact hts)) (by omega) fun st' a1 a2 => ⟨_, rfl, ?_⟩) (args_list_sort _)))
  obtain ⟨ss', e1, e2, e3⟩ := sorted_out_str hts a1 a2
  obtain ⟨c, hc⟩ := sortedHeap_at (out := (arrOf st').map (·.2)) hoL
  refine wpAny_pure ⟨_, rfl, q _ s1.heap.objs.size c ((arrOf st').map (·.2)).toList ss' (fun b o e => ?_) old g1 o1 (by rw [hc]) e1 (e2.trans pts) e3⟩
  have lt := Heap.lt_size (k1 b o e)
  show (sortedHeap _ _ _ _).get? b = some o
  rw [sortedHeap_old (Nat.ne_of_lt lt) (by rw [size_push']; exact Nat.lt_succ_of_lt lt)]
  exact Heap.get?_push_of_some _ (k1 b o e)
end
theorem Inv.same {X : Cx} {pins : List (Addr × Obj)} {σ : List (Option V)} {H : Hp} {s s' : Shared} (I : Inv X pins σ H s) (hh : s'.heap = s.heap) (hg : s'.gens = s.gens) (ho : s'.os = s.os) : Inv X pins σ H s' :=
  ⟨I.ok, by rw [ho]; exact I.os, by rw [hg]; exact I.bare, by rw [hh]; exact I.base, by rw [hh]; exact I.loc, by rw [hh]; exact I.cell, I.free, I.freeC, by rw [hh]; exact I.pin, by rw [hh]; exact I.hok, I.len⟩
/-- the set at p holds just these texts -/
def TxS (w : World) (p : Addr) (ss : List Str) : HO := .ext fun h => ∃ l, SetT w h p l ∧ ∀ z, z ∈ l.map (·.1) ↔ z ∈ ss
section
variable {X : Cx}
end
end L2
end

section
set_option Elab.async false
set_option linter.all false
set_option maxRecDepth 100000
set_option maxHeartbeats 4000000
/-! ## mathematics of texts -/
namespace L2
open PySem PySem.Spec PyProof.Rows
theorem cutS_to (z : Str) {v : Int} (h : 0 ≤ v) : (cutS z none (some v)).cps.toList = z.cps.toList.take v.toNat := by
  have hl : z.cps.toList.length = z.length := by simp [Str.length]
  unfold cutS
  have e : HT.sIx z.length z.length (some v) = min v.toNat z.length := by
    show (if v < 0 then _ else min v.toNat z.length) = _
    rw [if_neg (by omega)]
  rw [e]
  show (List.take (min v.toNat z.length - 0) (List.drop 0 z.cps.toList)) = _
  rw [List.drop_zero, Nat.sub_zero, ← hl]
  by_cases hv : v.toNat ≤ z.cps.toList.length
  · rw [Nat.min_eq_left hv]
  · rw [Nat.min_eq_right (by omega), List.take_length, List.take_of_length_le (by omega)]
theorem cutS_from (z : Str) {v : Int} (h : 0 ≤ v) : (cutS z (some v) none).cps.toList = z.cps.toList.drop v.toNat := by
  have hl : z.cps.toList.length = z.length := by simp [Str.length]
  unfold cutS
  have e : HT.sIx z.length 0 (some v) = min v.toNat z.length := by
    show (if v < 0 then _ else min v.toNat z.length) = _
    rw [if_neg (by omega)]
  rw [e]
  show (List.take (z.length - min v.toNat z.length) (List.drop (min v.toNat z.length) z.cps.toList)) = _
  rw [← hl]
  by_cases hv : v.toNat ≤ z.cps.toList.length
  · rw [Nat.min_eq_left hv, List.take_of_length_le (by rw [List.length_drop] <;> omega)]
  · rw [Nat.min_eq_right (by omega), Nat.sub_self, List.take_zero, List.drop_eq_nil_of_le (by omega)]
theorem len_cps (z : Str) : z.cps.toList.length = z.length := by simp [Str.length]
theorem app_cps (x y : Str) : (x ++ y).cps.toList = x.cps.toList ++ y.cps.toList := by
  show (x.cps ++ y.cps).toList = _
  simp
theorem glued_cps {g : Str} (hg : g.cps = #[]) : ∀ ss : List Str, (Txt.join g ss).cps.toList = (ss.map fun z => z.cps.toList).flatten := by
  have go : ∀ (l : List Str) (acc : Array Nat), (l.foldl (fun acc p => acc ++ g.cps ++ p.cps) acc).toList = acc.toList ++ (l.map fun z => z.cps.toList).flatten := by
    intro l
    induction l with
    | nil => intro acc; simp
    | cons z l ih => intro acc; rw [List.foldl_cons, ih, hg]; simp
  intro ss
  show ((ss.drop 1).foldl (fun acc p => acc ++ g.cps ++ p.cps) (ss.headD Str.empty).cps).toList = _
  cases ss with
  | nil => rfl
  | cons z l => rw [go]; simp
theorem joinOk_of {sep : Str} {ss : List Str} {L n : Nat} (h : ∀ z ∈ ss, z.length ≤ L) (hn : ss.length ≤ n) (hb : n * (L + sep.length) ≤ 16000000) : JoinOk sep ss = true := by
  have go : ∀ (l : List Str) (a : Nat), (∀ z ∈ l, z.length ≤ L) → l.foldl (fun a x => a + x.length + sep.length) a ≤ a + l.length * (L + sep.length) := by
    intro l
    induction l with
    | nil => intro a _; simp
    | cons z l ih =>
      intro a hz
      have h1 := ih (a + z.length + sep.length) (fun y hy => hz y (List.mem_cons_of_mem _ hy))
      have h2 := hz z List.mem_cons_self
      rw [List.foldl_cons, List.length_cons, Nat.add_mul]
      omega
  unfold JoinOk
  have e : ss.toArray.foldl (fun a x => a + x.length + sep.length) 0 = ss.foldl (fun a x => a + x.length + sep.length) 0 := by simp
  rw [e]
  have h1 := go ss 0 h
  have h2 : ss.length * (L + sep.length) ≤ n * (L + sep.length) := Nat.mul_le_mul_right _ hn
  have : ¬ (ss.foldl (fun a x => a + x.length + sep.length) 0 > sizeLine) := by rw [sizeLine_eq]; omega
  unfold Builtin.Str.tooLong
  rw [decide_eq_false this]; rfl
/-- a name: one to eight small letters -/
def Nm (s : Str) : Prop := 1 ≤ s.length ∧ s.length ≤ 8 ∧ ∀ c ∈ s.cps.toList, 97 ≤ c ∧ c ≤ 122
theorem letters_at : ∀ n : Nat, n < 26 → (Str.ofString "abcdefghijklmnopqrstuvwxyz").cps.toList[n]? = some (97 + n) := by decide +kernel
theorem atI_letters {i : Int} (h0 : 0 ≤ i) (h : i < 26) : atI (Str.ofString "abcdefghijklmnopqrstuvwxyz").cps.toList i = some (97 + i.toNat) := by
  have ei : i = ((i.toNat : Nat) : Int) := by omega
  have q : atI (Str.ofString "abcdefghijklmnopqrstuvwxyz").cps.toList ((i.toNat : Nat) : Int) = some (97 + i.toNat) := atI_nat (letters_at i.toNat (by omega))
  rwa [← ei] at q
def lits : List Str := ["is", "not", "and", "or", "then", "same", "yes", "no", "say", "fix", "isa", "nota", "a"].map Str.ofString
theorem lits_nodup : lits.Nodup := by decide +kernel
theorem lits_len : lits.length = 13 := rfl
theorem lits_nm : ∀ s ∈ lits, Nm s := by
  have : ∀ s ∈ lits, (decide (1 ≤ s.length) && decide (s.length ≤ 8) && s.cps.toList.all fun c => decide (97 ≤ c) && decide (c ≤ 122)) = true := by decide +kernel
  intro s hs
  have h := this s hs
  rw [Bool.and_eq_true, Bool.and_eq_true] at h
  refine ⟨of_decide_eq_true h.1.1, of_decide_eq_true h.1.2, fun c hc => ?_⟩
  have := List.all_eq_true.mp h.2 c hc
  rw [Bool.and_eq_true] at this
  exact ⟨of_decide_eq_true this.1, of_decide_eq_true this.2⟩
theorem nodup_ix' {α : Type} {l : List α} (h : ∀ (i j : Nat) (x : α), i < j → l[i]? = some x → l[j]? = some x → False) : l.Nodup := by
  unfold List.Nodup
  rw [List.pairwise_iff_getElem]
  intro i j hi hj hij e
  exact h i j l[i] hij (List.getElem?_eq_getElem hi) (by rw [List.getElem?_eq_getElem hj, e])
/-- sorted texts -/
theorem sortedS_pw : ∀ {l : List Str}, sortedS l = true → l.Pairwise (fun a b => a.cps.toList ≤ b.cps.toList)
  | [], _ => .nil
  | x :: r, h => by
    have go : ∀ (r : List Str) (x : Str), risingS x r = true → (x :: r).Pairwise (fun a b => a.cps.toList ≤ b.cps.toList) := by
      intro r
      induction r with
      | nil => intro x _; exact .cons (fun _ h => nomatch h) .nil
      | cons y r ih =>
        intro x h
        have h' : (!ltCps y.cps.toList x.cps.toList && risingS y r) = true := h
        rw [Bool.and_eq_true, ltCps_eq] at h'
        have p := ih y h'.2
        have hxy : x.cps.toList ≤ y.cps.toList := by
          have : ¬ (y.cps.toList < x.cps.toList) := by simpa using h'.1
          exact List.not_lt.mp this
        refine .cons (fun z hz => ?_) p
        rcases List.mem_cons.mp hz with e | hz
        · rw [e]; exact hxy
        · exact List.le_trans hxy ((List.pairwise_cons.mp p).1 z hz)
    exact go r x h
theorem tyV_str (K : PySem.W.Frag) (z : Str) (H : Hp) : tyV K "str" (.str z) H = True := eq_true rfl
theorem nm_of {s : Str} {cs : List Nat} (e : s.cps.toList = cs) (h1 : 1 ≤ cs.length) (h2 : cs.length ≤ 8) (h : ∀ c ∈ cs, 97 ≤ c ∧ c ≤ 122) : Nm s := by
  have := len_cps s
  rw [e] at this
  exact ⟨by omega, by omega, by rw [e]; exact h⟩
end L2
end

section
set_option Elab.async false
set_option linter.all false
set_option maxRecDepth 100000
namespace L2
open PySem PySem.Spec PyProof.Rows
section
variable {X : Cx}
def qSetS (w : World) : List V → Hp → VK → Prop := fun vs H Q => ∃ a, vs = [.ref a] ∧ ∃ ss : List Str, H a = some (.lst (ss.map V.str)) ∧ ss.length < 4000 ∧ ∀ p, H p = none → Q (.ref p) (upd H p (TxS w p ss))
def qSortSet (w : World) : List V → Hp → VK → Prop := fun vs H Q => ∃ a, vs = [.ref a] ∧ ∃ ss : List Str, H a = some (TxS w a ss) ∧ ss.length < 64 ∧
  ∀ ss' : List Str, (∀ z, z ∈ ss' ↔ z ∈ ss) → ss'.Nodup → sortedS ss' = true → ∀ p, H p = none → Q (.ref p) (upd H p (.lst (ss'.map V.str)))
/-- all(xs), a list of truths -/
def qAllB : List V → Hp → VK → Prop := fun vs H Q => ∃ a, vs = [.ref a] ∧ ∃ bs : List Bool, H a = some (.lst (bs.map V.bl)) ∧ Q (.bl (bs.all id)) H
theorem bools_at : ∀ {bs : List Bool} {us : List Value}, Vals (bs.map V.bl) us → ∀ (i : Nat) (v : Value), us[i]? = some v → v = .bool (bs.getD i true) := by
  intro bs
  induction bs with
  | nil => intro us r i v h; cases r; cases i <;> cases h
  | cons b bs ih =>
    intro us r i v h
    rw [List.map_cons] at r
    cases r with
    | cons r1 r2 =>
      cases r1
      cases i with
      | zero => cases h; rfl
      | succ i => exact ih r2 i v (by simpa using h)
theorem all_range : ∀ (bs : List Bool), ((List.range bs.length).all fun i => bs.getD i true) = bs.all id
  | [] => rfl
  | b :: bs => by
    rw [List.length_cons, List.range_succ_eq_map, List.all_cons, List.all_map, List.all_cons, ← all_range bs]
    rfl
theorem call_allB (hh : X.A.handled = none) : CallR X (.builtin "all") qAllB := by
  intro pins s σ H vs us Q I rv h
  obtain ⟨a, rfl, bs, hq, q⟩ := h
  obtain ⟨u, rfl, ru⟩ := vals1 rv
  cases ru
  obtain ⟨its, r, pl, hz⟩ := I.list (sqL_of hq)
  have hl := r.length
  rw [List.length_map] at hl
  have lt : a < s.heap.objs.size := let ⟨_, e, _⟩ := pl.isList; Heap.lt_size e
  refine call_all_walkS (wpAny_pyIter_list pl.isList ⟨s.heap.objs.size, _, _, _, its.toArray.size, _, _, fun i => bs.getD i true, rfl, (Walks.list (A := X.A.in1) hh _ a (Nat.ne_of_lt lt) its.toArray).toS, ⟨⟨_, Heap.get?_push_size _ rfl, rfl, rfl⟩, (pl.isList).push _⟩, ?_, fun s' mv => ?_⟩)
  · intro i v s1 Q1 E1 hv hq1
    have : v = .bool (bs.getD i true) := bools_at r i v (by simpa using hv)
    subst this
    exact wpAny_pure hq1
  · rw [List.size_toArray, ← hl, all_range]
    have k : ∀ b o, s.heap.get? b = some o → s'.heap.get? b = some o := fun b o e => mv.heap b o (fun z => absurd (Heap.lt_size e) (by rw [List.mem_singleton.mp z]; exact Nat.lt_irrefl _)) (Heap.get?_push_of_some _ e)
    have I1 : Inv X pins σ H { s with heap := s'.heap, toks := s.toks } := I.un (Un.kept k) (I.hok.kept k)
    exact ⟨.bl (bs.all id), H, I1.same rfl mv.gens mv.os, rfl, q⟩
end
end L2
end

section
set_option Elab.async false
set_option linter.all false
set_option maxRecDepth 100000
namespace L2
open PySem PySem.Spec PyProof.Rows
section
variable {P : Program} {w : World} {κ : Type} [DecidableEq κ] {knd : PySem.KeyKind P w κ} {A : Around} {E : Value → Shared → Prop} {s : Shared} {a b : Addr} {kvs kvs2 : List (κ × Value)}
end
section
variable {X : Cx}
/-- d == e, d != e: dicts of truths that are alike -/
def qEqD (neg : Bool) : R2 := fun x y H Q => ∃ a b, x = .ref a ∧ y = .ref b ∧ ∃ kvs, H a = some (.dK kvs) ∧ H b = some (.dK kvs) ∧ (∀ kv ∈ kvs, ∃ c, kv.2 = .bl c) ∧ Q (.bl (!neg)) H
/-- d.update(e) -/
def rUpdateD : V → List V → Hp → VK → Prop := fun x vs H Q => ∃ a b, x = .ref a ∧ vs = [.ref b] ∧ a ≠ b ∧ ∃ kvs, H a = some (.dK kvs) ∧ ∃ more, H b = some (.dK more) ∧ kvs.length + more.length ≤ sizeLine ∧ Q .non (upd H a (.dK (mergeK kvs more)))
end
end L2
end

section
set_option Elab.async false
set_option linter.all false
set_option maxRecDepth 100000
set_option maxHeartbeats 2000000
/-! ## Tuples of pairs of a text and a truth: == and != , in and not in -/
namespace L2
open PySem PySem.Spec PyProof.Rows
abbrev Cl := List (Str × Bool)
def LitAt (H : Hp) (q : Addr) (x : Str × Bool) : Prop := H q = some (.tup [.str x.1, .bl x.2])
def Lits (H : Hp) (qs : List Addr) (cl : Cl) : Prop := qs.length = cl.length ∧ ∀ (i : Nat) q x, qs[i]? = some q → cl[i]? = some x → LitAt H q x
def ClAt (H : Hp) (cl : Cl) (p : Addr) : Prop := ∃ qs : List Addr, H p = some (.tup (List.map V.ref qs)) ∧ Lits H qs cl
theorem Lits.nil {H : Hp} : Lits H [] [] := ⟨rfl, fun i q x e => by simp at e⟩
theorem Lits.mono {H H' : Hp} {qs : List Addr} {cl : Cl} (h : Lits H qs cl) (k : ∀ q xs, H q = some (.tup xs) → H' q = some (.tup xs)) : Lits H' qs cl := ⟨h.1, fun i q x e f => k _ _ (h.2 i q x e f)⟩
theorem ClAt.mono {H H' : Hp} {p : Addr} {cl : Cl} (h : ClAt H cl p) (k : ∀ q xs, H q = some (.tup xs) → H' q = some (.tup xs)) : ClAt H' cl p := let ⟨qs, e, l⟩ := h; ⟨qs, k _ _ e, l.mono k⟩
theorem Lits.at {H : Hp} {qs : List Addr} {cl : Cl} {i : Nat} {q : Addr} (h : Lits H qs cl) (e : qs[i]? = some q) : ∃ n b, cl[i]? = some (n, b) ∧ H q = some (.tup [.str n, .bl b]) := by
  have hi : i < cl.length := by rw [← h.1]; exact (List.getElem?_eq_some_iff.mp e).1
  have ec : cl[i]? = some (cl[i].1, cl[i].2) := List.getElem?_eq_getElem hi
  exact ⟨_, _, ec, h.2 i q _ e ec⟩
theorem Lits.snoc {H : Hp} {qs : List Addr} {cl : Cl} {q : Addr} {x : Str × Bool} (h : Lits H qs cl) (e : LitAt H q x) : Lits H (qs ++ [q]) (cl ++ [x]) := by
  refine ⟨by simp [h.1], fun i p y ep ey => ?_⟩
  by_cases hi : i < qs.length
  · rw [List.getElem?_append_left hi] at ep
    rw [List.getElem?_append_left (by rw [← h.1]; exact hi)] at ey
    exact h.2 i p y ep ey
  · have l := (List.getElem?_eq_some_iff.mp ep).1
    rw [List.length_append, List.length_singleton] at l
    have hi' : i = qs.length := by omega
    rw [hi', List.getElem?_append_right (Nat.le_refl _), Nat.sub_self] at ep
    rw [hi', h.1, List.getElem?_append_right (Nat.le_refl _), Nat.sub_self] at ey
    cases ep
    cases ey
    exact e
section
variable {X : Cx} {pins : List (Addr × Obj)} {s : Shared} {σ : St} {H : Hp} {A : Around}
theorem vals_at {xs : List V} {us : List Value} {j : Nat} {x : V} (r : Vals xs us) (h : j < us.toArray.size) (e : xs[j]? = some x) : RelV x us.toArray[j] := by
  have h' : j < us.length := by simpa using h
  obtain ⟨u, eu, ru⟩ := r.get e
  have := List.getElem?_eq_getElem h'
  rw [eu] at this
  have e1 : us.toArray[j] = u := by simpa using (Option.some.inj this).symm
  rw [e1]; exact ru
theorem eq_lit {p q : Addr} {x y : Str × Bool} (I : Inv X pins σ H s) (hp : LitAt H p x) (hq : LitAt H q y) (hu : A.units < cLine) : SeqAt.EqAt A s (.ref p) (.ref q) (decide (x = y)) := by
  by_cases e : p = q
  · subst e
    have : x = y := by
      have h := hp.symm.trans hq
      simp only [Option.some.injEq, HO.tup.injEq, List.cons.injEq, V.str.injEq, V.bl.injEq, and_true] at h
      exact Prod.ext h.1 h.2
    rw [decide_eq_true this]
    exact SeqAt.EqAt.same _
  · obtain ⟨us, r1, t1, _⟩ := I.tuple (sqT_of hp)
    obtain ⟨ws, r2, t2, _⟩ := I.tuple (sqT_of hq)
    have l1 := r1.length
    have l2 := r2.length
    have s1 : us.toArray.size = 2 := by simpa using l1.symm
    have s2 : ws.toArray.size = 2 := by simpa using l2.symm
    have h := SeqAt.RcAt.tuples (A := A) (e := fun j => if j = 0 then x.1 == y.1 else x.2 == y.2) t1 t2 hu fun j h1 h2 => by
      match j, h1, h2 with
      | 0, h1, h2 => exact eqAt_V (vals_at (x := .str x.1) r1 h1 rfl) (vals_at (x := .str y.1) r2 h2 rfl) rfl rfl
      | 1, h1, h2 => exact eqAt_V (vals_at (x := .bl x.2) r1 h1 rfl) (vals_at (x := .bl y.2) r2 h2 rfl) rfl rfl
      | j + 2, h1, h2 => omega
    rw [s1, s2] at h
    have e2 : ((List.range (min 2 2)).all (fun j => if j = 0 then x.1 == y.1 else x.2 == y.2) && 2 == 2) = decide (x = y) := by
      have : List.range (min 2 2) = [0, 1] := rfl
      rw [this]
      obtain ⟨x1, x2⟩ := x
      obtain ⟨y1, y2⟩ := y
      rw [Bool.eq_iff_iff]
      simp
    rw [e2] at h
    exact .of_refs e h
theorem all_lits {cl dl : Cl} : ((List.range (min cl.length dl.length)).all (fun j => decide (cl[j]? = dl[j]?)) && cl.length == dl.length) = decide (cl = dl) := by
  rw [Bool.eq_iff_iff, Bool.and_eq_true, List.all_eq_true, decide_eq_true_iff, beq_iff_eq]
  constructor
  · rintro ⟨h, l⟩
    apply List.ext_getElem? 
    intro i
    by_cases hi : i < cl.length
    · exact of_decide_eq_true (h i (List.mem_range.mpr (by omega)))
    · rw [List.getElem?_eq_none (by omega), List.getElem?_eq_none (by omega)]
  · rintro rfl
    exact ⟨fun j _ => decide_eq_true rfl, rfl⟩
theorem eq_lits_items {ps qs : List Addr} {us ws : List Value} {cl dl : Cl} (I : Inv X pins σ H s) (r1 : Vals (List.map V.ref ps) us) (r2 : Vals (List.map V.ref qs) ws) (a : Lits H ps cl) (b : Lits H qs dl) (hu : A.units < cLine) (j : Nat) (h1 : j < us.toArray.size) (h2 : j < ws.toArray.size) :
    SeqAt.EqAt A s us.toArray[j] ws.toArray[j] (decide (cl[j]? = dl[j]?)) := by
  have l1 := r1.length
  have l2 := r2.length
  rw [List.length_map] at l1 l2
  have j1 : j < ps.length := by rw [l1]; simpa using h1
  have j2 : j < qs.length := by rw [l2]; simpa using h2
  have e1 : ps[j]? = some ps[j] := List.getElem?_eq_getElem j1
  have e2 : qs[j]? = some qs[j] := List.getElem?_eq_getElem j2
  have k1 : j < cl.length := by rw [← a.1]; exact j1
  have k2 : j < dl.length := by rw [← b.1]; exact j2
  have c1 : cl[j]? = some cl[j] := List.getElem?_eq_getElem k1
  have c2 : dl[j]? = some dl[j] := List.getElem?_eq_getElem k2
  have v1 : us.toArray[j] = .ref ps[j] := vals_at (x := .ref ps[j]) r1 h1 (by rw [List.getElem?_map, e1]; rfl)
  have v2 : ws.toArray[j] = .ref qs[j] := vals_at (x := .ref qs[j]) r2 h2 (by rw [List.getElem?_map, e2]; rfl)
  have := eq_lit (A := A) I (a.2 j _ _ e1 c1) (b.2 j _ _ e2 c2) hu
  rw [v1, v2, c1, c2]
  have e3 : decide ((some cl[j] : Option (Str × Bool)) = some dl[j]) = decide (cl[j] = dl[j]) := by simp only [Option.some.injEq]
  rw [e3]; exact this
def qEqC (neg : Bool) : R2 := fun x y H Q => ∃ a b, x = .ref a ∧ y = .ref b ∧ ∃ cl dl, ClAt H cl a ∧ ClAt H dl b ∧ Q (.bl (if neg then !decide (cl = dl) else decide (cl = dl))) H
theorem op_eqC (hu : X.A.units + 1 < cLine) : OpR X (compareOp .Eq) (qEqC false) := by
  intro pins s σ H x y v u Q I rx ry h
  obtain ⟨a, b, rfl, rfl, cl, dl, ⟨ps, h1, a1⟩, ⟨qs, h2, a2⟩, q⟩ := h
  cases rx; cases ry
  obtain ⟨us, r1, t1, _⟩ := I.tuple (sqT_of h1)
  obtain ⟨ws, r2, t2, _⟩ := I.tuple (sqT_of h2)
  have l1 := r1.length
  have l2 := r2.length
  rw [List.length_map] at l1 l2
  refine SeqAt.eq_tupleAt (e := fun j => decide (cl[j]? = dl[j]?)) t1 t2 (by omega) (fun j h1 h2 => eq_lits_items I r1 r2 a1 a2 (by rw [Around.in1_units]; omega) j h1 h2) ⟨.bl _, H, I, rfl, ?_⟩
  rw [List.size_toArray, List.size_toArray, ← l1, ← l2, a1.1, a2.1, all_lits]
  exact q
end
end L2
end

section
set_option Elab.async false
set_option linter.all false
set_option maxRecDepth 100000
set_option maxHeartbeats 2000000
/-! ## sorted(d), a dict whose keys are texts -/
namespace L2
open PySem PySem.Spec PyProof.Rows
section
variable {P : Program} {w : World} {A : Around} {E : Value → Shared → Prop} {s : Shared}
theorem collect_src {T : String} {r d : Addr} {n : Nat} {Pd : Nat → Value → Prop} {OK : Heap → Prop} {Q : List Value → Shared → Prop} (K : PySem.W.KdlSrc P w T r d n Pd OK) (hh : A.handled = none) (hok : OK s.heap) (hn : n ≤ sizeLine)
    (q : ∀ (s' : Shared) (vs : List Value), (∀ b o, s.heap.get? b = some o → s'.heap.get? b = some o) → s.heap.objs.size ≤ s'.heap.objs.size → s'.gens = s.gens → s'.os = s.os → vs.length = n → (∀ (j : Nat) v, vs[j]? = some v → Pd j v) → Q vs s') : wpAny (model P w) A (collect (.ref r)) Q E s := by
  have lt := K.there _ hok
  unfold collect
  refine wpAny_bind (wpAny_runValue (codeAny_builtin entry_proto_collect' ?_))
  rw [Around.under_plainId PySem.F.plain_proto_collect _]
  refine wpAny_bind (m := newList []) (wpAny_newObj_type ?_)
  refine wpAny_pure ⟨plainId_quiet PySem.F.plain_list_iadd _, codeAny_builtin entry_list_iadd' ?_⟩
  rw [Around.under_plainId PySem.F.plain_list_iadd _]
  let L0 : Obj := { cls := .type "list", data := .seq ([] : List Value).toArray }
  have k0 : ∀ b o, s.heap.get? b = some o → (s.heap.push L0).get? b = some o := fun b o e => Heap.get?_push_of_some _ e
  have hL : (s.heap.push L0).get? s.heap.objs.size = some L0 := Heap.get?_push_size _ rfl
  show wpAny _ A.in1 (Builtin.List.listExtendWith (.ref s.heap.objs.size) (.ref r) (.ref s.heap.objs.size)) _ _ { s with heap := s.heap.push L0 }
  let R0 : Result → Shared → Prop := fun r s' => match r with
    | .ok (.ret v) => wpAny (model P w) A (match v with
      | .ref a => do
        let o ← load a
        match o.data with
          | .seq xs _ => pure xs.toList
          | _ => unsupported "internal:collect"
      | _ => unsupported "internal:collect") Q E s'
    | .ok _ => False
    | .error e => E e s'
  refine PySem.W.kdl_extend (R := R0) (s := { s with heap := s.heap.push L0 }) K hh (K.keep _ _ hok fun b _ o e => k0 b o e) s.heap.objs.size (Nat.ne_of_gt lt.1) (Nat.ne_of_gt lt.2) _ 0 hL (fun h' tk acc c hk hS hacc => ?_) hn
  refine wpAny_bind (m := load s.heap.objs.size) (wpAny_load hS (wpAny_pure ?_))
  exact q _ acc.toList (fun b o e => hk b o (Nat.ne_of_lt (Heap.lt_size e)) (k0 b o e)) (Nat.le_of_lt (Heap.lt_size hS)) rfl rfl (by rw [Array.length_toList]; exact hacc.1) fun j v e => hacc.2 j v (by rw [← Array.getElem?_toList]; exact e)
end
section
variable {X : Cx}
def qSortD : List V → Hp → VK → Prop := fun vs H Q => ∃ a, vs = [.ref a] ∧ ∃ kvs, H a = some (.dK kvs) ∧ ∃ ns : List Str, kvs.map (·.1) = ns.map Sum.inr ∧ ns.length < 64 ∧
  ∀ ss : List Str, ss.Perm ns → sortedS ss = true → ∀ p, H p = none → Q (.ref p) (upd H p (.lst (ss.map V.str)))
theorem keys_vals {kvs : List (Key × V)} {ws : List (Key × Value)} (rel : KV kvs ws) : ∀ {us : List Value}, us.length = ws.length → (∀ (j : Nat) v, us[j]? = some v → ∃ k x, ws[j]? = some (k, x) ∧ (mixKind X.prog X.w).is k v = true) → Vals (kvs.map fun kv => kV kv.1) us := by
  induction rel with
  | nil => intro us hl _; cases us with
    | nil => exact .nil
    | cons _ _ => cases hl
  | @cons p q ps qs h t ih =>
    intro us hl hv
    cases us with
    | nil => cases hl
    | cons u us =>
      refine .cons ?_ (ih (us := us) (by simpa using hl) fun j v e => by simpa using hv (j + 1) v (by simpa using e))
      obtain ⟨k, x, e1, e2⟩ := hv 0 u rfl
      have e1' : q = (k, x) := by simpa using e1
      show RelV (kV p.1) u
      rw [h.1, e1']
      rcases keyIs_shape e2 with ⟨i, t, rfl, rfl⟩ | ⟨y, t, rfl, rfl⟩
      · exact ⟨t, rfl⟩
      · exact ⟨t, rfl⟩
theorem call_sortD (hh : X.A.handled = none) : CallR X (.builtin "sorted") qSortD := by
  intro pins s σ H vs us Q I rv h
  obtain ⟨a, rfl, kvs, hq, ns, hk, hn, q⟩ := h
  obtain ⟨u, rfl, ru⟩ := vals1 rv
  cases ru
  obtain ⟨z, hd, ws, rel, dd⟩ := I.hok a _ hq
  obtain ⟨ep, hat⟩ := dd.dictAt
  have hlen : kvs.length = ws.length := KV.length rel
  have ek : (kvs.map fun kv => kV kv.1) = ns.map V.str := by
    have := congrArg (List.map kV) hk
    rw [List.map_map, List.map_map] at this
    exact this
  refine sorted_by (us := ns) hn (fun Q' hQ' => collect_src (A := X.A.in1) (PySem.W.kdl_dict (knd := mixKind X.prog X.w) (kvs := ws) (ep := ep) hd) hh hat (by rw [← hlen]; exact z) fun s' vs k z' g o hl hv => hQ' s' vs ns k z' g o (strsAre_of (by rw [← ek]; exact keys_vals rel hl hv)) (List.Perm.refl _)) fun s' D c vs ss' k z' g o hD hvs pss srt => ?_
  have hn' : H D = none := I.hok.fresh z'
  have I1 : Inv X pins σ (upd H D (.lst (ss'.map V.str))) { s with heap := s'.heap, toks := s.toks } := I.laid k z' ⟨by rw [List.length_map, pss.length_eq]; exact small1000' (by omega), vs, c, vals_strs hvs, hD⟩
  exact ⟨.ref D, _, I1.same rfl g o, rfl, q ss' pss srt _ hn'⟩
/-- d.get(name, other) -/
def rGetD : V → List V → Hp → VK → Prop := fun x vs H Q => ∃ a n d, x = .ref a ∧ vs = [.str n, d] ∧ ∃ kvs, H a = some (.dK kvs) ∧ Q ((valV kvs (Sum.inr n)).getD d) H
theorem mt_getD (hu : X.A.units + 1 < cLine) : MtR X "dict.get" rGetD := by
  intro pins s σ H x vs v us Q I rx rv h
  obtain ⟨a, n, d, rfl, rfl, kvs, hq, q⟩ := h
  cases rx
  obtain ⟨u1, u2, rfl, r1, r2⟩ := rv.two
  exact d_get2 hu I (DGet.k (k := Sum.inr n) hq) r1 r2 fun w' s' I' r => ⟨_, H, I', r, q⟩
end
end L2
end

section
set_option Elab.async false
set_option linter.all false
set_option maxRecDepth 100000
set_option maxHeartbeats 2000000
/-! ## A text walked sign by sign; ints of the module; a dict of the module that is only read -/
namespace L2
open PySem PySem.Spec PyProof.Rows
section
variable {X : Cx} {tg : Expr}
end
section
variable {X : Cx}
theorem zpe_glob {x : Str} {v : V} {u : Value} {pos : Pos} (hg : Gl X x) (hm : X.mg x = some u) (r : RelV v u) (hd : (x == ("__debug__" : Str)) = false := by decide) : ZE X (.Name x pos) (tC v) := ⟨pe_glob hg hm r hd⟩
end
end L2
end

section
set_option Elab.async false
set_option linter.all false
set_option maxRecDepth 100000
set_option maxHeartbeats 2000000
/-! ## A block over a tuple -/
namespace L2
open PySem PySem.Spec PyProof.Rows
theorem compAll_tup {K : PySem.W.Frag} {a : Addr} {zs : List V} {idx : List Nat} {tt : CB → TT} {te : CB → TE} {σ : St} {Q : VK} {H1 : Hp} (Pv : Addr → Nat → List V → Hp → Prop) (h0 : ∀ D, H1 D = none → Pv D 0 [] (upd H1 D (.lst [])))
    (hl : ∀ D, H1 D = none → ∀ i ys H, i ≤ zs.length → Pv D i ys H → H a = some (.tup zs))
    (hs : ∀ D, H1 D = none → ∀ i x ys H, zs[i]? = some x → Pv D i ys H → ∀ (c : CB), tt c (some x :: subS σ idx) H fun b H4 => if b = true then te c (some x :: subS σ idx) H4 fun y H5 => H5 D = some (.lst ys) ∧ ys.length < sizeLine ∧ Pv D (i + 1) (ys ++ [y]) (upd H5 D (.lst (ys ++ [y]))) else Pv D (i + 1) ys H4)
    (hd : ∀ D, H1 D = none → ∀ ys H, Pv D zs.length ys H → Q (.ref D) H) : CompAll (Itt K a) 1 idx (fun _ => gName 0) tt te σ Q H1 := by
  intro D hD
  refine ⟨fun i m ys H => m = zs.length - i ∧ i ≤ zs.length ∧ Pv D i ys H, ⟨zs.length, by simp, Nat.zero_le _, h0 D hD⟩, ?_⟩
  rintro i m ys H ⟨rfl, hi, p⟩
  by_cases hlt : i < zs.length
  · refine .inr ⟨⟨zs, zs[i], sqT_of (hl D hD i ys H hi p), List.getElem?_eq_getElem hlt⟩, Pv D (i + 1), fun ys' H' p' => ⟨zs.length - (i + 1), by omega, rfl, hlt, p'⟩, fun c own ho y H' yl => ?_⟩
    obtain ⟨e, hy⟩ := yl
    subst e
    have ey := hy zs (sqT_of (hl D hD i ys H' hi p))
    show (∃ own', own'.length = 1 ∧ (own ++ subS σ idx).set 0 _ = own' ++ subS σ idx) ∧ tt c ((own ++ subS σ idx).set 0 _) H' _
    rw [own1 ho]
    exact ⟨⟨[_], rfl, rfl⟩, hs D hD i y ys H' ey p c⟩
  · have e : i = zs.length := by omega
    subst e
    exact .inl ⟨⟨zs, sqT_of (hl D hD _ ys H hi p), Nat.le_refl _⟩, hd D hD ys H p⟩
section
variable {X : Cx}
end
end L2
end

section
set_option Elab.async false
set_option linter.all false
set_option maxRecDepth 100000
set_option maxHeartbeats 2000000
/-! ## is True, int(truth), a rule's tuple == ('is', name) -/
namespace L2
open PySem PySem.Spec PyProof.Rows
section
variable {X : Cx}
def qIsB (neg : Bool) : R2 := fun x y H Q => ∃ c d, x = .bl c ∧ y = .bl d ∧ Q (.bl (if neg then c != d else c == d)) H
end
end L2
end

section
set_option Elab.async false
set_option linter.all false
set_option maxRecDepth 100000
set_option maxHeartbeats 2000000
/-! ## tuples put together, said by what comes of it; a text's upper; range by steps -/
namespace L2
open PySem PySem.Spec PyProof.Rows
section
variable {X : Cx}
/-- () + u is u itself -/
theorem cat_tup0 {prog : Program} {w : World} {A : Around} {E : Value → Shared → Prop} {s : Shared} {t b : Addr} {ws : List Value} {Q : Value → Shared → Prop} (ht : IsTup s.heap t (([] : List Value)).toArray) (hb : IsTup s.heap b ws.toArray)
    (h1 : Q (.ref b) s) : wpAny (model prog w) A (binaryOp .Add (.ref t) (.ref b)) Q E s := by
  obtain ⟨⟨cls, dd, data, sl⟩, ho, hc, n, hd⟩ := id ht
  obtain ⟨⟨cls2, dd2, data2, sl2⟩, ho2, hc2, n2, hd2⟩ := id hb
  simp only at hc hd hc2 hd2
  subst hc hd hc2 hd2
  exact concat_meets ⟨_, ho, rfl⟩ ⟨_, ho2, rfl⟩ noFill_tuple_add seq_tuple_add PySem.F.slot_tuple_add PySem.F.entry_tuple_add (PySem.F.args_tuple_add_2 _ _)
      (tuple_addW0 t b _ ws.toArray n n2 dd dd2 sl sl2 rfl) ⟨ho, ho2, h1⟩
def qCatT : R2 := fun x y H Q => ∃ a b, x = .ref a ∧ y = .ref b ∧ ∃ xs, H a = some (.tup xs) ∧ ∃ ys, H b = some (.tup ys) ∧ xs.length + ys.length ≤ sizeLine ∧
  ∀ p H', Same H H' → (∀ c, c ≠ p → H' c = H c) → H' p = some (.tup (xs ++ ys)) → Q (.ref p) H'
theorem op_catTQ : OpR X (binaryOp .Add) qCatT := by
  intro pins s σ H x y v u Q I rx ry h
  obtain ⟨a, b, rfl, rfl, xs, ha, ys, hb, hz, q⟩ := h
  by_cases hx : xs = []
  · subst hx
    cases rx; cases ry
    obtain ⟨its, r1, p1, _⟩ := I.tuple (sqT_of ha)
    obtain ⟨its2, r2, p2, _⟩ := I.tuple (sqT_of hb)
    cases r1
    exact cat_tup0 p1 p2 ⟨.ref b, H, I, rfl, q b H (Same.refl H) (fun _ _ => rfl) hb⟩
  · exact op_catT pins s σ H _ _ v u Q I rx ry ⟨a, b, xs, ys, rfl, rfl, sqT_of ha, sqT_of hb, hx, hz, fun e => q a H (Same.refl H) (fun _ _ => rfl) (by rw [e, List.append_nil]; exact ha), fun _ p hp => q p _ (fun b u e => by rw [upd_ne (ne_of_none e hp)]; exact e) (fun c hc => upd_ne hc) upd_same⟩
end
end L2
end

section
set_option Elab.async false
set_option linter.all false
set_option maxRecDepth 100000
set_option maxHeartbeats 2000000
/-! ## a text's upper; range by steps -/
namespace L2
open PySem PySem.Spec PyProof.Rows
section
variable {X : Cx}
def Itst (lo st : Int) (n : Nat) : It := ⟨fun i _ => i < n, fun i H x H' => H' = H ∧ x = .int (lo + i * st), fun i _ => n ≤ i⟩
def iRng3 (ta : TA) : TI := fun σ H R => ta σ H fun vs H1 => ∃ i j : Int, vs = [.int i, .int j, .int 2] ∧ (0 ≤ i ∧ i ≤ 1000 ∧ -1 ≤ j ∧ j ≤ 1000) ∧ R (Itst i 2 ((j - i + 1) / 2).toNat) H1
end
end L2
end

section
set_option Elab.async false
set_option linter.all false
set_option maxRecDepth 100000
set_option maxHeartbeats 2000000
/-! ## a text cut at each sep -/
namespace L2
open PySem PySem.Spec PyProof.Rows Builtin Builtin.Str
section
variable {X : Cx}
end
end L2
end

section
set_option Elab.async false
set_option linter.all false
set_option maxRecDepth 100000
set_option maxHeartbeats 2000000
/-! ## a sort by asking: fewer than 64 unlike things come out in order -/
namespace L2
open PySem PySem.W PyProof.Rows
/-- along the way that b answers, all that is asked is below n, and what comes is so -/
def KG {α : Type} (b : Nat → Nat → Bool) (n : Nat) (P : α → Prop) : KasT α → Prop
  | .ret a => P a
  | .ask i j k => i < n ∧ j < n ∧ KG b n P (k (b i j))
theorem KG.bind {α β : Type} {b : Nat → Nat → Bool} {n : Nat} {P : β → Prop} {f : α → KasT β} : ∀ {t : KasT α}, KG b n (fun a => KG b n P (f a)) t → KG b n P (t.bind f)
  | .ret _, h => h
  | .ask i j k, ⟨h1, h2, h3⟩ => ⟨h1, h2, KG.bind (t := k (b i j)) h3⟩
theorem KG.mono {α : Type} {b : Nat → Nat → Bool} {n : Nat} {P P' : α → Prop} (hp : ∀ a, P a → P' a) : ∀ {t : KasT α}, KG b n P t → KG b n P' t
  | .ret a, h => hp a h
  | .ask i j k, ⟨h1, h2, h3⟩ => ⟨h1, h2, KG.mono hp (t := k (b i j)) h3⟩
theorem KG.wp {α : Type} {b : Nat → Nat → Bool} {n : Nat} {P : α → Prop} {cmp : Nat → Nat → (Bool → Shared → Prop) → Shared → Prop} {Q : α → Shared → Prop} {s : Shared} (hc : ∀ i j C, i < n → j < n → C (b i j) s → cmp i j C s) (hq : ∀ a, P a → Q a s) : ∀ {t : KasT α}, KG b n P t → t.kasWp cmp Q s
  | .ret a, h => hq a h
  | .ask i j k, ⟨h1, h2, h3⟩ => hc i j _ h1 h2 (KG.wp hc hq (t := k (b i j)) h3)
/-- a strict order of the numbers below n -/
structure Ord (b : Nat → Nat → Bool) (n : Nat) : Prop where
  tr : ∀ i j k, i < n → j < n → k < n → b i j = true → b j k = true → b i k = true
  asy : ∀ i j, i < n → j < n → b i j = true → b j i = false
  tot : ∀ i j, i < n → j < n → i ≠ j → b i j = true ∨ b j i = true
abbrev at0 (p : Array Nat) (i : Nat) : Nat := p.getD i 0
structure Prm (p : Array Nat) (n : Nat) : Prop where
  perm : p.Perm (List.range n).toArray
theorem Prm.size {p : Array Nat} {n : Nat} (h : Prm p n) : p.size = n := by rw [h.perm.size_eq]; simp
theorem Prm.lt {p : Array Nat} {n : Nat} (h : Prm p n) (hn : 0 < n) (i : Nat) : at0 p i < n := by
  unfold at0
  rw [Array.getD_eq_getD_getElem?]
  by_cases hi : i < p.size
  · rw [Array.getElem?_eq_getElem hi]
    have := (h.perm.mem_iff (a := p[i])).mp (Array.getElem_mem hi)
    simpa using this
  · rw [Array.getElem?_eq_none (by omega)]
    exact hn
theorem Prm.ne {p : Array Nat} {n : Nat} (h : Prm p n) {i j : Nat} (hi : i < n) (hj : j < n) (d : i ≠ j) : at0 p i ≠ at0 p j := by
  have nd : p.toList.Nodup := (Array.perm_iff_toList_perm.mp h.perm).nodup_iff.mpr (by simpa using List.nodup_range)
  have hs := h.size
  intro e
  unfold at0 at e
  rw [Array.getD_eq_getD_getElem?, Array.getD_eq_getD_getElem?, Array.getElem?_eq_getElem (by omega : i < p.size), Array.getElem?_eq_getElem (by omega : j < p.size)] at e
  have e' : p.toList[i]'(by simpa using by omega) = p.toList[j]'(by simpa using by omega) := by simpa using e
  exact d ((List.getElem_inj nd).mp e')
def Asc (b : Nat → Nat → Bool) (p : Array Nat) (m : Nat) : Prop := ∀ i, i + 1 < m → b (at0 p i) (at0 p (i + 1)) = true
def Dsc (b : Nat → Nat → Bool) (p : Array Nat) (m : Nat) : Prop := ∀ i, i + 1 < m → b (at0 p (i + 1)) (at0 p i) = true
section
variable {b : Nat → Nat → Bool} {n : Nat}
theorem Asc.all (O : Ord b n) {p : Array Nat} (h : Prm p n) (hn : 0 < n) {m : Nat} (a : Asc b p m) (hm : m ≤ n) : ∀ d i, i + (d + 1) < m → b (at0 p i) (at0 p (i + (d + 1))) = true
  | 0, i, hi => a i hi
  | d + 1, i, hi => O.tr _ _ _ (h.lt hn _) (h.lt hn _) (h.lt hn _) (Asc.all O h hn a hm d i (by omega)) (a (i + (d + 1)) hi)
theorem Asc.lt (O : Ord b n) {p : Array Nat} (h : Prm p n) (hn : 0 < n) {m : Nat} (a : Asc b p m) (hm : m ≤ n) {i j : Nat} (hij : i < j) (hj : j < m) : b (at0 p i) (at0 p j) = true := by
  have := Asc.all O h hn a hm (j - i - 1) i (by omega)
  rwa [show i + (j - i - 1 + 1) = j by omega] at this
theorem kg_asc (O : Ord b n) {p : Array Nat} (h : Prm p n) (hn : 0 < n) : ∀ (f m : Nat), 1 ≤ m → m + f ≤ n → Asc b p m → KG b n (fun k => m ≤ k ∧ k ≤ m + f ∧ Asc b p k ∧ (k < m + f → b (at0 p k) (at0 p (k - 1)) = true)) (kas_asc p f m)
  | 0, m, _, _, a => ⟨Nat.le_refl _, Nat.le_refl _, a, fun z => absurd z (Nat.lt_irrefl _)⟩
  | f + 1, m, h1, hf, a => by
    refine ⟨h.lt hn _, h.lt hn _, ?_⟩
    show KG b n _ (if b (at0 p m) (at0 p (m - 1)) = true then _ else _)
    split
    · rename_i hc
      exact ⟨Nat.le_refl _, Nat.le_add_right _ _, a, fun _ => hc⟩
    · rename_i hc
      have ht := (O.tot _ _ (h.lt hn m) (h.lt hn (m - 1)) (h.ne (by omega) (by omega) (by omega))).resolve_left hc
      refine KG.mono (fun k ⟨k1, k2, k3, k4⟩ => ⟨by omega, by omega, k3, fun z => k4 (by omega)⟩) (kg_asc O h hn f (m + 1) (by omega) (by omega) fun i hi => ?_)
      by_cases e : i + 1 < m
      · exact a i e
      · have : i = m - 1 := by omega
        subst this
        rwa [show m - 1 + 1 = m by omega]
theorem kg_desc (O : Ord b n) {p : Array Nat} (h : Prm p n) (hn : 0 < n) : ∀ (f m : Nat), 1 ≤ m → m + f ≤ n → Dsc b p m → KG b n (fun r => r.1 = p ∧ r.2.2 = 0 ∧ m ≤ r.2.1 ∧ r.2.1 ≤ m + f ∧ Dsc b p r.2.1) (kas_desc f p m 0)
  | 0, m, _, _, a => ⟨rfl, rfl, Nat.le_refl _, Nat.le_refl _, a⟩
  | f + 1, m, h1, hf, a => by
    refine ⟨h.lt hn _, h.lt hn _, ?_⟩
    show KG b n _ (if b (at0 p m) (at0 p (m - 1)) = true then (if 0 > 0 then _ else kas_desc f p (m + 1) 0) else _)
    split
    · rename_i hc
      rw [if_neg (by decide)]
      refine KG.mono (fun r ⟨k0, k1, k2, k3, k4⟩ => ⟨k0, k1, by omega, by omega, k4⟩) (kg_desc O h hn f (m + 1) (by omega) (by omega) fun i hi => ?_)
      by_cases e : i + 1 < m
      · exact a i e
      · have : i = m - 1 := by omega
        subst this
        rwa [show m - 1 + 1 = m by omega]
    · rename_i hc
      have ht := (O.tot _ _ (h.lt hn m) (h.lt hn (m - 1)) (h.ne (by omega) (by omega) (by omega))).resolve_left hc
      refine ⟨h.lt hn _, h.lt hn _, ?_⟩
      show KG b n _ (if b (at0 p (m - 1)) (at0 p m) = true then _ else _)
      rw [if_pos ht]
      exact ⟨rfl, rfl, Nat.le_refl _, Nat.le_add_right _ _, a⟩
theorem at0_rev {p : Array Nat} {m : Nat} (hm : m ≤ p.size) {i : Nat} (hi : i < m) : at0 (kas_rev p 0 m) i = at0 p (m - 1 - i) := by
  unfold at0 kas_rev
  rw [Array.getD_eq_getD_getElem?, Array.getD_eq_getD_getElem?, getElem?_mirror_all hm, if_pos ⟨Nat.zero_le _, hi⟩]
  congr 2
  omega
theorem kg_tail3 (O : Ord b n) {p : Array Nat} (h : Prm p n) (hn : 0 < n) {m : Nat} (h1 : 1 ≤ m) (hm : m ≤ n) (d : Dsc b p m) : KG b n (fun r => Prm r.2 n ∧ 1 ≤ r.1 ∧ r.1 ≤ n ∧ Asc b r.2 r.1) (kas_tail3 m n p) := by
  have h' : Prm (kas_rev p 0 m) n := ⟨(mirror_perm _ _ _ _).trans h.perm⟩
  refine KG.bind (KG.mono (fun k ⟨k1, k2, k3, _⟩ => ⟨h', by omega, by omega, k3⟩) (kg_asc O h' hn (n - m) m h1 (by omega) fun i hi => ?_))
  rw [at0_rev (by rw [h.size]; exact hm) (by omega), at0_rev (by rw [h.size]; exact hm) (by omega)]
  have := d (m - 1 - (i + 1)) (by omega)
  rwa [show m - 1 - (i + 1) + 1 = m - 1 - i by omega] at this
theorem kg_count (O : Ord b n) {p : Array Nat} (h : Prm p n) (hn : 2 ≤ n) : KG b n (fun r => Prm r.2 n ∧ 1 ≤ r.1 ∧ r.1 ≤ n ∧ Asc b r.2 r.1) (kas_count n p) := by
  refine KG.bind (KG.mono (fun m ⟨m1, m2, m3, m4⟩ => ?_) (kg_asc O h (by omega) (n - 1) 1 (Nat.le_refl _) (by omega) fun i hi => by omega))
  split
  · exact ⟨h, m1, by show m ≤ n; omega, m3⟩
  · rename_i hne
    have hlt : m < n := by
      have : m ≠ n := fun e => hne (by rw [e]; exact beq_self_eq_true n)
      omega
    split
    · rename_i hgt
      refine ⟨h.lt (by omega) _, h.lt (by omega) _, ?_⟩
      show KG b n _ (if b (at0 p 0) (at0 p (m - 1)) = true then _ else _)
      rw [if_pos (Asc.lt O h (by omega) m3 (by omega) (by omega : 0 < m - 1) (by omega))]
      exact ⟨h, m1, by show m ≤ n; omega, m3⟩
    · rename_i hgt
      have e : m = 1 := by omega
      subst e
      have hb := m4 (by omega)
      refine KG.bind (KG.mono (fun r ⟨k0, k1, k2, k3, k4⟩ => ?_) (kg_desc O h (by omega) (n - 2) 2 (by omega) (by omega) fun i hi => ?_))
      · have : i = 0 := by omega
        subst this
        exact hb
      · rw [k1, if_neg (by decide), k0]
        exact kg_tail3 O h (by omega) (by omega) (by omega) k4
theorem kg_place (O : Ord b n) {p : Array Nat} (h : Prm p n) (hn : 0 < n) {k : Nat} (hk : k < n) (a : Asc b p k) : ∀ (f l r : Nat), l ≤ r → r ≤ k → r - l ≤ f → (∀ i, i < l → b (at0 p i) (at0 p k) = true) → (∀ i, r ≤ i → i < k → b (at0 p k) (at0 p i) = true) →
    KG b n (fun l' => l' ≤ k ∧ (∀ i, i < l' → b (at0 p i) (at0 p k) = true) ∧ ∀ i, l' ≤ i → i < k → b (at0 p k) (at0 p i) = true) (kas_place p k f l r)
  | 0, l, r, h1, h2, h3, lo, hi => ⟨by omega, lo, fun i hi' hk' => hi i (by omega) hk'⟩
  | f + 1, l, r, h1, h2, h3, lo, hi => by
    unfold kas_place
    split
    · exact ⟨by omega, lo, fun i hi' hk' => hi i (by omega) hk'⟩
    · refine ⟨h.lt hn _, h.lt hn _, ?_⟩
      show KG b n _ (if b (at0 p k) (at0 p ((l + r) / 2)) = true then _ else _)
      split
      · rename_i hc
        refine kg_place O h hn hk a f l ((l + r) / 2) (by omega) (by omega) (by omega) lo fun i hi' hk' => ?_
        by_cases e : i = (l + r) / 2
        · rw [e]; exact hc
        · exact O.tr _ _ _ (h.lt hn _) (h.lt hn _) (h.lt hn _) hc (Asc.lt O h hn a (by omega) (by omega) hk')
      · rename_i hc
        have ht := (O.tot _ _ (h.lt hn k) (h.lt hn ((l + r) / 2)) (h.ne (by omega) (by omega) (by omega))).resolve_left hc
        refine kg_place O h hn hk a f ((l + r) / 2 + 1) r (by omega) (by omega) (by omega) (fun i hi' => ?_) hi
        by_cases e : i = (l + r) / 2
        · rw [e]; exact ht
        · exact O.tr _ _ _ (h.lt hn _) (h.lt hn _) (h.lt hn _) (Asc.lt O h hn a (by omega) (by omega : i < (l + r) / 2) (by omega)) ht
theorem at0_bub {p : Array Nat} {k l : Nat} (hk : k < p.size) (hl : l ≤ k) (i : Nat) : at0 (bubble p k (k - l)) i = if i = l then at0 p k else if l < i ∧ i ≤ k then at0 p (i - 1) else at0 p i := by
  have g : ∀ (x : Array Nat) (j : Nat), at0 x j = x[j]?.getD 0 := fun x j => Array.getD_eq_getD_getElem?
  have e : k - (k - l) = l := by omega
  rw [g, g, g, g, getElem?_bubble hk (k - l) (by omega) i, e]
  by_cases c1 : i = l
  · rw [if_pos c1, if_pos c1]
  · rw [if_neg c1, if_neg c1]
    by_cases c2 : l < i ∧ i ≤ k
    · rw [if_pos c2, if_pos c2]
    · rw [if_neg c2, if_neg c2]
theorem kg_bin (O : Ord b n) (hn : 0 < n) : ∀ (f k : Nat) {p : Array Nat}, Prm p n → 1 ≤ k → k + f = n → Asc b p k → KG b n (fun p' => Prm p' n ∧ Asc b p' n) (kas_bin f p k)
  | 0, k, p, h, _, e, a => ⟨h, by have : k = n := by omega
                                  subst this
                                  exact a⟩
  | f + 1, k, p, h, h1, e, a => by
    refine KG.bind (KG.mono (fun l ⟨l1, l2, l3⟩ => ?_) (kg_place O h hn (by omega) a k 0 k (Nat.zero_le _) (Nat.le_refl _) (by omega) (fun i hi => absurd hi (Nat.not_lt_zero _)) fun i hi hk => by omega))
    refine kg_bin O hn f (k + 1) (p := bubble p k (k - l)) ⟨(bubble_perm _ _ _).trans h.perm⟩ (by omega) (by omega) fun i hi => ?_
    have hs := h.size
    rw [at0_bub (by omega) l1, at0_bub (by omega) l1]
    by_cases c1 : i = l
    · rw [if_pos c1, if_neg (by omega), if_pos (by omega)]
      exact l3 _ (by omega) (by omega)
    · rw [if_neg c1]
      by_cases c2 : i + 1 = l
      · rw [if_neg (by omega), if_pos c2]
        exact l2 i (by omega)
      · rw [if_neg c2]
        by_cases c3 : l < i
        · rw [if_pos (by omega), if_pos (by omega)]
          have := a (i - 1) (by omega)
          rwa [show i - 1 + 1 = i + 1 - 1 by omega] at this
        · rw [if_neg (by omega), if_neg (by omega)]
          exact a i (by omega)
theorem kg_sort (O : Ord b n) (hn : 2 ≤ n) : KG b n (fun p => Prm p n ∧ Asc b p n) (kas_sort n) := by
  refine KG.bind (KG.mono (fun r ⟨r1, r2, r3, r4⟩ => ?_) (kg_count O (p := (List.range n).toArray) ⟨Array.Perm.refl _⟩ hn))
  split
  · rw [Nat.max_eq_left r2]
    exact kg_bin O (by omega) (n - r.1) r.1 r1 r2 (by omega) r4
  · have : r.1 = n := by omega
    exact ⟨r1, by rw [← this]; exact r4⟩
end
end L2
end

section
set_option Elab.async false
set_option linter.all false
set_option maxRecDepth 100000
set_option maxHeartbeats 4000000
/-! ## a sort of any number of things: the model's own steps, by names that can be said -/
namespace L2
open PySem PySem.W PyProof.Rows
end L2
end

section
set_option Elab.async false
set_option linter.all false
set_option maxRecDepth 100000
set_option maxHeartbeats 4000000
namespace L2
open PySem PySem.W PyProof.Rows
section
variable {prog : Program} {w : World} {A : Around} {E : Value → Shared → Prop} {s : Shared} {κ : SortKind} {r : Keyed → Int} {U : Keyed → Prop}
end
end L2
end

section
set_option Elab.async false
set_option linter.all false
set_option maxRecDepth 100000
set_option maxHeartbeats 4000000
namespace L2
open PySem PySem.W PyProof.Rows
def SrtL (r : Keyed → Int) (l : List Keyed) : Prop := l.Pairwise fun x y => r x ≤ r y
/-- a merge under way from below: what is out, what is left of both -/
structure MI (r : Keyed → Int) (tot o ra rb : List Keyed) : Prop where
  perm : (o ++ (ra ++ rb)).Perm tot
  so : SrtL r o
  sa : SrtL r ra
  sb : SrtL r rb
  la : ∀ u ∈ o, ∀ v ∈ ra, r u ≤ r v
  lb : ∀ u ∈ o, ∀ v ∈ rb, r u ≤ r v
section
variable {r : Keyed → Int} {tot o ra rb p : List Keyed}
theorem MI.takeA (h : MI r tot o (p ++ ra) rb) (hp : ∀ u ∈ p, ∀ v ∈ rb, r u ≤ r v) : MI r tot (o ++ p) ra rb := by
  have sa := List.pairwise_append.mp h.sa
  refine ⟨by simpa [List.append_assoc] using h.perm, List.pairwise_append.mpr ⟨h.so, sa.1, fun u hu v hv => h.la u hu v (List.mem_append_left _ hv)⟩, sa.2.1, h.sb, fun u hu v hv => ?_, fun u hu v hv => ?_⟩
  · rcases List.mem_append.mp hu with hu | hu
    · exact h.la u hu v (List.mem_append_right _ hv)
    · exact sa.2.2 u hu v hv
  · rcases List.mem_append.mp hu with hu | hu
    · exact h.lb u hu v hv
    · exact hp u hu v hv
theorem MI.endA (h : MI r tot o ra []) : (o ++ ra).Perm tot ∧ SrtL r (o ++ ra) := ⟨by simpa using h.perm, List.pairwise_append.mpr ⟨h.so, h.sa, h.la⟩⟩
theorem MI.endB (h : MI r tot o [] rb) : (o ++ rb).Perm tot ∧ SrtL r (o ++ rb) := ⟨by simpa using h.perm, List.pairwise_append.mpr ⟨h.so, h.sb, h.lb⟩⟩
end
section
variable {r : Keyed → Int} {a b o : Array Keyed} {x y k : Nat}
abbrev tot (a b : Array Keyed) : List Keyed := a.toList ++ b.toList
def Good (r : Keyed → Int) (a b R : Array Keyed) : Prop := R.toList.Perm (tot a b) ∧ SrtL r R.toList
abbrev MIa (r : Keyed → Int) (a b o : Array Keyed) (x y : Nat) : Prop := MI r (tot a b) o.toList (a.toList.drop x) (b.toList.drop y)
theorem ext_list (a : Array Keyed) (x n : Nat) : (a.extract x n).toList = (a.toList.drop x).take (n - x) := by
  rw [Array.toList_extract]
theorem ext_all (a : Array Keyed) (x : Nat) : (a.extract x a.size).toList = a.toList.drop x := by
  rw [ext_list, ← Array.length_toList, ← List.length_drop]
  exact List.take_length
theorem MI.fin (h : MIa r a b o x y) (e : y = b.size ∨ x = a.size) : Good r a b (o ++ a.extract x a.size ++ b.extract y b.size) := by
  unfold Good
  rw [Array.toList_append, Array.toList_append, ext_all, ext_all]
  rcases e with e | e
  · have z : b.toList.drop y = [] := List.drop_eq_nil_of_le (by simp [e])
    have h' : MI r (tot a b) o.toList (a.toList.drop x) [] := by rw [← z]; exact h
    rw [z, List.append_nil]; exact h'.endA
  · have z : a.toList.drop x = [] := List.drop_eq_nil_of_le (by simp [e])
    have h' : MI r (tot a b) o.toList [] (b.toList.drop y) := by rw [← z]; exact h
    rw [z, List.append_nil]; exact h'.endB
end
section
variable {prog : Program} {w : World} {A : Around} {E : Value → Shared → Prop} {s : Shared} {κ : SortKind} {r : Keyed → Int} {U : Keyed → Prop}
end
end L2
end

section
set_option Elab.async false
set_option linter.all false
set_option maxRecDepth 100000
set_option maxHeartbeats 4000000
namespace L2
open PySem PySem.W PyProof.Rows
/-- a merge under way from above: what is left of both, what is out -/
structure MH (r : Keyed → Int) (tot ra rb o : List Keyed) : Prop where
  perm : (ra ++ rb ++ o).Perm tot
  so : SrtL r o
  sa : SrtL r ra
  sb : SrtL r rb
  la : ∀ u ∈ ra, ∀ v ∈ o, r u ≤ r v
  lb : ∀ u ∈ rb, ∀ v ∈ o, r u ≤ r v
section
variable {r : Keyed → Int} {tot o ra rb p : List Keyed}
theorem MH.takeA (h : MH r tot (ra ++ p) rb o) (hp : ∀ u ∈ p, ∀ v ∈ rb, r v ≤ r u) : MH r tot ra rb (p ++ o) := by
  have sa := List.pairwise_append.mp h.sa
  refine ⟨?_, List.pairwise_append.mpr ⟨sa.2.1, h.so, fun u hu v hv => h.la u (List.mem_append_right _ hu) v hv⟩, sa.1, h.sb, fun u hu v hv => ?_, fun u hu v hv => ?_⟩
  · refine List.Perm.trans ?_ h.perm
    rw [← List.append_assoc]
    refine List.Perm.append_right o ?_
    rw [List.append_assoc, List.append_assoc]
    exact List.Perm.append_left ra List.perm_append_comm
  · rcases List.mem_append.mp hv with hv | hv
    · exact sa.2.2 u hu v hv
    · exact h.la u (List.mem_append_left _ hu) v hv
  · rcases List.mem_append.mp hv with hv | hv
    · exact hp v hv u hu
    · exact h.lb u hu v hv
theorem MH.endA (h : MH r tot ra [] o) : (ra ++ o).Perm tot ∧ SrtL r (ra ++ o) := ⟨by simpa using h.perm, List.pairwise_append.mpr ⟨h.sa, h.so, h.la⟩⟩
theorem MH.endB (h : MH r tot [] rb o) : (rb ++ o).Perm tot ∧ SrtL r (rb ++ o) := ⟨by simpa using h.perm, List.pairwise_append.mpr ⟨h.sb, h.so, h.lb⟩⟩
theorem MH.endF {z : Keyed} (h : MH r tot ra [z] o) (hz : ∀ v ∈ ra, r z ≤ r v) : ([z] ++ ra ++ o).Perm tot ∧ SrtL r ([z] ++ ra ++ o) := by
  have h' := (MH.takeA (p := ra) (ra := []) (by simpa using h) fun u hu v hv => by rw [List.mem_singleton.mp hv]; exact hz u hu).endB
  rw [List.append_assoc]; exact h'
end
section
variable {r : Keyed → Int} {a b o : Array Keyed} {x y e : Nat}
abbrev MHa (r : Keyed → Int) (a b o : Array Keyed) (x y : Nat) : Prop := MH r (tot a b) (a.toList.take x) (b.toList.take y) o.toList.reverse
theorem ext_0 (a : Array Keyed) (x : Nat) : (a.extract 0 x).toList = a.toList.take x := by
  rw [ext_list, List.drop_zero, Nat.sub_zero]
theorem take_one (a : Array Keyed) {x : Nat} (h : x < a.size) : a.toList.take (x + 1) = a.toList.take x ++ [a[x]] := by
  rw [List.take_add_one, List.getElem?_eq_getElem (by simpa using h)]; simp
theorem MH.fin (h : MHa r a b o x y) (e : x = 0 ∨ y = 0) : Good r a b (a.extract 0 x ++ b.extract 0 y ++ o.reverse) := by
  unfold Good
  rw [Array.toList_append, Array.toList_append, Array.toList_reverse, ext_0, ext_0]
  rcases e with e | e
  · subst e
    exact MH.endB h
  · subst e
    rw [List.take_zero, List.append_nil]
    exact MH.endA h
theorem MH.fst (h : MHa r a b o x y) (e : y = 1) (nb : 0 < b.size) (h0 : ∀ v ∈ a, r b[0] ≤ r v) : Good r a b (b.extract 0 y ++ a.extract 0 x ++ o.reverse) := by
  unfold Good
  rw [Array.toList_append, Array.toList_append, Array.toList_reverse, ext_0, ext_0]
  subst e
  have z : b.toList.take 1 = [b[0]] := by rw [take_one b nb]; rfl
  have h' : MH r (tot a b) (a.toList.take x) [b[0]] o.toList.reverse := by rw [← z]; exact h
  rw [z]
  exact h'.endF fun v hv => h0 v (by simpa using List.mem_of_mem_take hv)
end
section
variable {prog : Program} {w : World} {A : Around} {E : Value → Shared → Prop} {s : Shared} {κ : SortKind} {r : Keyed → Int} {U : Keyed → Prop}
end
end L2
end

section
set_option Elab.async false
set_option linter.all false
set_option maxRecDepth 100000
set_option maxHeartbeats 4000000
namespace L2
open PySem PySem.W PyProof.Rows
section
variable {prog : Program} {w : World} {A : Around} {E : Value → Shared → Prop} {s : Shared} {κ : SortKind} {r : Keyed → Int} {a₀ : Array Keyed}
def Rk (r : Keyed → Int) (xs : Array Keyed) (i : Nat) : Int := match xs[i]? with
  | some p => r p
  | none => 0
theorem Rk.eq {xs : Array Keyed} {i : Nat} (h : i < xs.size) : Rk r xs i = r xs[i] := by unfold Rk; rw [Array.getElem?_eq_getElem h]
theorem Rk.congr {xs ys : Array Keyed} {i j : Nat} (h : xs[i]? = ys[j]?) : Rk r xs i = Rk r ys j := by unfold Rk; rw [h]
/-- rising from lo on, up to hi -/
def Sg (r : Keyed → Int) (xs : Array Keyed) (lo hi : Nat) : Prop := ∀ i j, lo ≤ i → i ≤ j → j < hi → Rk r xs i ≤ Rk r xs j
structure SB (a₀ : Array Keyed) (κ : SortKind) (st : SortSt) : Prop where
  perm : (arrOf st).Perm a₀
  kind : kindOf st = κ
  ok : failedOf st = none
theorem SB.size {st : SortSt} (h : SB a₀ κ st) : (arrOf st).size = a₀.size := h.perm.size_eq
theorem SB.put {st : SortSt} (h : SB a₀ κ st) {xs : Array Keyed} (hp : xs.Perm (arrOf st)) : SB a₀ κ (setArr st xs) := ⟨hp.trans h.perm, h.kind, h.ok⟩
theorem SB.mem {st : SortSt} (h : SB a₀ κ st) {z : Keyed} (hz : z ∈ arrOf st) : z ∈ a₀ := h.perm.mem_iff.mp hz
/-- what lies ahead of lo stays -/
def Pre (lo : Nat) (xs ys : Array Keyed) : Prop := ∀ k, k < lo → ys[k]? = xs[k]?
theorem Pre.refl {lo : Nat} {xs : Array Keyed} : Pre lo xs xs := fun _ _ => rfl
theorem Pre.trans {lo : Nat} {xs ys zs : Array Keyed} (h : Pre lo xs ys) (g : Pre lo ys zs) : Pre lo xs zs := fun k hk => (g k hk).trans (h k hk)
end
end L2
end

section
set_option Elab.async false
set_option linter.all false
set_option maxRecDepth 100000
set_option maxHeartbeats 4000000
namespace L2
open PySem PySem.W PyProof.Rows
section
variable {prog : Program} {w : World} {A : Around} {E : Value → Shared → Prop} {s : Shared} {κ : SortKind} {r : Keyed → Int} {a₀ : Array Keyed}
end
end L2
end

section
set_option Elab.async false
set_option linter.all false
set_option maxRecDepth 100000
set_option maxHeartbeats 4000000
namespace L2
open PySem PySem.W PyProof.Rows
section
variable {r : Keyed → Int} {xs ys : Array Keyed}
theorem Sg.congr {lo hi : Nat} (h : Sg r xs lo hi) (e : ∀ k, lo ≤ k → k < hi → ys[k]? = xs[k]?) : Sg r ys lo hi := fun i j h1 h2 h3 => by
  rw [Rk.congr (e i h1 (by omega)), Rk.congr (e j (by omega) h3)]; exact h i j h1 h2 h3
/-- the runs, one behind the other -/
def Segs (r : Keyed → Int) (xs : Array Keyed) : Nat → List (Nat × Nat × Nat) → Nat → Prop
  | lo, [], hi => lo = hi
  | lo, p :: ps, hi => p.1 = lo ∧ 1 ≤ p.2.1 ∧ Sg r xs lo (lo + p.2.1) ∧ Segs r xs (lo + p.2.1) ps hi
theorem Segs.le : ∀ {lo : Nat} {ps : List (Nat × Nat × Nat)} {hi : Nat}, Segs r xs lo ps hi → lo + ps.length ≤ hi
  | lo, [], hi, h => by have : lo = hi := h; simp; omega
  | lo, p :: ps, hi, ⟨h1, h2, _, h4⟩ => by have := h4.le; rw [List.length_cons]; omega
theorem Segs.congr : ∀ {lo : Nat} {ps : List (Nat × Nat × Nat)} {hi : Nat}, Segs r xs lo ps hi → (∀ k, lo ≤ k → k < hi → ys[k]? = xs[k]?) → Segs r ys lo ps hi
  | lo, [], hi, h, _ => h
  | lo, p :: ps, hi, ⟨h1, h2, h3, h4⟩, e => ⟨h1, h2, h3.congr fun k a b => e k a (by have := h4.le; omega), h4.congr fun k a b => e k (by omega) b⟩
end
section
variable {prog : Program} {w : World} {A : Around} {E : Value → Shared → Prop} {s : Shared} {κ : SortKind} {r : Keyed → Int} {a₀ : Array Keyed}
end
end L2
end

section
set_option Elab.async false
set_option linter.all false
set_option maxRecDepth 100000
set_option maxHeartbeats 4000000
namespace L2
open PySem PySem.W PyProof.Rows
section
variable {prog : Program} {w : World} {A : Around} {E : Value → Shared → Prop} {s : Shared} {κ : SortKind} {r : Keyed → Int} {a₀ : Array Keyed}
end
end L2
end

section
set_option Elab.async false
set_option linter.all false
set_option maxRecDepth 100000
set_option maxHeartbeats 4000000
/-! ## the sort of any number of unlike things, by their numbers -/
namespace L2
open PySem PySem.W PyProof.Rows
section
variable {prog : Program} {w : World} {A : Around} {E : Value → Shared → Prop} {s : Shared} {κ : SortKind}
end
end L2
end

section
set_option Elab.async false
set_option linter.all false
set_option maxRecDepth 100000
set_option maxHeartbeats 2000000
/-! ## sorted(.., key=): sets by their length, then by their members -/
namespace L2
open PySem PySem.Spec PySem.W PyProof.Rows Builtin
def setLt (x y : List Int) : Bool := decide (x.length < y.length) || (decide (x.length = y.length) && HT.lexLt x y)
section
variable {P : Program} {w : World} {A : Around} {E : Value → Shared → Prop} {s : Shared}
end
end L2
end

section
set_option Elab.async false
set_option linter.all false
set_option maxRecDepth 100000
set_option maxHeartbeats 4000000
/-! ## sorted(.., key=f): the call -/
namespace L2
open PySem PySem.Spec PySem.W PyProof.Rows Builtin
section
variable {P : Program} {w : World} {H H1 : Hp} {h h1 h2 : Heap} {e a : Addr} {o : HO} {fs : List Addr}
theorem hok_off (x : HOk P w H h) (hn : H e = none) (k : ∀ b u, b ≠ e → h.get? b = some u → h2.get? b = some u) : HOk P w H h2 := fun a o ea =>
  (x a o ea).stay (fun b u hb q => k b u (fun z => by
    subst z
    rcases hb with rfl | hb
    · rw [hn] at ea; cases ea
    · rw [hn] at hb; cases hb) q) (fun _ q => q) fun _ _ q => q
theorem un_off (u : Un fs [] H H1 h h1) (he : h.objs.size ≤ e) (k : ∀ b u, b ≠ e → h1.get? b = some u → h2.get? b = some u) : Un fs [] H H1 h h2 :=
  have ne : ∀ b ob, h.get? b = some ob → b ≠ e := fun b ob q => Nat.ne_of_lt (Nat.lt_of_lt_of_le (Heap.lt_size q) he)
  ⟨fun b ob q n hb hx => k _ _ (ne b ob q) (u.keep b ob q n hb hx), fun b ob q n hb hx => let ⟨sl, r⟩ := u.slot b ob q n hb hx; ⟨sl, k _ _ (ne b ob q) r⟩, u.free, fun b ob q hx => let ⟨o', r⟩ := u.there b ob q hx; ⟨o', k _ _ (ne b ob q) r⟩, u.tups, u.frzs, u.tbls⟩
end
/-- order_of: the length, then the thing itself -/
def spOrd : Sp := fun vs H Q _ => ∃ a, vs = [.ref a] ∧ ∃ xs, H a = some (.tup xs) ∧ ∀ p, H p = none → Q (.ref p) (upd H p (.tup [.int xs.length, .ref a]))
section
variable {X : Cx} {pins : List (Addr × Obj)} {σ : St} {H : Hp} {s : Shared}
/-- a state behind s in which the new untracked things at D and S are known -/
structure Mid (X : Cx) (H : Hp) (s : Shared) (D S : Addr) (e1 : Nat) (H' : Hp) (s' : Shared) (kA : Array Value) : Prop where
  os : s'.os = s.os
  bare : AllBare s'.gens
  un : Un (frs X.stack) [] H H' s.heap s'.heap
  hok : HOk X.prog X.w H' s'.heap
  same : Same H H'
  nD : H' D = none
  nS : H' S = none
  oD : s'.heap.get? D = some (seqObj "list" #[] e1)
  oS : ∃ e, s'.heap.get? S = some (seqObj "list" kA e)
/-- one key -/
theorem Mid.call {D S : Addr} {e1 : Nat} {H' : Hp} {s' : Shared} {kA : Array Value} (I : Inv X pins σ H s) (m : Mid X H s D S e1 H' s' kA) (hD : s.heap.objs.size ≤ D) (hS : s.heap.objs.size ≤ S) {k : Nat} {f : Addr} {fd : FuncData} {pm : Str} (F : FnOk X.prog X.w X.K X.mg X.base CX0 k f fd [pm] spOrd) (hr : Room k X.A.in1.in1)
    (hb : Binds X.K fd [pm] []) {a : Addr} {xs : List V} (ha : H a = some (.tup xs)) {Q : Value → Shared → Prop} {E : Value → Shared → Prop}
    (q : ∀ p s2, H' p = none → Mid X H s D S e1 (upd H' p (.tup [.int xs.length, .ref a])) s2 kA → Q (.ref p) s2) : wpAny (model X.prog X.w) X.A.in1.in1 (call (.ref f) [.ref a]) Q E s' := by
  have I' : Inv X pins σ H' s' := I.call' (ch := []) m.os m.un m.hok m.bare (fun b z => absurd z (by simp))
  have nfD : ∀ b, s.heap.objs.size ≤ b → b ∉ frs X.stack := fun b hb z => by
    rcases List.mem_cons.mp (I.stkSub b z) with z | z
    · exact absurd (Nat.lt_of_lt_of_le I.lt hb) (by rw [z]; exact Nat.lt_irrefl _)
    · exact I.nofs hb z
  refine wpAny_call (codeAny_mono (F.run X.A.in1.in1 X.stack s' H' ⟨[.ref a], []⟩ [.ref a] [.ref a] (fun v H2 => ∃ p, v = .ref p ∧ H' p = none ∧ H2 = upd H' p (.tup [.int xs.length, .ref a])) (fun _ _ _ => False) hr I'.env0.in1.in1 (hb s' [.ref a] I'.kIn rfl) (.cons rfl .nil) ⟨a, rfl, xs, m.same _ _ ha, fun p hp => ⟨p, rfl, hp, rfl⟩⟩) fun r s2 hq => ?_)
  cases r with
  | error e => exact False.elim hq
  | ok fl =>
    cases fl with
    | next => exact False.elim hq
    | brk => exact False.elim hq
    | cont => exact False.elim hq
    | ret u =>
      obtain ⟨v, H2, os, bare, un, hok, rv, p, rfl, hp, rfl⟩ := hq
      cases rv
      obtain ⟨eS, oS⟩ := m.oS
      exact q p s2 hp ⟨os.trans m.os, bare, m.un.trans un, hok, m.same.trans fun b u eb => by rw [upd_ne (ne_of_none eb hp)]; exact eb, un.free D _ m.oD m.nD (by simp), un.free S _ oS m.nS (by simp), un.keep D _ m.oD m.nD (nfD D hD) (by simp), eS, un.keep S _ oS m.nS (nfD S hS) (by simp)⟩
/-- the key is put to the others -/
theorem Mid.push {D S : Addr} {e1 : Nat} {H' : Hp} {s' : Shared} {kA : Array Value} (m : Mid X H s D S e1 H' s' kA) (hS : s.heap.objs.size ≤ S) (hDS : D ≠ S) (g : Array Value → Array Value) : Mid X H s D S e1 H' { s' with heap := s'.heap.update S (Obj.mapSeq g) } (g kA) := by
  obtain ⟨eS, oS⟩ := m.oS
  have sb := Heap.SameBut.update s'.heap S (Obj.mapSeq g)
  have k : ∀ b u, b ≠ S → s'.heap.get? b = some u → (s'.heap.update S (Obj.mapSeq g)).get? b = some u := fun b u nb q => (sb.2 b nb).trans q
  exact ⟨m.os, m.bare, un_off m.un hS k, hok_off m.hok m.nS k, m.same, m.nD, m.nS, k _ _ hDS m.oD, _, get?_update_seq oS g⟩
end
end L2
end

section
set_option Elab.async false
set_option linter.all false
set_option maxRecDepth 100000
set_option maxHeartbeats 4000000
namespace L2
open PySem PySem.Spec PySem.W PyProof.Rows Builtin
section
variable {P : Program} {w : World} {H' : Hp} {h : Heap} {p a : Addr}
end
section
variable {X : Cx} {pins : List (Addr × Obj)} {σ : St} {H : Hp} {s : Shared}
/-- what stands behind the sort -/
structure Fin (X : Cx) (H : Hp) (s : Shared) (D : Addr) (H' : Hp) (s' : Shared) (bs : List Addr) : Prop where
  os : s'.os = s.os
  bare : AllBare s'.gens
  un : Un (frs X.stack) [] H H' s.heap s'.heap
  hok : HOk X.prog X.w H' s'.heap
  same : Same H H'
  nD : H' D = none
  oD : ∃ c, s'.heap.get? D = some (seqObj "list" (bs.map Value.ref).toArray c)
end
end L2
end

section
set_option Elab.async false
set_option linter.all false
set_option maxRecDepth 100000
set_option maxHeartbeats 4000000
namespace L2
open PySem PySem.Spec PySem.W PyProof.Rows Builtin
section
variable {X : Cx} {pins : List (Addr × Obj)} {σ : St} {H : Hp} {s : Shared}
end
end L2
end

section
set_option Elab.async false
set_option linter.all false
set_option maxRecDepth 100000
set_option maxHeartbeats 4000000
/-! ## a dict's keys walked, whatever they are -/
namespace L2
open PySem PySem.Spec PySem.W PyProof.Rows Builtin
def RawAt (h : Heap) (d : Addr) (es : Array DictEntry) (ep : Nat) : Prop := ∃ o, h.get? d = some o ∧ o.ExactDict ∧ o.data = .dict es ep
section
variable {P : Program} {w : World} {A : Around} {E : Value → Shared → Prop} {s : Shared} {d it : Addr} {es : Array DictEntry} {ep i : Nat}
theorem RawAt.ty (r : RawAt s.heap d es ep) : s.TypeIs (.ref d) "dict" := let ⟨o, e, c, _⟩ := r; ⟨o, e, c.1⟩
theorem RawAt.on {h h' : Heap} (r : RawAt h d es ep) (k : ∀ o, h.get? d = some o → h'.get? d = some o) : RawAt h' d es ep := let ⟨o, e, c⟩ := r; ⟨o, k _ e, c⟩
end
end L2
end

section
set_option Elab.async false
set_option linter.all false
set_option maxRecDepth 100000
set_option maxHeartbeats 4000000
/-! ## sorted(dict of sets, key=f) as a term -/
namespace L2
open PySem PySem.Spec PySem.W PyProof.Rows Builtin
/-- sets at addresses -/
def SetsAt (H : Hp) (bs : List Addr) (ts : List (List Int)) : Prop := bs.length = ts.length ∧ ∀ (i : Nat) b t, bs[i]? = some b → ts[i]? = some t → H b = some (.tup (List.map V.int t))
def qSortT (x : V) (H : Hp) (Q : VK) : Prop := ∃ d, x = .ref d ∧ ∃ kvs ss, H d = some (.dT kvs) ∧ kvs.map (·.1) = ss.map (List.map Sum.inl) ∧ ss.length < 100000 ∧
  ∀ D H' bs ts, Same H H' → H D = none → H' D = some (.lst (List.map V.ref bs)) → SetsAt H' bs ts → ts.Perm ss → ts.Pairwise (fun a b => setLt a b = true) → Q (.ref D) H'
def tSortK (te : TE) : TE := fun σ H Q => te σ H fun x H1 => qSortT x H1 Q
section
variable {X : Cx} {k : Nat} {f : Addr} {fd : FuncData} {pm g : Str} {e : Expr} {te : TE} {p kp kpos pos : Pos}
end
end L2
end

section
set_option Elab.async false
set_option linter.all false
set_option maxRecDepth 100000
set_option maxHeartbeats 4000000
/-! ## any(); // by large divisors; sorted(.., key=f) shut -/
namespace L2
open PySem PySem.Spec PySem.W PyProof.Rows Builtin
section
variable {X : Cx}
def qAnyB : List V → Hp → VK → Prop := fun vs H Q => ∃ a, vs = [.ref a] ∧ ∃ bs : List Bool, H a = some (.lst (bs.map V.bl)) ∧ Q (.bl (bs.any id)) H
variable {k : Nat} {f : Addr} {fd : FuncData} {pm g : Str} {e : Expr} {te : TE} {p kp kpos pos : Pos}
/-- xs.insert(i, y) -/
def rInsert : V → List V → Hp → VK → Prop := fun x vs H Q => ∃ l i y, x = .ref l ∧ vs = [.int i, y] ∧ ∃ xs, H l = some (.lst xs) ∧ 0 ≤ i ∧ i ≤ xs.length ∧ xs.length < 100000 ∧ Q .non (upd H l (.lst (xs.take i.toNat ++ y :: xs.drop i.toNat)))
end
end L2
namespace L2
open PySem PySem.Spec PySem.W PyProof.Rows Builtin
end L2
end

section
set_option Elab.async false
set_option linter.all false
set_option maxRecDepth 100000
set_option maxHeartbeats 4000000
/-! ## a list walked from behind -/
namespace L2
open PySem PySem.Spec PyProof.Rows
def Itrv (K : PySem.W.Frag) (a : Addr) (n : Nat) : It :=
  ⟨fun i H => i < n ∧ ∃ xs, SqL K H a xs ∧ xs.length = n, fun i H x H' => H' = H ∧ ∀ xs, SqL K H a xs → xs[n - 1 - i]? = some x, fun i _ => i = n⟩
section
variable {X : Cx} {tg : Expr}
def iRev (K : PySem.W.Frag) (ta : TA) : TI := fun σ H R => ta σ H fun vs H1 => ∃ a, vs = [.ref a] ∧ ∃ xs, SqL K H1 a xs ∧ R (Itrv K a xs.length) H1
end
end L2
end

section
set_option Elab.async false
set_option linter.all false
set_option maxRecDepth 100000
set_option maxHeartbeats 4000000
/-! ## list.insert; == and != of sets (tuples of ints) and of lists of them -/
namespace L2
open PySem PySem.Spec PyProof.Rows
theorem all_same {α : Type} [DecidableEq α] {cl dl : List α} : ((List.range (min cl.length dl.length)).all (fun j => decide (cl[j]? = dl[j]?)) && cl.length == dl.length) = decide (cl = dl) := by
  rw [Bool.eq_iff_iff, Bool.and_eq_true, List.all_eq_true, decide_eq_true_iff, beq_iff_eq]
  constructor
  · rintro ⟨h, l⟩
    apply List.ext_getElem?
    intro i
    by_cases hi : i < cl.length
    · exact of_decide_eq_true (h i (List.mem_range.mpr (by omega)))
    · rw [List.getElem?_eq_none (by omega), List.getElem?_eq_none (by omega)]
  · rintro rfl
    exact ⟨fun j _ => decide_eq_true rfl, rfl⟩
section
variable {X : Cx} {pins : List (Addr × Obj)} {s : Shared} {σ : St} {H : Hp} {A : Around}
/-- sets -/
def qEqTI (neg : Bool) : R2 := fun x y H Q => ∃ a b, x = .ref a ∧ y = .ref b ∧ ∃ u v : List Int, H a = some (.tup (List.map V.int u)) ∧ H b = some (.tup (List.map V.int v)) ∧ Q (.bl (if neg then !decide (u = v) else decide (u = v))) H
/-- lists of sets -/
def qEqSL (neg : Bool) : R2 := fun x y H Q => ∃ a b, x = .ref a ∧ y = .ref b ∧ ∃ ps qs cl dl, H a = some (.lst (List.map V.ref ps)) ∧ H b = some (.lst (List.map V.ref qs)) ∧ SetsAt H ps cl ∧ SetsAt H qs dl ∧ Q (.bl (if neg then !decide (cl = dl) else decide (cl = dl))) H
end
end L2
end

section
set_option Elab.async false
set_option linter.all false
set_option maxRecDepth 100000
set_option maxHeartbeats 4000000
/-! ## a comprehension that has cells of its own: a comprehension within it reads its variable -/
namespace L2
open PySem PySem.Spec PyProof.Rows
section
variable {X : Cx} {pins : List (Addr × Obj)} {σ : St} {H : Hp} {s : Shared}
end
section
variable {X : Cx} {elt target iter : Expr} {ifs : List Expr} {scope : Scope} {pos : Pos} {cs xs : List Str} {idx : List Nat} {wi : TI} {g : CB → TG} {tt : CB → TT} {te : CB → TE}
end
section
variable {X : Cx} {N : List Str} {osc : Scope} {elt target iter : Expr} {ifs : List Expr} {scope : Scope} {pos : Pos} {wi : TI} {g : CB → TG} {tt : CB → TT} {te : CB → TE}
end
end L2
end

section
set_option Elab.async false
set_option linter.all false
set_option maxRecDepth 100000
set_option maxHeartbeats 4000000
/-! ## words joined and cut again; two tuples walked side by side -/
namespace L2
open PySem PySem.Spec PyProof.Rows
section
variable {prog : Program} {w : World} {A : Around} {E : Value → Shared → Prop} {s : Shared}
end
section
variable {X : Cx}
end
end L2
end

section
set_option Elab.async false
set_option linter.all false
set_option maxRecDepth 100000
set_option maxHeartbeats 4000000
/-! ## the places of a set's table rise -/
namespace L2
open PySem PySem.Spec PyProof.Rows
def Up (xs : Array Nat) : Prop := xs.toList.Pairwise (· < ·)
theorem Up.lt {xs : Array Nat} (u : Up xs) {i k : Nat} (h : i < k) (hk : k < xs.size) : xs.getD i 0 < xs.getD k 0 := by
  have h1 : i < xs.toList.length := by rw [Array.length_toList]; omega
  have h2 : k < xs.toList.length := by rw [Array.length_toList]; omega
  have := (List.pairwise_iff_getElem.mp u) i k h1 h2 h
  rw [Array.getElem_toList, Array.getElem_toList] at this
  rw [Array.getD_eq_getD_getElem?, Array.getD_eq_getD_getElem?, Array.getElem?_eq_getElem (by omega), Array.getElem?_eq_getElem hk]
  exact this
theorem getD_any {xs : Array Nat} {i j : Nat} (h : i < xs.size) : xs.getD i j = xs.getD i 0 := by
  rw [Array.getD_eq_getD_getElem?, Array.getD_eq_getD_getElem?, Array.getElem?_eq_getElem h]; rfl
theorem below_go {xs : Array Nat} {j : Nat} (u : Up xs) : ∀ (f lo hi : Nat), hi - lo ≤ f → lo ≤ hi → hi ≤ xs.size → (∀ i, i < lo → xs.getD i 0 < j) → (∀ i, hi ≤ i → i < xs.size → j ≤ xs.getD i 0) →
    SetTable.below.go xs j f lo hi ≤ xs.size ∧ (∀ i, i < SetTable.below.go xs j f lo hi → xs.getD i 0 < j) ∧ ∀ i, SetTable.below.go xs j f lo hi ≤ i → i < xs.size → j ≤ xs.getD i 0
  | 0, lo, hi, h0, h1, h2, a, b => by
    have e : lo = hi := by omega
    subst e
    exact ⟨h2, a, b⟩
  | f + 1, lo, hi, h0, h1, h2, a, b => by
    unfold SetTable.below.go
    by_cases c : lo < hi
    · rw [if_pos c]
      dsimp only
      have hm : (lo + hi) / 2 < xs.size := by omega
      rw [getD_any hm]
      by_cases d : xs.getD ((lo + hi) / 2) 0 < j
      · rw [if_pos d]
        refine below_go u f _ _ (by omega) (by omega) h2 (fun i hi' => ?_) b
        by_cases e : i = (lo + hi) / 2
        · rw [e]; exact d
        · have := u.lt (i := i) (k := (lo + hi) / 2) (by omega) hm; omega
      · rw [if_neg d]
        refine below_go u f _ _ (by omega) (by omega) (by omega) a fun i hi' hz => ?_
        by_cases e : i = (lo + hi) / 2
        · rw [e]; omega
        · have := u.lt (i := (lo + hi) / 2) (k := i) (by omega) hz; omega
    · rw [if_neg c]
      have e : lo = hi := by omega
      subst e
      exact ⟨h2, a, b⟩
theorem below_spec {xs : Array Nat} (u : Up xs) (j : Nat) : SetTable.below xs j ≤ xs.size ∧ (∀ i, i < SetTable.below xs j → xs.getD i 0 < j) ∧ ∀ i, SetTable.below xs j ≤ i → i < xs.size → j ≤ xs.getD i 0 :=
  below_go u xs.size 0 xs.size (by omega) (Nat.zero_le _) (Nat.le_refl _) (fun i h => absurd h (Nat.not_lt_zero _)) (fun i h1 h2 => absurd h2 (by omega))
theorem below_mem {xs : Array Nat} (u : Up xs) {j : Nat} (h : j ∈ xs.toList) : xs[SetTable.below xs j]? = some j := by
  obtain ⟨k, hk, e⟩ := List.getElem_of_mem h
  rw [Array.length_toList] at hk
  rw [Array.getElem_toList] at e
  have ek : xs.getD k 0 = j := by rw [Array.getD_eq_getD_getElem?, Array.getElem?_eq_getElem hk]; exact e
  obtain ⟨h0, h1, h2⟩ := below_spec u j
  have : SetTable.below xs j = k := by
    generalize SetTable.below xs j = r at h0 h1 h2 ⊢
    rcases Nat.lt_trichotomy r k with h | h | h
    · have a := h2 r (Nat.le_refl _) (by omega)
      have b := u.lt (i := r) (k := k) h hk
      omega
    · exact h
    · have := h1 k h; omega
  rw [this, Array.getElem?_eq_getElem hk, e]
theorem insertAt_list {α : Type} (xs : Array α) (p : Nat) (x : α) : (SetTable.insertAt xs p x).toList = xs.toList.take p ++ x :: xs.toList.drop p := by
  unfold SetTable.insertAt
  simp [Array.toList_extract, List.extract]
  exact List.take_of_length_le (by simp)
theorem up_insert {xs : Array Nat} (u : Up xs) {j : Nat} (h : j ∉ xs.toList) : Up (SetTable.insertAt xs (SetTable.below xs j) j) := by
  obtain ⟨h0, h1, h2⟩ := below_spec u j
  generalize SetTable.below xs j = r at h0 h1 h2 ⊢
  unfold Up
  rw [insertAt_list, List.pairwise_append]
  have lt : ∀ a ∈ xs.toList.take r, a < j := fun a ha => by
    obtain ⟨k, hk, e⟩ := List.getElem_of_mem ha
    rw [List.length_take, Array.length_toList] at hk
    rw [List.getElem_take, Array.getElem_toList] at e
    have := h1 k (by omega)
    rw [Array.getD_eq_getD_getElem?, Array.getElem?_eq_getElem (by omega)] at this
    rw [← e]; exact this
  have gt : ∀ a ∈ xs.toList.drop r, j < a := fun a ha => by
    have hm := List.mem_of_mem_drop ha
    obtain ⟨k, hk, e⟩ := List.getElem_of_mem ha
    rw [List.length_drop, Array.length_toList] at hk
    rw [List.getElem_drop, Array.getElem_toList] at e
    have := h2 (r + k) (by omega) (by omega)
    rw [Array.getD_eq_getD_getElem?, Array.getElem?_eq_getElem (by omega)] at this
    have h3 : j ≤ a := by rw [← e]; exact this
    have h4 : j ≠ a := fun z => h (by rw [z]; exact hm)
    omega
  refine ⟨u.sublist (List.take_sublist _ _), List.pairwise_cons.mpr ⟨gt, u.sublist (List.drop_sublist _ _)⟩, fun a ha b hb => ?_⟩
  rcases List.mem_cons.mp hb with e | hb
  · rw [e]; exact lt a ha
  · have := lt a ha; have := gt b hb; omega
/-- a free slot is no one's place -/
theorem probe_free {t : SetTable} {hashAt : Nat → Int} {h : Int} : ∀ (f : Nat) (p : SetTable.Probe) (j : Nat) (d : Option Nat), (∀ q, p.dummy = some q → t.slot q = .dummy) → SetTable.probe.go t hashAt h f p = some (.empty j d) →
    t.slot j = .empty ∧ ∀ q, d = some q → t.slot q = .dummy
  | 0, p, j, d, _, e => by cases e
  | f + 1, p, j, d, hd, e => by
    unfold SetTable.probe.go at e
    have adv : ∀ p : SetTable.Probe, (t.advance p).dummy = p.dummy := fun p => by unfold SetTable.advance; split <;> rfl
    cases hs : t.slot p.j with
    | empty =>
      rw [hs] at e
      dsimp only at e
      cases e
      exact ⟨hs, hd⟩
    | dummy =>
      rw [hs] at e
      refine probe_free f _ j d (fun q hq => ?_) e
      rw [adv] at hq
      cases hq
      exact hs
    | live i =>
      rw [hs] at e
      dsimp only at e
      split at e
      · cases e
      · refine probe_free f _ j d (fun q hq => ?_) e
        rw [adv] at hq
        exact hd q hq
theorem free_notin {t : SetTable} (u : Up t.place) {h : Int} {j : Nat} {b : Bool} (e : t.freeSlot h = some (j, b)) : j ∉ t.place.toList := by
  unfold SetTable.freeSlot at e
  have key : ∀ q, t.slot q = .empty ∨ t.slot q = .dummy → q ∉ t.place.toList := fun q hq hm => by
    have z := below_mem u hm
    have sl : t.slot q = .live (SetTable.below t.place q) := by
      unfold SetTable.slot
      dsimp only
      rw [z]; simp
    rw [sl] at hq
    rcases hq with h | h <;> cases h
  cases hp : t.probe (fun _ => h + 1) h (t.probeStart h) with
  | none => rw [hp] at e; cases e
  | some m =>
    rw [hp] at e
    cases m with
    | candidate j i n => cases e
    | empty j0 d =>
      obtain ⟨a, c⟩ := probe_free _ _ _ _ (fun q hq => by cases hq) hp
      dsimp only at e
      cases d with
      | none => cases e; exact key _ (.inl a)
      | some q => cases e; exact key _ (.inr (c q rfl))
theorem up_range (n : Nat) : Up (Array.range n) := by
  unfold Up
  rw [Array.toList_range]
  exact List.pairwise_lt_range
theorem lay_up {t : SetTable} (u : Up t.place) (es : Array (Int × Value)) (h : Int) (x : Value) : Up (layNew t es h x).2.1.place := by
  unfold layNew
  split
  · rename_i slot wasD q
    dsimp only
    unfold SetTable.orStandIn
    split
    · exact up_insert u (free_notin u q)
    · exact up_range _
  · exact up_range _
theorem laid_up {mask finger moves : Nat} {led plain : Bool} {hs : Array Int} {t' : SetTable} {o : Array Nat} (h : SetTable.laid mask finger moves led plain hs = some (t', o)) : Up t'.place := by
  unfold SetTable.laid at h
  cases q : SetTable.layClean mask hs with
  | none => rw [q] at h; cases h
  | some owner =>
    rw [q] at h
    cases h
    unfold Up
    rw [List.toList_toArray, List.pairwise_map, List.pairwise_filterMap]
    refine List.pairwise_lt_range.imp fun {a b} hab c hc d hd => ?_
    cases ha : owner.getD a none with
    | none => rw [ha] at hc; cases hc
    | some k =>
      cases hb : owner.getD b none with
      | none => rw [hb] at hd; cases hd
      | some k' =>
        rw [ha] at hc; rw [hb] at hd
        cases hc; cases hd
        exact hab
theorem relay_up {t : SetTable} (es : Array (Int × Value)) (k : Nat) : Up (relayAll t es k).2.1.place := by
  unfold relayAll
  split
  · rename_i t' o q
    dsimp only
    split
    · exact laid_up q
    · exact up_range _
  · exact up_range _
end L2
end

section
set_option Elab.async false
set_option linter.all false
set_option maxRecDepth 100000
set_option maxHeartbeats 4000000
/-! ## sets of ints: made of a list, walked, sorted -/
namespace L2
open PySem PySem.Spec PyProof.Rows
/-- the members of a set's table, as ints -/
def entI (p : Int × Tok) : Int × Value := (hashInt p.1, .int p.1 p.2)
/-- the set at a holds just the ints of l -/
structure SetI (w : World) (h : Heap) (a : Addr) (l : List (Int × Tok)) : Prop where
  ex : ∃ es ep t, h.get? a = some (sObj es ep t) ∧ es.toList = l.map (entI) ∧ t.fits es.size = true ∧ t.led = !byT w ∧ Up t.place
  nd : (l.map (·.1)).Nodup
  sz : l.length < scanBound
theorem SetI.at {w : World} {h h' : Heap} {a : Addr} {l : List (Int × Tok)} (x : SetI w h a l) (k : ∀ o, h.get? a = some o → h'.get? a = some o) : SetI w h' a l :=
  ⟨let ⟨es, ep, t, e, r⟩ := x.ex; ⟨es, ep, t, k _ e, r⟩, x.nd, x.sz⟩
section
variable {P : Program} {w : World} {A : Around} {E : Value → Shared → Prop} {s : Shared} {a : Addr} {l : List (Int × Tok)}
theorem elems_ofI (l : List (Int × Tok)) : ElemsOf (intKind P w) (l.map (entI)) := by
  intro e he
  obtain ⟨p, _, rfl⟩ := List.mem_map.mp he
  exact ⟨⟨p.1, intKind_is P w _ _, rfl⟩, rfl⟩
theorem find_entI (x : Int) : ∀ l : List (Int × Tok), (∀ j, (l.map (entI)).findIdx? (fun e => (intKind P w).is x e.2) = some j → x ∈ l.map (·.1)) ∧ ((l.map (entI)).findIdx? (fun e => (intKind P w).is x e.2) = none → x ∉ l.map (·.1)) := by
  intro l
  refine ⟨fun j h => ?_, fun h hm => ?_⟩
  · obtain ⟨hj, hp, _⟩ := List.findIdx?_eq_some_iff_getElem.mp h
    rw [List.getElem_map] at hp
    rw [List.length_map] at hj
    have : (l[j]).1 = x := (intKind P w).inj _ _ _ (intKind_is P w _ _) hp
    exact List.mem_map.mpr ⟨l[j], List.getElem_mem hj, this⟩
  · obtain ⟨p, hp, rfl⟩ := List.mem_map.mp hm
    have := List.findIdx?_eq_none_iff.mp h (entI p) (List.mem_map_of_mem hp)
    rw [show (intKind P w).is p.1 (entI p).2 = true from intKind_is P w _ _] at this
    cases this
theorem perm_entI {es' : List (Int × Value)} {l : List (Int × Tok)} (p : es'.Perm (l.map (entI))) : ∃ l' : List (Int × Tok), es' = l'.map (entI) ∧ l'.Perm l := by
  let back : Int × Value → Int × Tok := fun e => match e.2 with | .int x t => (x, t) | _ => (default, 0)
  have hb : ∀ q : Int × Tok, back (entI q) = q := fun q => rfl
  refine ⟨es'.map back, ?_, ?_⟩
  · rw [List.map_map]
    conv => lhs; rw [← List.map_id es']
    refine List.map_congr_left fun e he => ?_
    obtain ⟨q, _, rfl⟩ := List.mem_map.mp (p.mem_iff.mp he)
    rfl
  · have := p.map back
    rw [List.map_map, show (back ∘ entI) = id from funext hb, List.map_id] at this
    exact this
/-- an int is added -/
theorem add_int {x : Int} {tk : Tok} {Q : Bool → Shared → Prop} (S : SetI w s.heap a l) (room : l.length + 1 < scanBound)
    (q : ∀ h' l' b, Heap.SameBut a s.heap h' → SetI w h' a l' → (∀ z, z ∈ l'.map (·.1) ↔ z ∈ l.map (·.1) ∨ z = x) → l'.length ≤ l.length + 1 → Q b { s with heap := h' }) :
    wpAny (model P w) A (setAddHashed a (.int x tk) (hashInt x)) Q E s := by
  obtain ⟨⟨es, ep, t, ho, hel, hf, hled, hpl⟩, nd, sz⟩ := S
  have hsz : es.size = l.length := by rw [← Array.length_toList, hel, List.length_map]
  have hE : ElemsOf (intKind P w) es.toList := by rw [hel]; exact elems_ofI l
  have hk : (intKind P w).is x (.int x tk) = true := intKind_is P w _ _
  have hd : (sObj es ep t).data = .set es ep t := rfl
  unfold setAddHashed setAddHashedIn
  refine wpAny_holding (wpAny_bind (wpAny_setState_of ho hd hf ?_))
  dsimp only
  rw [byScan_of (knd := intKind P w) rfl (by rw [hsz]; exact sz) hE]
  simp only [↓reduceIte]
  unfold setAddByScan
  refine wpAny_bind (wpAny_bind (wpAny_rule (wpAny_bind (wpAny_setScan_of (knd := intKind P w) hk ho hd hf hE ?_))))
  have hfi := find_entI (P := P) (w := w) x l
  rw [← hel] at hfi
  cases hr : List.findIdx? (fun e => (intKind P w).is x e.2) es.toList with
  | some j =>
    dsimp only
    have hm := hfi.1 j hr
    refine wpAny_pure (wpAny_pure ?_)
    have e : s = { s with heap := s.heap } := by cases s; rfl
    rw [e]
    exact q s.heap l false (Heap.SameBut.refl a s.heap) ⟨⟨es, ep, t, ho, hel, hf, hled, hpl⟩, nd, sz⟩ (fun z => ⟨.inl, fun h => h.elim id fun e => e ▸ hm⟩) (Nat.le_succ _)
  | none =>
    have hm := hfi.2 hr
    dsimp only
    have pp := layNew_perm t es (hashInt x) (.int x tk)
    have pf := layNew_fits t es (hashInt x) (.int x tk)
    have pl := lay_led t es (hashInt x) (.int x tk)
    have pq := lay_up hpl es (hashInt x) (.int x tk)
    generalize hL : layNew t es (hashInt x) (.int x tk) = L at pp pf pl pq ⊢
    obtain ⟨es1, t1, wasD, gave⟩ := L
    dsimp only at pp pf pl pq ⊢
    rw [Array.toList_push, hel] at pp
    obtain ⟨l1, e1, p1⟩ := perm_entI (l := l ++ [(x, tk)]) (es' := es1.toList) (by rw [List.map_append]; exact pp)
    have len1 : l1.length = l.length + 1 := by rw [p1.length_eq, List.length_append]; rfl
    have nd1 : (l1.map (·.1)).Nodup := by
      rw [(p1.map (·.1)).nodup_iff, List.map_append, List.nodup_append]
      refine ⟨nd, by simp, fun u hu v hv => ?_⟩
      rw [List.map_cons, List.map_nil, List.mem_singleton] at hv
      rintro rfl
      rw [hv] at hu
      exact hm hu
    have mem1 : ∀ z, z ∈ l1.map (·.1) ↔ z ∈ l.map (·.1) ∨ z = x := fun z => by
      rw [(p1.map (·.1)).mem_iff, List.map_append, List.mem_append]; simp
    have hsz1 : es1.size = l.length + 1 := by rw [← Array.length_toList, e1, List.length_map, len1]
    have gw : ∀ (b : Bool) {s₁ : Shared} {Q' : Unit → Shared → Prop}, Q' () s₁ → wpAny (model P w) A (match b with | true => rule "set.scan.the-table-gave-way" | false => pure ()) Q' E s₁ :=
      fun b s₁ Q' hq => by cases b <;> first | exact wpAny_pure hq | exact wpAny_rule hq
    refine wpAny_bind (gw _ ?_)
    -- the end, for the table with the mark
    have fin : ∀ t2 : SetTable, t2.fits es1.size = true → t2.led = t.led → Up t2.place →
        wpAny (model P w) A (do
          storeSet a es1 t2
          if (!wasD && t2.tooFull) = true then do
            (match (relayAll t2 es1 (SetTable.grown es1.size)).2.2 with | true => rule "set.scan.the-table-gave-way" | false => pure ())
            storeSet a (relayAll t2 es1 (SetTable.grown es1.size)).1 (relayAll t2 es1 (SetTable.grown es1.size)).2.1
            pure (some true)
          else pure (some true)) (fun r s' => ∃ b, r = some b ∧ Q b s') E s := by
      intro t2 f2 l2 p2
      refine wpAny_bind (wpAny_storeSet_of ho hd ?_ (by rw [hsz1]; exact fits_of_scanBound room))
      have g1 : (s.heap.update a (Obj.putSet es1 t2)).get? a = some (sObj es1 (ep + 1) t2) := by
        have := Heap.get?_update_self (Obj.putSet es1 t2) ho (by rw [putSet_of es1 t2 hd]; rfl)
        rw [putSet_of es1 t2 hd] at this; exact this
      have sb := Heap.SameBut.update s.heap a (Obj.putSet es1 t2)
      split
      · have rp := relayAll_perm t2 es1 (SetTable.grown es1.size)
        have rf := relayAll_fits t2 es1 (SetTable.grown es1.size)
        have rl := relay_led t2 es1 (SetTable.grown es1.size)
        have rq := relay_up (t := t2) es1 (SetTable.grown es1.size)
        generalize hR : relayAll t2 es1 (SetTable.grown es1.size) = R at rp rf rl rq ⊢
        obtain ⟨es2, t3, gave2⟩ := R
        dsimp only at rp rf rl rq ⊢
        rw [e1] at rp
        obtain ⟨l2', e2, p2'⟩ := perm_entI rp
        have len2 : l2'.length = l.length + 1 := by rw [p2'.length_eq, len1]
        have hsz2 : es2.size = l.length + 1 := by rw [← Array.length_toList, e2, List.length_map, len2]
        refine wpAny_bind (gw _ ?_)
        refine wpAny_bind (wpAny_storeSet_of g1 rfl ?_ (by rw [hsz2]; exact fits_of_scanBound room))
        have g2 : ((s.heap.update a (Obj.putSet es1 t2)).update a (Obj.putSet es2 t3)).get? a = some (sObj es2 (ep + 1 + 1) t3) := by
          have := Heap.get?_update_self (Obj.putSet es2 t3) g1 (by rw [putSet_of es2 t3 (show (sObj es1 (ep + 1) t2).data = _ from rfl)]; rfl)
          rw [putSet_of es2 t3 (show (sObj es1 (ep + 1) t2).data = _ from rfl)] at this; exact this
        refine wpAny_pure ⟨true, rfl, q _ l2' true (sb.trans (Heap.SameBut.update _ a _)) ⟨⟨es2, _, t3, g2, e2, rf, by rw [rl, l2, hled], rq⟩, by rw [(p2'.map (·.1)).nodup_iff]; exact nd1, by omega⟩ (fun z => by rw [(p2'.map (·.1)).mem_iff]; exact mem1 z) (by omega)⟩
      · exact wpAny_pure ⟨true, rfl, q _ l1 true sb ⟨⟨es1, _, t2, g1, e1, f2, by rw [l2, hled], p2⟩, nd1, by omega⟩ mem1 (by omega)⟩
    split
    · rename_i hp1
      refine wpAny_bind ?_
      rw [hashByValue_scannable 8 (show (Value.int x tk).scannable = true from rfl)]
      refine wpAny_pure ?_
      rw [show (if plainKind (Value.int x tk) = true then t1 else { t1 with plain := false }) = t1 from rfl]
      refine wpAny_mono (fin t1 pf pl pq) (fun r s' h => ?_) fun _ _ h => h
      obtain ⟨b, rfl, hq⟩ := h
      exact wpAny_pure hq
    · rename_i hp1
      refine wpAny_bind (wpAny_pure ?_)
      simp only [↓reduceIte]
      refine wpAny_mono (fin t1 pf pl pq) (fun r s' h => ?_) fun _ _ h => h
      obtain ⟨b, rfl, hq⟩ := h
      exact wpAny_pure hq
end
section
variable {P : Program} {w : World} {A : Around} {R : Result → Shared → Prop} {I : Addr} {fp wr : List Addr} {G : Array GenState → Array GenState → Prop} {n : Nat} {Pv : Nat → Value → Prop} {St : Nat → Shared → Prop}
end
section
variable {P : Program} {w : World} {A : Around} {E : Value → Shared → Prop} {s : Shared}
set_option maxHeartbeats 3200000 in
end
section
variable {P : Program} {w : World} {A : Around} {E : Value → Shared → Prop} {s : Shared} {a : Addr} {l : List (Int × Tok)}
theorem SetI.typeIs (S : SetI w s.heap a l) : s.TypeIs (.ref a) "set" := let ⟨_, _, _, e, _⟩ := S.ex; ⟨_, e, rfl⟩
end
section
variable {P : Program} {w : World} {A : Around} {E : Value → Shared → Prop} {s : Shared} {a : Addr} {es : Array (Int × Value)} {t : SetTable} {ep slot i : Nat}
end
section
variable {P : Program} {w : World} {A : Around} {E : Value → Shared → Prop} {s : Shared} {a : Addr} {l : List (Int × Tok)}
end
section
variable {P : Program} {w : World} {A : Around} {E : Value → Shared → Prop} {s : Shared} {a : Addr} {l : List (Int × Tok)}
set_option maxHeartbeats 2000000 in
end
/-- the set at p holds just these ints -/
def InS (w : World) (p : Addr) (ss : List Int) : HO := .ext fun h => ∃ l, SetI w h p l ∧ ∀ z, z ∈ l.map (·.1) ↔ z ∈ ss
section
variable {X : Cx}
end
end L2
end

section
set_option Elab.async false
set_option linter.all false
set_option maxRecDepth 100000
set_option maxHeartbeats 4000000
/-! ## set(ints), sorted(a set of ints) as terms -/
namespace L2
open PySem PySem.Spec PyProof.Rows
section
variable {X : Cx}
def qSetI (w : World) : List V → Hp → VK → Prop := fun vs H Q => ∃ a, vs = [.ref a] ∧ ∃ ss : List Int, H a = some (.lst (ss.map V.int)) ∧ ss.length < 4000 ∧ ∀ p, H p = none → Q (.ref p) (upd H p (InS w p ss))
def qSortSetI (w : World) : List V → Hp → VK → Prop := fun vs H Q => ∃ a, vs = [.ref a] ∧ ∃ ss : List Int, H a = some (InS w a ss) ∧ ss.length < 64 ∧
  ∀ ss' : List Int, (∀ z, z ∈ ss' ↔ z ∈ ss) → ss'.Pairwise (· < ·) → ∀ p, H p = none → Q (.ref p) (upd H p (.lst (ss'.map V.int)))
end
end L2
end

section
set_option Elab.async false
set_option linter.all false
set_option maxRecDepth 100000
set_option maxHeartbeats 4000000
/-! ## a slice of a tuple that may be the whole: then it is the tuple itself -/
namespace HT
open PySem PyProof.Rows L2
section
variable {prog : Program} {w : World} {A : Around} {E : Value → Shared → Prop} {s : Shared}
end
end HT
namespace L2
open PySem PySem.Spec PyProof.Rows
section
variable {X : Cx}
def qSlT2 : V → Option Int → Option Int → Hp → VK → Prop := fun x lo hi H Q => ∃ a, x = .ref a ∧ ∃ xs, H a = some (.tup xs) ∧
  ((HT.sIx xs.length 0 lo = 0 ∧ HT.sIx xs.length xs.length hi = xs.length) → Q (.ref a) H) ∧ (¬ (HT.sIx xs.length 0 lo = 0 ∧ HT.sIx xs.length xs.length hi = xs.length) → ∀ p, H p = none → Q (.ref p) (upd H p (.tup (cutV xs lo hi))))
end
end L2
end

section
set_option Elab.async false
set_option linter.all false
set_option maxRecDepth 100000
set_option maxHeartbeats 4000000
/-! ## a set in a list of sets -/
namespace L2
open PySem PySem.Spec PyProof.Rows
section
variable {X : Cx} {pins : List (Addr × Obj)} {s : Shared} {σ : St} {H : Hp}
/-- a set in a list of sets -/
def qInS (neg : Bool) : R2 := fun x y H Q => ∃ a L, x = .ref a ∧ y = .ref L ∧ ∃ u bs ts, H a = some (.tup (List.map V.int u)) ∧ H L = some (.lst (List.map V.ref bs)) ∧ SetsAt H bs ts ∧ Q (.bl (if neg then !decide (u ∈ ts) else decide (u ∈ ts))) H
end
end L2
end

section
set_option Elab.async false
set_option linter.all false
set_option maxRecDepth 100000
set_option maxHeartbeats 4000000
/-! ## comprehensions by what their items are: f i = some d, an item that stands for d; none, no item -/
namespace L2
open PySem PySem.Spec PyProof.Rows
/-- values that stand for data, one for one -/
def RepL {δ : Type} (Rep : Hp → V → δ → Prop) (H : Hp) (vs : List V) (ds : List δ) : Prop := vs.length = ds.length ∧ ∀ (i : Nat) v d, vs[i]? = some v → ds[i]? = some d → Rep H v d
theorem RepL.nil {δ : Type} {Rep : Hp → V → δ → Prop} {H : Hp} : RepL Rep H [] [] := ⟨rfl, fun i v d h => by simp at h⟩
theorem RepL.snoc {δ : Type} {Rep : Hp → V → δ → Prop} {H : Hp} {vs : List V} {ds : List δ} {v : V} {d : δ} (h : RepL Rep H vs ds) (hv : Rep H v d) : RepL Rep H (vs ++ [v]) (ds ++ [d]) := by
  refine ⟨by rw [List.length_append, List.length_append, h.1]; rfl, fun i u e hu he => ?_⟩
  have hl := h.1
  by_cases hi : i < vs.length
  · rw [List.getElem?_append_left hi] at hu
    rw [List.getElem?_append_left (by omega)] at he
    exact h.2 i u e hu he
  · rw [List.getElem?_append_right (by omega)] at hu
    rw [List.getElem?_append_right (by omega), ← hl] at he
    have h0 : i - vs.length = 0 := by
      cases z : i - vs.length with
      | zero => rfl
      | succ n => rw [z] at hu; simp at hu
    rw [h0] at hu he
    cases hu; cases he
    exact hv
theorem RepL.mono {δ : Type} {Rep : Hp → V → δ → Prop} {H H' : Hp} {vs : List V} {ds : List δ} (k : ∀ v d, Rep H v d → Rep H' v d) (h : RepL Rep H vs ds) : RepL Rep H' vs ds := ⟨h.1, fun i v d a b => k v d (h.2 i v d a b)⟩
theorem RepL.at {δ : Type} {Rep : Hp → V → δ → Prop} {H : Hp} {vs : List V} {ds : List δ} (h : RepL Rep H vs ds) {i : Nat} {v : V} (hv : vs[i]? = some v) : ∃ d, ds[i]? = some d ∧ Rep H v d := by
  have hi := (List.getElem?_eq_some_iff.mp hv).1
  have e : ds[i]? = some (ds[i]'(by have := h.1; omega)) := List.getElem?_eq_getElem _
  exact ⟨_, e, h.2 i v _ hv e⟩
/-- a set (tuple of ints) -/
def RSet (H : Hp) (v : V) (x : List Int) : Prop := ∃ b, v = .ref b ∧ H b = some (.tup (List.map V.int x))
theorem RSet.mono {H H' : Hp} {v : V} {d : List Int} (k : ∀ b xs, H b = some (.tup xs) → H' b = some (.tup xs)) (r : RSet H v d) : RSet H' v d := let ⟨b, e, h⟩ := r; ⟨b, e, k _ _ h⟩
theorem RSet.put {H : Hp} {v : V} {d : List Int} {D : Addr} {o : HO} (hl : ∃ xs, H D = some (.lst xs)) (r : RSet H v d) : RSet (upd H D o) v d := by
  obtain ⟨b, rfl, h⟩ := r
  obtain ⟨xs, hx⟩ := hl
  exact ⟨b, rfl, by rw [upd_ne (ne_of h hx (by intro z; cases z))]; exact h⟩
theorem RSet.same : ∀ (D : Addr) (H H' : Hp) (v : V) (d : List Int), Same H H' → (fun _ => RSet) D H v d → (fun _ => RSet) D H' v d := fun _ _ _ _ _ s r => r.mono fun b xs e => s _ _ e
end L2
end

section
set_option Elab.async false
set_option linter.all false
set_option maxRecDepth 100000
set_option maxHeartbeats 2000000
namespace L2
open PySem
theorem SetsAt.mono {H H' : Hp} {bs : List Addr} {ts : List (List Int)} (k : ∀ b xs, H b = some (.tup xs) → H' b = some (.tup xs)) (s : SetsAt H bs ts) : SetsAt H' bs ts := ⟨s.1, fun i b t hb ht => k _ _ (s.2 i b t hb ht)⟩
theorem SetsAt.snoc {H : Hp} {bs : List Addr} {ts : List (List Int)} {b : Addr} {t : List Int} (s : SetsAt H bs ts) (hb : H b = some (.tup (List.map V.int t))) : SetsAt H (bs ++ [b]) (ts ++ [t]) := by
  refine ⟨by rw [List.length_append, List.length_append, s.1]; rfl, fun i c u hc hu => ?_⟩
  by_cases hi : i < bs.length
  · rw [List.getElem?_append_left hi] at hc
    rw [List.getElem?_append_left (by rw [← s.1]; exact hi)] at hu
    exact s.2 i c u hc hu
  · rw [List.getElem?_append_right (by omega)] at hc
    rw [List.getElem?_append_right (by rw [← s.1]; omega), ← s.1] at hu
    have h0 : i - bs.length = 0 := by
      cases z : i - bs.length with
      | zero => rfl
      | succ n => rw [z] at hc; simp at hc
    rw [h0] at hc hu
    cases hc; cases hu
    exact hb
theorem kit_same (K : PySem.W.Frag) (T : String) : PySem.W.kitOne K (.type T) (.type T) = some true := by
  unfold PySem.W.kitOne
  rw [if_pos (by simp)]
end L2
end

section
set_option Elab.async false
set_option linter.all false
set_option maxRecDepth 100000
set_option maxHeartbeats 4000000
/-! ## set(a tuple of ints) -/
namespace L2
open PySem PySem.Spec PyProof.Rows
section
variable {P : Program} {w : World} {A : Around} {E : Value → Shared → Prop} {s : Shared}
set_option maxHeartbeats 3200000 in
end
section
variable {X : Cx}
def qSetIT (w : World) : List V → Hp → VK → Prop := fun vs H Q => ∃ a, vs = [.ref a] ∧ ∃ ss : List Int, H a = some (.tup (ss.map V.int)) ∧ ss.length < 4000 ∧ ∀ p, H p = none → Q (.ref p) (upd H p (InS w p ss))
end
end L2
end

section
set_option Elab.async false
set_option linter.all false
set_option maxRecDepth 100000
namespace L2
open PySem PySem.Spec PyProof.Rows
section
variable {P : Program} {w : World} {κ : Type} [DecidableEq κ] {knd : PySem.KeyKind P w κ} {A : Around} {E : Value → Shared → Prop} {s : Shared} {a b : Addr} {kvs kvs2 : List (κ × Value)}
end
section
variable {X : Cx}
theorem KV.at {kvs : List (Key × V)} {vs : List (Key × Value)} (r : KV kvs vs) {i : Nat} {k : Key} {u : Value} (h : vs[i]? = some (k, u)) : ∃ v, kvs[i]? = some (k, v) ∧ RelV v u := by
  induction r generalizing i with
  | nil => cases i <;> cases h
  | @cons p q ps qs h1 t ih =>
    cases i with
    | zero =>
      cases h
      obtain ⟨p1, p2⟩ := p
      obtain ⟨e1, e2⟩ := h1
      dsimp only at e1
      subst e1
      exact ⟨p2, rfl, e2⟩
    | succ i => exact ih h
theorem KV.to {kvs : List (Key × V)} {vs : List (Key × Value)} (r : KV kvs vs) {i : Nat} {k : Key} {v : V} (h : kvs[i]? = some (k, v)) : ∃ u, vs[i]? = some (k, u) ∧ RelV v u := by
  induction r generalizing i with
  | nil => cases i <;> cases h
  | @cons p q ps qs h1 t ih =>
    cases i with
    | zero =>
      cases h
      obtain ⟨q1, q2⟩ := q
      obtain ⟨e1, e2⟩ := h1
      dsimp only at e1
      subst e1
      exact ⟨q2, rfl, e2⟩
    | succ i => exact ih h
/-- d == e, d != e: dicts of sets that are alike, in whatever order -/
def qEqDS (neg : Bool) : R2 := fun x y H Q => ∃ a b, x = .ref a ∧ y = .ref b ∧ ∃ kvs kvs2, H a = some (.dK kvs) ∧ H b = some (.dK kvs2) ∧ kvs.length = kvs2.length ∧
  (∀ k v, (k, v) ∈ kvs → ∃ p q t, v = .ref p ∧ (k, V.ref q) ∈ kvs2 ∧ H p = some (.tup (List.map V.int t)) ∧ H q = some (.tup (List.map V.int t))) ∧ Q (.bl (!neg)) H
end
end L2
end

section
set_option Elab.async false
set_option linter.all false
set_option maxRecDepth 100000
set_option maxHeartbeats 4000000
/-! ## a dict walked by its keys -/
namespace L2
open PySem PySem.Spec PyProof.Rows
section
variable {X : Cx} {pins : List (Addr × Obj)} {σ : St} {H : Hp} {s : Shared} {d : Addr} {o : Obj} {kvs : List (Key × V)}
end
def Itd (d : Addr) (o : Obj) (kvs : List (Key × V)) : It :=
  ⟨fun i H => i < kvs.length ∧ H d = some (.frz o (.dK kvs)), fun i H x H' => H' = H ∧ ∃ k v, kvs[i]? = some (k, v) ∧ x = kV k, fun i H => kvs.length ≤ i ∧ H d = some (.frz o (.dK kvs))⟩
section
variable {X : Cx} {tg : Expr}
def iDict (te : TE) : TI := fun σ H R => te σ H fun v H1 => ∃ a kvs, v = .ref a ∧ H1 a = some (.dK kvs) ∧ ∀ o, R (Itd a o kvs) (upd H1 a (.frz o (.dK kvs)))
/-- a walk is over: the dict may be written again -/
def tThaw (H0 : Hp) (t : TS) : TS := fun D σ H => ∃ d o kvs, H d = some (.frz o (.dK kvs)) ∧ H0 d = none ∧ t D σ (upd H d (.dK kvs))
end
end L2
end

section
set_option Elab.async false
set_option linter.all false
set_option maxRecDepth 100000
set_option maxHeartbeats 4000000
namespace L2
open PySem PySem.Spec PyProof.Rows
section
variable {X : Cx}
/-- d.get(number, else) -/
def rGetDI : V → List V → Hp → VK → Prop := fun x vs H Q => ∃ a n d, x = .ref a ∧ vs = [.int n, d] ∧ ∃ kvs, H a = some (.dK kvs) ∧ Q ((valV kvs (Sum.inl n)).getD d) H
/-- l.extend(tuple) -/
def rExtendT : V → List V → Hp → VK → Prop := fun x vs H Q => ∃ l b xs zs, x = .ref l ∧ vs = [.ref b] ∧ H l = some (.lst xs) ∧ H b = some (.tup zs) ∧ xs.length + zs.length ≤ sizeLine ∧ Q .non (upd H l (.lst (xs ++ zs)))
end
section
variable {X : Cx} {N : List Str} {sc : Scope} {pos : Pos}
end
section
variable {X : Cx}
end
end L2
end

section
set_option Elab.async false
set_option linter.all false
set_option maxRecDepth 100000
set_option maxHeartbeats 4000000
/-! ## own exceptions: their classes, how one is made -/
namespace L2
open PySem PySem.Spec PyProof.Rows
open PySem.W (Frag Looks)
abbrev veM : List Value := [.type "ValueError", .type "Exception", .type "BaseException", .type "object"]
/-- a namespace of texts -/
def xnIn (K : Frag) (n : Addr) : Bool := match K.lookup n with
  | some o => (match o.data with | .dict es _ => es.toList.all fun e => (match e.key with | .str _ _ => true | _ => false) | _ => false)
  | none => false
theorem xn_of {K : Frag} {h : Heap} {n : Addr} (X : K.In h) (q : xnIn K n = true) : ∃ m, h.Ns n m := by
  unfold xnIn at q
  cases e : K.lookup n with
  | none => rw [e] at q; cases q
  | some o =>
    rw [e] at q
    dsimp only at q
    cases d : o.data with
    | dict es ep =>
      rw [d] at q
      dsimp only at q
      refine ⟨nsFind es, o, es, ep, X _ _ e, d, fun x hx => ?_, fun _ => rfl⟩
      have := List.all_eq_true.mp q x (Array.mem_toList_iff.mpr hx)
      cases k : x.key with
      | str y t => exact ⟨y, t, rfl⟩
      | _ => rw [k] at this; cases this
    | _ => rw [d] at q; cases q
/-- the classes above one -/
def xtIn (K : Frag) : List Value → Bool
  | .ref a :: tl => (match K.lookup a with
    | some o => (match o.data with | .cls cd => xnIn K cd.ns && (PySem.W.nsIn K cd.ns "__init__" == some none) | _ => false)
    | none => false) && xtIn K tl
  | l => l == veM
theorem xt_of {K : Frag} {h : Heap} (X : K.In h) : ∀ {l : List Value}, xtIn K l = true → OwnTail h veM l
  | .ref a :: tl, q => by
    simp only [xtIn, Bool.and_eq_true] at q
    obtain ⟨q, r⟩ := q
    cases e : K.lookup a with
    | none => rw [e] at q; cases q
    | some o =>
      rw [e] at q
      obtain ⟨oc, od, da, sl⟩ := o
      cases da with
      | cls cd =>
        simp only [Bool.and_eq_true, beq_iff_eq] at q
        obtain ⟨m, hm⟩ := xn_of X q.1
        exact .own (X _ _ e) hm (PySem.W.ns_none_of X hm q.2) (xt_of X r)
      | _ => cases q
  | [], q => by cases eq_of_beq q
  | .type n :: tl, q => by rw [show Value.type n :: tl = veM from eq_of_beq q]; exact .base
  | .none :: tl, q => by cases eq_of_beq q
  | .bool _ :: tl, q => by cases eq_of_beq q
  | .int _ _ :: tl, q => by cases eq_of_beq q
  | .str _ _ :: tl, q => by cases eq_of_beq q
  | .builtin _ :: tl, q => by cases eq_of_beq q
  | .float _ _ :: tl, q => by cases eq_of_beq q
  | .bytes _ _ :: tl, q => by cases eq_of_beq q
  | .ellipsis :: tl, q => by cases eq_of_beq q
  | .notImplemented :: tl, q => by cases eq_of_beq q

/-- an exception's class, under ValueError -/
def xcIn (K : Frag) (C : Addr) : Bool := match K.lookup C with
  | some o => o.cls == .type "type" && (match o.data with
    | .cls cd => !cd.hasDel && cd.hasDict && xnIn K cd.ns && (match cd.mro with | v :: tl => v == .ref C && xtIn K tl | [] => false) | _ => false) && (match o.slots.toList with | [_, _, _, _, some v, _] => v == .builtin "ValueError.__new__" | _ => false)
  | none => false
theorem xc_of {K : Frag} {h : Heap} {C : Addr} (X : K.In h) (q : xcIn K C = true) : ∃ nm qn N bs bm sn sub ab col dd k0 k1 k2 k3 k5 mN, h.get? C = some (excClassObj nm qn C N bs bm true sn sub ab col dd k0 k1 k2 k3 k5 "ValueError.__new__") ∧ h.Ns N mN ∧ OwnTail h veM bm := by
  unfold xcIn at q
  cases e : K.lookup C with
  | none => rw [e] at q; cases q
  | some o =>
    rw [e] at q
    obtain ⟨oc, od, da, sl⟩ := o
    simp only [Bool.and_eq_true, beq_iff_eq] at q
    obtain ⟨⟨rfl, q1⟩, q2⟩ := q
    cases da with
    | cls cd =>
      obtain ⟨nm, bs, mro, ns, qn, hd, sn, sub, ab, col, del⟩ := cd
      simp only [Bool.and_eq_true, Bool.not_eq_true'] at q1
      obtain ⟨⟨⟨rfl, rfl⟩, n1⟩, q1⟩ := q1
      cases mro with
      | nil => cases q1
      | cons v tl =>
        simp only [Bool.and_eq_true, beq_iff_eq] at q1
        obtain ⟨rfl, q1⟩ := q1
        obtain ⟨l⟩ := sl
        match l, q2 with
        | [k0, k1, k2, k3, some v, k5], q2 =>
          obtain ⟨m, hm⟩ := xn_of X n1
          have ev : v = .builtin "ValueError.__new__" := eq_of_beq q2
          subst ev
          exact ⟨nm, qn, ns, bs, tl, sn, sub, ab, col, od, k0, k1, k2, k3, k5, m, X _ _ e, hm, xt_of X q1⟩
    | _ => cases q1
section
variable {prog : Program} {w : World} {A : Around} {E : Value → Shared → Prop} {s : Shared} {K : Frag} {C fI : Addr}
theorem type_call_own {rest : List Value} {Q : PySem.Fin → Shared → Prop} (X : K.In s.heap) (q : xcIn K C = true) (hi : PySem.W.findIn K (.ref C) "__init__" = some (some (.ref fI))) (hf : PySem.W.typeIn K (.ref fI) = some (.type "function"))
    (hq : ∀ h', Heap.MadeExcOf s.heap h' (s.heap.objs.size + 1) (.ref C) rest → wpAny (model prog w) A (call (.ref fI) (.ref (s.heap.objs.size + 1) :: rest)) (fun r s' => r = .none ∧ Q (.done (.ret (.ref (s.heap.objs.size + 1)))) s') E { s with heap := h' }) (hrest : rest.length ≤ sizeLine) :
    wpAny (model prog w) A (Builtin.«type.__call__» ⟨.ref C :: rest, []⟩) Q E s := by
  obtain ⟨nm, qn, N, bs, bm, sn, sub, ab, col, dd, k0, k1, k2, k3, k5, mN, hC, hN, T⟩ := xc_of X q
  obtain ⟨h, g, d, t, os⟩ := s
  dsimp only at X hC hN T hq
  repeat (first | with_reducible refine wpAny_loadPart_at hC ?_ | with_reducible refine wpAny_madeBy_exc hC ?_ | wp_step)
  have FF := PySem.F.excBase_ValueError
  refine codeAny_call_builtin_code (Code.quiet_builtin _ FF.quiet) (wpAny_check_new_subU FF (by decide +kernel) T hC (codeAny_exc_new_subU FF (by decide +kernel) FF T hC ?_ hrest))
  show wpAny _ _ _ _ _ _
  have kp : ∀ b o, h.get? b = some o → ((h.push { cls := .type "tuple", data := .seq rest.toArray }).push { cls := .ref C, data := .fields #[.ref h.objs.size, .none, .none, .none, .bool false, .none] }).get? b = some o := fun b o e => Heap.get?_push_of_some _ (Heap.get?_push_of_some _ e)
  have e1 : ((h.push { cls := .type "tuple", data := .seq rest.toArray }).push { cls := .ref C, data := .fields #[.ref h.objs.size, .none, .none, .none, .bool false, .none] }).get? (h.objs.size + 1) = some { cls := .ref C, data := .fields #[.ref h.objs.size, .none, .none, .none, .bool false, .none] } := by heap_get
  have mk : Heap.MadeExcOf h ((h.push { cls := .type "tuple", data := .seq rest.toArray }).push { cls := .ref C, data := .fields #[.ref h.objs.size, .none, .none, .none, .bool false, .none] }) (h.objs.size + 1) (.ref C) rest := ⟨kp, Heap.get?_none_of_le (Nat.le_succ _), h.objs.size, e1, Heap.get?_none_of_le (Nat.le_refl _), Heap.get?_push_of_some _ (Heap.get?_push_at rfl rfl)⟩
  generalize ((h.push { cls := .type "tuple", data := .seq rest.toArray }).push { cls := .ref C, data := .fields #[.ref h.objs.size, .none, .none, .none, .bool false, .none] }) = h2 at kp e1 mk ⊢
  have hC2 := kp _ _ hC
  have X2 : K.In h2 := X.keeps kp
  have hcC : (Value.ref C :: bm).contains (.ref C) = true := by simp
  unfold isInstance
  repeat (first | with_reducible refine wpAny_loadPart_at e1 ?_ | (with_reducible refine wpAny_isSubtype_exc hC2 ?_; rw [hcC]) | wp_step)
  show wpAny _ _ (typeLookup (.ref C) _) _ _ _
  refine (PySem.W.looks_findIn (M := model prog w) (h := h2) X2 hi) _ _ _ _ (fun _ _ e => e) (wpAny_holding (wpAny_bind ((PySem.W.bind_fn (M := model prog w) (h := h2) X2 (.ref (h.objs.size + 1)) hf) _ _ _ _ (fun _ _ e => e) ?_)))
  refine wpAny_bind (wpAny_mono (hq h2 mk) (fun r s' hr => ?_) fun _ _ z => z)
  obtain ⟨rfl, z⟩ := hr
  wp_walk
  exact z
theorem call_own {rest : List Value} {Q : Value → Shared → Prop} (X : K.In s.heap) (q : xcIn K C = true) (hi : PySem.W.findIn K (.ref C) "__init__" = some (some (.ref fI))) (hf : PySem.W.typeIn K (.ref fI) = some (.type "function"))
    (hq : ∀ h', Heap.MadeExcOf s.heap h' (s.heap.objs.size + 1) (.ref C) rest → wpAny (model prog w) (A.under (.builtin "type.__call__" ⟨.ref C :: rest, []⟩)) (call (.ref fI) (.ref (s.heap.objs.size + 1) :: rest)) (fun r s' => r = .none ∧ Q (.ref (s.heap.objs.size + 1)) s') E { s with heap := h' }) (hrest : rest.length ≤ sizeLine) :
    wpAny (model prog w) A (call (.ref C) rest) Q E s := by
  obtain ⟨nm, qn, N, bs, bm, sn, sub, ab, col, dd, k0, k1, k2, k3, k5, mN, hC, hN, T⟩ := xc_of X q
  obtain ⟨h, g, d, t, os⟩ := s
  dsimp only at X hC hN T hq
  have f1 := tc_lookup
  have f2 := tc_bind (.ref C)
  have hT : (⟨h, g, d, t, os⟩ : Shared).TypeIs (.ref C) "type" := ⟨_, hC, rfl⟩
  refine wpAny_call (codeAny_of_tree (show wpAny _ _ (callAny (.ref C) _) _ _ _ from ?_))
  repeat (any_goals (first | assumption | with_reducible refine wpAny_loadPart_at hC ?_ | wp_step))
  refine ⟨rfl, codeAny_call_builtin_at (Code.quiet_builtin _ (by decide +kernel)) entry_typeCall (wpAny_check_type_call_sub hC (type_call_own (s := ⟨h, g, d, t, os⟩) X q hi hf (fun h' hm => ?_) hrest))⟩
  exact hq h' hm
end
end L2
end

section
set_option Elab.async false
set_option linter.all false
set_option maxRecDepth 100000
set_option maxHeartbeats 4000000
/-! ## own exceptions: the base's __init__, an attribute written and read -/
namespace L2
open PySem PySem.Spec PyProof.Rows
open PySem.W (Frag Looks)
section
variable {prog : Program} {w : World} {A : Around} {E : Value → Shared → Prop} {s : Shared} {K : Frag} {C e : Addr} {oe : Obj} {vs : Array Value}
theorem base_init {t0 : Addr} {rest : List Value} {Q : Value → Shared → Prop} (X : K.In s.heap) (q : xcIn K C = true) (he : s.heap.get? e = some { cls := .ref C, data := .fields #[.ref t0, .none, .none, .none, .bool false, .none] })
    (hq : Q .none { s with heap := (s.heap.push { cls := .type "tuple", data := .seq rest.toArray }).update e (Obj.mapFields (·.setIfInBounds 0 (Value.ref s.heap.objs.size))) }) (hrest : rest.length ≤ sizeLine) :
    wpAny (model prog w) A (call (.builtin "ValueError.__init__") (.ref e :: rest)) Q E s := by
  obtain ⟨nm, qn, N, bs, bm, sn, sub, ab, col, dd, k0, k1, k2, k3, k5, mN, hC, hN, T⟩ := xc_of X q
  have FF := PySem.F.excBase_ValueError
  obtain ⟨h, g, d, t, os⟩ := s
  dsimp only at X hC hN T hq he
  have he1 : (h.push { cls := .type "tuple", data := .seq rest.toArray }).get? e = some { cls := .ref C, data := .fields #[.ref t0, .none, .none, .none, .bool false, .none] } := Heap.get?_push_of_some _ he
  refine wpAny_call (codeAny_call_builtin FF.init.plain FF.initEntry (wpAny_check_init_subU FF T hC he rfl ?_))
  wp_walk
  exact hq
theorem refuse_tail (self : Value) {h : Heap} {l : List Value} (T : OwnTail h veM l) : refuseLoop self "__setattr__" l = pure () := by
  induction T with
  | base => exact PySem.F.store_ValueError.passes self
  | own _ _ _ _ ih => rw [refuseLoop_ref]; exact ih
theorem xset_open {name : Str} {tk : Tok} {v : Value} {R : Result → Shared → Prop} (X : K.In s.heap) (q : xcIn K C = true) (he : s.heap.get? e = some oe) (hc : oe.cls = .ref C) (ht : PySem.W.takerIn K C name = some none)
    (h : ∀ b, wpAny (model prog w) A.in1 (Builtin.ObjectAttr.storeInOwnDict (.ref e) (.ref C) (.str name tk) name v b) (fun fin s' => match fin with | .done f => R (.ok f) s' | .again c' => c'.quiet = true ∧ codeAny (model prog w) A c' R s') (fun x s' => R (.error x) s') s) :
    codeAny (model prog w) A (.call (.builtin "object.__setattr__") ⟨[.ref e, .str name tk, v], []⟩) R s := by
  obtain ⟨nm, qn, N, bs, bm, sn, sub, ab, col, dd, k0, k1, k2, k3, k5, mN, hC, hN, T⟩ := xc_of X q
  have SF := PySem.F.store_object
  have ty : Looks (model prog w) s.heap (typeOf (.ref e)) (.ref C) := hc ▸ (Looks.ld he).andThen .now
  have sub : Looks (model prog w) s.heap (isInstance (.ref e) (.type "object")) true := ty.andThen (fun A Q E s k z => by
    obtain ⟨h, g, d, t, os⟩ := s
    refine wpAny_isSubtype_exc (k _ _ hC) ?_
    rw [List.contains_cons, T.hasType (X := "object") (b := true) (by decide +kernel), Bool.or_true]
    exact z)
  refine codeAny_call_builtin SF.slot.plain SF.entry (@PySem.W.check_slot (model prog w) _ _ s "object.__setattr__" "object" "__setattr__" (.ref e) [.str name tk, v] [] _ SF.kind SF.split sub (SF.args (.ref e) (.str name tk) v) ?_)
  obtain ⟨attr, ha, hr⟩ := Option.bind_eq_some_iff.mp ht
  have hm : Looks (model prog w) s.heap (mroOf (.ref C)) (.ref C :: bm) := fun A Q E s k z => by
    obtain ⟨h, g, d, t, os⟩ := s
    exact wpAny_mroOf_exc (k _ _ hC) z
  have L3 : Looks (model prog w) s.heap (Builtin.ObjectAttr.storeTaker? attr) none := by
    cases attr with
    | none => exact .now
    | some a =>
      obtain ⟨b, hb, z⟩ := Option.map_eq_some_iff.mp hr
      cases b with
      | true => cases z
      | false => exact (PySem.W.looks_takesIn X hb).andThen .now
  rw [PySem.W.osa_eq, refuse_eq]
  refine wpAny_bind (wpAny_bind (ty.here (wpAny_bind (hm.here ?_))))
  rw [refuseLoop_ref, refuse_tail _ T]
  exact wpAny_pure (wpAny_bind (ty.here (wpAny_bind ((PySem.W.looks_findIn X ha).here (wpAny_bind (L3.here (h _)))))))
theorem xset {name : Str} {v : Value} {Q : Unit → Shared → Prop} (X : K.In s.heap) (q : xcIn K C = true) (he : s.heap.get? e = some oe) (hc : oe.cls = .ref C) (hd : oe.dict = none) (hvs : oe.data = .fields vs)
    (hs : PySem.W.findIn K (.ref C) "__setattr__" = some (some (.builtin "object.__setattr__"))) (ht : PySem.W.takerIn K C name = some none)
    (h : ∀ h' tk, h'.get? e = some { oe with dict := some s.heap.objs.size } → h'.Ns1 s.heap.objs.size (fun y => if y = name then some v else none) → (∀ b o, b ≠ e → s.heap.get? b = some o → h'.get? b = some o) → Q () { s with heap := h', toks := tk }) :
    wpAny (model prog w) A (setAttr (.ref e) name v) Q E s := by
  obtain ⟨oc, od, oda, osl⟩ := oe
  dsimp only at hc hd hvs
  subst hc hd hvs
  have J : PySem.W.InstAt s.heap e ⟨.ref C, none, .fields vs, osl⟩ C none := ⟨he, rfl, rfl, True.intro⟩
  refine PySem.W.set_plain X J hs (xset_open (s := { s with toks := s.toks + 1 }) X q he rfl ht fun b => ?_)
  obtain ⟨nm, qn, N, bs, bm, sn, sub, ab, col, dd, k0, k1, k2, k3, k5, mN, hC, hN, T⟩ := xc_of X q
  have hcd : Looks (model prog w) s.heap (classData C) _ := (Looks.ld (part := none) hC).andThen .now
  refine wpAny_bind (wpAny_pure (wpAny_bind (wpAny_bind (wpAny_loadPart he (wpAny_bind (Looks.here (s := { s with toks := s.toks + 1 }) hcd ?_))))))
  rw [if_neg (by simp)]
  dsimp only
  rw [if_neg (by simp [typeHasDict])]
  have he1 : (s.heap.push { cls := .type "dict", data := .dict #[] }).get? e = some ⟨.ref C, none, .fields vs, osl⟩ := Heap.get?_push_of_some _ he
  have hne : e ≠ s.heap.objs.size := Nat.ne_of_lt (Heap.lt_size he)
  refine wpAny_bind (wpAny_alloc' (wpAny_bind (wpAny_update' he1 ?_)))
  refine wpAny_pure ?_
  have hx2 := Heap.get?_update_self (fun o : Obj => { cls := o.cls, dict := some s.heap.objs.size, data := o.data, slots := o.slots }) he1 rfl
  have kp2 : ∀ b o, b ≠ e → (s.heap.push { cls := .type "dict", data := .dict #[] }).get? b = some o → ((s.heap.push { cls := .type "dict", data := .dict #[] }).update e fun o => { cls := o.cls, dict := some s.heap.objs.size, data := o.data, slots := o.slots }).get? b = some o := fun b o hb z => (Heap.get?_update_ne _ _ _ _ hb).trans z
  have hgd := kp2 _ _ hne.symm (Heap.get?_push_at (h := s.heap) (o := { cls := .type "dict", data := .dict #[] }) rfl rfl)
  have kp3 : ∀ b o, b ≠ e → s.heap.get? b = some o → ((s.heap.push { cls := .type "dict", data := .dict #[] }).update e fun o => { cls := o.cls, dict := some s.heap.objs.size, data := o.data, slots := o.slots }).get? b = some o := fun b o hb z => kp2 b o hb (Heap.get?_push_of_some _ z)
  generalize ((s.heap.push { cls := .type "dict", data := .dict #[] }).update e fun o => { cls := o.cls, dict := some s.heap.objs.size, data := o.data, slots := o.slots }) = h2 at hx2 hgd kp3 ⊢
  have hnd : h2.Ns s.heap.objs.size (fun _ => none) := ⟨_, #[], _, hgd, rfl, fun x hx => absurd hx (by simp), fun _ => rfl⟩
  refine wpAny_bind (wpAny_pure (wpAny_bind ?_))
  refine wpAny_nsSet1 (s := { s with heap := h2, toks := s.toks + 1 }) (Heap.Ns1.of_empty hnd) fun h' hn' sb => ?_
  obtain ⟨oD, esD, epD, hoD, hdD, hcD⟩ := hn'.count (Within.cons name v Within.nil)
  refine wpAny_bind (wpAny_lookBehind hoD (by rw [hdD]; exact pastItsLine_dict (Nat.le_trans hcD (by rw [List.length_cons, List.length_nil, sizeLine_eq]; omega))) ?_)
  exact wpAny_pure (h h' _ ((sb.2 _ hne).trans hx2) hn' fun b o hb z => (sb.2 b (Nat.ne_of_lt (Heap.lt_size z))).trans (kp3 b o hb z))
theorem xget {od : Option Obj} {name : Str} {v : Value} {expr : Bool} {Q : Value → Shared → Prop} (X : K.In s.heap) (q : xcIn K C = true) (I : PySem.W.InstAt s.heap e oe C od)
    (hga : PySem.W.findIn K (.ref C) "__getattribute__" = some (some (.builtin "BaseException.__getattribute__"))) (hgb : PySem.W.findIn K (.ref C) "__getattr__" = some none)
    (hf : PySem.W.findObj K C od name = some (.value v)) (hh : PySem.W.handedIn v = true) (h : Q v { s with toks := s.toks + 1 }) : wpAny (model prog w) A (getAttr (.ref e) name expr) Q E s := by
  obtain ⟨nm, qn, N, bs, bm, sn, sub, ab, col, dd, k0, k1, k2, k3, k5, mN, hC, hN, T⟩ := xc_of X q
  obtain ⟨hp, g, d, t, os⟩ := s
  dsimp only at X I hC
  have ty := I.type (M := model prog w)
  have L1 := PySem.W.looks_findIn (M := model prog w) X hga
  have L2 := PySem.W.looks_findIn (M := model prog w) X hgb
  have L3 := PySem.W.looks_find (M := model prog w) X I hf
  have FA := PySem.F.attr_ValueError
  unfold getAttr getAttrBy
  refine wpAny_bind (wpAny_mkText (wpAny_holding (wpAny_bind (ty.at (wpAny_bind (L1.at ?_))))))
  dsimp only
  rw [show (onTheHeap (Value.ref C) && Value.builtin "BaseException.__getattribute__" == Value.builtin "object.__getattribute__") = false from by rw [show (Value.builtin "BaseException.__getattribute__" == Value.builtin "object.__getattribute__") = false from by decide +kernel]; rfl, if_neg (by decide)]
  refine wpAny_bind (L2.at (wpAny_bind (wpAny_attempt (wpAny_holding ?_))))
  unfold callGetattribute
  rw [show (expr && onTheHeap (Value.builtin "BaseException.__getattribute__")) = false from Bool.and_false _, if_neg (by decide)]
  unfold boundAndCalled
  rw [FA.ga.bind]
  refine wpAny_bind (wpAny_pure (wpAny_call (codeAny_call_builtin FA.ga.plain PySem.F.entry_bexc_ga ?_)))
  have sub : Looks (model prog w) hp (isInstance (.ref e) (.type "BaseException")) true := ty.andThen (fun A Q E s k z => by
    obtain ⟨h, g, d, t, os⟩ := s
    refine wpAny_isSubtype_exc (k _ _ hC) ?_
    rw [List.contains_cons, T.hasType (X := "BaseException") (b := true) (by decide +kernel), Bool.or_true]
    exact z)
  refine @PySem.W.check_slot (model prog w) _ _ ⟨hp, g, d, t + 1, os⟩ "BaseException.__getattribute__" "BaseException" "__getattribute__" (.ref e) [.str name t] [] _ (by decide +kernel) (by decide +kernel) sub (PySem.F.args_bexc_ga (.ref e) (.str name t)) ?_
  refine wpAny_bind (wpAny_pure (wpAny_bind (wpAny_pure (wpAny_bind (ty.at (wpAny_bind (L3.at ?_)))))))
  refine wpAny_pure ?_
  show wpAny _ _ (handedOut v) _ _ _
  rw [PySem.W.handedOut_of hh]
  exact wpAny_pure h
end
end L2
end

section
set_option Elab.async false
set_option linter.all false
set_option maxRecDepth 100000
set_option maxHeartbeats 4000000
/-! ## own exceptions: raised, passed on, caught -/
namespace L2
open PySem PySem.Spec PyProof.Rows
open PySem.W (Frag Looks)
/-- an exception as it is made: class, own dict, arguments -/
abbrev xob (C : Addr) (dx : Option Addr) (t : Addr) : Obj := { cls := .ref C, dict := dx, data := .fields #[.ref t, .none, .none, .none, .bool false, .none] }
section
variable {M : Model} {A : Around} {E : Value → Shared → Prop} {s : Shared} {K : Frag} {C : Addr} {env : Env}
theorem xraise {x : Sem Value} {Q : Flow → Shared → Prop} (q : xcIn K C = true) (hh : A.handled = none) (h : wpAny M A x (fun v s₁ => ∃ e dx t, v = .ref e ∧ K.In s₁.heap ∧ s₁.heap.get? e = some (xob C dx t) ∧ E (.ref e) s₁) E s) :
    wpAny M A (raiseStmt env (some x) none) Q E s := by
  unfold raiseStmt
  refine wpAny_bind (wpAny_mono h (fun v s₁ h₁ => ?_) fun _ _ z => z)
  obtain ⟨e, dx, t, rfl, X, he, hE⟩ := h₁
  obtain ⟨nm, qn, N, bs, bm, sn, sub, ab, col, dd, k0, k1, k2, k3, k5, mN, hC, hN, T⟩ := xc_of X q
  have hb : (Value.ref C :: bm).contains (.type "BaseException") = true := by rw [List.contains_cons, T.hasType (X := "BaseException") (b := true) (by decide +kernel), Bool.or_true]
  obtain ⟨hp, g, d, tk, os⟩ := s₁
  dsimp only at hC he
  repeat (first | with_reducible refine wpAny_loadPart_at he ?_ | (with_reducible refine wpAny_isSubtype_exc hC ?_; rw [hb]) | wp_step)
  exact wpAny_raiseNew_none hh hE
end
/-! ### an exception leaves a frame -/
/-- where an exception lies: its object, its last entry; N: addresses that are new and not tracked -/
def XAt (N : Addr → Prop) (h : Heap) (e C : Addr) (dx : Option Addr) : Prop := N e ∧ ∃ vs sl, h.get? e = some ⟨.ref C, dx, .fields vs, sl⟩ ∧ (vs[1]? = some .none ∨ ∃ T oT ts, N T ∧ T ≠ e ∧ vs[1]? = some (.ref T) ∧ h.get? T = some oT ∧ oT.data = .fields ts ∧ ts[3]? = some .none)
/-- what leaving changes -/
structure Lv (fs ch : List Addr) (h h' : Heap) : Prop where
  keep : ∀ b o, b ∉ fs → b ∉ ch → h.get? b = some o → h'.get? b = some o
  slot : ∀ b o, b ∈ fs → h.get? b = some o → ∃ sl, h'.get? b = some { o with slots := sl }
section
variable {M : Model} {A : Around} {E : Value → Shared → Prop} {s : Shared} {env : Env} {outer : List Env} {base : Heap} {N : Addr → Prop} {e C L : Addr} {dx : Option Addr}
theorem xentry {oe : Obj} {vs : Array Value} {head : Value} {hadNext : Bool} {Q : Unit → Shared → Prop} (hfr : A.frames = some (env :: outer)) (hl : s.heap.FunFrames base (env :: outer)) (hf : env.frame = some L)
    (he : s.heap.get? e = some oe) (hd : oe.data = .fields vs) (hz : 1 < vs.size)
    (h : ∀ h' T oT ts, s.heap.objs.size ≤ T → T ≠ e → h'.get? e = some { oe with data := .fields (vs.setIfInBounds 1 (.ref T)) } → h'.get? T = some oT → oT.data = .fields ts → ts[3]? = some (rawInt L) →
      (∀ b o, b ≠ e → b ∉ frs (env :: outer) → s.heap.get? b = some o → h'.get? b = some o) → (∀ b o, b ∈ frs (env :: outer) → s.heap.get? b = some o → ∃ sl, h'.get? b = some { o with slots := sl }) → h'.FunFrames base (env :: outer) → Q () { s with heap := h' }) :
    wpAny M A (do let a ← frameOf env; let pl ← entryPlaceOf L hadNext; let b ← EntryCells.newEntry head a .none (rawInt L) .none pl; setField (.ref e) 1 b) Q E s := by
  have nf : ∀ b, b ∈ frs (env :: outer) → b ≠ e := fun b hb z => by
    obtain ⟨_, o, ho, nd⟩ := hl.mem hb
    rw [z, he] at ho; cases ho; exact nd vs hd
  refine wpAny_bind (wpAny_frameOf_fun hfr hl hf fun h₁ so => wpAny_bind (wpAny_entryPlaceOf fun pl hpl => ?_))
  unfold EntryCells.newEntry newFields
  refine wpAny_bind (wpAny_newObj_type ?_ (hpl.sizeOk5 _ _ _ _ _))
  have he1 : h₁.get? e = some oe := (so.2.1 e fun z => nf e z rfl).trans he
  have k2 : ∀ b o, h₁.get? b = some o → (h₁.push { cls := .type "traceback", dict := none, data := .fields ([head, .ref L, .none, rawInt L, .none] ++ (if pl.isEmpty then List.replicate 6 Value.none else pl)).toArray }).get? b = some o := fun b o z => Heap.get?_push_of_some _ z
  have t2 := Heap.get?_push_size h₁ (o := { cls := .type "traceback", dict := none, data := .fields ([head, .ref L, .none, rawInt L, .none] ++ (if pl.isEmpty then List.replicate 6 Value.none else pl)).toArray }) rfl
  have t3 : ([head, .ref L, .none, rawInt L, .none] ++ (if pl.isEmpty then List.replicate 6 Value.none else pl)).toArray[3]? = some (rawInt L) := by simp
  generalize ([head, .ref L, .none, rawInt L, .none] ++ (if pl.isEmpty then List.replicate 6 Value.none else pl)).toArray = ts at k2 t2 t3 ⊢
  generalize h₁.push { cls := .type "traceback", dict := none, data := .fields ts } = h₂ at k2 t2 ⊢
  have he2 := k2 _ _ he1
  have hTe : h₁.objs.size ≠ e := Nat.ne_of_gt (Heap.lt_size he1)
  refine wpAny_setField he2 hd hz ?_
  have oth : ∀ b o, b ≠ e → h₂.get? b = some o → (h₂.update e (Obj.mapFields (·.setIfInBounds 1 (Value.ref h₁.objs.size)))).get? b = some o := fun b o hb z => (Heap.get?_update_other _ _ hb.symm).trans z
  have d3 := Obj.data_mapFields hd (·.setIfInBounds 1 (Value.ref h₁.objs.size))
  have he3 := Heap.get?_update_self (Obj.mapFields (·.setIfInBounds 1 (Value.ref h₁.objs.size))) he2 (Obj.isFreed_of_fields d3)
  have sl3 : ∀ b o, b ∈ frs (env :: outer) → s.heap.get? b = some o → ∃ sl, (h₂.update e (Obj.mapFields (·.setIfInBounds 1 (Value.ref h₁.objs.size)))).get? b = some { o with slots := sl } := fun b o hb z => by
    obtain ⟨sl, e1⟩ := so.2.2 b o z
    exact ⟨sl, oth _ _ (nf b hb) (k2 _ _ e1)⟩
  refine h _ h₁.objs.size _ ts (Nat.le_of_eq so.1.symm) hTe ?_ (oth _ _ hTe t2) rfl t3 (fun b o hb hf z => oth b o hb (k2 _ _ ((so.2.1 b hf).trans z))) sl3 ?_
  · rw [he3]
    obtain ⟨oc, od, oda, osl⟩ := oe
    dsimp only at hd
    subst hd
    rfl
  · refine hl.of_keeps fun b o hb nd => ?_
    obtain ⟨sl, e1⟩ := so.2.2 b o hb
    refine ⟨_, oth b _ (fun z => ?_) (k2 _ _ e1), rfl⟩
    rw [z, he] at hb; cases hb; exact nd vs hd
theorem xland {T : Addr} {oe oT : Obj} {vs ts : Array Value} {Q : Unit → Shared → Prop} (he : s.heap.get? e = some oe) (hd : oe.data = .fields vs) (h1 : vs[1]? = some (.ref T)) (hT : s.heap.get? T = some oT) (hdT : oT.data = .fields ts) (hz : 3 < ts.size)
    (h : Q () { s with heap := s.heap.update T (Obj.mapFields (·.setIfInBounds 3 Value.none)) }) : wpAny M A (setFlight (.ref e) none) Q E s := by
  unfold setFlight
  refine wpAny_bind (wpAny_field he hd h1 ?_)
  rw [if_pos (show (Value.ref T != Value.none) = true from by simp)]
  exact wpAny_setField hT hdT hz h
theorem xleave {Q : Unit → Shared → Prop} (hfr : A.frames = some (env :: outer)) (hl : s.heap.FunFrames base (env :: outer)) (hf : env.frame = some L) (hN : ∀ b, s.heap.objs.size ≤ b → N b) (x : XAt N s.heap e C dx)
    (h : ∀ h' ch, (∀ b ∈ ch, N b ∧ ∃ o vs, s.heap.get? b = some o ∧ o.data = .fields vs) → XAt N h' e C dx → Lv (frs (env :: outer)) ch s.heap h' → Q () { s with heap := h' }) : wpAny M A (noteFrame (.ref e) env) (fun _ s' => wpAny M A (setFlight (.ref e) none) Q E s') E s := by
  obtain ⟨ne, vs, sl, he, tb⟩ := x
  have fin : ∀ (ch : List Addr) (hch : ∀ b ∈ ch, N b ∧ ∃ o vs, s.heap.get? b = some o ∧ o.data = .fields vs) (s1 : Shared) (h' : Heap) (T : Addr) (oT : Obj) (ts : Array Value), s1.heap.objs.size = s.heap.objs.size → s1.heap.objs.size ≤ T → T ≠ e → h'.get? e = some ⟨.ref C, dx, .fields (vs.setIfInBounds 1 (.ref T)), sl⟩ → 1 < vs.size → h'.get? T = some oT → oT.data = .fields ts → ts[3]? = some (rawInt L) →
      (∀ b o, b ∉ frs (env :: outer) → b ∉ ch → s.heap.get? b = some o → h'.get? b = some o) → (∀ b o, b ∈ frs (env :: outer) → s.heap.get? b = some o → ∃ sl, h'.get? b = some { o with slots := sl }) → s1 = { s with heap := s1.heap } →
      wpAny M A (setFlight (.ref e) none) Q E { s1 with heap := h' } := fun ch hch s1 h' T oT ts hs hT hTe e1 hz t1 t2 t3 k1 k2 es => by
    have v1 : (vs.setIfInBounds 1 (Value.ref T))[1]? = some (.ref T) := by simp [hz]
    have z3 := (Array.getElem?_eq_some_iff.mp t3).1
    refine xland (s := { s1 with heap := h' }) e1 rfl v1 t1 t2 z3 ?_
    have nT : N T := hN T (by omega)
    have ot : ∀ b o, b ≠ T → h'.get? b = some o → (h'.update T (Obj.mapFields (·.setIfInBounds 3 Value.none))).get? b = some o := fun b o hb z => (Heap.get?_update_other _ _ hb.symm).trans z
    have t4 := Heap.get?_update_self (Obj.mapFields (·.setIfInBounds 3 Value.none)) t1 (Obj.isFreed_of_fields (Obj.data_mapFields t2 _))
    have g := h (h'.update T (Obj.mapFields (·.setIfInBounds 3 Value.none))) ch hch ⟨ne, _, sl, ot _ _ hTe.symm e1, .inr ⟨T, _, _, nT, hTe, v1, t4, Obj.data_mapFields t2 _, by simp [z3]⟩⟩ ⟨fun b o hb nb z => ot b o (fun y => ?_) (k1 b o hb nb z), fun b o hb z => ?_⟩
    · rw [es]; exact g
    · have := Heap.lt_size z
      rw [y] at this
      exact absurd this (Nat.not_lt.mpr (by rw [← hs]; exact hT))
    · obtain ⟨sl', e2⟩ := k2 b o hb z
      refine ⟨sl', ot b _ (fun y => ?_) e2⟩
      obtain ⟨_, o', ho', nd⟩ := hl.mem hb
      have := Heap.lt_size ho'
      rw [y] at this
      exact absurd this (Nat.not_lt.mpr (by rw [← hs]; exact hT))
  unfold noteFrame
  simp only [hf]
  rcases tb with h1 | ⟨T, oT, ts, nT, hTe, h1, hT, dT, h3⟩
  · have hz := (Array.getElem?_eq_some_iff.mp h1).1
    refine wpAny_bind (wpAny_field he rfl h1 ?_)
    rw [if_neg (by decide)]
    exact xentry hfr hl hf he rfl hz fun h' T oT ts a1 a2 a3 a4 a5 a6 a7 a8 _ => fin [e] (fun b hb => by rw [List.mem_singleton.mp hb]; exact ⟨ne, _, _, he, rfl⟩) s h' T oT ts rfl a1 a2 a3 hz a4 a5 a6 (fun b o hb nb z => a7 b o (fun y => nb (by rw [y]; simp)) hb z) a8 rfl
  · have hz := (Array.getElem?_eq_some_iff.mp h1).1
    refine wpAny_bind (wpAny_field he rfl h1 ?_)
    rw [if_pos (show (Value.ref T != Value.none) = true by simp)]
    refine wpAny_bind (wpAny_field hT dT h3 ?_)
    rw [if_neg (show ¬ ((Value.none == rawInt L) = true) by simp [rawInt])]
    refine wpAny_bind (wpAny_setField hT dT (Array.getElem?_eq_some_iff.mp h3).1 ?_)
    have ot : ∀ b o, b ≠ T → s.heap.get? b = some o → (s.heap.update T (Obj.mapFields (·.setIfInBounds 3 Value.none))).get? b = some o := fun b o hb z => (Heap.get?_update_other _ _ hb.symm).trans z
    have nfT : ∀ b o, s.heap.get? b = some o → (∀ vs, o.data ≠ .fields vs) → b ≠ T := fun b o z nd y => by rw [y, hT] at z; cases z; exact nd ts dT
    have hl2 : (s.heap.update T (Obj.mapFields (·.setIfInBounds 3 Value.none))).FunFrames base (env :: outer) := hl.of_keeps fun b o z nd => ⟨o, ot b o (nfT b o z nd) z, rfl⟩
    have sz : (s.heap.update T (Obj.mapFields (·.setIfInBounds 3 Value.none))).objs.size = s.heap.objs.size := by simp
    have he2 := ot _ _ hTe.symm he
    generalize s.heap.update T (Obj.mapFields (·.setIfInBounds 3 Value.none)) = hq at ot hl2 sz he2 ⊢
    refine xentry (s := { s with heap := hq }) hfr hl2 hf he2 rfl hz fun h' T' oT' ts' a1 a2 a3 a4 a5 a6 a7 a8 _ => fin [e, T] (fun b hb => ?_) { s with heap := hq } h' T' oT' ts' sz a1 a2 a3 hz a4 a5 a6 (fun b o hb nb z => a7 b o (fun y => nb (by rw [y]; simp)) hb (ot b o (fun y => nb (by rw [y]; simp)) z)) (fun b o hb z => a8 b o hb (ot b o ?_ z)) rfl
    · have : b = e ∨ b = T := by simpa using hb
      rcases this with rfl | rfl
      · exact ⟨ne, _, _, he, rfl⟩
      · exact ⟨nT, _, _, hT, dT⟩
    · obtain ⟨_, o', ho', nd⟩ := hl.mem hb
      exact nfT b o' ho' nd
theorem xleaving {Q : Unit → Shared → Prop} (hfr : A.frames = some (env :: outer)) (hl : s.heap.FunFrames base (env :: outer)) (hf : env.frame = some L) (hN : ∀ b, s.heap.objs.size ≤ b → N b) (x : XAt N s.heap e C dx)
    (h : ∀ h' ch, (∀ b ∈ ch, N b ∧ ∃ o vs, s.heap.get? b = some o ∧ o.data = .fields vs) → XAt N h' e C dx → Lv (frs (env :: outer)) ch s.heap h' → Q () { s with heap := h' }) : wpAny M A (leaving env (.ref e)) Q E s := wpAny_bind (xleave hfr hl hf hN x h)
end
end L2
end

section
set_option Elab.async false
set_option linter.all false
set_option maxRecDepth 100000
set_option maxHeartbeats 4000000
/-! ## own exceptions: their kind -/
namespace L2
open PySem PySem.Spec PyProof.Rows
open PySem.W (Frag Looks)
/-- what of the text an exception's class must have -/
structure XC (K : Frag) (C : Addr) : Prop where
  is : xcIn K C = true
  hd : PySem.W.hasDictIn K C = true
  sa : PySem.W.findIn K (.ref C) "__setattr__" = some (some (.builtin "object.__setattr__"))
  ga : PySem.W.findIn K (.ref C) "__getattribute__" = some (some (.builtin "BaseException.__getattribute__"))
  gn : PySem.W.findIn K (.ref C) "__getattr__" = some none
  ca : PySem.W.findIn K (.ref C) "__class__" = some (some (.builtin "object.__class__"))
  cn : PySem.W.specialIn K (.builtin "object.__class__") "__get__" = some (some (.builtin "getset_descriptor.__get__"))
  ct : PySem.W.takesIn K (.builtin "object.__class__") = some true
  cm : PySem.W.mroIn K C (.type "object") = some true
section
variable {prog : Program} {w : World} {A : Around} {E : Value → Shared → Prop} {s : Shared} {K : Frag} {C e : Addr} {oe : Obj} {od : Option Obj}
theorem xclass {Q : Option Value → Shared → Prop} (c : XC K C) (X : K.In s.heap) (I : PySem.W.InstAt s.heap e oe C od) (h : Q (some (.ref C)) { s with toks := s.toks + 1 }) : wpAny (model prog w) A (getAttr? (.ref e) "__class__") Q E s := by
  have hf : PySem.W.findObj K C od "__class__" = some (.bind (.builtin "getset_descriptor.__get__") (.builtin "object.__class__")) := by
    obtain ⟨cd, hc, _⟩ := PySem.W.any_some c.hd
    unfold PySem.W.findObj
    rw [hc, Option.bind_some, c.ca, Option.bind_some]
    dsimp only
    rw [c.cn, Option.bind_some]
    dsimp only
    rw [c.ct, Option.bind_some]
  obtain ⟨nm, qn, N, bs, bm, sn, sub, ab, col, dd, k0, k1, k2, k3, k5, mN, hC, hN, T⟩ := xc_of X c.is
  obtain ⟨hp, g, d, t, os⟩ := s
  dsimp only at X I hC
  have ty := I.type (M := model prog w)
  have L1 := PySem.W.looks_findIn (M := model prog w) X c.ga
  have L2 := PySem.W.looks_findIn (M := model prog w) X c.gn
  have L3 := PySem.W.looks_find (M := model prog w) X I hf
  have FA := PySem.F.attr_ValueError
  unfold getAttr? getAttrBy? getAttrBy
  refine wpAny_bind (wpAny_mkText (wpAny_bind (wpAny_attempt (wpAny_holding (wpAny_bind (ty.at (wpAny_bind (L1.at ?_))))))))
  dsimp only
  rw [show (onTheHeap (Value.ref C) && Value.builtin "BaseException.__getattribute__" == Value.builtin "object.__getattribute__") = false from by rw [show (Value.builtin "BaseException.__getattribute__" == Value.builtin "object.__getattribute__") = false from by decide +kernel]; rfl, if_neg (by decide)]
  refine wpAny_bind (L2.at (wpAny_bind (wpAny_attempt (wpAny_holding ?_))))
  unfold callGetattribute
  rw [show (false && onTheHeap (Value.builtin "BaseException.__getattribute__")) = false from rfl, if_neg (by decide)]
  unfold boundAndCalled
  rw [FA.ga.bind]
  refine wpAny_bind (wpAny_pure (wpAny_call (codeAny_call_builtin FA.ga.plain PySem.F.entry_bexc_ga ?_)))
  have sub : Looks (model prog w) hp (isInstance (.ref e) (.type "BaseException")) true := ty.andThen (fun A Q E s k z => by
    obtain ⟨h, g, d, t, os⟩ := s
    refine wpAny_isSubtype_exc (k _ _ hC) ?_
    rw [List.contains_cons, T.hasType (X := "BaseException") (b := true) (by decide +kernel), Bool.or_true]
    exact z)
  refine @PySem.W.check_slot (model prog w) _ _ ⟨hp, g, d, t + 1, os⟩ "BaseException.__getattribute__" "BaseException" "__getattribute__" (.ref e) [.str "__class__" t] [] _ (by decide +kernel) (by decide +kernel) sub (PySem.F.args_bexc_ga (.ref e) (.str "__class__" t)) ?_
  refine wpAny_bind (wpAny_pure (wpAny_bind (wpAny_pure (wpAny_bind (ty.at (wpAny_bind (L3.at ?_)))))))
  refine wpAny_bind (wpAny_holding (wpAny_call (PySem.W.class_get (s := ⟨hp, g, d, t + 1, os⟩) (ox := oe) (od := od) X I c.cm ?_)))
  refine wpAny_pure ?_
  show wpAny _ _ (handedOut (.ref C)) _ _ _
  rw [PySem.W.handedOut_of rfl]
  exact wpAny_pure (wpAny_pure h)
theorem kitx_exc (c : XC K C) : PySem.W.KitX K (.ref e) (.ref C) (fun h => ∃ oe od, PySem.W.InstAt h e oe C od) where
  ty := fun _ _ _ ⟨_, _, I⟩ => I.type
  it := fun M h X _ => by
    obtain ⟨nm, qn, N, bs, bm, sn, sub, ab, col, dd, k0, k1, k2, k3, k5, mN, hC, hN, T⟩ := xc_of X c.is
    intro A' Q' E' s' k q
    unfold isType loadHead
    exact wpAny_bind (wpAny_loadPart (k _ _ hC) (wpAny_pure q))
  ne := fun h tp dd its n sl X htp => by
    obtain ⟨nm, qn, N, bs, bm, sn, sub, ab, col, dd, k0, k1, k2, k3, k5, mN, hC, hN, T⟩ := xc_of X c.is
    refine Bool.eq_false_iff.mpr fun q => ?_
    have e : C = tp := Value.ref.inj (beq_iff_eq.mp q)
    subst e
    rw [hC] at htp
    exact absurd (congrArg (fun o : Obj => o.cls) (Option.some.inj htp)) (show ¬ Value.type "type" = Value.type "tuple" by decide)
  ca := fun X ⟨_, _, I⟩ k => xclass c X I k
end
end L2
end

section
set_option Elab.async false
set_option linter.all false
set_option maxRecDepth 100000
set_option maxHeartbeats 4000000
/-! ## own exceptions: the judgements -/
namespace L2
open PySem PySem.Spec PyProof.Rows
open PySem.W (Frag Looks)
/-- how an exception lies behind a call -/
def CXE (P : Program) (w : World) : CXT := fun outer H s E x s' => ∃ e C dx H', x = .ref e ∧ s'.os = s.os ∧ AllBare s'.gens ∧ Un (frs outer) [] H H' s.heap s'.heap ∧ HOk P w H' s'.heap ∧ XAt (fun b => s.heap.objs.size ≤ b ∧ H' b = none) s'.heap e C dx ∧ E (.ref C) dx H'
/-- an address that an exception may have here -/
def XN (X : Cx) (pins : List (Addr × Obj)) (H : Hp) (b : Addr) : Prop := X.s₀.heap.objs.size ≤ b ∧ H b = none ∧ b ≠ X.env.locals ∧ (∀ x c, X.env.cells.lookup x = some c → c ≠ b) ∧ ∀ p ∈ X.pn ++ pins, p.1 ≠ b
theorem XN.new {X : Cx} {pins : List (Addr × Obj)} {σ : St} {H H' : Hp} {s : Shared} (I : Inv X pins σ H s) {b : Addr} (hb : s.heap.objs.size ≤ b) (hn : H' b = none) : XN X pins H' b := by
  have nb : ∀ {c : Addr} {o : Obj}, s.heap.get? c = some o → c ≠ b := fun z y => absurd (Heap.lt_size z) (by rw [y]; exact Nat.not_lt.mpr hb)
  refine ⟨Nat.le_trans I.sz hb, hn, fun y => ?_, fun x c e => ?_, fun p hp => nb (I.pin p hp).1⟩
  · obtain ⟨m, ⟨o, _, _, ho, _⟩, _⟩ := I.loc
    exact nb ho y.symm
  · obtain ⟨v, o, ho, _⟩ := I.cell x c e
    exact nb ho
/-- an exception that comes up here is what is wanted -/
def Lands (X : Cx) (EH : St → XK) : Prop := ∀ (pins : List (Addr × Obj)) (σ : St) (H : Hp) (s : Shared) (e C : Addr) (dx : Option Addr), Inv X pins σ H s → XAt (XN X pins H) s.heap e C dx → EH σ (.ref C) dx H → X.xe (.ref e) s
theorem XAt.mono {N N' : Addr → Prop} {h : Heap} {e C : Addr} {dx : Option Addr} (k : ∀ b, N b → N' b) (x : XAt N h e C dx) : XAt N' h e C dx := by
  obtain ⟨n, vs, sl, he, tb⟩ := x
  refine ⟨k _ n, vs, sl, he, tb.imp id ?_⟩
  rintro ⟨T, oT, ts, nT, r⟩
  exact ⟨T, oT, ts, k _ nT, r⟩
theorem Lands.pass {X : Cx} {EH : St → XK} (L : Lands X EH) {pins : List (Addr × Obj)} {σ : St} {H : Hp} {s s' : Shared} {x : Value} (I : Inv X pins σ H s) (h : CXE X.prog X.w X.stack H s (EH σ) x s') : X.xe x s' := by
  obtain ⟨e, C, dx, H', rfl, os, bare, un, hok, xa, q⟩ := h
  have I' : Inv X pins σ H' s' := I.call' os un hok bare (fun b z => absurd z (by simp))
  exact L pins σ H' s' e C dx I' (xa.mono fun b hb => .new I hb.1 hb.2) q
section
variable {P : Program} {w : World} {K : Frag} {mg : Str → Option Value} {base : Heap}
theorem lands_cx {N : List Str} {qual : Str} {scope : Scope} {f : Addr} {cd : Value} {A : Around} {outer : List Env} {s : Shared} {H : Hp} {E : XK} : Lands (cxOf (CXE P w) P w K mg base N qual scope f cd A outer s H E) (fun _ => E) := by
  intro pins σ H1 s1 e C dx I xa hE
  have hsz : s.heap.objs.size ≤ s1.heap.objs.size := I.sz
  refine xleaving (L := s.heap.objs.size) (N := fun b => s.heap.objs.size ≤ b ∧ H1 b = none) (base := base) I.ok.frames I.stack rfl (fun b hb => ⟨Nat.le_trans hsz hb, I.hok.fresh hb⟩) (xa.mono fun b hb => ⟨hb.1, hb.2.1⟩) fun h' ch hch xa' lv => ?_
  have nn : ∀ b o, s.heap.get? b = some o → b ∉ ch := fun b o z y => absurd (Heap.lt_size z) (Nat.not_lt.mpr (hch b y).1.1)
  have nf : ∀ b o, s.heap.get? b = some o → b ∉ frs outer → b ∉ frs (envOfC qual scope s.heap.objs.size f cd :: outer) := fun b o z hb y => by
    rcases List.mem_cons.mp (show b ∈ s.heap.objs.size :: frs outer from y) with y | y
    · have := Heap.lt_size z
      rw [y] at this
      exact Nat.lt_irrefl _ this
    · exact hb y
  have sub : ∀ b, b ∈ frs outer → b ∈ frs (envOfC qual scope s.heap.objs.size f cd :: outer) := fun b hb => List.mem_cons_of_mem (a := b) s.heap.objs.size hb
  have un : Un (frs outer) [] H H1 s.heap s1.heap := I.base
  refine ⟨e, C, dx, H1, rfl, I.os, I.bare, ⟨fun b o z n hb hx => lv.keep b o (nf b o z hb) (nn b o z) (un.keep b o z n hb hx), fun b o z n hb hx => ?_, un.free, fun b o z hx => ?_, un.tups, un.frzs, un.tbls⟩, fun a u z => ?_, xa', hE⟩
  · obtain ⟨sl, z1⟩ := un.slot b o z n hb hx
    obtain ⟨sl2, z2⟩ := lv.slot b _ (sub b hb) z1
    exact ⟨sl2, z2⟩
  · obtain ⟨o', z1⟩ := un.there b o z hx
    by_cases hb : b ∈ frs (envOfC qual scope s.heap.objs.size f cd :: outer)
    · obtain ⟨sl2, z2⟩ := lv.slot b _ hb z1
      exact ⟨_, z2⟩
    · exact ⟨o', lv.keep b o' hb (nn b o z) z1⟩
  · refine (I.hok a u z).stay (fun b v hb y => ?_) (fun _ q => q) fun _ _ q => q
    have hn : ¬ H1 b = none := fun y => by
      rcases hb with rfl | hb
      · rw [z] at y; cases y
      · rw [hb] at y; cases y
    exact lv.keep b v (fun y => hn (I.stkFree b y)) (fun y => hn (hch b y).1.2) y
/-- a def from which an exception may come -/
theorem Fun.okE {x qual : Str} {st : Stmt} {f : Addr} {fd : FuncData} {N ps : List Str} {k : Nat} {sp : Sp} (F : Fun K x qual st f fd) (S : FnScope N ps (defScope st)) (len : ∀ vs H Q E, sp vs H Q E → vs.length = ps.length)
    (hbody : ∀ (cdv : Value) (A : Around) (outer : List Env) (s : Shared) (H : Hp) (vs : List V) (Q : VK) (E : XK), Room k (A.deeper (envOfC qual (defScope st) s.heap.objs.size f cdv)) → sp vs H Q E →
      HC (cxOf (CXE P w) P w K mg base N qual (defScope st) f cdv A outer s H E) N (defScope st) → (∀ x, (cxOf (CXE P w) P w K mg base N qual (defScope st) f cdv A outer s H E).fn x = true) →
      Lands (cxOf (CXE P w) P w K mg base N qual (defScope st) f cdv A outer s H E) (fun _ => E) → PassesOwn (model P w) (cxOf (CXE P w) P w K mg base N qual (defScope st) f cdv A outer s H E).A (cxOf (CXE P w) P w K mg base N qual (defScope st) f cdv A outer s H E).env (cxOf (CXE P w) P w K mg base N qual (defScope st) f cdv A outer s H E).xe →
      ∃ t, ZSs (cxOf (CXE P w) P w K mg base N qual (defScope st) f cdv A outer s H E) (defBody st) t ∧ t { nx := fun _ H' => Q .non H', rt := Q } (start N vs) H) : FnOk P w K mg base (CXE P w) (k + 1) f fd ps sp := by
  obtain ⟨oc, od, kV, doc, pm, an, cdv, ct, osl, rfl, lk, hcd⟩ := F.ex
  refine fn_of lk hcd S len fun A outer s H vs Q E hr hsp => ?_
  obtain ⟨t, h, q⟩ := hbody cdv A outer s H vs Q E hr hsp ⟨rfl, rfl⟩ (fun _ => rfl) lands_cx PassesOwn.leaving
  exact ⟨t, h.to, q⟩
end
section
variable {X : Cx} {k : Nat} {f C : Addr} {fd : FuncData} {ps : List Str} {sp : Sp} {EH : St → XK} {x : Str} {p pos : Pos} {e : Expr} {es : List Expr} {t : TA}
/-- f(..), f may raise -/
def tCallE (sp : Sp) (EH : St → XK) (t : TA) : TE := fun σ H Q => t σ H fun vs H1 => sp vs H1 Q (EH σ)
theorem run_fnE {pins : List (Addr × Obj)} {σ : St} {H : Hp} {s : Shared} {Q : VK} {us : List Value} {vs : List V} (F : FnOk X.prog X.w X.K X.mg X.base (CXE X.prog X.w) k f fd ps sp) (hr : Room k X.A) (hb : Binds X.K fd ps []) (hx : Lands X EH)
    (I : Inv X pins σ H s) (r : Vals vs us) (h : sp vs H Q (EH σ)) : wpAny (model X.prog X.w) X.A (call (.ref f) us) (EP X pins σ Q) X.xe s := by
  have hl : us.length = ps.length := by rw [← r.length]; exact F.len _ _ _ _ h
  have b := hb s us I.kIn (by rw [List.append_nil]; exact hl)
  rw [List.append_nil] at b
  refine wpAny_call (codeAny_mono (F.run X.A X.stack s H ⟨us, []⟩ us vs Q (EH σ) hr I.env0 b r h) fun r s' hq => ?_)
  cases r with
  | error e => exact hx.pass I hq
  | ok fl =>
    cases fl with
    | ret u => exact I.after hq
    | _ => exact False.elim hq
theorem pe_callE (F : FnOk X.prog X.w X.K X.mg X.base (CXE X.prog X.w) k f fd ps sp) (hr : Room k X.A) (hg : Gl X x) (hm : X.mg x = some (.ref f)) (hk : PySem.W.keepIn X.K (.ref f) = true) (hb : Binds X.K fd ps []) (hx : Lands X EH)
    (ha : PA X (e :: es) t) (hdb : (x == ("__debug__" : Str)) = false := by decide) (he : starEach (e :: es) X.env = (false, eval e X.env) :: starEach es X.env := by rfl) (hpl : (backTo pos (starEach es X.env)).any (·.1) = false := by rfl) :
    PE X (.Call (.Name x p) (e :: es) [] pos) (tCallE sp EH t) := by
  intro pins s σ H Q I h
  refine wpAny_Call_Name_kw (ld_glob I hg hm ?_ hdb)
  exact PySem.W.callWith_K (h₀ := X.base) I.ok.mod.kin hk (thn (ha pos pins s σ H _ I h) fun us s1 ⟨vs, H1, I1, r, q⟩ => ⟨I1.kIn, run_fnE F hr hb hx I1 r q⟩) he hpl
theorem zpe_callE (F : FnOk X.prog X.w X.K X.mg X.base (CXE X.prog X.w) k f fd ps sp) (hr : Room k X.A) (hg : Gl X x) (hm : X.mg x = some (.ref f)) (hk : PySem.W.keepIn X.K (.ref f) = true) (hb : Binds X.K fd ps []) (hx : Lands X EH)
    (ha : ZA X (e :: es) t) (hdb : (x == ("__debug__" : Str)) = false := by decide) (he : starEach (e :: es) X.env = (false, eval e X.env) :: starEach es X.env := by rfl) (hpl : (backTo pos (starEach es X.env)).any (·.1) = false := by rfl) :
    ZE X (.Call (.Name x p) (e :: es) [] pos) (tCallE sp EH t) := ⟨pe_callE F hr hg hm hk hb hx ha.to hdb he hpl⟩
end
end L2
end

section
set_option Elab.async false
set_option linter.all false
set_option maxRecDepth 100000
set_option maxHeartbeats 4000000
/-! ## own exceptions: raise, __init__ -/
namespace L2
open PySem PySem.Spec PyProof.Rows
open PySem.W (Frag Looks)
section
variable {X : Cx} {k : Nat} {fI C : Addr} {fd : FuncData} {ps : List Str} {sp : Sp} {EH : St → XK} {x : Str} {np cpos pos : Pos} {a : Expr} {t : TA}
/-- raise C(..), no __init__ of its own -/
def tRaise0 (C : Addr) (t : TA) (EH : St → XK) : TS := fun _ σ H => t σ H fun vs H1 => vs.length ≤ sizeLine ∧ EH σ (.ref C) none H1
/-- an exception that is being made -/
def XNew (e C : Addr) (dx : Option Addr) (t : Addr) : Heap → Prop := fun h => h.get? e = some (xob C dx t)
theorem xnew_ok {P : Program} {w : World} {H : Hp} {h : Heap} {e C t : Addr} {dx : Option Addr} (z : h.get? e = some (xob C dx t)) : ObjOk P w H h e (.ext (XNew e C dx t)) := ⟨z, ⟨_, z⟩, fun h1 h2 a b => b _ a⟩
/-- what an exception's __init__ does: one field is written -/
def spInit (C : Addr) (fld : Str) : Sp := fun vs H Q _ => ∃ e v t, vs = [.ref e, v] ∧ H e = some (.ext (XNew e C none t)) ∧ ∀ dx t', H dx = none → dx ≠ e → Q .non (upd (upd H e (.ext (XNew e C (some dx) t'))) dx (.xd [(fld, v)]))
def delH (H : Hp) (e : Addr) : Hp := fun b => if b = e then none else H b
theorem delH_self {H : Hp} {e : Addr} : delH H e e = none := if_pos rfl
theorem delH_ne {H : Hp} {e b : Addr} (h : b ≠ e) : delH H e b = H b := if_neg h
theorem delH_none {H : Hp} {e b : Addr} (h : H b = none) : delH H e b = none := by
  by_cases hb : b = e
  · rw [hb]; exact delH_self
  · rw [delH_ne hb]; exact h
theorem Inv.forget {pins : List (Addr × Obj)} {σ : St} {H : Hp} {s : Shared} {e : Addr} {φ : Heap → Prop} (I : Inv X pins σ H s) (he : H e = some (.ext φ)) : Inv X pins σ (delH H e) s := by
  have ne : ∀ {b : Addr} {u : HO}, H b = some u → (HO.ext φ ≠ u) → b ≠ e := fun z n => (ne_of he z n).symm
  have ok : HOk X.prog X.w (delH H e) s.heap := fun b u z => by
    by_cases hb : b = e
    · rw [hb, delH_self] at z; cases z
    · rw [delH_ne hb] at z
      refine (I.hok b u z).stay (fun _ _ _ q => q) (fun c q => ?_) fun c xs q => ?_
      · rw [delH_ne (ne q (by intro z; cases z))]; exact q
      · rw [delH_ne (ne q (by intro z; cases z))]; exact q
  refine ⟨I.ok, I.os, I.bare, ⟨I.base.keep, I.base.slot, fun b ob z n hx => delH_none (I.base.free b ob z n hx), I.base.there, fun b xs z => ?_, fun b ob u z => ?_, fun b ps z => ?_⟩, I.loc, I.cell, delH_none I.free, fun x c z => delH_none (I.freeC x c z), fun p hp => ?_, ok, I.len⟩
  · have e1 := I.base.tups b xs z
    rw [delH_ne (ne e1 (by intro z; cases z))]; exact e1
  · have e1 := I.base.frzs b ob u z
    rw [delH_ne (ne e1 (by intro z; cases z))]; exact e1
  · obtain ⟨m, e1⟩ := I.base.tbls b ps z
    exact ⟨m, by rw [delH_ne (ne e1 (by intro z; cases z))]; exact e1⟩
  · obtain ⟨p1, p2, p3⟩ := I.pin p hp
    exact ⟨p1, delH_none p2, p3⟩
/-- raise C(v), its __init__ writes one field -/
def tRaise1 (C : Addr) (fld : Str) (t : TE) (EH : St → XK) : TS := fun _ σ H => t σ H fun v H1 => ∀ dx, H1 dx = none → EH σ (.ref C) (some dx) (upd H1 dx (.xd [(fld, v)]))
theorem ps_raise1 {fld : Str} {te : TE} (c : XC X.K C) (hi : PySem.W.findIn X.K (.ref C) "__init__" = some (some (.ref fI))) (hf : PySem.W.typeIn X.K (.ref fI) = some (.type "function")) (hk : PySem.W.keepIn X.K (.ref C) = true)
    (F : FnOk X.prog X.w X.K X.mg X.base CX0 k fI fd ps (spInit C fld)) (hb : Binds X.K fd ps []) (hr : Room (k + 1) X.A) (hg : Gl X x) (hm : X.mg x = some (.ref C)) (hc : X.calm = true) (L : Lands X EH) (ha : PE X a te)
    (hdb : (x == ("__debug__" : Str)) = false := by decide) (he : starEach [a] X.env = (false, eval a X.env) :: starEach [] X.env := by rfl) (hpl : (backTo cpos (starEach [] X.env)).any (·.1) = false := by rfl) :
    PS X (.Raise (some (.Call (.Name x np) [a] [] cpos)) none pos) (tRaise1 C fld te EH) := by
  intro pins s σ H D I h
  rw [arm_exec_Raise]
  refine wpAny_bind (wpAny_standAt (xraise c.is (I.ok.hd hc) ?_))
  refine wpAny_bind (wpAny_Call_Name_kw (ld_glob I hg hm ?_ hdb))
  refine PySem.W.callWith_K (h₀ := X.base) I.ok.mod.kin hk (thn (pa_cons ha pa_nil he cpos pins s σ H (fun vs H1 => match vs with | [v] => (∀ dx, H1 dx = none → EH σ (.ref C) (some dx) (upd H1 dx (.xd [(fld, v)]))) | _ => False) I h) fun us s1 ⟨vs, H1, I1, r, q⟩ => ⟨I1.kIn, ?_⟩) he hpl
  match vs, q, r with
  | [v], q, r =>
    have ul : us.length ≤ sizeLine := by rw [← r.length]; show 1 ≤ sizeLine; decide
    refine call_own I1.kIn c.is hi hf (fun h' mk => ?_) ul
    obtain ⟨t, e1, _, _⟩ := mk.there
    have fe : H1 (s1.heap.objs.size + 1) = none := I1.hok.fresh (Nat.le_succ _)
    have I2 := I1.laid (a := s1.heap.objs.size + 1) (o := .ext (XNew (s1.heap.objs.size + 1) C none t)) (t' := s1.toks) mk.keeps (Nat.le_succ _) (xnew_ok e1)
    have fe2 : ∀ H' : Hp, H' (s1.heap.objs.size + 1) = none → XN X pins H' (s1.heap.objs.size + 1) := fun H' z => .new I1 (Nat.le_succ _) z
    generalize s1.heap.objs.size + 1 = e at e1 fe I2 fe2
    have hq : spInit C fld [.ref e, v] (upd H1 e (.ext (XNew e C none t))) (fun u H2 => u = .non ∧ ∃ dx t', H1 dx = none ∧ dx ≠ e ∧ H2 = upd (upd (upd H1 e (.ext (XNew e C none t))) e (.ext (XNew e C (some dx) t'))) dx (.xd [(fld, v)])) E0 := ⟨e, v, t, rfl, upd_same, fun dx t' hd hne => ⟨rfl, dx, t', by rwa [upd_ne hne] at hd, hne, rfl⟩⟩
    have r2 : Vals [V.ref e, v] (Value.ref e :: us) := .cons rfl r
    have hl : (Value.ref e :: us).length = ps.length := by rw [← r2.length]; exact F.len _ _ _ _ hq
    have b := hb _ (Value.ref e :: us) I2.kIn (by rw [List.append_nil]; exact hl)
    rw [List.append_nil] at b
    refine wpAny_call (codeAny_mono (F.run _ X.stack _ _ ⟨Value.ref e :: us, []⟩ (Value.ref e :: us) _ _ E0 (hr.make C us []) (I2.env0.make C us []) b r2 hq) fun r s' hq' => ?_)
    cases r with
    | error e => exact False.elim hq'
    | ok fl =>
      cases fl with
      | ret u =>
        obtain ⟨v', H3, I3, rv, rfl, dx, t', hdx, hne, rfl⟩ := I2.after hq'
        have e3 : upd (upd (upd H1 e (.ext (XNew e C none t))) e (.ext (XNew e C (some dx) t'))) dx (.xd [(fld, v)]) e = some (.ext (XNew e C (some dx) t')) := by rw [upd_ne hne.symm, upd_same]
        have o3 : XNew e C (some dx) t' s'.heap := (I3.hok e _ e3).1
        have I4 := Inv.forget I3 e3
        have eh : delH (upd (upd (upd H1 e (.ext (XNew e C none t))) e (.ext (XNew e C (some dx) t'))) dx (.xd [(fld, v)])) e = upd H1 dx (.xd [(fld, v)]) := by
          funext b
          by_cases hb : b = e
          · rw [hb, delH_self, upd_ne hne.symm, fe]
          · rw [delH_ne hb]
            by_cases hd : b = dx
            · rw [hd, upd_same, upd_same]
            · rw [upd_ne hd, upd_ne hd, upd_ne hb, upd_ne hb]
        rw [eh] at I4
        refine ⟨rv, wpAny_bind (wpAny_standAt (wpAny_pure ⟨e, some dx, t', rfl, I4.kIn, o3, L pins σ _ _ e C (some dx) I4 ⟨fe2 _ (by rw [upd_ne hne.symm]; exact fe), _, _, o3, .inl rfl⟩ (q dx hdx)⟩))⟩
      | _ => exact False.elim hq'
end
end L2
end

section
set_option Elab.async false
set_option linter.all false
set_option maxRecDepth 100000
set_option maxHeartbeats 1000000
/-! ## own exceptions: what an __init__ does, what is asked of one -/
namespace L2
open PySem PySem.Spec PyProof.Rows
open PySem.W (Frag Looks)
section
variable {X : Cx} {B : Addr} {x : Str} {np cpos apos pos pos' : Pos} {a b o value : Expr} {t : TA} {ta tv : TE} {fld : Str}
/-- Base.__init__(self, text) -/
def tBase (K : Frag) (t : TA) : TE := fun σ H Q => t σ H fun vs H1 => ∃ e C t0 v, vs = [.ref e, v] ∧ H1 e = some (.ext (XNew e C none t0)) ∧ XC K C ∧ ∀ t', Q .non (upd H1 e (.ext (XNew e C none t')))
theorem base_ok {pins : List (Addr × Obj)} {σ : St} {H1 : Hp} {s1 : Shared} {us : List Value} {vs : List V} {Q : VK} {A : Around} {E : Value → Shared → Prop} (I1 : Inv X pins σ H1 s1) (r : Vals vs us)
    (h : ∃ e C t0 v, vs = [.ref e, v] ∧ H1 e = some (.ext (XNew e C none t0)) ∧ XC X.K C ∧ ∀ t', Q .non (upd H1 e (.ext (XNew e C none t')))) : wpAny (model X.prog X.w) A (call (.builtin "ValueError.__init__") us) (EP X pins σ Q) E s1 := by
  obtain ⟨e, C, t0, v, rfl, he, c, q⟩ := h
  obtain ⟨u1, u2, rfl, r1, r2⟩ := r.two
  obtain rfl : u1 = Value.ref e := r1
  have o1 : s1.heap.get? e = some (xob C none t0) := (I1.hok e _ he).1
  have e1 : (s1.heap.push { cls := .type "tuple", data := .seq [u2].toArray }).get? e = some (xob C none t0) := Heap.get?_push_of_some _ o1
  have e2 : ((s1.heap.push { cls := .type "tuple", data := .seq [u2].toArray }).update e (Obj.mapFields (·.setIfInBounds 0 (Value.ref s1.heap.objs.size)))).get? e = some (xob C none s1.heap.objs.size) := (Heap.get?_update_self _ e1 rfl).trans rfl
  have k2 : ∀ b ob, b ≠ e → s1.heap.get? b = some ob → ((s1.heap.push { cls := .type "tuple", data := .seq [u2].toArray }).update e (Obj.mapFields (·.setIfInBounds 0 (Value.ref s1.heap.objs.size)))).get? b = some ob := fun b ob hb z => (Heap.get?_update_other _ _ hb.symm).trans (Heap.get?_push_of_some _ z)
  refine base_init I1.kIn c.is o1 ?_ (show 1 ≤ sizeLine by decide)
  generalize ((s1.heap.push { cls := .type "tuple", data := .seq [u2].toArray }).update e (Obj.mapFields (·.setIfInBounds 0 (Value.ref s1.heap.objs.size)))) = h2 at e2 k2 ⊢
  exact ⟨.non, _, I1.write (x := e) (e := e) (o := .ext (XNew e C none s1.heap.objs.size)) (t' := s1.toks) (by rw [he]; trivial) (.inl rfl) (fun b ob hb z => k2 b ob hb z) ⟨_, e2⟩ (xnew_ok e2), rfl, q _⟩
theorem pe_base {pl : Sem Bool} (hr : PySem.W.readsIn X.K B (.type "type") = true) (hf : PySem.W.findCls X.K (.ref B) (.type "type") "__init__" = some (.val (.builtin "ValueError.__init__")))
    (hs : PySem.W.specialIn X.K (.ref B) "__getattribute__" = some (some (.builtin "type.__getattribute__"))) (hg : Gl X x) (hm : X.mg x = some (.ref B)) (ha : PA X [a, b] t)
    (hdb : (x == ("__debug__" : Str)) = false := by decide) (hst : starEach [a, b] X.env = (false, eval a X.env) :: starEach [b] X.env := by rfl) (hpl : (backTo cpos (starEach [b] X.env)).any (·.1) = false := by rfl)
    (ht : eval (.Call (.Attribute (.Name x np) "__init__" apos) [a, b] [] cpos) X.env = (do
      let ov ← eval (.Name x np) X.env
      standAt apos.atName
      let (f, first) ← holding [ov] (getMethod ov "__init__" pl)
      callWith cpos f first (backTo cpos (starEach [a, b] X.env)) (backToKw cpos (keywordEach [] X.env))) := by rfl) :
    PE X (.Call (.Attribute (.Name x np) "__init__" apos) [a, b] [] cpos) (tBase X.K t) := by
  intro pins s σ H Q I h
  refine PySem.W.methodCall_KW (pl := pl) (ld_glob I hg hm ?_ hdb) ht
  refine PySem.W.method_cls I.kIn hs (PySem.W.cls_value I.kIn hr hf rfl ?_)
  have I0 : Inv X pins σ H { s with toks := s.toks + 1 } := I.tok _
  show wpAny _ _ (callWith cpos (.builtin "ValueError.__init__") [] (backTo cpos (starEach [a, b] X.env)) []) _ _ _
  exact PyProof.Rows.callWith_builtin1 (thn (ha cpos pins _ σ H _ I0 h) fun us s1 ⟨vs, H1, I1, r, q⟩ => base_ok I1 r q) hst hpl
/-- self.fld = value, the first field of an exception -/
def sXFld (K : Frag) (ta tv : TE) (fld : Str) : TS := fun D σ H => tv σ H fun y H1 => ta σ H1 fun x H2 => ∃ e C t, x = .ref e ∧ H2 e = some (.ext (XNew e C none t)) ∧ XC K C ∧ PySem.W.takerIn K C fld = some none ∧
  ∀ dx, H2 dx = none → dx ≠ e → D.nx σ (upd (upd H2 e (.ext (XNew e C (some dx) t))) dx (.xd [(fld, y)]))
theorem ps_xfld (ha : PE X o ta) (hv : PE X value tv) (hs : swapsWith value (some (.Attribute o fld pos')) pos.line X.env = pure false) : PS X (.Assign [.Attribute o fld pos'] value pos) (sXFld X.K ta tv fld) := by
  intro pins s σ H D I h
  refine plainObj_wpAny_Assign_Attribute (thn (hv pins s σ H _ I h) fun u s1 ⟨y, H1, I1, ry, q⟩ => thn (ha pins s1 σ H1 _ I1 q) fun ov s2 ⟨x, H2, I2, rx, e, C, t, ex, he, c, tk, q2⟩ => ?_) hs
  subst ex
  obtain rfl : ov = Value.ref e := rx
  have o2 : s2.heap.get? e = some (xob C none t) := (I2.hok e _ he).1
  refine xset I2.kIn c.is o2 rfl rfl rfl c.sa tk fun h' tk' e3 n3 k3 => ?_
  have hd : H2 s2.heap.objs.size = none := I2.hok.fresh (Nat.le_refl _)
  have hde : s2.heap.objs.size ≠ e := Nat.ne_of_gt (Heap.lt_size o2)
  have hdn : s2.heap.get? s2.heap.objs.size = none := Heap.get?_none_of_le (Nat.le_refl _)
  generalize s2.heap.objs.size = dx at e3 n3 hd hde hdn
  have U : ∀ {b : Addr}, b ≠ e → b ≠ dx → upd (upd H2 e (.ext (XNew e C (some dx) t))) dx (.xd [(fld, y)]) b = H2 b := fun h1 h2 => by rw [upd_ne h2, upd_ne h1]
  have ne : ∀ {b : Addr} {z : HO}, H2 b = some z → (HO.ext (XNew e C none t) ≠ z) → b ≠ e := fun z n => (ne_of he z n).symm
  have nd : ∀ {b : Addr} {z : HO}, H2 b = some z → b ≠ dx := fun z y => by rw [y, hd] at z; cases z
  have nb : ∀ {b : Addr} {z : Obj}, s2.heap.get? b = some z → b ≠ dx := fun z y => by rw [y, hdn] at z; cases z
  have nn : ∀ {b : Addr}, H2 b = none → b ≠ e := fun z y => by rw [y, he] at z; cases z
  refine ⟨σ, _, I2.un (H' := upd (upd H2 e (.ext (XNew e C (some dx) t))) dx (.xd [(fld, y)])) (t' := tk') ⟨fun b ob z n _ _ => k3 b ob (nn n) z, fun b ob z n _ _ => ⟨ob.slots, k3 b ob (nn n) z⟩, fun b ob z n _ => by rw [U (nn n) (nb z)]; exact n, fun b ob z _ => ?_, fun b xs z => ?_, fun b ob z' z => ?_, fun b ps z => ⟨#[], ?_⟩⟩ fun b z hz => ?_, q2 dx hd hde⟩
  · by_cases hb : b = e
    · rw [hb]; exact ⟨_, e3⟩
    · exact ⟨ob, k3 b ob hb z⟩
  · rw [U (ne z (by intro z; cases z)) (nd z)]; exact z
  · rw [U (ne z (by intro z; cases z)) (nd z)]; exact z
  · rw [U (ne z (by intro z; cases z)) (nd z), z]; simp
  · by_cases hb : b = dx
    · rw [hb, upd_same] at hz
      cases hz
      rw [hb]
      refine ⟨_, n3, fun f => ?_⟩
      by_cases hf : f = fld
      · rw [hf, if_pos rfl]
        simp only [List.lookup, beq_self_eq_true]
        exact ry
      · rw [if_neg hf]
        have : (f == fld) = false := beq_eq_false_iff_ne.mpr hf
        simp only [List.lookup, this]
        trivial
    · rw [upd_ne hb] at hz
      by_cases hb2 : b = e
      · rw [hb2, upd_same] at hz
        cases hz
        rw [hb2]
        exact xnew_ok e3
      · rw [upd_ne hb2] at hz
        refine (I2.hok b z hz).stay (fun c v hc y => k3 c v ?_ y) (fun c y => ?_) fun c xs y => ?_
        · rcases hc with rfl | hc
          · exact hb2
          · exact ne hc (by intro z; cases z)
        · rw [U (ne y (by intro z; cases z)) (nd y)]; exact y
        · rw [U (ne y (by intro z; cases z)) (nd y)]; exact y
end
end L2
end

section
set_option Elab.async false
set_option linter.all false
set_option maxRecDepth 100000
set_option maxHeartbeats 1000000
/-! ## own exceptions: try -/
namespace L2
open PySem PySem.Spec PyProof.Rows
open PySem.W (Frag Looks)
/-- an exception that was caught -/
def XOb (e C : Addr) (dx : Option Addr) : Heap → Prop := fun h => ∃ vs sl, h.get? e = some ⟨.ref C, dx, .fields vs, sl⟩
section
variable {X : Cx} {pins : List (Addr × Obj)} {σ : St} {H : Hp} {s : Shared} {e C : Addr} {dx : Option Addr}
theorem Inv.left {ch : List Addr} {h' : Heap} (I : Inv X pins σ H s) (hch : ∀ b ∈ ch, XN X pins H b) (lv : Lv (frs X.stack) ch s.heap h') : Inv X pins σ H { s with heap := h' } := by
  refine I.call (H' := H) (g' := s.gens) (t' := s.toks) (d' := s.drawn) (ch := ch) ⟨fun b o z n hb hc => lv.keep b o hb hc z, fun b o z n hb hc => lv.slot b o hb z, fun _ _ _ n _ => n, fun b o z hc => ?_, fun _ _ z => z, fun _ _ _ z => z, fun b ps z => ⟨#[], by rw [z]; simp⟩⟩ (fun a u z => ?_) I.bare fun b hb => ?_
  · by_cases hb : b ∈ frs X.stack
    · obtain ⟨sl, q⟩ := lv.slot b o hb z
      exact ⟨_, q⟩
    · exact ⟨o, lv.keep b o hb hc z⟩
  · refine (I.hok a u z).stay (fun b v hb y => ?_) (fun _ q => q) fun _ _ q => q
    have hn : ¬ H b = none := fun y => by
      rcases hb with rfl | hb
      · rw [z] at y; cases y
      · rw [hb] at y; cases y
    exact lv.keep b v (fun y => hn (I.stkFree b y)) (fun y => hn (hch b y).2.1) y
  · obtain ⟨a, b, c, d, e⟩ := hch b hb
    exact ⟨.inr a, c, d, e⟩
theorem Inv.adopt {φ : Heap → Prop} (I : Inv X pins σ H s) (n : XN X pins H e) (hφ : ObjOk X.prog X.w (upd H e (.ext φ)) s.heap e (.ext φ)) : Inv X pins σ (upd H e (.ext φ)) s := by
  obtain ⟨n1, n2, n3, n4, n5⟩ := n
  have ne : ∀ {b : Addr} {u : HO}, H b = some u → b ≠ e := fun z y => by rw [y, n2] at z; cases z
  have n0 : ∀ {b : Addr} {o : Obj}, X.s₀.heap.get? b = some o → b ≠ e := fun z y => absurd (Heap.lt_size z) (by rw [y]; exact Nat.not_lt.mpr n1)
  refine ⟨I.ok, I.os, I.bare, ⟨I.base.keep, I.base.slot, fun b ob z n hx => by rw [upd_ne (n0 z)]; exact I.base.free b ob z n hx, I.base.there, fun b xs z => ?_, fun b ob u z => ?_, fun b ps z => ?_⟩, I.loc, I.cell, by rw [upd_ne n3.symm]; exact I.free, fun x c z => by rw [upd_ne (n4 x c z)]; exact I.freeC x c z, fun p hp => ?_, fun b u z => ?_, I.len⟩
  · have e1 := I.base.tups b xs z
    rw [upd_ne (ne e1)]; exact e1
  · have e1 := I.base.frzs b ob u z
    rw [upd_ne (ne e1)]; exact e1
  · obtain ⟨m, e1⟩ := I.base.tbls b ps z
    exact ⟨m, by rw [upd_ne (ne e1)]; exact e1⟩
  · obtain ⟨p1, p2, p3⟩ := I.pin p hp
    exact ⟨p1, by rw [upd_ne (n5 p hp)]; exact p2, p3⟩
  · by_cases hb : b = e
    · subst hb; rw [upd_same] at z; cases z; exact hφ
    · rw [upd_ne hb] at z
      exact (I.hok b u z).stay (fun _ _ _ q => q) (fun c q => by rw [upd_ne (ne q)]; exact q) fun c xs q => by rw [upd_ne (ne q)]; exact q
theorem xob_ok {P : Program} {w : World} {H : Hp} {h : Heap} (z : XOb e C dx h) : ObjOk P w H h e (.ext (XOb e C dx)) := ⟨z, let ⟨_, _, q⟩ := z; ⟨_, q⟩, fun h1 h2 ⟨vs, sl, a⟩ b => ⟨vs, sl, b _ a⟩⟩
/-- a local name is unbound -/
theorem Inv.unbound {i : Nat} {x : Str} {m : Str → Option Value} {u : Option Value} {h' : Heap} (I : Inv X pins σ H s) (hN : X.N.Nodup) (hi : X.N[i]? = some x) (hk : X.env.scope.names.lookup x = some .local)
    (hm : s.heap.Ns X.env.locals m) (hn : h'.Ns X.env.locals (fun y => if y = x then u else m y)) (hs : Heap.SameBut X.env.locals s.heap h') : Inv X pins (σ.set i none) H { s with heap := h' } := by
  have hiσ : i < σ.length := by rw [I.len]; exact (List.getElem?_eq_some_iff.mp hi).1
  obtain ⟨m0, hn0, hl⟩ := id I.loc
  have nL : ∀ {b : Addr} {o : Obj}, X.s₀.heap.get? b = some o → b ≠ X.env.locals := fun z => Nat.ne_of_lt (Nat.lt_of_lt_of_le (Heap.lt_size z) I.ok.above)
  have em : ∀ y, m0 y = m y := fun y => by
    obtain ⟨o, es, ep, ho, hd, _, r⟩ := hn0
    obtain ⟨o', es', ep', ho', hd', _, r'⟩ := hm
    rw [ho] at ho'; cases ho'
    rw [hd] at hd'; cases hd'
    rw [← r y, ← r' y]
  refine ⟨I.ok, I.os, I.bare, ⟨fun b o z n hb hx => (hs.2 b (nL z)).trans (I.base.keep b o z n hb hx), fun b o z n hb hx => ?_, I.base.free, fun b o z hx => ?_, I.base.tups, I.base.frzs, I.base.tbls⟩, ⟨_, hn, fun j y v e1 e2 e3 => ?_⟩, fun y c z => ?_, I.free, I.freeC, fun p hp => ?_, fun b ob z => ?_, by rw [List.length_set]; exact I.len⟩
  · obtain ⟨sl, q⟩ := I.base.slot b o z n hb hx
    exact ⟨sl, (hs.2 b (nL z)).trans q⟩
  · obtain ⟨o', q⟩ := I.base.there b o z hx
    exact ⟨o', (hs.2 b (nL z)).trans q⟩
  · by_cases hj : j = i
    · subst hj
      rw [List.getElem?_set_self hiσ] at e2
      cases e2
    · rw [List.getElem?_set_ne (Ne.symm hj)] at e2
      obtain ⟨u', r', q⟩ := hl j y v e1 e2 e3
      refine ⟨u', r', ?_⟩
      rcases q with ⟨k, z⟩ | ⟨k, c, z, y'⟩
      · refine .inl ⟨k, ?_⟩
        have : y ≠ x := fun z => hj (nodup_ix hN e1 (z ▸ hi))
        dsimp only
        rw [if_neg this, ← em]; exact z
      · exact .inr ⟨k, c, z, y'.sameBut hs (I.cne y c z)⟩
  · obtain ⟨w', q⟩ := I.cell y c z
    exact ⟨w', q.sameBut hs (I.cne y c z)⟩
  · obtain ⟨p1, p2, p3, p4⟩ := I.pin p hp
    exact ⟨(hs.2 _ p3).trans p1, p2, p3, p4⟩
  · refine (I.hok b ob z).stay (fun c v hc q => (hs.2 c fun y => ?_).trans q) (fun _ q => q) fun _ _ q => q
    rcases hc with rfl | hc
    · rw [y, I.free] at z; cases z
    · rw [y, I.free] at hc; cases hc
/-- the clause's class is one of those above the exception's -/
theorem xmatch {prog : Program} {w : World} {A : Around} {E : Value → Shared → Prop} {K : Frag} {B : Addr} {Q : Bool → Shared → Prop} (X : K.In s.heap) (q : xcIn K B = true) (hs : PySem.W.subIn K (.ref C) (.ref B) = some true) (he : XOb e C dx s.heap) (h : Q true s) :
    wpAny (model prog w) A (excMatches (.ref e) (.ref B)) Q E s := by
  obtain ⟨nm, qn, N, bs, bm, sn, sub, ab, col, dd, k0, k1, k2, k3, k5, mN, hC, hN, T⟩ := xc_of X q
  have hb : (Value.ref B :: bm).contains (.type "BaseException") = true := by rw [List.contains_cons, T.hasType (X := "BaseException") (b := true) (by decide +kernel), Bool.or_true]
  obtain ⟨vs, sl, o1⟩ := he
  have L := PySem.W.looks_subIn (M := model prog w) X hs
  obtain ⟨hp, g, d, tk, os⟩ := s
  dsimp only at hC o1 L
  have f := tc_notTuple
  unfold excMatches
  repeat (first | with_reducible refine wpAny_loadPart_at o1 ?_ | with_reducible refine wpAny_loadPart_at hC ?_ | (with_reducible refine wpAny_isSubtype_exc hC ?_; rw [hb]) | with_reducible refine L.at ?_ | wp_step)
  exact h
end
/-- within a try's body; within an except's suite -/
@[reducible] def Cx.tri (X : Cx) (xe : Value → Shared → Prop) (pn : List (Addr × Obj)) : Cx := { X with xe := xe, pn := pn }
@[reducible] def Cx.sui (X : Cx) (e : Addr) : Cx := { X with A := X.A.mark (some (.ref e)), calm := false, xe := fun _ _ => False }
section
variable {X : Cx} {pins pins' : List (Addr × Obj)} {σ : St} {H : Hp} {s : Shared} {e : Addr} {xe : Value → Shared → Prop}
theorem Inv.tri (I : Inv X pins σ H s) : Inv (X.tri xe (X.pn ++ pins)) [] σ H s :=
  ⟨⟨I.ok.mod, I.ok.kind, I.ok.glob, I.ok.blt, I.ok.above, I.ok.inj, I.ok.has, I.ok.cab, I.ok.hd, I.ok.frames, I.ok.stk, I.ok.exf, I.ok.bs, I.ok.bsz, I.ok.noex, I.ok.exfs, I.ok.funs, I.ok.frf⟩, I.os, I.bare, I.base, I.loc, I.cell, I.free, I.freeC, fun p hp => I.pin p (by rw [List.append_nil] at hp; exact hp), I.hok, I.len⟩
theorem Inv.untri (I : Inv (X.tri xe (X.pn ++ pins)) pins' σ H s) : Inv X pins σ H s :=
  ⟨⟨I.ok.mod, I.ok.kind, I.ok.glob, I.ok.blt, I.ok.above, I.ok.inj, I.ok.has, I.ok.cab, I.ok.hd, I.ok.frames, I.ok.stk, I.ok.exf, I.ok.bs, I.ok.bsz, I.ok.noex, I.ok.exfs, I.ok.funs, I.ok.frf⟩, I.os, I.bare, I.base, I.loc, I.cell, I.free, I.freeC, fun p hp => I.pin p (List.mem_append_left _ hp), I.hok, I.len⟩
theorem Inv.sui (I : Inv X pins σ H s) : Inv (X.sui e) pins σ H s :=
  ⟨⟨I.ok.mod, I.ok.kind, I.ok.glob, I.ok.blt, I.ok.above, I.ok.inj, I.ok.has, I.ok.cab, fun z => Bool.noConfusion z, I.ok.frames, I.ok.stk, I.ok.exf, I.ok.bs, I.ok.bsz, I.ok.noex, I.ok.exfs, I.ok.funs, I.ok.frf⟩, I.os, I.bare, I.base, I.loc, I.cell, I.free, I.freeC, I.pin, I.hok, I.len⟩
theorem Inv.unsui (ok : X.Ok) (I : Inv (X.sui e) pins σ H s) : Inv X pins σ H s := ⟨ok, I.os, I.bare, I.base, I.loc, I.cell, I.free, I.freeC, I.pin, I.hok, I.len⟩
end
/-- behind an except's suite its name is unbound -/
def Ends.unb (D : Ends) (i : Nat) : Ends := { nx := fun σ H => D.nx (σ.set i none) H, rt := D.rt, bk := fun σ H => D.bk (σ.set i none) H, ct := fun σ H => D.ct (σ.set i none) H }
/-- try: body; except B as x: suite (the exceptions that may come are under B) -/
def tTry (K : Frag) (i : Nat) (B : Addr) (tb : (St → XK) → TS) (ts : TS) : TS := fun D σ H => ∃ EH : St → XK, tb EH D σ H ∧ ∀ σ' C dx H', EH σ' (.ref C) dx H' → PySem.W.subIn K (.ref C) (.ref B) = some true ∧ ∀ e, H' e = none → ts (D.unb i) (σ'.set i (some (.ref e))) (upd H' e (.ext (XOb e C dx)))
section
variable {X : Cx} {B : Addr} {x n : Str} {np hpos pos : Pos} {body suite : List Stmt} {b₀ : Stmt} {tb : (St → XK) → TS} {ts : TS} {i : Nat}
theorem unbind_ok {pins : List (Addr × Obj)} {σ : St} {H : Hp} {s : Shared} {M : Model} {A : Around} {E : Value → Shared → Prop} {Q : Unit → Shared → Prop} (I : Inv X pins σ H s) (hN : X.N.Nodup) (hi : X.N[i]? = some n) (hk : X.env.scope.names.lookup n = some .local)
    (h : ∀ s', Inv X pins (σ.set i none) H s' → Q () s') : wpAny M A (do bindName X.env n .none; unbindBehindTheSuite X.env n hpos) Q E s := by
  have hcls : (X.env.scope.kind == .class || (X.env.scope.kind == .module && X.env.locals != X.env.globals)) = false := by rw [I.ok.kind]; rfl
  unfold bindName
  refine wpAny_bind (wpAny_bind (wpAny_holding (wpAny_point (wpAny_bind (store_ok (v := .non) I hN hi (.inl hk) rfl (fun s1 I1 => wpAny_point ?_) (.inr hk))))))
  unfold unbindBehindTheSuite
  refine wpAny_onRaise ?_
  obtain ⟨m, hm, hl⟩ := id I1.loc
  have hiσ : i < σ.length := by rw [I.len]; exact (List.getElem?_eq_some_iff.mp hi).1
  obtain ⟨u, ru, lk⟩ := hl i n .non hi (by rw [List.getElem?_set_self hiσ]) (.inl hk)
  have hv : ∃ v, m n = some v := by
    rcases lk with ⟨_, z⟩ | ⟨k, _⟩
    · exact ⟨_, z⟩
    · exfalso
      rcases k with k | k
      · rw [show X.env.kindOf n = X.env.scope.names.lookup n from rfl, hk] at k; cases k
      · rw [show X.env.kindOf n = X.env.scope.names.lookup n from rfl, hk] at k; cases k
  obtain ⟨v, hv⟩ := hv
  refine wpAny_unbindName_local hk hm hv hcls fun h' u hn' hs' => h _ ?_
  have I2 := I1.unbound hN hi hk hm hn' hs'
  rwa [List.set_set] at I2
end
end L2
end

section
set_option Elab.async false
set_option linter.all false
set_option maxRecDepth 100000
set_option maxHeartbeats 1000000
namespace L2
open PySem PySem.Spec PyProof.Rows
open PySem.W (Frag Looks)
section
variable {X : Cx} {B : Addr} {x n : Str} {np hpos pos : Pos} {body suite : List Stmt} {b₀ : Stmt} {tb : (St → XK) → TS} {ts : TS} {i : Nat}
theorem xflight {M : Model} {A : Around} {E : Value → Shared → Prop} {s : Shared} {N : Addr → Prop} {e C : Addr} {dx : Option Addr} {fs : List Addr} {Q : Unit → Shared → Prop} (hfs : ∀ b ∈ fs, ∀ o vs, s.heap.get? b = some o → o.data ≠ .fields vs) (x : XAt N s.heap e C dx)
    (h : ∀ h' ch, (∀ b ∈ ch, N b) → XAt N h' e C dx → Lv fs ch s.heap h' → Q () { s with heap := h' }) : wpAny M A (setFlight (.ref e) none) Q E s := by
  obtain ⟨ne, vs, sl, he, tb⟩ := x
  rcases tb with h1 | ⟨T, oT, ts, nT, hTe, h1, hT, dT, h3⟩
  · unfold setFlight
    refine wpAny_bind (wpAny_field he rfl h1 ?_)
    rw [if_neg (by decide)]
    exact wpAny_pure (h s.heap [] (fun b hb => absurd hb (by simp)) ⟨ne, vs, sl, he, .inl h1⟩ ⟨fun b o _ _ z => z, fun b o _ z => ⟨o.slots, z⟩⟩)
  · have z3 := (Array.getElem?_eq_some_iff.mp h3).1
    refine xland he rfl h1 hT dT z3 ?_
    have ot : ∀ b o, b ≠ T → s.heap.get? b = some o → (s.heap.update T (Obj.mapFields (·.setIfInBounds 3 Value.none))).get? b = some o := fun b o hb z => (Heap.get?_update_other _ _ hb.symm).trans z
    have t4 := Heap.get?_update_self (Obj.mapFields (·.setIfInBounds 3 Value.none)) hT (Obj.isFreed_of_fields (Obj.data_mapFields dT _))
    refine h _ [T] (fun b hb => by rw [List.mem_singleton.mp hb]; exact nT) ⟨ne, vs, sl, ot _ _ hTe.symm he, .inr ⟨T, _, _, nT, hTe, h1, t4, Obj.data_mapFields dT _, by simp [z3]⟩⟩ ⟨fun b o _ hb z => ot b o (fun y => hb (by rw [y]; simp)) z, fun b o hb z => ⟨o.slots, ot b o (fun y => ?_) z⟩⟩
    subst y
    rw [hT] at z
    cases z
    exact hfs b hb oT ts hT dT
/-- an exception comes to its clause -/
theorem caught {pins : List (Addr × Obj)} {σ : St} {H : Hp} {s : Shared} {e C : Addr} {dx : Option Addr} {D : Ends} (I : Inv X pins σ H s) (hst : X.stack = X.env :: X.outer) (hfr : X.env.frame = some X.env.locals) (hN : X.N.Nodup) (hi : X.N[i]? = some n) (hk : X.env.scope.names.lookup n = some .local) (q : xcIn X.K B = true) (hg : Gl X x) (hm : X.mg x = some (.ref B))
    (hs : ∀ e, PSs (X.sui e) (b₀ :: suite) ts) (xa : XAt (XN X pins H) s.heap e C dx) (sb : PySem.W.subIn X.K (.ref C) (.ref B) = some true) (h : ts (D.unb i) (σ.set i (some (.ref e))) (upd H e (.ext (XOb e C dx)))) (hdb : (x == ("__debug__" : Str)) = false := by decide) :
    wpAny (model X.prog X.w) X.A (noteFrame (.ref e) X.env) (fun _ s₂ => wpAny (model X.prog X.w) X.A (setFlight (.ref e) none) (fun _ s₃ => wpAny (model X.prog X.w) X.A (handleBy (.ref e) X.env [.ExceptHandler (some (.Name x np)) (some n) (b₀ :: suite) hpos]) (SP X pins D) X.xe s₃) X.xe s₂) X.xe s := by
  have hf0 := I.ok.frames
  have st0 := I.stack
  rw [hst] at hf0 st0
  refine xleave (L := X.env.locals) (base := X.base) hf0 st0 hfr (fun b hb => .new I hb (I.hok.fresh hb)) xa fun h' ch hch xa' lv => ?_
  rw [← hst] at lv
  have I1 := I.left (fun b hb => (hch b hb).1) lv
  obtain ⟨ne, vs, sl, o1, tb1⟩ := xa'
  refine wpAny_handleBy_cons (codeAny_handlers_test (ld_glob (X := X.sui e) I1.sui hg hm (xmatch I1.kIn q sb ⟨vs, sl, o1⟩ ?_) hdb)) (by intro z; cases z)
  show codeAny _ _ _ _ _
  refine codeAny_handlers_suite_as (xflight (fs := frs X.stack) (N := XN X pins H) (fun b hb o ws z => ?_) ⟨ne, vs, sl, o1, tb1⟩ fun h2 ch2 hch2 xa2 lv2 => ?_)
  · obtain ⟨_, o', z', nd⟩ := I1.stack.mem hb
    rw [z] at z'; cases z'
    exact nd ws
  have I2 := I1.left hch2 lv2
  obtain ⟨ne2, vs2, sl2, o2, _⟩ := xa2
  have I3 := (I2.adopt (φ := XOb e C dx) ne2 (xob_ok ⟨vs2, sl2, o2⟩)).sui (e := e)
  refine store_ok (X := X.sui e) (v := .ref e) I3 hN hi (.inl hk) rfl (fun s4 I4 => ?_) (.inr hk)
  refine wpAny_mono (hs e pins s4 _ _ (D.unb i) I4 h) (fun f s5 q5 => ?_) fun _ _ z => False.elim z
  show wpAny _ _ (do bindName X.env n .none; unbindBehindTheSuite X.env n hpos) _ _ _
  cases f with
  | next =>
    obtain ⟨σ5, H5, I5, q5⟩ := q5
    exact unbind_ok (I5.unsui I.ok) hN hi hk fun s6 I6 => ⟨_, H5, I6, q5⟩
  | brk =>
    obtain ⟨σ5, H5, I5, q5⟩ := q5
    exact unbind_ok (I5.unsui I.ok) hN hi hk fun s6 I6 => ⟨_, H5, I6, q5⟩
  | cont =>
    obtain ⟨σ5, H5, I5, q5⟩ := q5
    exact unbind_ok (I5.unsui I.ok) hN hi hk fun s6 I6 => ⟨_, H5, I6, q5⟩
  | ret u =>
    obtain ⟨v, σ5, H5, I5, ru, q5⟩ := q5
    exact unbind_ok (I5.unsui I.ok) hN hi hk fun s6 I6 => ⟨v, _, H5, I6, ru, q5⟩
theorem ps_try (hst : X.stack = X.env :: X.outer) (hfr : X.env.frame = some X.env.locals) (hN : X.N.Nodup) (hi : X.N[i]? = some n) (hk : X.env.scope.names.lookup n = some .local) (q : xcIn X.K B = true) (hg : Gl X x) (hm : X.mg x = some (.ref B))
    (hb : ∀ (EH : St → XK) (xe : Value → Shared → Prop) (pn : List (Addr × Obj)), Lands (X.tri xe pn) EH → PassesOwn (model X.prog X.w) X.A X.env xe → PSs (X.tri xe pn) body (tb EH)) (hs : ∀ e, PSs (X.sui e) (b₀ :: suite) ts) (hdb : (x == ("__debug__" : Str)) = false := by decide) :
    PS X (.Try body [.ExceptHandler (some (.Name x np)) (some n) (b₀ :: suite) hpos] [] [] pos) (tTry X.K i B tb ts) := by
  intro pins s σ H D I h
  obtain ⟨EH, h1, h2⟩ := h
  refine wpAny_Try_except ?_
  have L : Lands (X.tri (fun v s₁ => wpAny (model X.prog X.w) X.A (noteFrame v X.env) (fun _ s₂ => wpAny (model X.prog X.w) X.A (setFlight v none) (fun _ s₃ => wpAny (model X.prog X.w) X.A (handleBy v X.env [.ExceptHandler (some (.Name x np)) (some n) (b₀ :: suite) hpos]) (SP X pins D) X.xe s₃) X.xe s₂) X.xe s₁) (X.pn ++ pins)) EH := by
    intro pins' σ' H' s' e C dx I' xa' q'
    obtain ⟨sb, hts⟩ := h2 σ' C dx H' q'
    refine caught I'.untri hst hfr hN hi hk q hg hm hs (xa'.mono fun b hb => ⟨hb.1, hb.2.1, hb.2.2.1, hb.2.2.2.1, fun p hp => hb.2.2.2.2 p (List.mem_append_left _ hp)⟩) sb (hts e xa'.1.2.1) hdb
  refine wpAny_mono (hb EH _ _ L PassesOwn.looking [] s σ H D I.tri h1) (fun f s1 q1 => ?_) fun _ _ z => z
  cases f with
  | next =>
    obtain ⟨σ1, H1, I1, q1⟩ := q1
    exact wpAny_pure ⟨σ1, H1, I1.untri, q1⟩
  | brk =>
    obtain ⟨σ1, H1, I1, q1⟩ := q1
    exact ⟨σ1, H1, I1.untri, q1⟩
  | cont =>
    obtain ⟨σ1, H1, I1, q1⟩ := q1
    exact ⟨σ1, H1, I1.untri, q1⟩
  | ret u =>
    obtain ⟨v, σ1, H1, I1, ru, q1⟩ := q1
    exact ⟨v, σ1, H1, I1.untri, ru, q1⟩
end
end L2
end

section
set_option Elab.async false
set_option linter.all false
set_option maxRecDepth 100000
set_option maxHeartbeats 1000000
namespace L2
open PySem PySem.Spec PyProof.Rows
open PySem.W (Frag Looks)
/-! ### what is asked of a caught exception -/
/-- its own dict, if it has one -/
def XDict (H : Hp) (dx : Option Addr) : Prop := ∀ d, dx = some d → ∃ fs, H d = some (.xd fs)
section
variable {X : Cx} {pins : List (Addr × Obj)} {σ : St} {H : Hp} {s : Shared} {e C : Addr} {dx : Option Addr}
theorem xinst (I : Inv X pins σ H s) (he : H e = some (.ext (XOb e C dx))) (hd : XDict H dx) : ∃ oe od, PySem.W.InstAt s.heap e oe C od := by
  obtain ⟨vs, sl, o1⟩ := (I.hok e _ he).1
  cases dx with
  | none => exact ⟨_, none, o1, rfl, rfl, True.intro⟩
  | some d =>
    obtain ⟨fs, hd⟩ := hd d rfl
    obtain ⟨mA, n, _⟩ := I.hok d _ hd
    obtain ⟨od, ho, _⟩ := lookIn_ns n
    exact ⟨_, some od, o1, rfl, rfl, ho⟩
/-- isinstance(e, T), T a built-in type -/
def qIsiXT (K : Frag) : List V → Hp → VK → Prop := fun vs H Q => ∃ e T, vs = [.ref e, .ty T] ∧ ∃ C dx, H e = some (.ext (XOb e C dx)) ∧ XDict H dx ∧ XC K C ∧ ∃ b, PySem.W.kitOne K (.ref C) (.type T) = some b ∧ Q (.bl b) H
/-- isinstance(e, D), D an own class -/
def qIsiXC (K : Frag) : List V → Hp → VK → Prop := fun vs H Q => ∃ e D, vs = [.ref e, .ref D] ∧ ∃ C dx, H e = some (.ext (XOb e C dx)) ∧ XDict H dx ∧ XC K C ∧ ∃ b, PySem.W.kitOne K (.ref C) (.ref D) = some b ∧ Q (.bl b) H
theorem call_isiXC : CallR X (.builtin "isinstance") (qIsiXC X.K) := by
  intro pins s σ H vs us Q I r h
  obtain ⟨e, D, rfl, C, dx, he, hd, c, b, hb, q⟩ := h
  obtain ⟨u1, u2, rfl, r1, r2⟩ := r.two
  obtain rfl : u1 = Value.ref e := r1
  obtain rfl : u2 = Value.ref D := r2
  exact PySem.W.kia_one (kitx_exc c) I.kIn (xinst I he hd) hb (fun z => by cases z) fun tk => ⟨.bl b, H, I.tok _, rfl, q⟩
/-- isinstance(e, (D, ..)), own classes -/
def qIsiXA (K : Frag) : List V → Hp → VK → Prop := fun vs H Q => ∃ e p, vs = [.ref e, .ref p] ∧ ∃ Ds : List Addr, H p = some (.tup (Ds.map V.ref)) ∧ ∃ C dx, H e = some (.ext (XOb e C dx)) ∧ XDict H dx ∧ XC K C ∧ ∃ b, PySem.W.kitAny K (.ref C) (Ds.map Value.ref) = some b ∧ Q (.bl b) H
/-- e.f, a field of a caught exception -/
def tFldX (K : Frag) (ta : TE) (f : Str) : TE := fun σ H Q => ta σ H fun x H1 => ∃ e, x = .ref e ∧ ∃ C dx, H1 e = some (.ext (XOb e C (some dx))) ∧ XC K C ∧ PySem.W.findIn K (.ref C) f = some none ∧ ∃ fs, H1 dx = some (.xd fs) ∧ ∃ v, fs.lookup f = some v ∧ Q v H1
theorem pe_fldX {o : Expr} {f : Str} {pos : Pos} {ta : TE} (he : PE X o ta) (hb : attributeBase o f X.env (eval o X.env) = eval o X.env) : PE X (.Attribute o f pos) (tFldX X.K ta f) := by
  intro pins s σ H Q I h
  refine attr_of hb (thn (he pins s σ H _ I h) fun u s1 ⟨x, H1, I1, rx, e, ex, C, dx, ee, c, nf, fs, hd, v, lk, q⟩ => ?_)
  subst ex
  obtain rfl : u = Value.ref e := rx
  obtain ⟨vs, sl, o1⟩ := (I1.hok e _ ee).1
  obtain ⟨mA, n, rel⟩ := I1.hok dx _ hd
  obtain ⟨od, ho, hl⟩ := lookIn_ns n
  obtain ⟨u, hu, ru⟩ := RelO.some_of (v := v) (o := mA f) (by rw [← lk]; exact rel f)
  exact xget I1.kIn c.is ⟨o1, rfl, rfl, ho⟩ c.ga c.gn (PySem.W.findObj_own c.hd nf rfl (by rw [hl, hu])) (handed_of ru) ⟨v, H1, I1.tok _, ru, q⟩
end
end L2
end

section
set_option Elab.async false
set_option linter.all false
set_option maxRecDepth 100000
set_option maxHeartbeats 1000000
/-! ## own exceptions: the rules, shut -/
namespace L2
open PySem PySem.Spec PyProof.Rows
open PySem.W (Frag Looks)
theorem passE {X : Cx} {P : Program} {w : World} : Passes (CXE P w) X E0 := fun _ _ _ _ _ _ _ h => by
  obtain ⟨_, _, _, _, _, _, _, _, _, _, q⟩ := h
  exact q.elim
section
variable {X : Cx} {N : List Str} {sc : Scope}
theorem hcT {xe : Value → Shared → Prop} {pn : List (Addr × Obj)} (h : HC X N sc) : HC (X.tri xe pn) N sc := ⟨h.n, h.s⟩
theorem hfT {xe : Value → Shared → Prop} {pn : List (Addr × Obj)} (h : ∀ x, X.fn x = true) : ∀ x, (X.tri xe pn).fn x = true := h
theorem hfS {e : Addr} (h : ∀ x, X.fn x = true) : ∀ x, (X.sui e).fn x = true := h
theorem hcS {e : Addr} (h : HC X N sc) : HC (X.sui e) N sc := ⟨h.n, h.s⟩
variable {k : Nat} {fI C B : Addr} {fd : FuncData} {ps : List Str} {sp : Sp} {EH : St → XK} {x n fld : Str} {np cpos apos hpos pos pos' : Pos} {a b o value : Expr} {t : TA} {te ta tv : TE} {body suite : List Stmt} {b₀ : Stmt} {tb : (St → XK) → TS} {ts : TS}
theorem zps_raise1 (c : XC X.K C) (hi : PySem.W.findIn X.K (.ref C) "__init__" = some (some (.ref fI))) (hf : PySem.W.typeIn X.K (.ref fI) = some (.type "function")) (hk : PySem.W.keepIn X.K (.ref C) = true)
    (F : FnOk X.prog X.w X.K X.mg X.base CX0 k fI fd ps (spInit C fld)) (hb : Binds X.K fd ps []) (hr : Room (k + 1) X.A) (hg : Gl X x) (hm : X.mg x = some (.ref C)) (hc : X.calm = true) (L : Lands X EH) (ha : ZE X a te)
    (hdb : (x == ("__debug__" : Str)) = false := by decide) (he : starEach [a] X.env = (false, eval a X.env) :: starEach [] X.env := by rfl) (hpl : (backTo cpos (starEach [] X.env)).any (·.1) = false := by rfl) :
    ZS X (.Raise (some (.Call (.Name x np) [a] [] cpos)) none pos) (tRaise1 C fld te EH) := ⟨ps_raise1 c hi hf hk F hb hr hg hm hc L ha.to hdb he hpl⟩
theorem zpe_base {pl : Sem Bool} (hr : PySem.W.readsIn X.K B (.type "type") = true) (hf : PySem.W.findCls X.K (.ref B) (.type "type") "__init__" = some (.val (.builtin "ValueError.__init__")))
    (hs : PySem.W.specialIn X.K (.ref B) "__getattribute__" = some (some (.builtin "type.__getattribute__"))) (hg : Gl X x) (hm : X.mg x = some (.ref B)) (ha : ZA X [a, b] t)
    (hdb : (x == ("__debug__" : Str)) = false := by decide) (hst : starEach [a, b] X.env = (false, eval a X.env) :: starEach [b] X.env := by rfl) (hpl : (backTo cpos (starEach [b] X.env)).any (·.1) = false := by rfl)
    (ht : eval (.Call (.Attribute (.Name x np) "__init__" apos) [a, b] [] cpos) X.env = (do
      let ov ← eval (.Name x np) X.env
      standAt apos.atName
      let (f, first) ← holding [ov] (getMethod ov "__init__" pl)
      callWith cpos f first (backTo cpos (starEach [a, b] X.env)) (backToKw cpos (keywordEach [] X.env))) := by rfl) :
    ZE X (.Call (.Attribute (.Name x np) "__init__" apos) [a, b] [] cpos) (tBase X.K t) := ⟨pe_base (pl := pl) hr hf hs hg hm ha.to hdb hst hpl ht⟩
theorem zps_xfld (ha : ZE X o ta) (hv : ZE X value tv) (hs : swapsWith value (some (.Attribute o fld pos')) pos.line X.env = pure false) : ZS X (.Assign [.Attribute o fld pos'] value pos) (sXFld X.K ta tv fld) := ⟨ps_xfld ha.to hv.to hs⟩
theorem zpe_fldX {K : Frag} {f : Str} (hK : X.K = K) (he : ZE X o ta) (hb : attributeBase o f X.env (eval o X.env) = eval o X.env) : ZE X (.Attribute o f pos) (tFldX K ta f) := hK ▸ ⟨pe_fldX he.to hb⟩
theorem call_isiXCK {K : Frag} (hK : X.K = K) : CallR X (.builtin "isinstance") (qIsiXC K) := hK ▸ call_isiXC
theorem zpsk_try (hc : HC X N sc) (nd : N.Nodup) (i : Nat) (h : okL1 N sc i n = true) (hst : X.stack = X.env :: X.outer) (hfr : X.env.frame = some X.env.locals) (q : xcIn X.K B = true) (hg : Gl X x) (hm : X.mg x = some (.ref B))
    (hb : ∀ (EH : St → XK) (xe : Value → Shared → Prop) (pn : List (Addr × Obj)), Lands (X.tri xe pn) EH → PassesOwn (model X.prog X.w) X.A X.env xe → ZSs (X.tri xe pn) body (tb EH)) (hs : ∀ e, ZSs (X.sui e) (b₀ :: suite) ts) (hdb : (x == ("__debug__" : Str)) = false := by decide) :
    ZS X (.Try body [.ExceptHandler (some (.Name x np)) (some n) (b₀ :: suite) hpos] [] [] pos) (tTry X.K i B tb ts) :=
  ⟨ps_try hst hfr (by rw [hc.n]; exact nd) (okL1_loc hc h).1 (okL1_loc hc h).2 q hg hm (fun EH xe pn l p => (hb EH xe pn l p).to) (fun e => (hs e).to) hdb⟩
end
/-! ### tuples of texts compared -/
section
variable {X : Cx}
def qEqTS (neg : Bool) : R2 := fun x y H Q => ∃ p q, x = .ref p ∧ y = .ref q ∧ ∃ xs ys : List Str, H p = some (.tup (List.map V.str xs)) ∧ H q = some (.tup (List.map V.str ys)) ∧ Q (.bl (if neg then !decide (xs = ys) else decide (xs = ys))) H
theorem eq_str_items {A : Around} {s : Shared} {x y : List Str} {us ws : List Value} (r1 : Vals (List.map V.str x) us) (r2 : Vals (List.map V.str y) ws) (j : Nat) (h1 : j < us.toArray.size) (h2 : j < ws.toArray.size) :
    SeqAt.EqAt A s us.toArray[j] ws.toArray[j] (decide (x[j]? = y[j]?)) := by
  have l1 := r1.length
  have l2 := r2.length
  rw [List.length_map] at l1 l2
  have j1 : j < x.length := by rw [l1]; simpa using h1
  have j2 : j < y.length := by rw [l2]; simpa using h2
  have e1 : x[j]? = some x[j] := List.getElem?_eq_getElem j1
  have e2 : y[j]? = some y[j] := List.getElem?_eq_getElem j2
  have h := eqAt_V (A := A) (s := s) (vals_at (x := .str x[j]) r1 h1 (by rw [List.getElem?_map, e1]; rfl)) (vals_at (x := .str y[j]) r2 h2 (by rw [List.getElem?_map, e2]; rfl)) rfl rfl
  have e3 : eqV (.str x[j]) (.str y[j]) = decide (x[j]? = y[j]?) := by
    rw [e1, e2, Bool.eq_iff_iff, decide_eq_true_iff, Option.some.injEq]
    show (x[j] == y[j]) = true ↔ _
    rw [beq_iff_eq]
  rw [e3] at h
  exact h
theorem op_eqTS (hu : X.A.units + 1 < cLine) : OpR X (compareOp .Eq) (qEqTS false) := by
  intro pins s σ H x y v u Q I rx ry h
  obtain ⟨a, b, rfl, rfl, cl, dl, h1, h2, q⟩ := h
  cases rx; cases ry
  obtain ⟨us, r1, t1, _⟩ := I.tuple (sqT_of h1)
  obtain ⟨ws, r2, t2, _⟩ := I.tuple (sqT_of h2)
  have l1 := r1.length
  have l2 := r2.length
  rw [List.length_map] at l1 l2
  refine SeqAt.eq_tupleAt (e := fun j => decide (cl[j]? = dl[j]?)) t1 t2 (by omega) (fun j h1 h2 => eq_str_items r1 r2 j h1 h2) ⟨.bl _, H, I, rfl, ?_⟩
  rw [List.size_toArray, List.size_toArray, ← l1, ← l2, all_same]
  exact q
end
end L2
end

section
set_option Elab.async false
set_option linter.all false
set_option maxRecDepth 100000
set_option maxHeartbeats 4000000
/-! ## sorted(list of pairs of a text and a truth), few and with unlike texts -/
namespace L2
open PySem PySem.Spec PySem.W PyProof.Rows Builtin
theorem prm_pick {α : Type} {l : List α} {p : Array Nat} {d : α} (hp : Prm p l.length) : (p.toList.map fun i => l.getD i d).Perm l := by
  have h1 : p.toList.Perm (List.range l.length) := by simpa using Array.perm_iff_toList_perm.mp hp.perm
  have h2 := h1.map fun i => l.getD i d
  have e : (List.range l.length).map (fun i => l.getD i d) = l := by
    apply List.ext_getElem?
    intro i
    rw [List.getElem?_map]
    by_cases hi : i < l.length
    · rw [List.getElem?_range hi, List.getElem?_eq_getElem hi]
      simp [List.getD_eq_getElem?_getD, List.getElem?_eq_getElem hi]
    · rw [List.getElem?_eq_none (by simpa using hi), List.getElem?_eq_none (by omega)]
      rfl
  rwa [e] at h2
theorem asc_pick {α : Type} {l : List α} {p : Array Nat} {d : α} {R : α → α → Bool} (hp : Prm p l.length) (O : Ord (fun i j => R (l.getD i d) (l.getD j d)) l.length) (a : Asc (fun i j => R (l.getD i d) (l.getD j d)) p l.length) : (p.toList.map fun i => l.getD i d).Pairwise fun x y => R x y = true := by
  rw [List.pairwise_map, List.pairwise_iff_getElem]
  intro i j hi hj hij
  have hs := hp.size
  rw [Array.length_toList] at hi hj
  have := Asc.lt O hp (by omega) a (Nat.le_refl _) hij (by omega)
  have e : ∀ k (hk : k < p.size), at0 p k = p.toList[k]'(by simpa using hk) := fun k hk => by
    unfold at0
    rw [Array.getD_eq_getD_getElem?, Array.getElem?_eq_getElem hk]
    simp
  rw [e i hi, e j hj] at this
  exact this
section
variable {prog : Program} {w : World} {A : Around} {E : Value → Shared → Prop} {s : Shared}
theorem list_sort_ord {a : Addr} {vs : List Value} {n : Nat} {κ : SortKind} {b : Nat → Nat → Bool} {P : PySem.Fin → Shared → Prop} (ho : s.heap.get? a = some (seqObj "list" vs.toArray n)) (h64 : vs.length < 64) (O : Ord b vs.length)
    (hk : ∀ h', (∀ c o, c ≠ a → s.heap.get? c = some o → h'.get? c = some o) → 2 ≤ vs.length → wpAny (model prog w) A (keyKind' vs.toArray) (fun k s' => k = κ ∧ s' = { s with heap := h' }) (fun _ _ => False) { s with heap := h' })
    (hc : ∀ h', (∀ c o, c ≠ a → s.heap.get? c = some o → h'.get? c = some o) → ∀ i j C, i < vs.length → j < vs.length → C (b i j) { s with heap := h' } → kas_ask prog w A κ vs i j C { s with heap := h' })
    (h : ∀ p, Prm p vs.length → Asc b p vs.length → P (.done (.ret .none)) { s with heap := sortedHeap s.heap a vs (p.toList.map fun i => vs.getD i Value.none).toArray }) :
    wpAny (model prog w) A (Builtin.«list.sort» ⟨[.ref a], []⟩) P E s := by
  rw [list_sort_plain]
  have ha : a < s.heap.objs.size := Heap.lt_size ho
  have sb := Heap.SameBut.update s.heap a (Obj.mapSeq fun _ => (#[] : Array Value))
  obtain ⟨e1, ho1⟩ : ∃ e1, (s.heap.update a (Obj.mapSeq fun _ => (#[] : Array Value))).get? a = some (seqObj "list" #[] e1) := ⟨_, get?_update_seq ho fun _ => #[]⟩
  have hsz : vs.toArray.size = vs.length := by simp
  refine wpAny_bind (listItems_at ho rfl ?_)
  refine wpAny_bind (listUpdate_at ho rfl ?_ (by rw [hsz, sizeLine_eq]; omega) (Nat.zero_le _))
  refine wpAny_bind (seqEpoch_at ho1 rfl ?_)
  refine wpAny_bind (wpAny_newTuple ?_ (by show vs.length ≤ _; rw [sizeLine_eq]; omega))
  refine wpAny_bind (wpAny_newList ?_ (Nat.zero_le _))
  refine wpAny_holding ?_
  have ho6 : (((s.heap.update a (Obj.mapSeq fun _ => (#[] : Array Value))).push (seqObj "tuple" vs.toArray 0)).push (seqObj "list" #[] 0)).get? a = some (seqObj "list" #[] e1) := Heap.get?_push_of_some _ (Heap.get?_push_of_some _ ho1)
  have keep : ∀ c o, c ≠ a → s.heap.get? c = some o → (((s.heap.update a (Obj.mapSeq fun _ => (#[] : Array Value))).push (seqObj "tuple" vs.toArray 0)).push (seqObj "list" #[] 0)).get? c = some o := fun c o nc e =>
    Heap.get?_push_of_some _ (Heap.get?_push_of_some _ ((sb.2 c nc).trans e))
  show wpAny (model prog w) A _ P E { s with heap := ((s.heap.update a (Obj.mapSeq fun _ => (#[] : Array Value))).push (seqObj "tuple" vs.toArray 0)).push (seqObj "list" #[] 0) }
  dsimp only
  by_cases h2 : vs.toArray.size < 2
  · rw [if_pos h2, if_pos h2]
    refine wpAny_bind (wpAny_pure ?_)
    rw [StateT.run_pure]
    refine wpAny_bind (wpAny_pure ?_)
    dsimp only
    refine wpAny_bind (seqEpoch_at ho6 rfl ?_)
    have hp : Prm (List.toArray (List.range vs.length)) vs.length := ⟨Array.Perm.refl _⟩
    have hout : (arrOf (SortSt.mk' general' (vs.toArray.zip vs.toArray) #[] 7 none)).map (·.2) = ((List.toArray (List.range vs.length)).toList.map fun i => vs.getD i Value.none).toArray := by
      have z := kat_snds (ks := vs) (vs := vs) rfl (st := SortSt.mk' general' (vs.toArray.zip vs.toArray) #[] 7 none) (p := List.toArray (List.range vs.length)) (by
        have e := kas_range (vs.toArray.zip vs.toArray)
        rw [show (vs.toArray.zip vs.toArray).size = vs.length by simp] at e
        exact e.symm)
      exact z
    rw [hout]
    refine wpAny_bind (listUpdate_at ho6 rfl ?_ (Nat.zero_le _) (by
      have z : (((List.toArray (List.range vs.length)).toList.map fun i => vs.getD i Value.none).toArray).size ≤ sizeLine := by rw [sizeLine_eq]; simp; omega
      exact Nat.le_succ_of_le z))
    simp only [bne_self_eq_false, Bool.false_eq_true, if_false]
    exact wpAny_pure (h _ hp fun i hi => by omega)
  · rw [if_neg h2, if_neg h2]
    have h2' : 2 ≤ vs.length := by omega
    refine wpAny_bind (wpAny_mono (hk _ keep h2') (fun k s' ⟨e2, e3⟩ => ?_) fun _ _ x => x.elim)
    subst e2 e3
    have g : (kas_sort vs.length).kasWp (kas_ask prog w A k vs) (fun p s'' => (Prm p vs.length ∧ Asc b p vs.length) ∧ s'' = { s with heap := ((s.heap.update a (Obj.mapSeq fun _ => (#[] : Array Value))).push (seqObj "tuple" vs.toArray 0)).push (seqObj "list" #[] 0) }) { s with heap := ((s.heap.update a (Obj.mapSeq fun _ => (#[] : Array Value))).push (seqObj "tuple" vs.toArray 0)).push (seqObj "list" #[] 0) } :=
      KG.wp (fun i j C hi hj hC => hc _ keep i j C hi hj hC) (fun p hp => ⟨hp, rfl⟩) (kg_sort O h2')
    refine wpAny_bind (wpAny_mono (kat_run (Q := fun st' s' => ∃ p : Array Nat, arrOf st' = p.map (kas_item (vs.toArray.zip vs.toArray)) ∧ failedOf st' = none ∧ (Prm p vs.length ∧ Asc b p vs.length) ∧ s' = _) rfl h2' h64 (fun p' st' s' _ a2 a3 a4 => ⟨p', a2, a3, a4.1, a4.2⟩) g) ?_ fun _ _ e => e)
    rintro ⟨⟨⟩, st'⟩ s' ⟨p, har, hf, ⟨hp, hasc⟩, rfl⟩
    dsimp only
    have hout := kat_snds rfl har
    rw [hout]
    refine wpAny_bind (seqEpoch_at ho6 rfl ?_)
    refine wpAny_bind (listUpdate_at ho6 rfl ?_ (Nat.zero_le _) (by
      have z : ((p.toList.map fun i => vs.getD i Value.none).toArray).size ≤ sizeLine := by rw [sizeLine_eq, List.size_toArray, List.length_map, Array.length_toList, hp.size]; omega
      exact Nat.le_succ_of_le z))
    rw [hf]
    simp only [bne_self_eq_false, Bool.false_eq_true, if_false]
    exact wpAny_pure (h p hp hasc)
theorem sorted_ord {l : Addr} {vs : List Value} {κ : SortKind} {b : Nat → Nat → Bool} {Q : Value → Shared → Prop} (hl : s.heap.IsList l vs.toArray) (h64 : vs.length < 64) (O : Ord b vs.length)
    (hk : ∀ h', (∀ c o, s.heap.get? c = some o → h'.get? c = some o) → 2 ≤ vs.length → wpAny (model prog w) A.in1.in1 (keyKind' vs.toArray) (fun k s' => k = κ ∧ s' = { s with heap := h' }) (fun _ _ => False) { s with heap := h' })
    (hc : ∀ h', (∀ c o, s.heap.get? c = some o → h'.get? c = some o) → ∀ i j C, i < vs.length → j < vs.length → C (b i j) { s with heap := h' } → kas_ask prog w A.in1.in1 κ vs i j C { s with heap := h' })
    (h : ∀ p, Prm p vs.length → Asc b p vs.length → Q (.ref (s.heap.objs.size + 1)) { s with heap := sortedAll s.heap vs (p.toList.map fun i => vs.getD i Value.none).toArray }) :
    wpAny (model prog w) A (call (.builtin "sorted") [.ref l]) Q E s := by
  refine Calls.call_function_entry kind_sorted plain_sorted entry_sorted (args_sorted1 _) ?_
  unfold Builtin.«sorted»
  refine wpAny_bind (m := checkCount "sorted" 1 1 _) (wpAny_pure ?_)
  refine wpAny_bind (collect_list hl ?_ (by rw [sizeLine_eq]; omega))
  refine wpAny_bind (wpAny_newList ?_ (by rw [sizeLine_eq]; omega))
  have hsz : ((s.heap.push (seqObj "list" #[] 0)).update s.heap.objs.size (Obj.mapSeq (· ++ vs.toArray))).objs.size = s.heap.objs.size + 1 := by
    rw [Heap.size_update, size_push']
  have hoL : (((s.heap.push (seqObj "list" #[] 0)).update s.heap.objs.size (Obj.mapSeq (· ++ vs.toArray))).push (seqObj "list" vs.toArray 0)).get? (s.heap.objs.size + 1) = some (seqObj "list" vs.toArray 0) := by
    rw [← hsz]; exact Heap.get?_push_size _ rfl
  have keep : ∀ b o, s.heap.get? b = some o → b ≠ s.heap.objs.size + 1 ∧ (((s.heap.push (seqObj "list" #[] 0)).update s.heap.objs.size (Obj.mapSeq (· ++ vs.toArray))).push (seqObj "list" vs.toArray 0)).get? b = some o := fun b o q => by
    have hlt : b < s.heap.objs.size := Heap.lt_size q
    refine ⟨Nat.ne_of_lt (Nat.lt_succ_of_lt hlt), ?_⟩
    rw [Heap.get?_push_ne _ _ _ (by rw [hsz]; exact Nat.ne_of_lt (Nat.lt_succ_of_lt hlt)), Heap.get?_update_ne _ _ _ _ (Nat.ne_of_lt hlt), Heap.get?_push_ne _ _ _ (Nat.ne_of_lt hlt)]
    exact q
  show wpAny _ _ _ _ _ { s with heap := ((s.heap.push (seqObj "list" #[] 0)).update s.heap.objs.size (Obj.mapSeq (· ++ vs.toArray))).push (seqObj "list" vs.toArray 0) }
  rw [hsz]
  refine wpAny_bind (wpAny_holding (wpAny_call_entry slot_list_sort ⟨_, hoL, rfl⟩ entry_list_sort (list_sort_ord (κ := κ) hoL h64 O (fun h' k h2 => ?_) (fun h' k => ?_) fun p a1 a2 => ⟨_, rfl, ?_⟩) (args_list_sort _)))
  · exact hk h' (fun c o e => k c o (keep c o e).1 (keep c o e).2) h2
  · exact hc h' (fun c o e => k c o (keep c o e).1 (keep c o e).2)
  · exact wpAny_pure ⟨_, rfl, h p a1 a2⟩
end
/-- by their texts -/
def ltL (x y : Str × Bool) : Bool := decide (x.1.cps.toList < y.1.cps.toList)
def ltB (cl : Cl) (i j : Nat) : Bool := ltL (cl.getD i (("" : Str), false)) (cl.getD j (("" : Str), false))
theorem ltB_ord {cl : Cl} (nd : (cl.map (·.1)).Nodup) : Ord (ltB cl) cl.length where
  tr := fun i j k _ _ _ h1 h2 => by
    unfold ltB ltL at *
    rw [decide_eq_true_eq] at *
    exact List.lt_trans h1 h2
  asy := fun i j _ _ h => by
    unfold ltB ltL at *
    rw [decide_eq_true_eq] at h
    exact decide_eq_false fun z => List.lt_irrefl _ (List.lt_trans h z)
  tot := fun i j hi hj d => by
    unfold ltB ltL
    rw [decide_eq_true_eq, decide_eq_true_eq, List.getD_eq_getElem?_getD, List.getD_eq_getElem?_getD, List.getElem?_eq_getElem hi, List.getElem?_eq_getElem hj]
    refine Classical.byContradiction fun z => ?_
    rw [not_or] at z
    have e := str_ext (List.le_antisymm (List.not_lt.mp z.2) (List.not_lt.mp z.1))
    refine d ((List.getElem_inj (xs := cl.map (·.1)) (h₀ := by simpa using hi) (h₁ := by simpa using hj) nd).mp ?_)
    rw [List.getElem_map, List.getElem_map]
    exact e
section
variable {X : Cx} {pins : List (Addr × Obj)} {s : Shared} {σ : St} {H : Hp} {A : Around}
theorem pair_obj {P : Program} {w : World} {h : Heap} {p : Addr} {x : Str × Bool} (hok : HOk P w H h) (e : LitAt H p x) : ∃ t, IsTup h p #[.str x.1 t, .bool x.2] := by
  obtain ⟨_, its, r, ht⟩ := hok p _ e
  cases r with
  | cons r1 r2 =>
    obtain ⟨t, rfl⟩ := r1
    cases r2 with
    | cons r3 r4 =>
      cases r4
      cases r3
      exact ⟨t, ht⟩
theorem cmp_pair {P : Program} {w : World} {E : Value → Shared → Prop} {p q : Addr} {x y : Str × Bool} {t u : Tok} {C : Bool → Shared → Prop} (hp : IsTup s.heap p #[.str x.1 t, .bool x.2]) (hq : IsTup s.heap q #[.str y.1 u, .bool y.2]) (hne : x.1 = y.1 → x.2 = y.2) (h : C (ltL x y) s) : wpAny (model P w) A (keyLt' (tuples' true) (.ref p) (.ref q)) C E s := by
  obtain ⟨o1, e1, c1, n1, d1⟩ := id hp
  obtain ⟨o2, e2, c2, n2, d2⟩ := id hq
  refine kat_lt e1 d1 e2 d2 ?_
  show KatLex P w A true _ C [(.str x.1 t, .str y.1 u), (.bool x.2, .bool y.2)] 0 s
  refine kat_cons (eqAt_V (y := .str x.1) (x := .str y.1) ⟨t, rfl⟩ ⟨u, rfl⟩ rfl rfl P w _ _ ?_)
  refine kat_go (fun e => kat_yes (kat_cons (eqAt_V (y := .bl x.2) (x := .bl y.2) rfl rfl rfl rfl P w _ _ ?_))) fun e => kat_no (oneLt_str h)
  have e1 : x.1 = y.1 := by simpa [eqV] using e
  have e2 := hne e1
  refine kat_go (fun _ => kat_yes (kat_nil ?_)) fun e' => absurd e2 (by simpa [eqV] using e')
  have z : ltL x y = false := by unfold ltL; rw [e1]; exact decide_eq_false (List.lt_irrefl _)
  rw [z] at h
  exact h
theorem katTups_lits {h : Heap} : ∀ {l : List Value}, (∀ v ∈ l, ∃ p x t, ∃ b : Bool, v = .ref p ∧ IsTup h p #[.str x t, .bool b]) → ∃ fs, KatTups h l fs ∧ fs.length = l.length ∧ ∀ f ∈ fs, ∃ (x : Str) (t : Tok), f = .str x t
  | [], _ => ⟨[], .nil, rfl, fun _ z => nomatch z⟩
  | v :: l, hv => by
    obtain ⟨p, x, t, b, rfl, hd⟩ := hv v List.mem_cons_self
    obtain ⟨o, e, c, n, d⟩ := hd
    obtain ⟨fs, r1, r2, r3⟩ := katTups_lits (l := l) fun u hu => hv u (List.mem_cons_of_mem _ hu)
    exact ⟨.str x t :: fs, .cons e c d rfl r1, by rw [List.length_cons, List.length_cons, r2], fun f hf => by
      rcases List.mem_cons.mp hf with rfl | hf
      · exact ⟨x, t, rfl⟩
      · exact r3 f hf⟩
theorem refs_vals : ∀ {l : List Addr} {us : List Value}, Vals (List.map V.ref l) us → us = l.map Value.ref
  | [], _, .nil => rfl
  | a :: l, _, .cons r1 r2 => by rw [refs_vals r2, r1]; rfl
theorem vals_of_refs : ∀ l : List Addr, Vals (List.map V.ref l) (List.map Value.ref l)
  | [] => .nil
  | a :: l => .cons rfl (vals_of_refs l)
/-- sorted(pairs): by their texts -/
def qSortP : List V → Hp → VK → Prop := fun vs H Q => ∃ a, vs = [.ref a] ∧ ∃ ps cl, H a = some (.lst (List.map V.ref ps)) ∧ Lits H ps cl ∧ cl.length < 64 ∧ (cl.map (·.1)).Nodup ∧
  ∀ qs dl, dl.Perm cl → dl.Pairwise (fun x y => x.1.cps.toList < y.1.cps.toList) → Lits H qs dl → ∀ p, H p = none → Q (.ref p) (upd H p (.lst (List.map V.ref qs)))
theorem call_sortP : CallR X (.builtin "sorted") qSortP := by
  intro pins s σ H vs us Q I rv h
  obtain ⟨a, rfl, ps, cl, hL, lits, h64, nd, q⟩ := h
  obtain ⟨u, rfl, ru⟩ := vals1 rv
  cases ru
  obtain ⟨its, r, pl, hz⟩ := I.list (sqL_of hL)
  have ei := refs_vals r
  subst ei
  have ll := lits.1
  have lm : (ps.map Value.ref).length = cl.length := by rw [List.length_map, ll]
  have obj : ∀ i, i < ps.length → ∃ t, IsTup s.heap (ps.getD i 0) #[.str (cl.getD i (("" : Str), false)).1 t, .bool (cl.getD i (("" : Str), false)).2] ∧ (ps.map Value.ref).getD i Value.none = .ref (ps.getD i 0) := fun i hi => by
    have e1 : ps[i]? = some ps[i] := List.getElem?_eq_getElem hi
    have e2 : cl[i]? = some (cl[i]'(by omega)) := List.getElem?_eq_getElem (by omega)
    obtain ⟨t, ht⟩ := pair_obj I.hok (lits.2 i _ _ e1 e2)
    refine ⟨t, ?_, ?_⟩
    · rw [List.getD_eq_getElem?_getD, e1, List.getD_eq_getElem?_getD, e2]; exact ht
    · rw [List.getD_eq_getElem?_getD, List.getElem?_map, e1, List.getD_eq_getElem?_getD, e1]; rfl
  have up : ∀ {h' : Heap} {p : Addr} {xs : Array Value}, (∀ c o, s.heap.get? c = some o → h'.get? c = some o) → IsTup s.heap p xs → IsTup h' p xs := fun k z => by
    obtain ⟨o, e, c, n, d⟩ := z
    exact ⟨o, k _ _ e, c, n, d⟩
  refine sorted_ord (κ := tuples' true) (b := ltB cl) pl.isList (by omega) (by rw [lm]; exact ltB_ord nd) (fun h' k h2 => ?_) (fun h' k i j C hi hj hC => ?_) fun p hp ha => ?_
  · obtain ⟨fs, kt, lf, hf⟩ := katTups_lits (h := h') (l := ps.map Value.ref) fun v hv => by
      obtain ⟨i, hi, rfl⟩ := List.mem_iff_getElem.mp hv
      rw [List.length_map] at hi
      obtain ⟨t, ht, e⟩ := obj i hi
      refine ⟨_, _, t, _, ?_, up k ht⟩
      rw [← e, List.getD_eq_getElem?_getD, List.getElem?_eq_getElem (by simpa using hi)]
      rfl
    exact kat_kind (M := model X.prog X.w) (A := X.A.in1.in1) (s := { s with heap := h' }) (T := Value.type "str") (Q := fun κ s2 => κ = tuples' true ∧ s2 = { s with heap := h' }) kt (by rw [lf]; omega) (fun v hv => by
      obtain ⟨x, t, rfl⟩ := hf v hv
      exact .now) (by decide) ⟨by congr 1, rfl⟩
  · rw [List.length_map] at hi hj
    obtain ⟨t, ht, e⟩ := obj i hi
    obtain ⟨t', ht', e'⟩ := obj j hj
    unfold kas_ask
    rw [e, e']
    refine cmp_pair (s := { s with heap := h' }) (up k ht) (up k ht') (fun z => ?_) hC
    have hij : i = j := Classical.byContradiction fun d => by
      rcases (ltB_ord nd).tot i j (by omega) (by omega) d with y | y <;>
      · unfold ltB ltL at y
        rw [z] at y
        exact List.lt_irrefl _ (of_decide_eq_true y)
    rw [hij]
  · rw [List.length_map] at hp ha
    obtain ⟨c, hc⟩ := sortedAll_at s.heap (ps.map Value.ref) ((p.toList.map fun i => (ps.map Value.ref).getD i Value.none).toArray)
    have hlt : ∀ i ∈ p.toList, i < ps.length := fun i hi => by
      have := (hp.perm.mem_iff (a := i)).mp (by simpa using hi)
      simpa using this
    have eo : (p.toList.map fun i => (ps.map Value.ref).getD i Value.none) = (p.toList.map fun i => ps.getD i 0).map Value.ref := by
      rw [List.map_map]
      exact List.map_congr_left fun i hi => let ⟨_, _, e⟩ := obj i (hlt i hi); e
    have hn : H (s.heap.objs.size + 1) = none := I.hok.fresh (Nat.le_succ _)
    have hp' : Prm p cl.length := by rw [← ll]; exact hp
    have pm : (p.toList.map fun i => cl.getD i (("" : Str), false)).Perm cl := prm_pick hp'
    have lq : Lits H (p.toList.map fun i => ps.getD i 0) (p.toList.map fun i => cl.getD i (("" : Str), false)) := by
      refine ⟨by rw [List.length_map, List.length_map], fun i b x eb ex => ?_⟩
      rw [List.getElem?_map] at eb ex
      cases ep : p.toList[i]? with
      | none => rw [ep] at eb; cases eb
      | some m =>
        rw [ep] at eb ex
        have hm := hlt m (List.mem_of_getElem? ep)
        have e1 : ps[m]? = some ps[m] := List.getElem?_eq_getElem hm
        have e2 : cl[m]? = some (cl[m]'(by omega)) := List.getElem?_eq_getElem (by omega)
        rw [Option.map_some, List.getD_eq_getElem?_getD, e1] at eb
        rw [Option.map_some, List.getD_eq_getElem?_getD, e2] at ex
        cases eb
        cases ex
        exact lits.2 m _ _ e1 e2
    refine ⟨.ref (s.heap.objs.size + 1), _, I.laid (t' := s.toks) (o := .lst (List.map V.ref (p.toList.map fun i => ps.getD i 0))) (fun b ob e => sortedAll_old e) (Nat.le_succ _) ?_, rfl, q _ _ pm ?_ lq _ hn⟩
    · refine ⟨?_, (p.toList.map fun i => ps.getD i 0).map Value.ref, c, vals_of_refs _, ?_⟩
      · rw [List.length_map, List.length_map, Array.length_toList, hp.size]; exact small1000' (by omega)
      · have hc' := hc
        rw [eo] at hc' ⊢
        exact hc'
    · have := asc_pick (l := cl) (d := (("" : Str), false)) (R := ltL) hp' (ltB_ord nd) (by rw [← ll]; exact ha)
      exact this.imp fun {x y} h => of_decide_eq_true h
/-! ### a pair in a tuple or a list of pairs -/
def isAtL (bs : List Addr) (ts : Cl) (x : Str × Bool) : Value → Bool
  | .ref p => (bs.zip ts).any fun q => decide (q.1 = p) && decide (q.2 = x)
  | _ => false
theorem isAtL_eq {bs : List Addr} {ts : Cl} {x : Str × Bool} (a : Lits H bs ts) {i : Nat} {p : Addr} {t : Str × Bool} (h1 : bs[i]? = some p) (h2 : ts[i]? = some t) : isAtL bs ts x (.ref p) = decide (t = x) := by
  unfold isAtL
  rw [Bool.eq_iff_iff, List.any_eq_true, decide_eq_true_iff]
  constructor
  · rintro ⟨⟨p', t'⟩, hm, e⟩
    simp only [Bool.and_eq_true, decide_eq_true_eq] at e
    obtain ⟨rfl, rfl⟩ := e
    obtain ⟨j, hj, ej⟩ := List.mem_iff_getElem.mp hm
    rw [List.length_zip] at hj
    rw [List.getElem_zip] at ej
    injection ej with e1 e2
    have g1 := a.2 j _ _ (List.getElem?_eq_getElem (by omega)) (List.getElem?_eq_getElem (by omega))
    rw [e1, e2] at g1
    have g := (a.2 i _ _ h1 h2).symm.trans g1
    simp only [Option.some.injEq, HO.tup.injEq, List.cons.injEq, V.str.injEq, V.bl.injEq, and_true] at g
    exact Prod.ext g.1 g.2
  · rintro rfl
    refine ⟨(p, t), ?_, by simp⟩
    have i1 := List.getElem?_eq_some_iff.mp h1
    have i2 := List.getElem?_eq_some_iff.mp h2
    refine List.mem_iff_getElem.mpr ⟨i, by rw [List.length_zip]; have := i1.1; have := i2.1; omega, ?_⟩
    rw [List.getElem_zip, i1.2, i2.2]
theorem any_isAtL {bs : List Addr} {ts : Cl} {x : Str × Bool} (a : Lits H bs ts) : (bs.map Value.ref).any (isAtL bs ts x) = decide (x ∈ ts) := by
  have lt := a.1
  rw [Bool.eq_iff_iff, List.any_eq_true, decide_eq_true_iff]
  constructor
  · rintro ⟨u, hu, e⟩
    obtain ⟨p, hp, rfl⟩ := List.mem_map.mp hu
    obtain ⟨i, hi, rfl⟩ := List.mem_iff_getElem.mp hp
    rw [isAtL_eq a (List.getElem?_eq_getElem hi) (List.getElem?_eq_getElem (by omega)), decide_eq_true_iff] at e
    rw [← e]; exact List.getElem_mem _
  · intro h
    obtain ⟨i, hi, rfl⟩ := List.mem_iff_getElem.mp h
    exact ⟨.ref (bs[i]'(by omega)), List.mem_map.mpr ⟨_, List.getElem_mem _, rfl⟩, by rw [isAtL_eq a (List.getElem?_eq_getElem (by omega)) (List.getElem?_eq_getElem hi), decide_eq_true_iff]⟩
theorem mem_eqL {a : Addr} {u : Str × Bool} {bs : List Addr} {ts : Cl} (I : Inv X pins σ H s) (ha : LitAt H a u) (sa : Lits H bs ts) (hu : A.units < cLine) : ∀ z ∈ bs.map Value.ref, SeqAt.EqAt A s z (.ref a) (isAtL bs ts u z) := fun z hz => by
  obtain ⟨p, hp, rfl⟩ := List.mem_map.mp hz
  obtain ⟨i, hi, rfl⟩ := List.mem_iff_getElem.mp hp
  have lt := sa.1
  have e1 : bs[i]? = some bs[i] := List.getElem?_eq_getElem hi
  have e2 : ts[i]? = some (ts[i]'(by omega)) := List.getElem?_eq_getElem (by omega)
  rw [isAtL_eq sa e1 e2]
  exact eq_lit I (sa.2 i _ _ e1 e2) ha hu
/-- a pair in a tuple (or a list) of pairs -/
def qInP (neg : Bool) : R2 := fun x y H Q => ∃ a L, x = .ref a ∧ y = .ref L ∧ ∃ u bs ts, LitAt H a u ∧ (H L = some (.tup (List.map V.ref bs)) ∨ H L = some (.lst (List.map V.ref bs))) ∧ Lits H bs ts ∧ Q (.bl (if neg then !decide (u ∈ ts) else decide (u ∈ ts))) H
theorem op_inP (hu : X.A.units + 1 < cLine) : OpR X (compareOp .In) (qInP false) := by
  intro pins s σ H x y v u Q I rx ry h
  obtain ⟨a, L, rfl, rfl, w, bs, ts, ha, hL, sa, q⟩ := h
  cases rx; cases ry
  rcases hL with hL | hL
  · obtain ⟨its, r, pl, hz⟩ := I.tuple (sqT_of hL)
    have e := refs_vals r
    subst e
    refine SeqAt.in_tupleAt (isAtL bs ts w) pl (fun z hz => mem_eqL I ha sa (by first | (rw [Around.in1_units]; omega) | omega) z (by simpa using hz)) ⟨.bl _, H, I, rfl, ?_⟩
    rw [show (bs.map Value.ref).toArray.any (isAtL bs ts w) = (bs.map Value.ref).any (isAtL bs ts w) by simp, any_isAtL sa]
    exact q
  · obtain ⟨its, r, pl, hz⟩ := I.list (sqL_of hL)
    have e := refs_vals r
    subst e
    refine SeqAt.in_listAt (isAtL bs ts w) pl.isList (fun z hz => mem_eqL I ha sa (by first | (rw [Around.in1_units]; omega) | omega) z (by simpa using hz)) ⟨.bl _, H, I, rfl, ?_⟩
    rw [show (bs.map Value.ref).toArray.any (isAtL bs ts w) = (bs.map Value.ref).any (isAtL bs ts w) by simp, any_isAtL sa]
    exact q
theorem op_notInP (hu : X.A.units + 1 < cLine) : OpR X (compareOp .NotIn) (qInP true) := by
  intro pins s σ H x y v u Q I rx ry h
  obtain ⟨a, L, rfl, rfl, w, bs, ts, ha, hL, sa, q⟩ := h
  cases rx; cases ry
  rcases hL with hL | hL
  · obtain ⟨its, r, pl, hz⟩ := I.tuple (sqT_of hL)
    have e := refs_vals r
    subst e
    refine SeqAt.notIn_tupleAt (isAtL bs ts w) pl (fun z hz => mem_eqL I ha sa (by first | (rw [Around.in1_units]; omega) | omega) z (by simpa using hz)) ⟨.bl _, H, I, rfl, ?_⟩
    rw [show (bs.map Value.ref).toArray.any (isAtL bs ts w) = (bs.map Value.ref).any (isAtL bs ts w) by simp, any_isAtL sa]
    exact q
  · obtain ⟨its, r, pl, hz⟩ := I.list (sqL_of hL)
    have e := refs_vals r
    subst e
    refine SeqAt.notIn_listAt (isAtL bs ts w) pl.isList (fun z hz => mem_eqL I ha sa (by first | (rw [Around.in1_units]; omega) | omega) z (by simpa using hz)) ⟨.bl _, H, I, rfl, ?_⟩
    rw [show (bs.map Value.ref).toArray.any (isAtL bs ts w) = (bs.map Value.ref).any (isAtL bs ts w) by simp, any_isAtL sa]
    exact q
end
end L2
end

set_option Elab.async false
set_option linter.all false
set_option maxRecDepth 100000
set_option maxHeartbeats 4000000
namespace My
open PySem L2
def top (i : Nat) : Stmt := PySem.Challenge.pw_truceroll_k24_clauses_joined.main.body.getD i (.Pass ⟨0, 0, 0, 0⟩)
abbrev s_clause_of : Stmt := top 6
abbrev s_joined : Stmt := top 7
abbrev s__law_hand : Stmt := top 9
abbrev s__law_next : Stmt := top 10
abbrev s__law_take : Stmt := top 11
abbrev s__law_draw : Stmt := top 12
abbrev s__law_names : Stmt := top 13
abbrev s__law_all_facts : Stmt := top 14
abbrev s__law_is_clause : Stmt := top 15
abbrev s__law_clause : Stmt := top 16
abbrev s__law_told_clause : Stmt := top 17
abbrev s__law_stands : Stmt := top 18
abbrev s__law_with : Stmt := top 19
abbrev s__law_due : Stmt := top 20
abbrev s__law_told : Stmt := top 21
abbrev s__law_right : Stmt := top 22
abbrev s__law_sound : Stmt := top 23
abbrev s_law : Stmt := top 24
abbrev nm_clause_of : List Str := ["literals", "truths", "name", "truth"]
abbrev nm_joined : List Str := ["one", "other", "name"]
abbrev nm__law_hand : List Str := ["_law_script"]
abbrev nm__law_next : List Str := ["_law_hand_here"]
abbrev nm__law_take : List Str := ["_law_hand_here", "_law_cell"]
abbrev nm__law_draw : List Str := ["_law_hand_here", "_law_many", "_law_got", "_law_value", "_law_size"]
abbrev nm__law_names : List Str := ["_law_hand_here", "_law_many", "_law_letters", "_law_way", "_law_some", "_law_at", "_law_word", "_law_spot", "_law_start", "_law_names_here", "_law_k", "_law_sign", "_law_name"]
abbrev nm__law_all_facts : List Str := ["_law_names_here", "_law_rows", "_law_name", "_law_more", "_law_row", "_law_truth", "_law_one"]
abbrev nm__law_is_clause : List Str := ["_law_thing", "_law_one"]
abbrev nm__law_clause : List Str := ["_law_hand_here", "_law_names_here", "_law_clause_here", "_law_name", "_law_way"]
abbrev nm__law_told_clause : List Str := ["_law_told_here", "_law_due_here"]
abbrev nm__law_stands : List Str := ["_law_clause_here", "_law_facts", "_law_name", "_law_truth"]
abbrev nm__law_with : List Str := ["_law_clause_here", "_law_name", "_law_truth", "_law_rest"]
abbrev nm__law_due : List Str := ["_law_one", "_law_other", "_law_name", "_law_left", "_law_literal"]
abbrev nm__law_told : List Str := ["_law_one", "_law_other", "_law_name", "_law_told_here", "e"]
abbrev nm__law_right : List Str := ["_law_one", "_law_other", "_law_name", "_law_told_here", "_law_due_here"]
abbrev nm__law_sound : List Str := ["_law_one", "_law_other", "_law_name", "_law_names_here", "_law_told_here", "_law_facts"]
abbrev nm_law : List Str := ["_law_script", "_law_hand_here", "_law_names_here", "_law_name", "_law_one", "_law_other", "_law_two", "_law_each"]
def inCls (s : Stmt) (j : Nat) : Stmt := match s with
  | .ClassDef _ _ _ b _ _ _ _ _ _ _ => b.getD j (.Pass ⟨0, 0, 0, 0⟩)
  | _ => .Pass ⟨0, 0, 0, 0⟩
abbrev s_NoFact___init__ : Stmt := inCls (top 2) 0
abbrev nm_NoFact___init__ : List Str := ["self", "name"]
abbrev s_NoJoin___init__ : Stmt := inCls (top 4) 0
abbrev nm_NoJoin___init__ : List Str := ["self", "name"]
structure Adr where
  a_clause_of : Addr
  d_clause_of : FuncData
  a_joined : Addr
  d_joined : FuncData
  a__law_hand : Addr
  d__law_hand : FuncData
  a__law_next : Addr
  d__law_next : FuncData
  a__law_take : Addr
  d__law_take : FuncData
  a__law_draw : Addr
  d__law_draw : FuncData
  a__law_names : Addr
  d__law_names : FuncData
  a__law_all_facts : Addr
  d__law_all_facts : FuncData
  a__law_is_clause : Addr
  d__law_is_clause : FuncData
  a__law_clause : Addr
  d__law_clause : FuncData
  a__law_told_clause : Addr
  d__law_told_clause : FuncData
  a__law_stands : Addr
  d__law_stands : FuncData
  a__law_with : Addr
  d__law_with : FuncData
  a__law_due : Addr
  d__law_due : FuncData
  a__law_told : Addr
  d__law_told : FuncData
  a__law_right : Addr
  d__law_right : FuncData
  a__law_sound : Addr
  d__law_sound : FuncData
  a_law : Addr
  d_law : FuncData
  c_TruceError : Addr
  c_NoFact : Addr
  a_NoFact___init__ : Addr
  d_NoFact___init__ : FuncData
  c_NoText : Addr
  c_NoJoin : Addr
  a_NoJoin___init__ : Addr
  d_NoJoin___init__ : FuncData
structure Txt (K : PySem.W.Frag) (mg : Str → Option Value) (t : Adr) : Prop where
  F_clause_of : Fun K "clause_of" "clause_of" s_clause_of t.a_clause_of t.d_clause_of
  b_clause_of : Binds K t.d_clause_of ["literals"] []
  m_clause_of : mg "clause_of" = some (.ref t.a_clause_of)
  F_joined : Fun K "joined" "joined" s_joined t.a_joined t.d_joined
  b_joined : Binds K t.d_joined ["one", "other", "name"] []
  m_joined : mg "joined" = some (.ref t.a_joined)
  F__law_hand : Fun K "_law_hand" "_law_hand" s__law_hand t.a__law_hand t.d__law_hand
  b__law_hand : Binds K t.d__law_hand ["_law_script"] []
  m__law_hand : mg "_law_hand" = some (.ref t.a__law_hand)
  F__law_next : Fun K "_law_next" "_law_next" s__law_next t.a__law_next t.d__law_next
  b__law_next : Binds K t.d__law_next ["_law_hand_here"] []
  m__law_next : mg "_law_next" = some (.ref t.a__law_next)
  F__law_take : Fun K "_law_take" "_law_take" s__law_take t.a__law_take t.d__law_take
  b__law_take : Binds K t.d__law_take ["_law_hand_here"] []
  m__law_take : mg "_law_take" = some (.ref t.a__law_take)
  F__law_draw : Fun K "_law_draw" "_law_draw" s__law_draw t.a__law_draw t.d__law_draw
  b__law_draw : Binds K t.d__law_draw ["_law_hand_here", "_law_many"] []
  m__law_draw : mg "_law_draw" = some (.ref t.a__law_draw)
  F__law_names : Fun K "_law_names" "_law_names" s__law_names t.a__law_names t.d__law_names
  b__law_names : Binds K t.d__law_names ["_law_hand_here", "_law_many"] []
  m__law_names : mg "_law_names" = some (.ref t.a__law_names)
  F__law_all_facts : Fun K "_law_all_facts" "_law_all_facts" s__law_all_facts t.a__law_all_facts t.d__law_all_facts
  b__law_all_facts : Binds K t.d__law_all_facts ["_law_names_here"] []
  m__law_all_facts : mg "_law_all_facts" = some (.ref t.a__law_all_facts)
  F__law_is_clause : Fun K "_law_is_clause" "_law_is_clause" s__law_is_clause t.a__law_is_clause t.d__law_is_clause
  b__law_is_clause : Binds K t.d__law_is_clause ["_law_thing"] []
  m__law_is_clause : mg "_law_is_clause" = some (.ref t.a__law_is_clause)
  F__law_clause : Fun K "_law_clause" "_law_clause" s__law_clause t.a__law_clause t.d__law_clause
  b__law_clause : Binds K t.d__law_clause ["_law_hand_here", "_law_names_here"] []
  m__law_clause : mg "_law_clause" = some (.ref t.a__law_clause)
  F__law_told_clause : Fun K "_law_told_clause" "_law_told_clause" s__law_told_clause t.a__law_told_clause t.d__law_told_clause
  b__law_told_clause : Binds K t.d__law_told_clause ["_law_told_here", "_law_due_here"] []
  m__law_told_clause : mg "_law_told_clause" = some (.ref t.a__law_told_clause)
  F__law_stands : Fun K "_law_stands" "_law_stands" s__law_stands t.a__law_stands t.d__law_stands
  b__law_stands : Binds K t.d__law_stands ["_law_clause_here", "_law_facts"] []
  m__law_stands : mg "_law_stands" = some (.ref t.a__law_stands)
  F__law_with : Fun K "_law_with" "_law_with" s__law_with t.a__law_with t.d__law_with
  b__law_with : Binds K t.d__law_with ["_law_clause_here", "_law_name", "_law_truth"] []
  m__law_with : mg "_law_with" = some (.ref t.a__law_with)
  F__law_due : Fun K "_law_due" "_law_due" s__law_due t.a__law_due t.d__law_due
  b__law_due : Binds K t.d__law_due ["_law_one", "_law_other", "_law_name"] []
  m__law_due : mg "_law_due" = some (.ref t.a__law_due)
  F__law_told : Fun K "_law_told" "_law_told" s__law_told t.a__law_told t.d__law_told
  b__law_told : Binds K t.d__law_told ["_law_one", "_law_other", "_law_name"] []
  m__law_told : mg "_law_told" = some (.ref t.a__law_told)
  F__law_right : Fun K "_law_right" "_law_right" s__law_right t.a__law_right t.d__law_right
  b__law_right : Binds K t.d__law_right ["_law_one", "_law_other", "_law_name"] []
  m__law_right : mg "_law_right" = some (.ref t.a__law_right)
  F__law_sound : Fun K "_law_sound" "_law_sound" s__law_sound t.a__law_sound t.d__law_sound
  b__law_sound : Binds K t.d__law_sound ["_law_one", "_law_other", "_law_name", "_law_names_here"] []
  m__law_sound : mg "_law_sound" = some (.ref t.a__law_sound)
  F_law : Fun K "law" "law" s_law t.a_law t.d_law
  b_law : Binds K t.d_law ["_law_script"] []
  m_law : mg "law" = some (.ref t.a_law)
  z_abs : mg "abs" = none
  z_all : mg "all" = none
  z_bool : mg "bool" = none
  z_dict : mg "dict" = none
  z_isinstance : mg "isinstance" = none
  z_len : mg "len" = none
  z_list : mg "list" = none
  z_range : mg "range" = none
  z_sorted : mg "sorted" = none
  z_str : mg "str" = none
  z_tuple : mg "tuple" = none
  m_TruceError : mg "TruceError" = some (.ref t.c_TruceError)
  x_TruceError : XC K t.c_TruceError
  kc_TruceError : PySem.W.keepIn K (.ref t.c_TruceError) = true
  ii_TruceError : PySem.W.findIn K (.ref t.c_TruceError) "__init__" = some (some (.builtin "ValueError.__init__"))
  rd_TruceError : PySem.W.readsIn K t.c_TruceError (.type "type") = true
  fc_TruceError : PySem.W.findCls K (.ref t.c_TruceError) (.type "type") "__init__" = some (.val (.builtin "ValueError.__init__"))
  sg_TruceError : PySem.W.specialIn K (.ref t.c_TruceError) "__getattribute__" = some (some (.builtin "type.__getattribute__"))
  m_NoFact : mg "NoFact" = some (.ref t.c_NoFact)
  x_NoFact : XC K t.c_NoFact
  kc_NoFact : PySem.W.keepIn K (.ref t.c_NoFact) = true
  F_NoFact___init__ : Fun K "__init__" "NoFact.__init__" s_NoFact___init__ t.a_NoFact___init__ t.d_NoFact___init__
  b_NoFact___init__ : Binds K t.d_NoFact___init__ nm_NoFact___init__ []
  ii_NoFact : PySem.W.findIn K (.ref t.c_NoFact) "__init__" = some (some (.ref t.a_NoFact___init__))
  if_NoFact : PySem.W.typeIn K (.ref t.a_NoFact___init__) = some (.type "function")
  tk_NoFact : PySem.W.takerIn K t.c_NoFact "name" = some none
  nf_NoFact : PySem.W.findIn K (.ref t.c_NoFact) "name" = some none
  m_NoText : mg "NoText" = some (.ref t.c_NoText)
  x_NoText : XC K t.c_NoText
  kc_NoText : PySem.W.keepIn K (.ref t.c_NoText) = true
  ii_NoText : PySem.W.findIn K (.ref t.c_NoText) "__init__" = some (some (.builtin "ValueError.__init__"))
  m_NoJoin : mg "NoJoin" = some (.ref t.c_NoJoin)
  x_NoJoin : XC K t.c_NoJoin
  kc_NoJoin : PySem.W.keepIn K (.ref t.c_NoJoin) = true
  F_NoJoin___init__ : Fun K "__init__" "NoJoin.__init__" s_NoJoin___init__ t.a_NoJoin___init__ t.d_NoJoin___init__
  b_NoJoin___init__ : Binds K t.d_NoJoin___init__ nm_NoJoin___init__ []
  ii_NoJoin : PySem.W.findIn K (.ref t.c_NoJoin) "__init__" = some (some (.ref t.a_NoJoin___init__))
  if_NoJoin : PySem.W.typeIn K (.ref t.a_NoJoin___init__) = some (.type "function")
  tk_NoJoin : PySem.W.takerIn K t.c_NoJoin "name" = some none
  nf_NoJoin : PySem.W.findIn K (.ref t.c_NoJoin) "name" = some none
  su_NoJoin_NoJoin : PySem.W.subIn K (.ref t.c_NoJoin) (.ref t.c_NoJoin) = some true
  ki_NoJoin_NoFact : PySem.W.kitOne K (.ref t.c_NoJoin) (.ref t.c_NoFact) = some false
  ki_NoJoin_NoText : PySem.W.kitOne K (.ref t.c_NoJoin) (.ref t.c_NoText) = some false
  ki_NoJoin_TruceError : PySem.W.kitOne K (.ref t.c_NoJoin) (.ref t.c_TruceError) = some true
  kv_NoJoin : PySem.W.kitOne K (.ref t.c_NoJoin) (.type "ValueError") = some true
theorem sc_NoFact___init__ : FnScope nm_NoFact___init__ nm_NoFact___init__ (defScope s_NoFact___init__) := ⟨rfl, rfl, rfl, by decide +kernel, rfl, by decide +kernel, by decide +kernel⟩
theorem sc_NoJoin___init__ : FnScope nm_NoJoin___init__ nm_NoJoin___init__ (defScope s_NoJoin___init__) := ⟨rfl, rfl, rfl, by decide +kernel, rfl, by decide +kernel, by decide +kernel⟩
theorem sc_clause_of : FnScope nm_clause_of ["literals"] (defScope s_clause_of) := ⟨rfl, rfl, rfl, by decide +kernel, rfl, by decide +kernel, by decide +kernel⟩
theorem sc_joined : FnScope nm_joined ["one", "other", "name"] (defScope s_joined) := ⟨rfl, rfl, rfl, by decide +kernel, rfl, by decide +kernel, by decide +kernel⟩
theorem sc__law_hand : FnScope nm__law_hand ["_law_script"] (defScope s__law_hand) := ⟨rfl, rfl, rfl, by decide +kernel, rfl, by decide +kernel, by decide +kernel⟩
theorem sc__law_next : FnScope nm__law_next ["_law_hand_here"] (defScope s__law_next) := ⟨rfl, rfl, rfl, by decide +kernel, rfl, by decide +kernel, by decide +kernel⟩
theorem sc__law_take : FnScope nm__law_take ["_law_hand_here"] (defScope s__law_take) := ⟨rfl, rfl, rfl, by decide +kernel, rfl, by decide +kernel, by decide +kernel⟩
theorem sc__law_draw : FnScope nm__law_draw ["_law_hand_here", "_law_many"] (defScope s__law_draw) := ⟨rfl, rfl, rfl, by decide +kernel, rfl, by decide +kernel, by decide +kernel⟩
theorem sc__law_names : FnScope nm__law_names ["_law_hand_here", "_law_many"] (defScope s__law_names) := ⟨rfl, rfl, rfl, by decide +kernel, rfl, by decide +kernel, by decide +kernel⟩
theorem sc__law_all_facts : FnScope nm__law_all_facts ["_law_names_here"] (defScope s__law_all_facts) := ⟨rfl, rfl, rfl, by decide +kernel, rfl, by decide +kernel, by decide +kernel⟩
theorem sc__law_is_clause : FnScope nm__law_is_clause ["_law_thing"] (defScope s__law_is_clause) := ⟨rfl, rfl, rfl, by decide +kernel, rfl, by decide +kernel, by decide +kernel⟩
theorem sc__law_clause : FnScope nm__law_clause ["_law_hand_here", "_law_names_here"] (defScope s__law_clause) := ⟨rfl, rfl, rfl, by decide +kernel, rfl, by decide +kernel, by decide +kernel⟩
theorem sc__law_told_clause : FnScope nm__law_told_clause ["_law_told_here", "_law_due_here"] (defScope s__law_told_clause) := ⟨rfl, rfl, rfl, by decide +kernel, rfl, by decide +kernel, by decide +kernel⟩
theorem sc__law_stands : FnScope nm__law_stands ["_law_clause_here", "_law_facts"] (defScope s__law_stands) := ⟨rfl, rfl, rfl, by decide +kernel, rfl, by decide +kernel, by decide +kernel⟩
theorem sc__law_with : FnScope nm__law_with ["_law_clause_here", "_law_name", "_law_truth"] (defScope s__law_with) := ⟨rfl, rfl, rfl, by decide +kernel, rfl, by decide +kernel, by decide +kernel⟩
theorem sc__law_due : FnScope nm__law_due ["_law_one", "_law_other", "_law_name"] (defScope s__law_due) := ⟨rfl, rfl, rfl, by decide +kernel, rfl, by decide +kernel, by decide +kernel⟩
theorem sc__law_told : FnScope nm__law_told ["_law_one", "_law_other", "_law_name"] (defScope s__law_told) := ⟨rfl, rfl, rfl, by decide +kernel, rfl, by decide +kernel, by decide +kernel⟩
theorem sc__law_right : FnScope nm__law_right ["_law_one", "_law_other", "_law_name"] (defScope s__law_right) := ⟨rfl, rfl, rfl, by decide +kernel, rfl, by decide +kernel, by decide +kernel⟩
theorem sc__law_sound : FnScope nm__law_sound ["_law_one", "_law_other", "_law_name", "_law_names_here"] (defScope s__law_sound) := ⟨rfl, rfl, rfl, by decide +kernel, rfl, by decide +kernel, by decide +kernel⟩
theorem sc_law : FnScope nm_law ["_law_script"] (defScope s_law) := ⟨rfl, rfl, rfl, by decide +kernel, rfl, by decide +kernel, by decide +kernel⟩
def dsp__law_names_0 : List Str := [Str.ofString "is", Str.ofString "not", Str.ofString "and", Str.ofString "or", Str.ofString "then", Str.ofString "same", Str.ofString "yes", Str.ofString "no", Str.ofString "say", Str.ofString "fix", Str.ofString "isa", Str.ofString "nota", Str.ofString "a"]
theorem b_abs : bootBuiltins "abs" = some (.builtin "abs") := by decide +kernel
theorem b_all : bootBuiltins "all" = some (.builtin "all") := by decide +kernel
theorem b_bool : bootBuiltins "bool" = some (.type "bool") := by decide +kernel
theorem b_dict : bootBuiltins "dict" = some (.type "dict") := by decide +kernel
theorem b_isinstance : bootBuiltins "isinstance" = some (.builtin "isinstance") := by decide +kernel
theorem b_len : bootBuiltins "len" = some (.builtin "len") := by decide +kernel
theorem b_list : bootBuiltins "list" = some (.type "list") := by decide +kernel
theorem b_sorted : bootBuiltins "sorted" = some (.builtin "sorted") := by decide +kernel
theorem b_str : bootBuiltins "str" = some (.type "str") := by decide +kernel
theorem b_tuple : bootBuiltins "tuple" = some (.type "tuple") := by decide +kernel
def hv (l : Addr) (a b c d e : Int) : HO := .lst [.ref l, .int a, .int b, .int c, .int d, .int e]
def HdO (l : Addr) (o : HO) : Prop := ∃ a b c d e, o = hv l a b c d e ∧ 0 ≤ a
def spNext : Sp := fun vs H Q _ => ∃ h, vs = [.ref h] ∧ ∃ l a b c d e, H h = some (hv l a b c d e) ∧ Q (.int (d * 48271 % 2147483647 + e * 40693 % 2147483399)) (upd H h (hv l a b c (d * 48271 % 2147483647) (e * 40693 % 2147483399)))
def spTake : Sp := fun vs H Q _ => ∃ h, vs = [.ref h] ∧ ∃ l ns o, H h = some o ∧ HdO l o ∧ H l = some (.lst (List.map V.int ns)) ∧ ∀ o', HdO l o' → Q .non (upd H h o')
def spDraw : Sp := fun vs H Q _ => ∃ h m, vs = [.ref h, .int m] ∧ 1 ≤ m ∧ m < 1073741824 ∧ ∃ l ns o, H h = some o ∧ HdO l o ∧ H l = some (.lst (List.map V.int ns)) ∧ ∀ r o', 0 ≤ r → r < m → HdO l o' → Q (.int r) (upd H h o')
local macro_rules | `(tactic| walk_at "rd") => `(tactic| simp only [L2.start, tSeq, tNext, tIfS, tTest, tB, tOp, tUn, tVar, tC, tAsg, gName, gSub, tRet, tRetN, tDrop, tCall, tCons, tNil, tCB, tTxtsL, tDNewK, tLst, tTup, rI0, rI, rU, rEq, rNe, scal, tAugS, ipI, qIxL, qIxT, qIxS, qSlL, qSlT, qLenL, qLenT, qListL, qListT, qTupleL, qListD, qDictD, qSorted, qSetS, qSortSet, qAllB, qEqD, rUpdateD, tNever, qJoin, qInL, qInT, qEqL, qIsi, qSet, tSl, tPart, tNoPart, rSlS, tBM, tBM0, rAppend, rExtend, rReverse, rClear, rClearD, rPopAt, rCat, tRev, tAnd, tOr, tNot, tAndV, tOrV, tNotV, tIf,
  List.map_cons, List.map_nil, List.cons_append, List.nil_append, List.append_nil, List.length_cons, List.length_nil, List.replicate, List.getElem?_cons_zero, List.getElem?_cons_succ, List.set_cons_zero, List.set_cons_succ, Nat.reduceAdd, Nat.reduceSub, Nat.reduceLeDiff,
  Option.some.injEq, V.int.injEq, V.ref.injEq, V.str.injEq, V.bl.injEq, V.ty.injEq, List.cons.injEq, HO.lst.injEq, HO.tup.injEq, HO.dK.injEq, exists_eq_left, exists_eq_left', exists_and_left, and_true, true_and, and_assoc, exists_const, reduceCtorEq, upd_same, upd_upd, spNext, decide_eq_true_eq, List.length_map, ite_true, ite_false, Bool.false_eq_true, Bool.true_and, Bool.and_true, atI_0, atI_1, atI_2, atI_3, atI_4, atI_5, ixN6_1, ixN6_2, ixN6_3, ixN6_4, ixN6_5, cmul1, cmul2, cmul3, cmul4, cmul5a, cmul5b, cmul5c, cmul5d, cpow18, hv, tComp_eq, tFor_eq, iRng1, iRng2, iList, iTup, tyV_str, tYes, Int.zero_add, Int.reduceMul, Int.reduceAdd, Int.reduceSub, Int.reduceLT, Int.reduceLE, Int.reducePow, Int.reduceToNat, Int.reduceNeg, gt_iff_lt, ge_iff_le])
local macro_rules | `(tactic| walk_at "rc") => `(tactic| simp only [L2.start, tSeq, tNext, tIfS, tTest, tB, tOp, tUn, tVar, tC, tAsg, gName, gSub, tRet, tRetN, tDrop, tCall, tCons, tNil, tCB, tTxtsL, tDNewK, tLst, tTup, rI0, rI, rU, rEq, rNe, scal, tAugS, ipI, qIxL, qIxT, qIxS, qSlL, qSlT, qLenL, qLenT, qListL, qListT, qTupleL, qListD, qDictD, qSorted, qSetS, qSortSet, qAllB, qEqD, rUpdateD, tNever, qJoin, qInL, qInT, qEqL, qIsi, qSet, tSl, tPart, tNoPart, rSlS, tBM, tBM0, rAppend, rExtend, rReverse, rClear, rClearD, rPopAt, rCat, tRev, tAnd, tOr, tNot, tAndV, tOrV, tNotV, tIf,
  List.map_cons, List.map_nil, List.cons_append, List.nil_append, List.append_nil, List.length_cons, List.length_nil, List.replicate, List.getElem?_cons_zero, List.getElem?_cons_succ, List.set_cons_zero, List.set_cons_succ, Nat.reduceAdd, Nat.reduceSub, Nat.reduceLeDiff,
  Option.some.injEq, V.int.injEq, V.ref.injEq, V.str.injEq, V.bl.injEq, V.ty.injEq, List.cons.injEq, HO.lst.injEq, HO.tup.injEq, HO.dK.injEq, exists_eq_left, exists_eq_left', exists_and_left, and_true, true_and, and_assoc, exists_const, reduceCtorEq, upd_same, upd_upd, spNext, decide_eq_true_eq, List.length_map, ite_true, ite_false, Bool.false_eq_true, Bool.true_and, Bool.and_true, atI_0, atI_1, atI_2, atI_3, atI_4, atI_5, ixN6_1, ixN6_2, ixN6_3, ixN6_4, ixN6_5, cmul1, cmul2, cmul3, cmul4, cmul5a, cmul5b, cmul5c, cmul5d, cpow18, hv, subS, Option.join_some, Option.join_none, tComp_eq, tFor_eq, iRng1, iRng2, iList, iTup, tyV_str, tYes, Int.zero_add, Int.reduceMul, Int.reduceAdd, Int.reduceSub, Int.reduceLT, Int.reduceLE, Int.reducePow, Int.reduceToNat, Int.reduceNeg, gt_iff_lt, ge_iff_le])
section
variable {P : Program} {w : World} {K : PySem.W.Frag} {mg : Str → Option Value} {base : Heap} {t : Adr}
theorem ok_next (T : Txt K mg t) : FnOk P w K mg base CX0 1 t.a__law_next t.d__law_next ["_law_hand_here"] spNext := by
  refine T.F__law_next.okZ sc__law_next (fun vs H Q E h => ?_) (fun cdv A outer s H vs Q E hr h hc hf => ?_)
  · obtain ⟨h, rfl, _⟩ := h; rfl
  obtain ⟨h, rfl, l, a, b, c, d, e, hh, q⟩ := h
  refine ⟨_, (by apply zqss_cons; exact (zps_asg (zpe_op op_mod (zpe_op op_mul (zpe_ix ix_l (zpvk hc 0 (by decide +kernel)) zpe_int (fun _ _ => rfl)) zpe_int) zpe_int) (zpg_sub (zpvk hc 0 (by decide +kernel)) zpe_int set_l)); apply zqss_cons; exact (zps_asg (zpe_op op_mod (zpe_op op_mul (zpe_ix ix_l (zpvk hc 0 (by decide +kernel)) zpe_int (fun _ _ => rfl)) zpe_int) zpe_int) (zpg_sub (zpvk hc 0 (by decide +kernel)) zpe_int set_l)); exact zqss_one (zps_ret (zpe_op op_add (zpe_ix ix_l (zpvk hc 0 (by decide +kernel)) zpe_int (fun _ _ => rfl)) (zpe_ix ix_l (zpvk hc 0 (by decide +kernel)) zpe_int (fun _ _ => rfl))))), ?_⟩
  unfold hv at *
  walk_at "rd"
  simp only [hh]
  walk_at "rd"
  exact q
theorem ok_take (T : Txt K mg t) : FnOk P w K mg base CX0 2 t.a__law_take t.d__law_take ["_law_hand_here"] spTake := by
  have G__law_next := ok_next (P := P) (w := w) (base := base) T
  refine T.F__law_take.okZ sc__law_take (fun vs H Q E h => ?_) (fun cdv A outer s H vs Q E hr h hc hf => ?_)
  · obtain ⟨h, rfl, _⟩ := h; rfl
  obtain ⟨h, rfl, l, ns, o, hh, ⟨a, b, c, d, e, rfl, ha⟩, hl, q⟩ := h
  refine ⟨_, (by apply zqss_cons; exact (zpsk_set hc sc__law_take.nd hf 1 (by decide +kernel) zpe_int); apply zqss_cut; exact (zqs_if (zpt_cmpR op_lt (zpe_ix ix_l (zpvk hc 0 (by decide +kernel)) zpe_int (fun _ _ => rfl)) (zpe_callB call_lenL (glk hc (by decide +kernel)) T.z_len b_len (zpa_cons (zpe_ix ix_l (zpvk hc 0 (by decide +kernel)) zpe_int (fun _ _ => rfl)) zpa_nil)) (nomark _)) (by exact zqss_one (zpsk_set hc sc__law_take.nd hf 1 (by decide +kernel) (zpe_callB call_abs (glk hc (by decide +kernel)) T.z_abs b_abs (zpa_cons (zpe_ix ix_l (zpe_ix ix_l (zpvk hc 0 (by decide +kernel)) zpe_int (fun _ _ => rfl)) (zpe_ix ix_l (zpvk hc 0 (by decide +kernel)) zpe_int (fun _ _ => rfl)) (fun _ _ => rfl)) zpa_nil)))) zqss_nil); apply zqss_cons; exact (zps_augS (zpvk hc 0 (by decide +kernel)) zpe_int get_l zpe_int ip_add set_l); apply zqss_cut; exact (zqs_if (zpt_cmpR op_ge (zpvk hc 1 (by decide +kernel)) (zpe_op op_pow zpe_int zpe_int) (nomark _)) (by exact zqss_one (zps_asg (zpvk hc 1 (by decide +kernel)) (zpg_sub (zpvk hc 0 (by decide +kernel)) zpe_int set_l))) (by exact zqss_one (zps_asg zpe_int (zpg_sub (zpvk hc 0 (by decide +kernel)) zpe_int set_l)))); apply zqss_cons; exact (zps_asg (zpe_op op_add (zpe_op op_mod (zpe_op op_add (zpe_ix ix_l (zpvk hc 0 (by decide +kernel)) zpe_int (fun _ _ => rfl)) (zpe_op op_mod (zpvk hc 1 (by decide +kernel)) zpe_int)) zpe_int) zpe_int) (zpg_sub (zpvk hc 0 (by decide +kernel)) zpe_int set_l)); apply zqss_cons; exact (zps_asg (zpe_op op_add (zpe_op op_mod (zpe_op op_add (zpe_op op_mul (zpe_ix ix_l (zpvk hc 0 (by decide +kernel)) zpe_int (fun _ _ => rfl)) zpe_int) (zpe_op op_mod (zpvk hc 1 (by decide +kernel)) zpe_int)) zpe_int) zpe_int) (zpg_sub (zpvk hc 0 (by decide +kernel)) zpe_int set_l)); apply zqss_cons; exact (zps_expr (zpe_call G__law_next (hr.mono (by omega)) (glk hc (by decide +kernel)) T.m__law_next T.F__law_next.kp T.b__law_next .nil pass0 (zpa_cons (zpvk hc 0 (by decide +kernel)) zpa_nil))); exact zqss_one (zps_expr (zpe_call G__law_next (hr.mono (by omega)) (glk hc (by decide +kernel)) T.m__law_next T.F__law_next.kp T.b__law_next .nil pass0 (zpa_cons (zpvk hc 0 (by decide +kernel)) zpa_nil)))), ?_⟩
  unfold hv at *
  walk_at "rd"
  refine ⟨fun σ' H' => ∃ z, σ' = [some (.ref h), some (.int z)] ∧ H' = H, ?_, ?_⟩
  · repeat (first | walk_at "rd" | simp only [hh, hl])
    split
    · rename_i hlt
      obtain ⟨v, hv'⟩ := atI_ints ha hlt
      rw [hv']
      walk_at "rd"
      exact ⟨_, rfl⟩
    · exact ⟨_, rfl⟩
  · rintro σ' H' ⟨z, e1, e2⟩
    subst e1 e2
    repeat (first | walk_at "rd" | simp only [hh, hl])
    refine ⟨fun σ' H'' => ∃ b' c', σ' = [some (.ref h), some (.int z)] ∧ H'' = upd H' h (.lst [.ref l, .int (a + 1), .int b', .int c', .int d, .int e]), ?_, ?_⟩
    · repeat (first | walk_at "rd" | simp only [hh, hl])
      split
      · exact ⟨_, _, rfl⟩
      · exact ⟨_, _, rfl⟩
    · rintro σ' H'' ⟨b', c', e1, e2⟩
      subst e1 e2
      repeat (first | walk_at "rd" | simp only [hh, hl])
      exact q _ ⟨_, _, _, _, _, rfl, by omega⟩
theorem ok_draw (T : Txt K mg t) : FnOk P w K mg base CX0 3 t.a__law_draw t.d__law_draw ["_law_hand_here", "_law_many"] spDraw := by
  have G__law_next := ok_next (P := P) (w := w) (base := base) T
  have G__law_take := ok_take (P := P) (w := w) (base := base) T
  refine T.F__law_draw.okZ sc__law_draw (fun vs H Q E h => ?_) (fun cdv A outer s H vs Q E hr h hc hf => ?_)
  · obtain ⟨h, m, rfl, _⟩ := h; rfl
  obtain ⟨h, m, rfl, hm, hm2, l, ns, o, hh, ⟨a, b, c, d, e, rfl, ha⟩, hl, q⟩ := h
  refine ⟨_, (by apply zqss_cut; exact (zqs_if (zPWpt (zpw_and (zpt_cmpR op_eq (zpe_ix ix_l (zpvk hc 0 (by decide +kernel)) zpe_int (fun _ _ => rfl)) zpe_int (nomark _)) (zpw_and1 (zpt_cmpR op_eq (zpe_ix ix_l (zpvk hc 0 (by decide +kernel)) zpe_int (fun _ _ => rfl)) zpe_int (nomark _))))) (by exact zqss_one (zps_expr (zpe_call G__law_take (hr.mono (by omega)) (glk hc (by decide +kernel)) T.m__law_take T.F__law_take.kp T.b__law_take .nil pass0 (zpa_cons (zpvk hc 0 (by decide +kernel)) zpa_nil)))) zqss_nil); apply zqss_cons; exact (zqs_if (zpt_cmpR op_gt (zpe_ix ix_l (zpvk hc 0 (by decide +kernel)) zpe_int (fun _ _ => rfl)) zpe_int (nomark _)) (by apply zqss_cons; exact (zpsk_set hc sc__law_draw.nd hf 2 (by decide +kernel) (zpe_op op_mod (zpe_ix ix_l (zpvk hc 0 (by decide +kernel)) zpe_int (fun _ _ => rfl)) (zpvk hc 1 (by decide +kernel)))); apply zqss_cons; exact (zps_asg (zpe_op op_fdiv (zpe_ix ix_l (zpvk hc 0 (by decide +kernel)) zpe_int (fun _ _ => rfl)) (zpvk hc 1 (by decide +kernel))) (zpg_sub (zpvk hc 0 (by decide +kernel)) zpe_int set_l)); exact zqss_one (zps_ret (zpvk hc 2 (by decide +kernel)))) zqss_nil); apply zqss_cons; exact (zps_augS (zpvk hc 0 (by decide +kernel)) zpe_int get_l zpe_int ip_sub set_l); apply zqss_cons; exact (zpsk_set hc sc__law_draw.nd hf 3 (by decide +kernel) (zpe_call G__law_next (hr.mono (by omega)) (glk hc (by decide +kernel)) T.m__law_next T.F__law_next.kp T.b__law_next .nil pass0 (zpa_cons (zpvk hc 0 (by decide +kernel)) zpa_nil))); apply zqss_cons; exact (zpsk_set hc sc__law_draw.nd hf 4 (by decide +kernel) zpe_int); apply zqss_cons; exact (zqs_while PassesOwn.never (zpt_cmpR op_lt (zpvk hc 4 (by decide +kernel)) (zpvk hc 1 (by decide +kernel)) (nomark _)) (by apply zqss_cons; exact (zpsk_set hc sc__law_draw.nd hf 3 (by decide +kernel) (zpe_op op_add (zpe_op op_mul (zpvk hc 3 (by decide +kernel)) zpe_int) (zpe_call G__law_next (hr.mono (by omega)) (glk hc (by decide +kernel)) T.m__law_next T.F__law_next.kp T.b__law_next .nil pass0 (zpa_cons (zpvk hc 0 (by decide +kernel)) zpa_nil)))); exact zqss_one (zpsk_set hc sc__law_draw.nd hf 4 (by decide +kernel) (zpe_op op_mul (zpvk hc 4 (by decide +kernel)) zpe_int)))); exact zqss_one (zps_ret (zpe_op op_mod (zpvk hc 3 (by decide +kernel)) (zpvk hc 1 (by decide +kernel))))), ?_⟩
  unfold hv at *
  walk_at "rd"
  refine ⟨fun σ' H' => ∃ a b c d e, σ' = [some (.ref h), some (.int m), none, none, none] ∧ H' = upd H h (hv l a b c d e) ∧ 0 ≤ a, ?_, ?_⟩
  · have same : H = upd H h (hv l a b c d e) := by
      funext x; unfold upd; split
      · rename_i e; rw [e, hh]; rfl
      · rfl
    repeat (first | walk_at "rd" | simp only [hh, hl])
    by_cases hb : b = 0
    · by_cases hc : c = 0
      · simp only [hb, hc, if_true]
        repeat (first | walk_at "rd" | simp only [hh, hl])
        refine ⟨h, rfl, l, ns, _, hh, ⟨a, b, c, d, e, by rw [hb, hc]; rfl, ha⟩, hl, ?_⟩
        rintro o' ⟨a', b', c', d', e', rfl, ha'⟩
        exact ⟨a', b', c', d', e', rfl, ha'⟩
      · simp only [hb, hc, if_true, if_false, Bool.false_eq_true]
        exact ⟨a, b, c, d, e, same, ha⟩
    · simp only [hb, if_false, Bool.false_eq_true]
      exact ⟨a, b, c, d, e, same, ha⟩
  · rintro σ' H' ⟨a, b, c, d, e, e1, e2, ha⟩
    subst e1 e2
    repeat (first | walk_at "rd" | simp only [hh, hl])
    split
    · rename_i hb
      refine ⟨by omega, ⟨by omega, hm2⟩, q _ _ (Int.emod_nonneg _ (by omega)) (Int.emod_lt_of_pos _ (by omega)) ⟨_, _, _, _, _, rfl, ha⟩⟩
    · rename_i hb
      refine ⟨fun _ σ' H' => σ' = _ ∧ H' = _, ⟨0, rfl, rfl⟩, ?_⟩
      rintro _ σ' H' ⟨e1, e2⟩
      subst e1 e2
      walk_at "rd"
      have hno : ¬ ((4294967296 : Int) < m) := by omega
      simp only [hno, if_false]
      refine ⟨by omega, q _ _ (Int.emod_nonneg _ (by omega)) (Int.emod_lt_of_pos _ (by omega)) ⟨_, _, _, _, _, rfl, ha⟩⟩
end

local macro_rules | `(tactic| walk_at "rd") => `(tactic| walk_at "rc")
local macro_rules | `(tactic| walk_at "rc") => do
  let ids := ("L2.start tSeq tNext tIfS tTest tB tOp tUn tVar tC tAsg gName gSub tRet tRetN tDrop tCall tCons tNil tCB tTxtsL tDNewK tLst tTup rI0 rI rU rEq rNe scal tAugS ipI qIxL qIxT qIxS qSlL qSlT qSlT2 qLenL qLenT qListL qListT qTupleL qListD qDictD qSorted qSetS qSortSet qAllB qEqD rUpdateD tNever qJoin qInL qInT qInS qEqL qIsi qSet tSl tPart tNoPart rSlS tBM tBM0 rAppend rExtend rReverse rClear rClearD rPopAt rCat tRev tAnd tOr tNot tAndV tOrV tNotV tIf List.map_cons List.map_nil List.cons_append List.nil_append List.append_nil List.length_cons List.length_nil List.replicate List.getElem?_cons_zero List.getElem?_cons_succ List.set_cons_zero List.set_cons_succ Nat.reduceAdd Nat.reduceSub Nat.reduceLeDiff Option.some.injEq V.int.injEq V.ref.injEq V.str.injEq V.bl.injEq V.ty.injEq List.cons.injEq HO.lst.injEq HO.tup.injEq HO.dK.injEq exists_eq_left exists_eq_left' exists_and_left and_true true_and and_assoc exists_const reduceCtorEq upd_same upd_upd decide_eq_true_eq List.length_map ite_true ite_false Bool.false_eq_true Bool.true_and Bool.and_true atI_0 atI_1 atI_2 atI_3 atI_4 atI_5 ixN6_1 ixN6_2 ixN6_3 ixN6_4 ixN6_5 cmul1 cmul2 cmul3 cmul4 cmul5a cmul5b cmul5c cmul5d cpow18 subS Option.join_some Option.join_none tComp_eq tFor_eq iRng1 iRng2 iRng3 qCatT tDNewT tSortK qAnyB qEqTI qEqSL rInsert qIsB rPopAt qSetI qSetIT qSortSetI iList iRev iTup tyV_str tYes Int.zero_add Int.reduceMul Int.reduceAdd Int.reduceSub Int.reduceLT Int.reduceLE Int.reducePow Int.reduceToNat Int.reduceNeg gt_iff_lt ge_iff_le spNext hv tPar iDict tThaw qEqDS rGetDI rExtendT tCallE tRaise0 tRaise1 tBase sXFld tTry Ends.unb qIsiXT qIsiXC qIsiXA tFldX qEqTS tDPop1 qInP qSortP HO.ext.injEq HO.xd.injEq".splitOn " ").toArray.map fun x => Lean.mkIdent x.toName
  `(tactic| simp only [$[$ids:ident],*])

/-! ### the hand is made -/
def Hd (H : Hp) (h l : Addr) : Prop := ∃ ns o, H h = some o ∧ HdO l o ∧ H l = some (.lst (List.map V.int ns))
def HandAt (H : Hp) (h : Addr) : Prop := ∃ l, Hd H h l
/-- draws were made and new things: the hand has turned, all else stands -/
structure Dr (h : Addr) (H H' : Hp) : Prop where
  keep : ∀ b o, b ≠ h → H b = some o → H' b = some o
  hand : ∀ l, Hd H h l → Hd H' h l
theorem Dr.refl {h : Addr} {H : Hp} : Dr h H H := ⟨fun _ _ _ e => e, fun _ x => x⟩
theorem Dr.trans {h : Addr} {H H1 H2 : Hp} (a : Dr h H H1) (b : Dr h H1 H2) : Dr h H H2 := ⟨fun c o hc e => b.keep c o hc (a.keep c o hc e), fun l x => b.hand l (a.hand l x)⟩
theorem Dr.handAt {h : Addr} {H H1 : Hp} (a : Dr h H H1) (x : HandAt H h) : HandAt H1 h := let ⟨l, y⟩ := x; ⟨l, a.hand l y⟩
theorem Hd.apart {H : Hp} {h l : Addr} (x : Hd H h l) : l ≠ h := by
  obtain ⟨ns, o, e1, ⟨a, b, c, d, e, rfl, _⟩, e3⟩ := x
  intro z
  rw [z, e1] at e3
  have q := Option.some.inj e3
  unfold hv at q
  injection q with q
  match ns, q with
  | [], q => cases q
  | n :: _, q => injection q with q1 _; cases q1
theorem Dr.new {h p : Addr} {H H1 : Hp} {o : HO} (a : Dr h H H1) (hp : H1 p = none) : Dr h H (upd H1 p o) := by
  refine ⟨fun c o' hc e => ?_, fun l x => ?_⟩
  · rw [upd_ne (ne_of_none (a.keep c o' hc e) hp)]; exact a.keep c o' hc e
  · obtain ⟨ns, oh, e1, e2, e3⟩ := a.hand l x
    exact ⟨ns, oh, by rw [upd_ne (ne_of_none e1 hp)]; exact e1, e2, by rw [upd_ne (ne_of_none e3 hp)]; exact e3⟩
/-- what was not there ahead is written -/
theorem Dr.put {h p : Addr} {H H1 : Hp} {o' : HO} (a : Dr h H H1) (hn : H p = none) : Dr h H (upd H1 p o') := by
  refine ⟨fun c o' hc e => ?_, fun l x => ?_⟩
  · rw [upd_ne (ne_of_none e hn)]; exact a.keep c o' hc e
  · obtain ⟨ns, oh, e1, e2, e3⟩ := a.hand l x
    obtain ⟨_, _, f1, _, f3⟩ := x
    exact ⟨ns, oh, by rw [upd_ne (ne_of_none f1 hn)]; exact e1, e2, by rw [upd_ne (ne_of_none f3 hn)]; exact e3⟩
theorem HandAt.ne {h p : Addr} {H : Hp} (x : HandAt H h) (hp : H p = none) : p ≠ h := by
  obtain ⟨l, ns, oh, e1, _, _⟩ := x
  exact (ne_of_none e1 hp).symm
theorem Dr.free {h p : Addr} {H H1 : Hp} (a : Dr h H H1) (x : HandAt H h) (hp : H1 p = none) : H p = none := by
  cases e : H p with
  | none => rfl
  | some o =>
    have n := (a.handAt x).ne hp
    have := a.keep p o n e
    rw [hp] at this; cases this
/-- what a draw wants and gives, by Dr -/
theorem draw_by {h : Addr} {m : Int} {H0 H : Hp} {Q : VK} {E : XK} (hd : HandAt H0 h) (d : Dr h H0 H) (h1 : 1 ≤ m) (h2 : m < 1073741824) (q : ∀ r H', 0 ≤ r → r < m → Dr h H0 H' → (∀ b, b ≠ h → H' b = H b) → Q (.int r) H') : spDraw [.ref h, .int m] H Q E := by
  obtain ⟨l, x⟩ := hd
  have x' := d.hand l x
  have ap := x'.apart
  obtain ⟨ns, oh, e1, e2, e3⟩ := x'
  refine ⟨h, m, rfl, h1, h2, l, ns, oh, e1, e2, e3, fun r o' r0 r1 ho => q r _ r0 r1 ⟨fun c o hc e => ?_, fun l' x' => ?_⟩ (fun b hb => upd_ne hb)⟩
  · rw [upd_ne hc]; exact d.keep c o hc e
  · have y := d.hand l' x'
    have ap' := y.apart
    obtain ⟨ns', oh', f1, f2, f3⟩ := y
    have el : l' = l := by
      obtain ⟨a, b, c, d, e, rfl, _⟩ := e2
      obtain ⟨a', b', c', d', e', rfl, _⟩ := f2
      rw [e1] at f1
      have := Option.some.inj f1
      unfold hv at this
      injection this with this
      injection this with this _
      exact (V.ref.inj this).symm
    subst el
    exact ⟨ns, o', upd_same, ho, by rw [upd_ne ap]; exact e3⟩
theorem same_new {H : Hp} {p : Addr} (h : H p = none) (o : HO) : Same H (upd H p o) := fun b u q => by rw [upd_ne (ne_of_none q h)]; exact q
theorem cutV_map {α : Type} (f : α → V) (xs : List α) (lo hi : Option Int) : cutV (xs.map f) lo hi = ((xs.drop (HT.sIx xs.length 0 lo)).take (HT.sIx xs.length xs.length hi - HT.sIx xs.length 0 lo)).map f := by
  unfold cutV; rw [List.length_map, List.map_take, List.map_drop]
def spHand (K : PySem.W.Frag) : Sp := fun vs H Q _ => ∃ a ns, vs = [.ref a] ∧ SqL K H a (List.map V.int ns) ∧ ∀ h H', Same H H' → H h = none → HandAt H' h → Q (.ref h) H'
section
variable {P : Program} {w : World} {K : PySem.W.Frag} {mg : Str → Option Value} {base : Heap} {t : Adr}
theorem ok_hand (T : Txt K mg t) : FnOk P w K mg base CX0 1 t.a__law_hand t.d__law_hand ["_law_script"] (spHand K) := by
  refine T.F__law_hand.okZ sc__law_hand (fun vs H Q E h => ?_) (fun cdv A outer s H vs Q E hr h hc hf => ?_)
  · obtain ⟨a, ns, rfl, _⟩ := h; rfl
  obtain ⟨a, ns, rfl, hS, q⟩ := h
  refine ⟨_, (by exact zqss_one (zps_ret (zpe_lst (zpa_cons (zpe_callTy call_listL (glk hc (by decide +kernel)) T.z_list b_list (zpa_cons (zpe_slice sl_list (zpvk hc 0 (by decide +kernel)) zpo_none (zpo_some zpe_int)) zpa_nil)) (zpa_cons zpe_int (zpa_cons zpe_int (zpa_cons zpe_int (zpa_cons zpe_int (zpa_cons zpe_int zpa_nil))))))))), ?_⟩
  walk_at "rd"
  refine ⟨a, List.map V.int ns, rfl, hS, fun p hp => ?_⟩
  rw [cutV_map]
  walk_at "rd"
  refine fun l hl => ⟨by decide, fun h hh => ?_⟩
  have s1 := same_new hp (.lst (List.map V.int ((ns.drop (HT.sIx ns.length 0 none)).take (HT.sIx ns.length ns.length (some 63) - HT.sIx ns.length 0 none))))
  have s2 := same_new hl (.lst (List.map V.int ((ns.drop (HT.sIx ns.length 0 none)).take (HT.sIx ns.length ns.length (some 63) - HT.sIx ns.length 0 none))))
  have s3 := same_new hh (hv l 0 0 0 20011 40009)
  exact q h _ (s1.trans (s2.trans s3)) ((s1.trans s2).free hh) ⟨l, _, _, upd_same, ⟨_, _, _, _, _, rfl, Int.le_refl 0⟩, s3 _ _ upd_same⟩
end

local macro_rules | `(tactic| walk_at "rd") => `(tactic| walk_at "rc")

/-! ### the names -/
def spNames : Sp := fun vs H Q _ => ∃ h m, vs = [.ref h, .int m] ∧ 1 ≤ m ∧ m ≤ 8 ∧ HandAt H h ∧ ∀ p ss H', Dr h H H' → H p = none → H' p = some (.lst (List.map V.str ss)) → ss.length = m.toNat → ss.Nodup → (∀ s ∈ ss, Nm s) → Q (.ref p) H'
def sgn (c : Nat) : Str := ⟨#[c]⟩
/-- letters drawn one by one -/
theorem comp_word {h : Addr} {n : Nat} {σ : St} {H1 : Hp} {Q : VK} (hd : HandAt H1 h) (h2 : σ[2]? = some (some (.str (Str.ofString "abcdefghijklmnopqrstuvwxyz")))) (h0 : σ[0]? = some (some (.ref h))) (hn : n ≤ 100)
    (q : ∀ D (cs : List Nat) H', H1 D = none → Dr h H1 H' → H' D = some (.lst (List.map V.str (cs.map sgn))) → cs.length = n → (∀ c ∈ cs, 97 ≤ c ∧ c ≤ 122) → Q (.ref D) H') :
    CompAll (Itr 0 n) 1 [2, 0] (fun _ => gName 0) (fun _ => tYes) (fun _ => tOp qIxS (tVar 1) (tCall spDraw [] E0 (tCons (tVar 2) (tCons (tC (V.int 26)) tNil)))) σ Q H1 := by
  refine compAll_rng (fun D i ys H => ∃ cs : List Nat, ys = List.map V.str (cs.map sgn) ∧ cs.length = i ∧ (∀ c ∈ cs, 97 ≤ c ∧ c ≤ 122) ∧ Dr h H1 H ∧ H D = some (.lst ys)) (fun D hD => ⟨[], rfl, rfl, (fun _ z => nomatch z), Dr.refl.new hD, upd_same⟩) (fun D hD i ys H hi p c => ?_) (fun D hD ys H p => ?_)
  · obtain ⟨cs, rfl, hl, hc, d, hy⟩ := p
    walk_at "rc"
    repeat (first | walk_at "rd" | simp only [h0, h2, Option.join_some])
    refine draw_by hd d (by decide) (by decide) fun r H' r0 r1 d' k' => ?_
    walk_at "rd"
    refine ⟨by decide, ?_⟩
    rw [atI_letters r0 r1]
    walk_at "rd"
    refine ⟨by rw [k' D (hd.ne hD)]; exact hy, small1000 (by omega), cs ++ [97 + r.toNat], by simp [sgn], by simp [hl], ?_, d'.put hD⟩
    intro c hc'
    rcases List.mem_append.mp hc' with z | z
    · exact hc c z
    · rw [List.mem_singleton.mp z]; omega
  · obtain ⟨cs, rfl, hl, hc, d, hy⟩ := p
    exact q D cs H hD d hy hl hc
theorem join_word {cs : List Nat} (hn : cs.length ≤ 100) : JoinOk (Str.ofString "") (cs.map sgn) = true ∧ (Txt.join (Str.ofString "") (cs.map sgn)).cps.toList = cs := by
  refine ⟨joinOk_of (L := 1) (n := 100) (fun z hz => ?_) (by simpa using hn) (by decide), ?_⟩
  · obtain ⟨c, _, rfl⟩ := List.mem_map.mp hz
    exact Nat.le_refl 1
  · rw [glued_cps (show (Str.ofString "").cps = #[] by decide)]
    induction cs with
    | nil => rfl
    | cons c cs ih => rw [List.map_cons, List.map_cons, List.flatten_cons, ih (by simp at hn; omega)]; rfl
section
variable {P : Program} {w : World} {K : PySem.W.Frag} {mg : Str → Option Value} {base : Heap} {t : Adr}
theorem ok_names (T : Txt K mg t) : FnOk P w K mg base CX0 4 t.a__law_names t.d__law_names ["_law_hand_here", "_law_many"] spNames := by
  have G__law_draw := ok_draw (P := P) (w := w) (base := base) T
  refine T.F__law_names.okZ sc__law_names (fun vs H Q E h => ?_) (fun cdv A outer s H vs Q E hr h hc hf => ?_)
  · obtain ⟨h, m, rfl, _⟩ := h; rfl
  obtain ⟨h, m, rfl, hm1, hm2, hd, q⟩ := h
  refine ⟨_, (by apply zqss_cons; exact (zpsk_set hc sc__law_names.nd hf 2 (by decide +kernel) zpe_str); apply zqss_cons; exact (zpsk_set hc sc__law_names.nd hf 3 (by decide +kernel) (zpe_call G__law_draw (hr.mono (by omega)) (glk hc (by decide +kernel)) T.m__law_draw T.F__law_draw.kp T.b__law_draw .nil pass0 (zpa_cons (zpvk hc 0 (by decide +kernel)) (zpa_cons zpe_int zpa_nil)))); apply zqss_cons; exact (zqs_if (zpt_cmpR op_eq (zpvk hc 3 (by decide +kernel)) zpe_int (nomark _)) (by apply zqss_cons; exact (zpsk_set hc sc__law_names.nd hf 4 (by decide +kernel) (zpe_lst (zpa_txtsL dsp__law_names_0 (by decide +kernel)))); apply zqss_cons; exact (zpsk_set hc sc__law_names.nd hf 5 (by decide +kernel) (zpe_call G__law_draw (hr.mono (by omega)) (glk hc (by decide +kernel)) T.m__law_draw T.F__law_draw.kp T.b__law_draw .nil pass0 (zpa_cons (zpvk hc 0 (by decide +kernel)) (zpa_cons zpe_int zpa_nil)))); exact zqss_one (zps_ret (zpek_comp hc ["_law_k"] [4, 5] rfl (by decide +kernel) (zpi_range1 (glk hc (by decide +kernel)) T.z_range (zpa_cons (zpvk hc 1 (by decide +kernel)) zpa_nil)) (fun _ hc => zpgb hc (by decide +kernel) 0 (by decide +kernel)) (fun _ _ => zpifs_nil) (fun _ hc => (zpe_ix ix_l (zpvk hc 1 (by decide +kernel)) (zpe_op op_mod (zpe_op op_add (zpvk hc 2 (by decide +kernel)) (zpe_op op_mul zpe_int (zpvk hc 0 (by decide +kernel)))) zpe_int) (fun _ _ => rfl)))))) zqss_nil); apply zqss_cons; exact (zpsk_set hc sc__law_names.nd hf 6 (by decide +kernel) (zpe_bm PySem.F.plainAttrs_str PySem.F.slot_str_join PySem.F.type_str_join mt_joinS zpe_str (zpa_cons (zpek_comp hc ["_law_k"] [2, 0] rfl (by decide +kernel) (zpi_range1 (glk hc (by decide +kernel)) T.z_range (zpa_cons zpe_int zpa_nil)) (fun _ hc => zpgb hc (by decide +kernel) 0 (by decide +kernel)) (fun _ _ => zpifs_nil) (fun _ hc => (zpe_ix ix_s (zpvk hc 1 (by decide +kernel)) (zpe_call G__law_draw (hr.mono (by omega)) (glk hc (by decide +kernel)) T.m__law_draw T.F__law_draw.kp T.b__law_draw .nil pass0 (zpa_cons (zpvk hc 2 (by decide +kernel)) (zpa_cons zpe_int zpa_nil))) (fun _ _ => rfl)))) zpa_nil))); apply zqss_cons; exact (zqs_if (zpt_cmpR op_eq (zpvk hc 3 (by decide +kernel)) zpe_int (nomark _)) (by apply zqss_cons; exact (zpsk_set hc sc__law_names.nd hf 5 (by decide +kernel) (zpe_call G__law_draw (hr.mono (by omega)) (glk hc (by decide +kernel)) T.m__law_draw T.F__law_draw.kp T.b__law_draw .nil pass0 (zpa_cons (zpvk hc 0 (by decide +kernel)) (zpa_cons zpe_int zpa_nil)))); exact zqss_one (zps_ret (zpek_comp hc ["_law_k"] [6, 5] rfl (by decide +kernel) (zpi_range1 (glk hc (by decide +kernel)) T.z_range (zpa_cons (zpvk hc 1 (by decide +kernel)) zpa_nil)) (fun _ hc => zpgb hc (by decide +kernel) 0 (by decide +kernel)) (fun _ _ => zpifs_nil) (fun _ hc => (zpe_slice sl_str (zpvk hc 1 (by decide +kernel)) zpo_none (zpo_some (zpe_op op_add (zpe_op op_mod (zpe_op op_add (zpvk hc 2 (by decide +kernel)) (zpe_op op_mul zpe_int (zpvk hc 0 (by decide +kernel)))) zpe_int) zpe_int))))))) zqss_nil); apply zqss_cons; exact (zpsk_set hc sc__law_names.nd hf 7 (by decide +kernel) (zpe_call G__law_draw (hr.mono (by omega)) (glk hc (by decide +kernel)) T.m__law_draw T.F__law_draw.kp T.b__law_draw .nil pass0 (zpa_cons (zpvk hc 0 (by decide +kernel)) (zpa_cons zpe_int zpa_nil)))); apply zqss_cons; exact (zpsk_set hc sc__law_names.nd hf 8 (by decide +kernel) (zpe_call G__law_draw (hr.mono (by omega)) (glk hc (by decide +kernel)) T.m__law_draw T.F__law_draw.kp T.b__law_draw .nil pass0 (zpa_cons (zpvk hc 0 (by decide +kernel)) (zpa_cons zpe_int zpa_nil)))); apply zqss_cons; exact (zpsk_set hc sc__law_names.nd hf 9 (by decide +kernel) (zpe_lst zpa_nil)); apply zqss_cons; exact (zqs_for PassesOwn.never rfl (zpi_range1 (glk hc (by decide +kernel)) T.z_range (zpa_cons (zpvk hc 1 (by decide +kernel)) zpa_nil)) (zpgk hc sc__law_names.nd hf 10 (by decide +kernel)) (by apply zqss_cons; exact (zpsk_set hc sc__law_names.nd hf 11 (by decide +kernel) (zpe_ix ix_s (zpvk hc 2 (by decide +kernel)) (zpe_op op_mod (zpe_op op_add (zpvk hc 8 (by decide +kernel)) (zpe_op op_mul zpe_int (zpvk hc 10 (by decide +kernel)))) zpe_int) (fun _ _ => rfl))); apply zqss_cons; exact (zpsk_set hc sc__law_names.nd hf 12 (by decide +kernel) (zpe_op op_add_str (zpe_op op_add_str (zpe_slice sl_str (zpvk hc 6 (by decide +kernel)) zpo_none (zpo_some (zpvk hc 7 (by decide +kernel)))) (zpvk hc 11 (by decide +kernel))) (zpe_slice sl_str (zpvk hc 6 (by decide +kernel)) (zpo_some (zpe_op op_add (zpvk hc 7 (by decide +kernel)) zpe_int)) zpo_none))); exact zqss_one (zps_expr (zpe_bm PySem.F.plainAttrs_list PySem.F.slot_list_append PySem.F.type_list_append mt_append (zpvk hc 9 (by decide +kernel)) (zpa_cons (zpe_slice sl_str (zpvk hc 12 (by decide +kernel)) zpo_none (zpo_some (zpe_op op_add (zpe_op op_add (zpvk hc 7 (by decide +kernel)) zpe_int) (zpe_call G__law_draw (hr.mono (by omega)) (glk hc (by decide +kernel)) T.m__law_draw T.F__law_draw.kp T.b__law_draw .nil pass0 (zpa_cons (zpvk hc 0 (by decide +kernel)) (zpa_cons (zpe_op op_sub zpe_int (zpvk hc 7 (by decide +kernel))) zpa_nil)))))) zpa_nil))))); exact zqss_one (zps_ret (zpvk hc 9 (by decide +kernel)))), ?_⟩
  walk_at "rd"
  refine draw_by hd Dr.refl (by decide) (by decide) fun way H0 w0 w4 d0 k0 => ?_
  have hd0 := d0.handAt hd
  repeat (walk_at "rd")
  split
  · -- words of the tongue
    refine ⟨by decide, fun S hS => ?_⟩
    have el : dsp__law_names_0 = lits := rfl
    rw [el]
    have hSh : S ≠ h := hd0.ne hS
    have d1 := d0.new (o := .lst (List.map V.str lits)) hS
    refine draw_by hd d1 (by decide) (by decide) fun at0 H2 a0 a1 d2 k2 => ?_
    have hS2 : H2 S = some (.lst (List.map V.str lits)) := by rw [k2 S hSh, upd_same]
    refine ⟨by omega, by omega, compAll_rng (fun D i ys H3 => ∃ ss : List Str, ys = List.map V.str ss ∧ ss.length = i ∧ (∀ k s, ss[k]? = some s → lits[((at0 + 5 * (k : Nat)) % 13).toNat]? = some s) ∧ Dr h H H3 ∧ H3 D = some (.lst ys) ∧ H3 S = some (.lst (List.map V.str lits))) (fun D hD => ⟨[], rfl, rfl, (fun k s z => by simp at z), d2.new hD, upd_same, by rw [upd_ne (ne_of_none hS2 hD)]; exact hS2⟩) (fun D hD i ys H3 hi p c => ?_) (fun D hD ys H3 p => ?_)⟩
    · obtain ⟨ss, rfl, hl, hk, d3, hy, hS3⟩ := p
      walk_at "rc"
      repeat (first | walk_at "rd" | simp only [hS3])
      have hx0 : 0 ≤ (at0 + 5 * (i : Int)) % 13 := Int.emod_nonneg _ (by decide)
      have hx1 : (at0 + 5 * (i : Int)) % 13 < 13 := Int.emod_lt_of_pos _ (by decide)
      obtain ⟨v, ev, gv⟩ := atI_of (xs := List.map V.str lits) hx0 (by rw [List.length_map, lits_len]; exact hx1)
      rw [ev]
      walk_at "rd"
      rw [List.getElem?_map] at gv
      obtain ⟨s, es, rfl⟩ : ∃ s, lits[((at0 + 5 * (i : Int)) % 13).toNat]? = some s ∧ V.str s = v := by
        cases e : lits[((at0 + 5 * (i : Int)) % 13).toNat]? with
        | none => rw [e] at gv; cases gv
        | some s => rw [e] at gv; exact ⟨s, rfl, Option.some.inj gv⟩
      have hnD : D ≠ S := fun z => by rw [z, hS2] at hD; cases hD
      refine ⟨hy, small1000 (by omega), ss ++ [s], by simp, by simp [hl], fun k s' e => ?_, d3.put (d2.free hd hD), by rw [upd_ne hnD.symm]; exact hS3⟩
      by_cases hki : k < ss.length
      · rw [List.getElem?_append_left hki] at e; exact hk k s' e
      · rw [List.getElem?_append_right (by omega)] at e
        have hk0 : k - ss.length = 0 := by
          cases z : k - ss.length with
          | zero => rfl
          | succ n => rw [z] at e; cases e
        rw [hk0] at e
        have : k = i := by omega
        subst this
        cases e; exact es
    · obtain ⟨ss, rfl, hl, hk, d3, hy, hS3⟩ := p
      refine q D ss H3 d3 (d2.free hd hD) hy hl (nodup_ix' fun i j x hij e1 e2 => ?_) fun s hs => ?_
      · have g1 := hk i x e1
        have g2 := hk j x e2
        have hj : j < ss.length := (List.getElem?_eq_some_iff.mp e2).1
        have u1 : ((at0 + 5 * (i : Int)) % 13).toNat < lits.length := (List.getElem?_eq_some_iff.mp g1).1
        have := (List.getElem_inj (i := ((at0 + 5 * (i : Int)) % 13).toNat) (j := ((at0 + 5 * (j : Int)) % 13).toNat) (h₀ := u1) (h₁ := (List.getElem?_eq_some_iff.mp g2).1) lits_nodup).mp ((List.getElem?_eq_some_iff.mp g1).2.trans (List.getElem?_eq_some_iff.mp g2).2.symm)
        omega
      · obtain ⟨k, hk'⟩ := List.mem_iff_getElem?.mp hs
        exact lits_nm s (List.mem_of_getElem? (hk k s hk'))
  · -- a word of eight letters
    refine comp_word hd0 rfl rfl (by decide) fun D cs H2 hD d2 hD2 hcl hcs => ?_
    have dr2 : Dr h H H2 := d0.trans d2
    repeat (walk_at "rd")
    refine ⟨cs.map sgn, hD2, (join_word (by omega)).1, ?_⟩
    obtain ⟨wd, hwd⟩ : ∃ z, Txt.join (Str.ofString "") (cs.map sgn) = z := ⟨_, rfl⟩
    have ew : wd.cps.toList = cs := by rw [← hwd]; exact (join_word (by omega)).2
    have lw : wd.length = 8 := by have := len_cps wd; rw [ew] at this; omega
    rw [hwd]
    split
    · -- its beginnings
      refine draw_by hd dr2 (by decide) (by decide) fun at0 H3 a0 a1 d3 k3 => ?_
      refine ⟨by omega, by omega, ?_⟩
      obtain ⟨Pv, hPv⟩ : ∃ Pv : Addr → Nat → List V → Hp → Prop, ∀ D i ys H', Pv D i ys H' ↔ ∃ ss : List Str, ys = List.map V.str ss ∧ ss.length = i ∧ (∀ (k : Nat) s, ss[k]? = some s → s.cps.toList = cs.take ((at0 + 3 * (k : Int)) % 8 + 1).toNat) ∧ Dr h H H' ∧ H' D = some (.lst ys) := ⟨_, fun _ _ _ _ => Iff.rfl⟩
      refine compAll_rng Pv (fun D hD => (hPv _ _ _ _).mpr ⟨[], rfl, rfl, (fun k s z => by simp at z), d3.new hD, upd_same⟩) (fun D hD i ys H4 hi pv c => ?_) (fun D hD ys H4 pv => ?_)
      · obtain ⟨ss, rfl, hl, hk, d4, hy⟩ := (hPv _ _ _ _).mp pv
        walk_at "rc"
        repeat (walk_at "rd")
        have hx0 : 0 ≤ (at0 + 3 * (i : Int)) % 8 := Int.emod_nonneg _ (by decide)
        refine ⟨by rw [lw]; decide, hy, small1000 (by omega), (hPv _ _ _ _).mpr ⟨ss ++ [cutS wd none (some ((at0 + 3 * (i : Int)) % 8 + 1))], by simp, by simp [hl], fun k s e => ?_, d4.put (d3.free hd hD), upd_same⟩⟩
        by_cases hki : k < ss.length
        · rw [List.getElem?_append_left hki] at e; exact hk k s e
        · rw [List.getElem?_append_right (by omega)] at e
          have hk0 : k - ss.length = 0 := by
            cases z : k - ss.length with
            | zero => rfl
            | succ n => rw [z] at e; cases e
          rw [hk0] at e
          have : k = i := by omega
          subst this
          cases e
          rw [cutS_to wd (by omega), ew]
      · obtain ⟨ss, rfl, hl, hk, d4, hy⟩ := (hPv _ _ _ _).mp pv
        refine q D ss H4 d4 (d3.free hd hD) hy hl (nodup_ix' fun i j x hij e1 e2 => ?_) fun s hs => ?_
        · have g1 := hk i x e1
          have g2 := hk j x e2
          have hj : j < ss.length := (List.getElem?_eq_some_iff.mp e2).1
          have := congrArg List.length (g1.symm.trans g2)
          rw [List.length_take, List.length_take, hcl] at this
          omega
        · obtain ⟨k, hk'⟩ := List.mem_iff_getElem?.mp hs
          have g := hk k s hk'
          refine nm_of g ?_ ?_ fun c hc' => hcs c (List.mem_of_mem_take hc')
          · rw [List.length_take, hcl]; omega
          · rw [List.length_take, hcl]; omega
    · -- one sign put for another
      refine draw_by hd dr2 (by decide) (by decide) fun sp H3 s0 s1 d3 k3 => ?_
      repeat (walk_at "rd")
      refine draw_by hd d3 (by decide) (by decide) fun st H4 t0 t1 d4 k4 => ?_
      repeat (walk_at "rd")
      refine ⟨by decide, fun p hp => ?_⟩
      have hph : p ≠ h := (d4.handAt hd).ne hp
      have hp0 : H p = none := d4.free hd hp
      have dp : Dr h H (upd H4 p (.lst [])) := d4.new hp
      refine ⟨by omega, by omega, ?_⟩
      obtain ⟨Pv, hPv⟩ : ∃ Pv : Nat → St → Hp → Prop, ∀ i σ' H', Pv i σ' H' ↔ ∃ (ss : List Str) (a b c : Option V), σ' = [some (.ref h), some (.int m), some (.str (Str.ofString "abcdefghijklmnopqrstuvwxyz")), some (.int way), none, none, some (.str wd), some (.int sp), some (.int st), some (.ref p), a, b, c] ∧
        ss.length = i ∧ (∀ (k : Nat) s, ss[k]? = some s → Nm s ∧ s.cps.toList[sp.toNat]? = some (97 + ((st + 7 * (k : Int)) % 26).toNat)) ∧ Dr h H H' ∧ H' p = some (.lst (List.map V.str ss)) := ⟨_, fun _ _ _ => Iff.rfl⟩
      refine forAll_rng Pv ((hPv _ _ _).mpr ⟨[], none, none, none, rfl, rfl, (fun k s z => by simp at z), dp, upd_same⟩) (fun i σ' H5 hi pv => ?_) (fun σ' H5 pv => ?_)
      · obtain ⟨ss, a, b, c, rfl, hl, hk, d5, hp5⟩ := (hPv _ _ _).mp pv
        repeat (walk_at "rd")
        have hx0 : 0 ≤ (st + 7 * (i : Int)) % 26 := Int.emod_nonneg _ (by decide)
        have hx1 : (st + 7 * (i : Int)) % 26 < 26 := Int.emod_lt_of_pos _ (by decide)
        refine ⟨by decide, ?_⟩
        rw [atI_letters hx0 hx1]
        repeat (walk_at "rd")
        obtain ⟨c0, hc0⟩ : ∃ c0, 97 + ((st + 7 * (i : Int)) % 26).toNat = c0 := ⟨_, rfl⟩
        rw [hc0]
        obtain ⟨x1, hx1⟩ : ∃ z, cutS wd none (some sp) = z := ⟨_, rfl⟩
        obtain ⟨x2, hx2⟩ : ∃ z, cutS wd (some (sp + 1)) none = z := ⟨_, rfl⟩
        have e1 : x1.cps.toList = cs.take sp.toNat := by rw [← hx1, cutS_to wd s0, ew]
        have e2 : x2.cps.toList = cs.drop (sp.toNat + 1) := by
          rw [← hx2, cutS_from wd (by omega), ew]
          congr 1; omega
        rw [hx1, hx2]
        have l1 : x1.length = sp.toNat := by have := len_cps x1; rw [e1, List.length_take, hcl] at this; omega
        have l2 : x2.length = 8 - (sp.toNat + 1) := by have := len_cps x2; rw [e2, List.length_drop, hcl] at this; omega
        have lc : (Str.mk #[c0]).length = 1 := rfl
        have e3 : (x1 ++ Str.mk #[c0]).cps.toList = cs.take sp.toNat ++ [c0] := by rw [app_cps, e1]
        have l3 : (x1 ++ Str.mk #[c0]).length = sp.toNat + 1 := by
          have := len_cps (x1 ++ Str.mk #[c0])
          rw [e3, List.length_append, List.length_take, hcl, List.length_singleton] at this; omega
        obtain ⟨z, hz⟩ : ∃ z, x1 ++ Str.mk #[c0] ++ x2 = z := ⟨_, rfl⟩
        have ez : z.cps.toList = cs.take sp.toNat ++ [c0] ++ cs.drop (sp.toNat + 1) := by rw [← hz, app_cps, e3, e2]
        have lz : z.cps.toList.length = 8 := by rw [ez, List.length_append, List.length_append, List.length_take, List.length_drop, hcl, List.length_singleton]; omega
        have lz' : z.length = 8 := by rw [← len_cps z]; exact lz
        rw [hz]
        refine ⟨by rw [lw]; decide, by rw [l1, lc]; exact small1000' (by omega), by rw [lw]; decide, by rw [l3, l2]; exact small1000' (by omega), .inl ⟨rfl, _, sqL_of hp5⟩, ?_⟩
        refine draw_by hd d5 (by omega) (by omega) fun r H6 r0 r1 d6 k6 => ?_
        have hp6 : H6 p = some (.lst (List.map V.str ss)) := by rw [k6 p hph]; exact hp5
        repeat (first | walk_at "rd" | simp only [hp6])
        have eq : (cutS z none (some (sp + 1 + r))).cps.toList = z.cps.toList.take (sp + 1 + r).toNat := cutS_to z (by omega)
        refine ⟨by rw [lz']; decide, small1000 (by omega), (hPv _ _ _).mpr ⟨ss ++ [cutS z none (some (sp + 1 + r))], _, _, _, rfl, by simp [hl], fun k s e => ?_, d6.put hp0, by simp [upd_same]⟩⟩
        by_cases hki : k < ss.length
        · rw [List.getElem?_append_left hki] at e; exact hk k s e
        · rw [List.getElem?_append_right (by omega)] at e
          have hk0 : k - ss.length = 0 := by
            cases z : k - ss.length with
            | zero => rfl
            | succ n => rw [z] at e; cases e
          rw [hk0] at e
          have : k = i := by omega
          subst this
          cases e
          refine ⟨nm_of eq (by rw [List.length_take, lz]; omega) (by rw [List.length_take, lz]; omega) fun c hc' => ?_, ?_⟩
          · have hm := List.mem_of_mem_take hc'
            rw [ez] at hm
            rcases List.mem_append.mp hm with hm | hm
            · rcases List.mem_append.mp hm with hm | hm
              · exact hcs c (List.mem_of_mem_take hm)
              · rw [List.mem_singleton.mp hm]; omega
            · exact hcs c (List.mem_of_mem_drop hm)
          · rw [eq, List.getElem?_take_of_lt (by omega), ez, List.getElem?_append_left (by rw [List.length_append, List.length_take, hcl, List.length_singleton]; omega), List.getElem?_append_right (by rw [List.length_take, hcl]; omega), List.length_take, hcl]
            have : sp.toNat - min sp.toNat 8 = 0 := by omega
            rw [this, ← hc0]; rfl
      · obtain ⟨ss, a, b, c, rfl, hl, hk, d5, hp5⟩ := (hPv _ _ _).mp pv
        repeat (walk_at "rd")
        refine q p ss H5 d5 hp0 hp5 hl (nodup_ix' fun i j x hij e1 e2 => ?_) fun s hs => ?_
        · have g1 := (hk i x e1).2
          have g2 := (hk j x e2).2
          have hj : j < ss.length := (List.getElem?_eq_some_iff.mp e2).1
          rw [g1] at g2
          have := Option.some.inj g2
          omega
        · obtain ⟨k, hk'⟩ := List.mem_iff_getElem?.mp hs
          exact (hk k s hk').1
end

local macro_rules | `(tactic| walk_at "rd") => `(tactic| walk_at "rc")

/-! ### tuples that stay, lists of texts and of addresses -/
def Tups (H H' : Hp) : Prop := ∀ q xs, H q = some (.tup xs) → H' q = some (.tup xs)
theorem tups_of {H H' : Hp} (s : Same H H') : Tups H H' := fun q xs e => s q _ e
theorem HandAt.ntup {H : Hp} {h q : Addr} {xs : List V} (x : HandAt H h) (e : H q = some (.tup xs)) : q ≠ h := by
  obtain ⟨l, ns, o, e1, ⟨a, b, c, d, f, rfl, _⟩, _⟩ := x
  exact ne_of e e1 (by intro z; cases z)
theorem Dr.tups {h : Addr} {H H' : Hp} (d : Dr h H H') (x : HandAt H h) : Tups H H' := fun q xs e => d.keep q _ (x.ntup e) e
theorem ref_at {qs : List Addr} {i : Nat} {x : V} (h : (List.map V.ref qs)[i]? = some x) : ∃ q, qs[i]? = some q ∧ x = .ref q := by
  rw [List.getElem?_map] at h
  cases e : qs[i]? with
  | none => rw [e] at h; cases h
  | some q => rw [e] at h; exact ⟨q, rfl, (Option.some.inj h).symm⟩
theorem HandAt.nstr {H : Hp} {h N : Addr} {ss : List Str} (x : HandAt H h) (e : H N = some (.lst (List.map V.str ss))) : N ≠ h := by
  obtain ⟨l, ns, o, e1, ⟨a, b, c, d, f, rfl, _⟩, _⟩ := x
  refine ne_of e e1 (fun z => ?_)
  unfold hv at z
  injection z with z
  match ss, z with
  | [], z => cases z
  | s :: _, z => injection z with z1 _; cases z1
def envK (kvs : List (Key × V)) (x : Str) : Bool := match valV kvs (Sum.inr x) with | some (.bl b) => b | _ => false
theorem envK_of {kvs : List (Key × V)} {x : Str} {b : Bool} (h : valV kvs (Sum.inr x) = some (.bl b)) : envK kvs x = b := by unfold envK; rw [h]
/-! ### lists of texts, draws -/
theorem str_at {ss : List Str} {i : Nat} {x : V} (h : (List.map V.str ss)[i]? = some x) : ∃ y, ss[i]? = some y ∧ x = .str y := by
  rw [List.getElem?_map] at h
  cases e : ss[i]? with
  | none => rw [e] at h; cases h
  | some q => rw [e] at h; exact ⟨q, rfl, (Option.some.inj h).symm⟩
theorem same_put' {H H1 : Hp} {p : Addr} {o : HO} (a : Same H H1) (hn : H p = none) : Same H (upd H1 p o) := fun b u e => by rw [upd_ne (ne_of_none e hn)]; exact a b u e
theorem HandAt.ndict {H : Hp} {h q : Addr} {xs : List (Key × V)} (x : HandAt H h) (e : H q = some (.dK xs)) : q ≠ h := by
  obtain ⟨l, ns, o, e1, ⟨a, b, c, d, f, rfl, _⟩, _⟩ := x
  exact ne_of e e1 (by intro z; cases z)
theorem Dr.same {h : Addr} {H H1 H2 : Hp} (d : Dr h H H1) (s : Same H1 H2) : Dr h H H2 := ⟨fun b o hb e => s _ _ (d.keep b o hb e), fun l x => by
  obtain ⟨ns, o, e1, e2, e3⟩ := d.hand l x
  exact ⟨ns, o, s _ _ e1, e2, s _ _ e3⟩⟩
theorem cut_strs (xs : List Str) (lo hi : Option Int) : ∃ ys : List Str, cutV (List.map V.str xs) lo hi = List.map V.str ys ∧ ys.length ≤ xs.length := by
  refine ⟨_, cutV_map V.str xs lo hi, ?_⟩
  rw [List.length_take, List.length_drop]
  omega
theorem cutV_to (xs : List V) {k : Int} (hk : 0 ≤ k) : cutV xs none (some k) = xs.take k.toNat := by
  have e : HT.sIx xs.length xs.length (some k) = min k.toNat xs.length := by
    show (if k < 0 then _ else min k.toNat xs.length) = _
    rw [if_neg (by omega)]
  have e0 : HT.sIx xs.length 0 none = 0 := rfl
  unfold cutV
  rw [e, e0, List.drop_zero, Nat.sub_zero]
  exact (List.take_eq_take_min ..).symm
/-! ### clauses of literals -/
theorem take_one {α : Type} {l : List α} {i : Nat} {x : α} (h : l[i]? = some x) : l.take (i + 1) = l.take i ++ [x] := by rw [List.take_add_one, h]; rfl
def Inc (ns : List Str) : Prop := ns.Pairwise fun a b => a.cps.toList < b.cps.toList
theorem inc_of {ts : List Str} (h : PyProof.Rows.sortedS ts = true) (nd : ts.Nodup) : Inc ts :=
  (List.Pairwise.and (sortedS_pw h) nd).imp fun {a b} ⟨h1, h2⟩ => Decidable.byContradiction fun h3 => h2 (str_ext (List.le_antisymm h1 (List.not_lt.mp h3)))
theorem inc_nodup {ts : List Str} (h : Inc ts) : ts.Nodup := h.imp fun {a b} h1 h2 => by rw [h2] at h1; exact List.lt_irrefl _ h1
def One (ls : Cl) : Prop := ∀ x ∈ ls, ∀ y ∈ ls, x.1 = y.1 → x.2 = y.2
def ClOf (ls cl : Cl) : Prop := Inc (cl.map (·.1)) ∧ ∀ x, x ∈ cl ↔ x ∈ ls
theorem perm_all {α : Type} [DecidableEq α] : ∀ {l m : List α}, l.Nodup → m.Nodup → (∀ z, z ∈ l ↔ z ∈ m) → l.Perm m
  | [], m, _, _, h => by
    cases m with
    | nil => exact .refl _
    | cons x m => exact absurd ((h x).mpr List.mem_cons_self) (by simp)
  | x :: l, m, hl, hm, h => by
    have hx : x ∈ m := (h x).mp List.mem_cons_self
    have h1 := perm_all (l := l) (m := m.erase x) (List.nodup_cons.mp hl).2 (hm.erase x) fun z => by
      rw [hm.mem_erase_iff]
      constructor
      · intro hz
        exact ⟨fun e => (List.nodup_cons.mp hl).1 (by rw [← e]; exact hz), (h z).mp (List.mem_cons_of_mem _ hz)⟩
      · rintro ⟨n, hz⟩
        rcases List.mem_cons.mp ((h z).mpr hz) with e | e
        · exact absurd e n
        · exact e
    exact (h1.cons x).trans (List.perm_cons_erase hx).symm
theorem inc_pairs {cl : Cl} (h : Inc (cl.map (·.1))) : cl.Pairwise fun x y => x.1.cps.toList < y.1.cps.toList := (List.pairwise_map (f := fun x : Str × Bool => x.1) (R := fun a b : Str => a.cps.toList < b.cps.toList)).mp h
theorem pairs_nodup {cl : Cl} (h : Inc (cl.map (·.1))) : cl.Nodup := (inc_pairs h).imp fun {a b} h1 h2 => by rw [h2] at h1; exact List.lt_irrefl _ h1
theorem ClOf.same {ls cl dl : Cl} (a : ClOf ls cl) (b : ClOf ls dl) : cl = dl :=
  List.Perm.eq_of_pairwise (le := fun x y : Str × Bool => x.1.cps.toList < y.1.cps.toList) (fun x y _ _ h h' => absurd (List.lt_trans h h') (List.lt_irrefl _)) (inc_pairs a.1) (inc_pairs b.1) (perm_all (pairs_nodup a.1) (pairs_nodup b.1) fun z => (a.2 z).trans (b.2 z).symm)
theorem valV_out {kvs : List (Key × V)} {k : Key} (h : k ∉ kvs.map (·.1)) : valV kvs k = none := by
  unfold valV
  rw [Option.map_eq_none_iff, List.find?_eq_none]
  intro kv hkv
  have : kv.1 ≠ k := fun e => h (List.mem_map.mpr ⟨kv, hkv, e⟩)
  simpa using this
theorem valV_in {kvs : List (Key × V)} {k : Key} (h : k ∈ kvs.map (·.1)) : ∃ v, valV kvs k = some v := by
  obtain ⟨kv, hkv, e⟩ := List.mem_map.mp h
  cases z : valV kvs k with
  | some v => exact ⟨v, rfl⟩
  | none =>
    unfold valV at z
    rw [Option.map_eq_none_iff, List.find?_eq_none] at z
    exact absurd e (by simpa using z kv hkv)
theorem keys_old {kvs : List (Key × V)} {k : Key} {u : V} (v : V) (h : valV kvs k = some u) : (putK kvs k v).map (·.1) = kvs.map (·.1) := by
  have hm : k ∈ kvs.map (·.1) := Classical.byContradiction fun z => by rw [valV_out z] at h; cases h
  obtain ⟨kv, hkv, e⟩ := List.mem_map.mp hm
  unfold putK
  rw [if_pos (List.any_eq_true.mpr ⟨kv, hkv, by simpa using e⟩), List.map_map]
  refine List.map_congr_left fun x _ => ?_
  show (if x.1 = k then (x.1, v) else x).1 = x.1
  split <;> rfl
/-- the truths of these literals -/
structure Tru (kvs : List (Key × V)) (ls : Cl) : Prop where
  keys : ∃ ns : List Str, kvs.map (·.1) = ns.map Sum.inr ∧ ns.Nodup ∧ ns.length ≤ ls.length
  back : ∀ s v, valV kvs (Sum.inr s) = some v → ∃ b, v = .bl b ∧ (s, b) ∈ ls
  all : ∀ x ∈ ls, valV kvs (Sum.inr x.1) = some (.bl x.2)
theorem Tru.nil : Tru [] [] := ⟨⟨[], rfl, List.nodup_nil, Nat.le_refl _⟩, (fun s v h => nomatch h), fun x hx => nomatch hx⟩
theorem Tru.one {kvs : List (Key × V)} {ls : Cl} (h : Tru kvs ls) : One ls := fun x hx y hy e => by
  have h1 := h.all x hx
  have h2 := h.all y hy
  rw [e, h2] at h1
  injection h1 with h1
  injection h1 with h1
  exact h1.symm
theorem Tru.len {kvs : List (Key × V)} {ls : Cl} (h : Tru kvs ls) : kvs.length ≤ ls.length := by
  obtain ⟨ns, e, _, l⟩ := h.keys
  have := congrArg List.length e
  rw [List.length_map, List.length_map] at this
  omega
theorem Tru.put {kvs : List (Key × V)} {ls : Cl} {n : Str} {b : Bool} (h : Tru kvs ls) (hv : valV kvs (Sum.inr n) = none ∨ valV kvs (Sum.inr n) = some (.bl b)) : Tru (putK kvs (Sum.inr n) (.bl b)) (ls ++ [(n, b)]) := by
  obtain ⟨ns, ek, nd, hl⟩ := h.keys
  refine ⟨?_, fun s v e => ?_, fun x hx => ?_⟩
  · rcases hv with hv | hv
    · refine ⟨ns ++ [n], by rw [putK_new _ hv, List.map_append, ek, List.map_append]; rfl, ?_, by simp; omega⟩
      rw [List.nodup_append]
      refine ⟨nd, by simp, fun a ha c hc z => ?_⟩
      rw [List.mem_singleton.mp hc] at z
      have hm : (Sum.inr n : Key) ∈ kvs.map (·.1) := by rw [ek]; exact List.mem_map.mpr ⟨a, ha, by rw [z]⟩
      obtain ⟨u, hu⟩ := valV_in hm
      rw [hv] at hu; cases hu
    · exact ⟨ns, by rw [keys_old _ hv, ek], nd, by simp; omega⟩
  · rw [valV_put] at e
    split at e
    · rename_i hs
      have hs' : s = n := Sum.inr.inj hs
      injection e with e
      exact ⟨b, e.symm, by rw [hs']; simp⟩
    · obtain ⟨c, e1, e2⟩ := h.back s v e
      exact ⟨c, e1, List.mem_append_left _ e2⟩
  · rw [valV_put]
    rcases List.mem_append.mp hx with hx | hx
    · have ha := h.all x hx
      split
      · rename_i hs
        rw [hs] at ha
        rcases hv with hv | hv
        · rw [hv] at ha; cases ha
        · rw [hv] at ha
          exact ha
      · exact ha
    · rw [List.mem_singleton.mp hx]
      exact if_pos rfl
theorem Tru.clOf {kvs : List (Key × V)} {ls : Cl} {ns ss : List Str} (h : Tru kvs ls) (ek : kvs.map (·.1) = ns.map Sum.inr) (nd : ns.Nodup) (pm : ss.Perm ns) (srt : PyProof.Rows.sortedS ss = true) : ClOf ls (ss.map fun n => (n, envK kvs n)) := by
  refine ⟨?_, fun x => ⟨fun hx => ?_, fun hx => ?_⟩⟩
  · rw [List.map_map]
    show Inc (ss.map fun n => n)
    rw [List.map_id']
    exact inc_of srt (pm.nodup_iff.mpr nd)
  · obtain ⟨n, hn, rfl⟩ := List.mem_map.mp hx
    have hm : (Sum.inr n : Key) ∈ kvs.map (·.1) := by rw [ek]; exact List.mem_map.mpr ⟨n, pm.mem_iff.mp hn, rfl⟩
    obtain ⟨v, hv⟩ := valV_in hm
    obtain ⟨b, rfl, hb⟩ := h.back n v hv
    rw [envK_of hv]
    exact hb
  · have ha := h.all x hx
    have hm : x.1 ∈ ns := by
      have : (Sum.inr x.1 : Key) ∈ kvs.map (·.1) := Classical.byContradiction fun z => by rw [valV_out z] at ha; cases ha
      rw [ek] at this
      obtain ⟨n, hn, e⟩ := List.mem_map.mp this
      rw [← Sum.inr.inj e]; exact hn
    refine List.mem_map.mpr ⟨x.1, pm.mem_iff.mpr hm, ?_⟩
    rw [envK_of ha]
def spClOf : Sp := fun vs H Q _ => ∃ L, vs = [.ref L] ∧ ∃ ps ls, H L = some (.lst (List.map V.ref ps)) ∧ Lits H ps ls ∧ ls.length ≤ 50 ∧
  ∀ H', Same H H' → (¬ One ls → Q .non H') ∧ (One ls → ∀ p cl, H p = none → ClAt H' cl p → ClOf ls cl → Q (.ref p) H')

local macro_rules | `(tactic| walk_at "rd") => `(tactic| walk_at "rc")

section
variable {P : Program} {w : World} {K : PySem.W.Frag} {mg : Str → Option Value} {base : Heap} {t : Adr}
theorem not_one {kvs : List (Key × V)} {ls : Cl} {i : Nat} {n : Str} {b c : Bool} (tr : Tru kvs (ls.take i)) (e : ls[i]? = some (n, b)) (hv : valV kvs (Sum.inr n) = some (.bl c)) (hne : c ≠ b) : ¬ One ls := fun h => by
  obtain ⟨d, e1, e2⟩ := tr.back n _ hv
  injection e1 with e1
  rw [← e1] at e2
  exact hne (h (n, c) (List.mem_of_mem_take e2) (n, b) (List.mem_of_getElem? e) rfl)
/-- tuple([(name, truths[name]) for name in sorted(truths)]) -/
theorem comp_pairs {K : PySem.W.Frag} {S D : Addr} {ss : List Str} {kvs : List (Key × V)} {j : Nat} {σ : St} {H2 : Hp} {Q : VK} (hS : H2 S = some (.lst (List.map V.str ss))) (hD : H2 D = some (.dK kvs)) (hj : σ[j]? = some (some (.ref D))) (hl : ss.length ≤ 900) (bo : ∀ n ∈ ss, ∃ b, valV kvs (Sum.inr n) = some (.bl b))
    (q : ∀ Z qs H', Same H2 H' → H2 Z = none → H' Z = some (.lst (List.map V.ref qs)) → Lits H' qs (ss.map fun n => (n, envK kvs n)) → Q (.ref Z) H') :
    CompAll (Itl K S) 1 [j] (fun _ => gName 0) (fun _ => tYes) (fun _ => tTup (tCons (tVar 0) (tCons (tDGet (tVar 1) (tVar 0)) tNil))) σ Q H2 := by
  obtain ⟨Pc, hPc⟩ : ∃ Pc : Addr → Nat → List V → Hp → Prop, ∀ Z i ys H', Pc Z i ys H' ↔ ∃ qs : List Addr, ys = List.map V.ref qs ∧ Same H2 H' ∧ H' Z = some (.lst ys) ∧ Lits H' qs ((ss.take i).map fun n => (n, envK kvs n)) := ⟨_, fun _ _ _ _ => Iff.rfl⟩
  refine compAll_list (zs := List.map V.str ss) Pc (fun Z hZ => (hPc _ _ _ _).mpr ⟨[], rfl, same_new hZ _, upd_same, Lits.nil⟩) (fun Z hZ i ys H' _ pv => ?_) (fun Z hZ i z ys H' hz pv cb => ?_) (fun Z hZ ys H' pv => ?_)
  · obtain ⟨_, _, s, _⟩ := (hPc _ _ _ _).mp pv
    exact s _ _ hS
  · obtain ⟨qs, rfl, sZ, hZZ, lq⟩ := (hPc _ _ _ _).mp pv
    obtain ⟨n, en, rfl⟩ := str_at hz
    have hi : i < ss.length := (List.getElem?_eq_some_iff.mp en).1
    have lqs := lq.1
    rw [List.length_map, List.length_take] at lqs
    obtain ⟨c, hc⟩ := bo n (List.mem_of_getElem? en)
    have ec := envK_of hc
    walk_at "rc"
    repeat (first | walk_at "rd" | simp only [tDGet, hj, Option.join_some])
    refine ⟨.bl c, (by have := DGet.k (k := Sum.inr n) (sZ _ _ hD); rw [hc] at this; exact this), by decide, fun p hp => ?_⟩
    have hpZ : Z ≠ p := ne_of_none hZZ hp
    refine ⟨by rw [upd_ne hpZ]; exact hZZ, small1000 (by omega), (hPc _ _ _ _).mpr ⟨qs ++ [p], by simp, same_put' (same_put' sZ (sZ.free hp)) hZ, upd_same, ?_⟩⟩
    rw [take_one en, List.map_append]
    refine (lq.mono fun b xs e => ?_).snoc ?_
    · rw [upd_ne (ne_of e hZZ (by intro z; cases z)), upd_ne (ne_of_none e hp)]; exact e
    · show upd _ Z _ p = _
      rw [upd_ne hpZ.symm, upd_same]
      show some (HO.tup [V.str n, V.bl c]) = some (.tup [.str n, .bl (envK kvs n)])
      rw [ec]
  · obtain ⟨qs, rfl, sZ, hZZ, lq⟩ := (hPc _ _ _ _).mp pv
    rw [List.length_map, List.take_length] at lq
    exact q Z qs H' sZ hZ hZZ lq
theorem ok_clof (T : Txt K mg t) : FnOk P w K mg base CX0 1 t.a_clause_of t.d_clause_of ["literals"] spClOf := by
  refine T.F_clause_of.okZ sc_clause_of (fun vs H Q E h => ?_) (fun cdv A outer s H vs Q E hr h hc hf => ?_)
  · obtain ⟨L, rfl, _⟩ := h; rfl
  obtain ⟨L, rfl, ps, ls, hL, lits, l50, q⟩ := h
  have hu := hu_of hr
  have hu0 := hr.units0
  refine ⟨_, (by apply zqss_cons; exact (zpsk_set hc sc_clause_of.nd hf 1 (by decide +kernel) zpe_dnewK); apply zqss_cons; exact (zqs_for PassesOwn.never rfl (zpi_list (zpvk hc 0 (by decide +kernel))) (zpg_tup rfl (zpgs_cons (zpgk hc sc_clause_of.nd hf 2 (by decide +kernel)) (zpgs_cons (zpgk hc sc_clause_of.nd hf 3 (by decide +kernel)) zpgs_nil))) (by apply zqss_cons; exact (zqs_if (zpt_cmpR op_ne (zpe_bm PySem.F.plainAttrs_dict PySem.F.slot_dict_get PySem.F.type_dict_get (mt_getD hu) (zpvk hc 1 (by decide +kernel)) (zpa_cons (zpvk hc 2 (by decide +kernel)) (zpa_cons (zpvk hc 3 (by decide +kernel)) zpa_nil))) (zpvk hc 3 (by decide +kernel)) (nomark _)) (by exact zqss_one (zps_ret zpe_non)) zqss_nil); exact zqss_one (zps_dput hu (zpvk hc 1 (by decide +kernel)) (zpvk hc 2 (by decide +kernel)) (zpvk hc 3 (by decide +kernel)) rfl))); exact zqss_one (zps_ret (zpe_callTy call_tupleL (glk hc (by decide +kernel)) T.z_tuple b_tuple (zpa_cons (zpek_comp hc ["name"] [1] rfl (by decide +kernel) (zpi_list (zpe_callB (call_sortD hr.hd) (glk hc (by decide +kernel)) T.z_sorted b_sorted (zpa_cons (zpvk hc 1 (by decide +kernel)) zpa_nil))) (fun _ hc => zpgb hc (by decide +kernel) 0 (by decide +kernel)) (fun _ _ => zpifs_nil) (fun _ hc => (zpe_tup (zpa_cons (zpvk hc 0 (by decide +kernel)) (zpa_cons (zpe_dget hu (zpvk hc 1 (by decide +kernel)) (zpvk hc 0 (by decide +kernel)) (fun _ _ => rfl)) zpa_nil))))) zpa_nil)))), ?_⟩
  repeat (walk_at "rd")
  intro D hD
  have s1 := same_new hD (.dK [])
  refine ⟨⟨_, sqL_of (s1 _ _ hL)⟩, ?_⟩
  obtain ⟨Pv, hPv⟩ : ∃ Pv : Nat → St → Hp → Prop, ∀ i σ' H', Pv i σ' H' ↔ ∃ (kvs : List (Key × V)) (x y : Option V), σ' = [some (.ref L), some (.ref D), x, y] ∧ Same H H' ∧ H' D = some (.dK kvs) ∧ Tru kvs (ls.take i) := ⟨_, fun _ _ _ => Iff.rfl⟩
  refine forAll_list (xs := List.map V.ref ps) Pv ((hPv _ _ _).mpr ⟨[], none, none, rfl, s1, upd_same, Tru.nil⟩) (fun i σ' H' _ pv => ?_) (fun i z σ' H1 hz pv => ?_) (fun σ' H1 pv => ?_)
  · obtain ⟨_, _, _, _, s, _⟩ := (hPv _ _ _).mp pv
    exact s _ _ hL
  · obtain ⟨kvs, x, y, rfl, s2, hD2, tr⟩ := (hPv _ _ _).mp pv
    obtain ⟨p0, ep, rfl⟩ := ref_at hz
    obtain ⟨n, b, ec, hp0⟩ := lits.at ep
    have hi : i < ls.length := (List.getElem?_eq_some_iff.mp ec).1
    refine ⟨p0, _, rfl, sqT_of (s2 _ _ hp0), rfl, ?_⟩
    repeat (first | walk_at "rd" | simp only [gCons, gNil, rGetD, sDPut])
    have lk := tr.len
    rw [List.length_take] at lk
    refine ⟨.inr (.inr (.inl ⟨rfl, .inl ⟨_, hD2⟩⟩)), kvs, hD2, ?_⟩
    cases hv : valV kvs (Sum.inr n) with
    | none =>
      refine ⟨rfl, ?_⟩
      rw [if_neg (by simp)]
      refine ⟨_, DPut.k (k := Sum.inr n) hD2 (small1000 (by omega)), (hPv _ _ _).mpr ⟨_, _, _, rfl, same_put' s2 hD, upd_same, ?_⟩⟩
      rw [take_one ec]
      exact tr.put (.inl hv)
    | some v =>
      obtain ⟨c, rfl, _⟩ := tr.back n v hv
      refine ⟨rfl, ?_⟩
      by_cases hcb : c = b
      · subst hcb
        rw [if_neg (by simp)]
        refine ⟨_, DPut.k (k := Sum.inr n) hD2 (small1000 (by omega)), (hPv _ _ _).mpr ⟨_, _, _, rfl, same_put' s2 hD, upd_same, ?_⟩⟩
        rw [take_one ec]
        exact tr.put (.inr hv)
      · rw [if_pos (by simp [hcb])]
        exact (q _ s2).1 (not_one tr ec hv hcb)
  · obtain ⟨kvs, x, y, rfl, s2, hD2, tr⟩ := (hPv _ _ _).mp pv
    have hl := lits.1
    rw [List.length_map, hl, List.take_length] at tr
    obtain ⟨ns, ek, nd, ln⟩ := tr.keys
    repeat (first | walk_at "rd" | simp only [qSortD])
    refine ⟨kvs, hD2, ns, ek, by omega, fun ss pm srt S hS => ⟨⟨_, sqL_of upd_same⟩, ?_⟩⟩
    have sS := same_new hS (.lst (List.map V.str ss))
    have bo : ∀ n ∈ ss, ∃ b, valV kvs (Sum.inr n) = some (.bl b) := fun n hn => by
      have hm : (Sum.inr n : Key) ∈ kvs.map (·.1) := by rw [ek]; exact List.mem_map.mpr ⟨n, pm.mem_iff.mp hn, rfl⟩
      obtain ⟨v, hv⟩ := valV_in hm
      obtain ⟨b, rfl, _⟩ := tr.back n v hv
      exact ⟨b, hv⟩
    have lss := pm.length_eq
    refine comp_pairs upd_same (sS _ _ hD2) rfl (by omega) bo fun Z qs H3 s3 hZ hZ3 lq => ?_
    refine ⟨Z, rfl, _, hZ3, fun C hC => ?_⟩
    have s4 := (s2.trans sS).trans s3
    exact (q _ (s4.trans (same_new hC _))).2 tr.one C _ (s4.free hC) ⟨qs, upd_same, lq.mono (tups_of (same_new hC _))⟩ (tr.clOf ek nd pm srt)
end

local macro_rules | `(tactic| walk_at "rd") => `(tactic| walk_at "rc")

/-! ### clauses as tuples of pairs -/
theorem tups_new {H : Hp} {p : Addr} {o : HO} (h : H p = none) : Tups H (upd H p o) := tups_of (same_new h o)
theorem tups_put {H : Hp} {p : Addr} {o : HO} {xs : List V} (h : H p = some (.lst xs)) : Tups H (upd H p o) := fun q ys e => by rw [upd_ne (ne_of e h (by intro z; cases z))]; exact e
theorem Tups.trans {H H1 H2 : Hp} (a : Tups H H1) (b : Tups H1 H2) : Tups H H2 := fun q xs e => b q xs (a q xs e)
theorem take_at {α : Type} {l : List α} {i : Nat} {x : α} (h : l[i]? = some x) : l.take (i + 1) = l.take i ++ [x] := by rw [List.take_add_one, h]; rfl
/-! ### what the law asks -/
def ClI (H : Hp) (cl : Cl) (p : Addr) : Prop := ClAt H cl p ∧ Inc (cl.map (·.1)) ∧ cl.length ≤ 50
def spIsC : Sp := fun vs H Q _ => ∃ C, vs = [.ref C] ∧ ∃ cl, ClI H cl C ∧ ∀ H', Same H H' → Q (.bl true) H'
def spTold : Sp := fun vs H Q _ => ∃ C D, vs = [.ref C, .ref D] ∧ ∃ cl, ClI H cl C ∧ ClAt H cl D ∧ ∀ H', Same H H' → Q (.bl true) H'
theorem kit_same (K : PySem.W.Frag) (T : String) : PySem.W.kitOne K (.type T) (.type T) = some true := by
  unfold PySem.W.kitOne
  rw [if_pos (by simp)]
section
variable {P : Program} {w : World} {K : PySem.W.Frag} {mg : Str → Option Value} {base : Heap} {t : Adr}
theorem ok_isc (T : Txt K mg t) : FnOk P w K mg base CX0 1 t.a__law_is_clause t.d__law_is_clause ["_law_thing"] spIsC := by
  refine T.F__law_is_clause.okZ sc__law_is_clause (fun vs H Q E h => ?_) (fun cdv A outer s H vs Q E hr h hc hf => ?_)
  · obtain ⟨C, rfl, _⟩ := h; rfl
  obtain ⟨C, rfl, cl, ⟨⟨qs, hC, lits⟩, inc, l50⟩, q⟩ := h
  have hu := hu_of hr
  have hu0 := hr.units0
  refine ⟨_, (by apply zqss_cons; exact (zqs_if (zpt_not (zpt_val (zpe_callB call_isiT (glk hc (by decide +kernel)) T.z_isinstance b_isinstance (zpa_cons (zpvk hc 0 (by decide +kernel)) (zpa_cons (zpe_bltn (v := V.ty "tuple") (glk hc (by decide +kernel)) T.z_tuple b_tuple rfl) zpa_nil))))) (by exact zqss_one (zps_ret zpe_bl)) zqss_nil); apply zqss_cons; exact (zqs_for PassesOwn.never rfl (zpi_tup (zpvk hc 0 (by decide +kernel))) (zpgk hc sc__law_is_clause.nd hf 1 (by decide +kernel)) (by exact zqss_one (zqs_if (zPWpt (zpw_or (zpt_not (zpt_val (zpe_callB call_isiT (glk hc (by decide +kernel)) T.z_isinstance b_isinstance (zpa_cons (zpvk hc 1 (by decide +kernel)) (zpa_cons (zpe_bltn (v := V.ty "tuple") (glk hc (by decide +kernel)) T.z_tuple b_tuple rfl) zpa_nil))))) (zpw_or (zpt_cmpR op_ne (zpe_callB call_lenT (glk hc (by decide +kernel)) T.z_len b_len (zpa_cons (zpvk hc 1 (by decide +kernel)) zpa_nil)) zpe_int (nomark _)) (zpw_or (zpt_not (zpt_val (zpe_callB call_isiT (glk hc (by decide +kernel)) T.z_isinstance b_isinstance (zpa_cons (zpe_ix ix_t (zpvk hc 1 (by decide +kernel)) zpe_int (fun _ _ => rfl)) (zpa_cons (zpe_bltn (v := V.ty "str") (glk hc (by decide +kernel)) T.z_str b_str rfl) zpa_nil))))) (zpw_or1 (zpt_not (zpt_val (zpe_callB call_isiT (glk hc (by decide +kernel)) T.z_isinstance b_isinstance (zpa_cons (zpe_ix ix_t (zpvk hc 1 (by decide +kernel)) zpe_int (fun _ _ => rfl)) (zpa_cons (zpe_bltn (v := V.ty "bool") (glk hc (by decide +kernel)) T.z_bool b_bool rfl) zpa_nil)))))))))) (by exact zqss_one (zps_ret zpe_bl)) zqss_nil))); exact zqss_one (zps_ret (zpe_callB (call_allB hr.hd) (glk hc (by decide +kernel)) T.z_all b_all (zpa_cons (zpek_comp hc ["_law_k"] [0] rfl (by decide +kernel) (zpi_range1 (glk hc (by decide +kernel)) T.z_range (zpa_cons (zpe_op op_sub (zpe_callB call_lenT (glk hc (by decide +kernel)) T.z_len b_len (zpa_cons (zpvk hc 0 (by decide +kernel)) zpa_nil)) zpe_int) zpa_nil)) (fun _ hc => zpgb hc (by decide +kernel) 0 (by decide +kernel)) (fun _ _ => zpifs_nil) (fun _ hc => (zpe_cmpR op_lt_str (zpe_ix ix_t (zpe_ix ix_t (zpvk hc 1 (by decide +kernel)) (zpvk hc 0 (by decide +kernel)) (fun _ _ => rfl)) zpe_int (fun _ _ => rfl)) (zpe_ix ix_t (zpe_ix ix_t (zpvk hc 1 (by decide +kernel)) (zpe_op op_add (zpvk hc 0 (by decide +kernel)) zpe_int) (fun _ _ => rfl)) zpe_int (fun _ _ => rfl)) (nomark _)))) zpa_nil)))), ?_⟩
  repeat (walk_at "rd")
  refine ⟨_, .tup hC, true, kit_same _ _, ?_⟩
  repeat (walk_at "rd")
  rw [if_neg (by simp)]
  refine ⟨⟨_, sqT_of hC⟩, ?_⟩
  obtain ⟨Pv, hPv⟩ : ∃ Pv : Nat → St → Hp → Prop, ∀ i σ' H', Pv i σ' H' ↔ ∃ (x : Option V), σ' = [some (.ref C), x] ∧ H' = H := ⟨_, fun _ _ _ => Iff.rfl⟩
  refine forAll_tup (xs := List.map V.ref qs) Pv ((hPv _ _ _).mpr ⟨none, rfl, rfl⟩) (fun i σ' H' _ pv => ?_) (fun i z σ' H1 hz pv => ?_) (fun σ' H1 pv => ?_)
  · obtain ⟨_, _, rfl⟩ := (hPv _ _ _).mp pv
    exact hC
  · obtain ⟨x, rfl, rfl⟩ := (hPv _ _ _).mp pv
    obtain ⟨b0, eb, rfl⟩ := ref_at hz
    obtain ⟨n, b, ec, hb0⟩ := lits.at eb
    repeat (walk_at "rd")
    refine ⟨_, .tup hb0, true, kit_same _ _, ?_⟩
    repeat (first | walk_at "rd" | simp only [hb0])
    rw [if_neg (by simp), if_neg (by simp)]
    refine ⟨_, .str _, true, kit_same _ _, ?_⟩
    rw [if_neg (by simp)]
    refine ⟨_, .bl _, true, kit_same _ _, ?_⟩
    rw [if_neg (by simp)]
    exact (hPv _ _ _).mpr ⟨_, rfl, rfl⟩
  · obtain ⟨x, rfl, rfl⟩ := (hPv _ _ _).mp pv
    repeat (first | walk_at "rd" | simp only [hC])
    have lq : qs.length = cl.length := lits.1
    refine ⟨by omega, by omega, ?_⟩
    obtain ⟨Pc, hPc⟩ : ∃ Pc : Addr → Nat → List V → Hp → Prop, ∀ Z i ys H', Pc Z i ys H' ↔ ∃ bs : List Bool, ys = List.map V.bl bs ∧ bs.length = i ∧ bs.all id = true ∧ Same H1 H' ∧ H' Z = some (.lst ys) := ⟨_, fun _ _ _ _ => Iff.rfl⟩
    refine compAll_rng Pc (fun Z hZ => (hPc _ _ _ _).mpr ⟨[], rfl, rfl, rfl, same_new hZ _, upd_same⟩) (fun Z hZ i ys H' hi pv cb => ?_) (fun Z hZ ys H' pv => ?_)
    · obtain ⟨bs, rfl, hbl, al, sZ, hZZ⟩ := (hPc _ _ _ _).mp pv
      have i2 : i + 1 < qs.length := by omega
      have i1 : i < qs.length := by omega
      have e1 : qs[i]? = some qs[i] := List.getElem?_eq_getElem i1
      have e2 : qs[i + 1]? = some qs[i + 1] := List.getElem?_eq_getElem i2
      obtain ⟨n1, b1, c1, h1⟩ := lits.at e1
      obtain ⟨n2, b2, c2, h2⟩ := lits.at e2
      have lt : n1.cps.toList < n2.cps.toList := by
        obtain ⟨j1, g1⟩ := List.getElem?_eq_some_iff.mp c1
        obtain ⟨j2, g2⟩ := List.getElem?_eq_some_iff.mp c2
        have := List.pairwise_iff_getElem.mp inc i (i + 1) (by rw [List.length_map]; exact j1) (by rw [List.length_map]; exact j2) (Nat.lt_succ_self i)
        rw [List.getElem_map, List.getElem_map, g1, g2] at this
        exact this
      have a1 : atI (List.map V.ref qs) (i : Int) = some (.ref qs[i]) := atI_nat (by rw [List.getElem?_map, e1]; rfl)
      have a2 : atI (List.map V.ref qs) ((i : Int) + 1) = some (.ref qs[i + 1]) := atI_nat (j := i + 1) (by rw [List.getElem?_map, e2]; rfl)
      have hC' := sZ _ _ hC
      have h1' := sZ _ _ h1
      have h2' := sZ _ _ h2
      walk_at "rc"
      repeat (first | walk_at "rd" | simp only [hC', h1', h2', a1, a2])
      rw [decide_eq_true lt]
      exact ⟨hZZ, small1000 (by omega), (hPc _ _ _ _).mpr ⟨bs ++ [true], by simp, by simp [hbl], by rw [List.all_append, al]; rfl, same_put' sZ hZ, upd_same⟩⟩
    · obtain ⟨bs, rfl, hbl, al, sZ, hZZ⟩ := (hPc _ _ _ _).mp pv
      refine ⟨Z, rfl, bs, hZZ, ?_⟩
      rw [al]
      exact q _ sZ
theorem ok_told (T : Txt K mg t) : FnOk P w K mg base CX0 2 t.a__law_told_clause t.d__law_told_clause ["_law_told_here", "_law_due_here"] spTold := by
  have G__law_is_clause := ok_isc (P := P) (w := w) (base := base) T
  refine T.F__law_told_clause.okZ sc__law_told_clause (fun vs H Q E h => ?_) (fun cdv A outer s H vs Q E hr h hc hf => ?_)
  · obtain ⟨C, D, rfl, _⟩ := h; rfl
  obtain ⟨C, D, rfl, cl, hC, hD, q⟩ := h
  have hu := hu_of hr
  have hu0 := hr.units0
  refine ⟨_, (by exact zqss_one (zps_ret (zpe_and (zpe_call G__law_is_clause (hr.mono (by omega)) (glk hc (by decide +kernel)) T.m__law_is_clause T.F__law_is_clause.kp T.b__law_is_clause .nil pass0 (zpa_cons (zpvk hc 0 (by decide +kernel)) zpa_nil)) (zpe_one (zpe_cmpR (op_eqC hu) (zpvk hc 0 (by decide +kernel)) (zpvk hc 1 (by decide +kernel)) (nomark _)))))), ?_⟩
  repeat (walk_at "rd")
  refine ⟨C, rfl, cl, hC, fun H1 s1 => ?_⟩
  repeat (first | walk_at "rd" | simp only [qEqC])
  refine ⟨cl, hC.1.mono (tups_of s1), cl, hD.mono (tups_of s1), ?_⟩
  rw [decide_eq_true rfl]
  exact q _ s1
end

local macro_rules | `(tactic| walk_at "rd") => `(tactic| walk_at "rc")

/-! ### the law's own clauses -/
def ClOk (H : Hp) (ns : List Str) (C : Addr) : Prop := ∃ cl, ClAt H cl C ∧ Inc (cl.map (·.1)) ∧ (∀ x ∈ cl, x.1 ∈ ns) ∧ cl.length ≤ 8
theorem ClOk.mono {H H' : Hp} {ns : List Str} {C : Addr} (h : ClOk H ns C) (k : Tups H H') : ClOk H' ns C := let ⟨cl, a, b, c, d⟩ := h; ⟨cl, a.mono k, b, c, d⟩
theorem ClOk.sub {H : Hp} {ns ms : List Str} {C : Addr} (h : ClOk H ns C) (k : ∀ x ∈ ns, x ∈ ms) : ClOk H ms C := let ⟨cl, a, b, c, d⟩ := h; ⟨cl, a, b, fun x hx => k _ (c x hx), d⟩
def spClause : Sp := fun vs H Q _ => ∃ h N, vs = [.ref h, .ref N] ∧ ∃ ss : List Str, HandAt H h ∧ H N = some (.lst (List.map V.str ss)) ∧ ss.length ≤ 8 ∧ ss.Nodup ∧ ∀ C H', Dr h H H' → H C = none → ClOk H' ss C → Q (.ref C) H'
section
variable {P : Program} {w : World} {K : PySem.W.Frag} {mg : Str → Option Value} {base : Heap} {t : Adr}
theorem ok_clause (T : Txt K mg t) : FnOk P w K mg base CX0 4 t.a__law_clause t.d__law_clause ["_law_hand_here", "_law_names_here"] spClause := by
  have G__law_draw := ok_draw (P := P) (w := w) (base := base) T
  refine T.F__law_clause.okZ sc__law_clause (fun vs H Q E h => ?_) (fun cdv A outer s H vs Q E hr h hc hf => ?_)
  · obtain ⟨h, N, rfl, _⟩ := h; rfl
  obtain ⟨h, N, rfl, ss, hd, hN, l8, nd, q⟩ := h
  have hu := hu_of hr
  have hu0 := hr.units0
  have hNh := hd.nstr hN
  refine ⟨_, (by apply zqss_cons; exact (zpsk_set hc sc__law_clause.nd hf 2 (by decide +kernel) (zpe_lst zpa_nil)); apply zqss_cons; exact (zqs_for PassesOwn.never rfl (zpi_list (zpe_callB call_sortedS (glk hc (by decide +kernel)) T.z_sorted b_sorted (zpa_cons (zpvk hc 1 (by decide +kernel)) zpa_nil))) (zpgk hc sc__law_clause.nd hf 3 (by decide +kernel)) (by apply zqss_cons; exact (zpsk_set hc sc__law_clause.nd hf 4 (by decide +kernel) (zpe_call G__law_draw (hr.mono (by omega)) (glk hc (by decide +kernel)) T.m__law_draw T.F__law_draw.kp T.b__law_draw .nil pass0 (zpa_cons (zpvk hc 0 (by decide +kernel)) (zpa_cons zpe_int zpa_nil)))); exact zqss_one (zqs_if (zpt_cmpR op_lt (zpvk hc 4 (by decide +kernel)) zpe_int (nomark _)) (by exact zqss_one (zps_expr (zpe_bm PySem.F.plainAttrs_list PySem.F.slot_list_append PySem.F.type_list_append mt_append (zpvk hc 2 (by decide +kernel)) (zpa_cons (zpe_tup (zpa_cons (zpvk hc 3 (by decide +kernel)) (zpa_cons (zpe_cmpR op_eq (zpvk hc 4 (by decide +kernel)) zpe_int (nomark _)) zpa_nil))) zpa_nil)))) zqss_nil))); exact zqss_one (zps_ret (zpe_callTy call_tupleL (glk hc (by decide +kernel)) T.z_tuple b_tuple (zpa_cons (zpvk hc 2 (by decide +kernel)) zpa_nil)))), ?_⟩
  repeat (walk_at "rd")
  refine ⟨by decide, fun L hL => ?_⟩
  have hLh : L ≠ h := hd.ne hL
  have d1 : Dr h H (upd H L (.lst [])) := Dr.refl.new hL
  have hd1 := d1.handAt hd
  refine ⟨ss, same_new hL _ _ _ hN, by omega, fun ts pm srt S hS => ?_⟩
  have hSh : S ≠ h := hd1.ne hS
  have hLS : L ≠ S := ne_of_none upd_same hS
  have d2 := d1.new (o := .lst (List.map V.str ts)) hS
  have ndt : ts.Nodup := pm.nodup_iff.mpr nd
  have lt8 : ts.length ≤ 8 := by have := pm.length_eq; omega
  refine ⟨⟨_, sqL_of upd_same⟩, ?_⟩
  obtain ⟨Pv, hPv⟩ : ∃ Pv : Nat → St → Hp → Prop, ∀ i σ' H', Pv i σ' H' ↔ ∃ (rs : List Addr) (cl : Cl) (x y : Option V), σ' = [some (.ref h), some (.ref N), some (.ref L), x, y] ∧ Dr h H H' ∧ H' S = some (.lst (List.map V.str ts)) ∧ H' L = some (.lst (List.map V.ref rs)) ∧ Lits H' rs cl ∧ (cl.map (·.1)).Sublist (ts.take i) := ⟨_, fun _ _ _ => Iff.rfl⟩
  refine forAll_list (xs := List.map V.str ts) Pv ((hPv _ _ _).mpr ⟨[], [], none, none, rfl, d2, upd_same, by rw [upd_ne hLS, upd_same]; rfl, Lits.nil, List.nil_sublist _⟩) (fun i σ' H' _ pv => ?_) (fun i x σ' H1 hx pv => ?_) (fun σ' H1 pv => ?_)
  · obtain ⟨_, _, _, _, _, _, h, _⟩ := (hPv _ _ _).mp pv
    exact h
  · obtain ⟨rs, cl, x1, x2, rfl, d3, hS3, hL3, lr, sub⟩ := (hPv _ _ _).mp pv
    obtain ⟨n, en, rfl⟩ := str_at hx
    have hi : i < ts.length := (List.getElem?_eq_some_iff.mp en).1
    have et := take_at en
    repeat (walk_at "rd")
    refine draw_by hd d3 (by decide) (by decide) fun way H2 w0 w3 d4 k4 => ?_
    have hL4 : H2 L = some (.lst (List.map V.ref rs)) := by rw [k4 L hLh]; exact hL3
    have hS4 : H2 S = some (.lst (List.map V.str ts)) := by rw [k4 S hSh]; exact hS3
    have lr4 : Lits H2 rs cl := lr.mono fun q xs e => by rw [k4 q ((d3.handAt hd).ntup e)]; exact e
    have lrs : rs.length ≤ 8 := by
      have := sub.length_le
      rw [List.length_map, List.length_take] at this
      have := lr.1
      omega
    repeat (walk_at "rd")
    split
    · refine ⟨.inl ⟨rfl, _, sqL_of hL4⟩, by decide, fun p hp => ?_⟩
      have hpL : L ≠ p := ne_of_none hL4 hp
      refine ⟨_, by rw [upd_ne hpL]; exact hL4, by rw [List.length_map]; exact small1000 (by omega), (hPv _ _ _).mpr ⟨rs ++ [p], cl ++ [(n, decide (way = 1))], _, _, rfl, (d4.new hp).put hL, ?_, ?_, ?_, ?_⟩⟩
      · rw [upd_ne hLS.symm, upd_ne (ne_of_none hS4 hp)]; exact hS4
      · rw [upd_same, List.map_append]; rfl
      · refine (lr4.mono fun q xs e => ?_).snoc ?_
        · rw [upd_ne (ne_of e hL4 (by intro z; cases z)), upd_ne (ne_of_none e hp)]; exact e
        · show upd _ L _ p = _
          rw [upd_ne hpL.symm, upd_same]
      · rw [et, List.map_append]
        exact sub.append (List.Sublist.refl _)
    · exact (hPv _ _ _).mpr ⟨rs, cl, _, _, rfl, d4, hS4, hL4, lr4, by rw [et]; exact sub.trans (List.sublist_append_left _ _)⟩
  · obtain ⟨rs, cl, x1, x2, rfl, d3, hS3, hL3, lr, sub⟩ := (hPv _ _ _).mp pv
    rw [List.length_map, List.take_length] at sub
    repeat (first | walk_at "rd" | simp only [hL3])
    intro C hC
    refine q C _ (d3.new hC) (d3.free hd hC) ⟨cl, ⟨rs, upd_same, lr.mono (tups_new hC)⟩, List.Pairwise.sublist sub (inc_of srt ndt), fun x hx => pm.mem_iff.mp (sub.subset (List.mem_map.mpr ⟨x, hx, rfl⟩)), ?_⟩
    have := sub.length_le
    rw [List.length_map] at this
    omega
end

local macro_rules | `(tactic| walk_at "rd") => `(tactic| walk_at "rc")

/-! ### rows of facts -/
/-- the row numbered k over the names ts -/
def Row (ts : List Str) (k : Nat) (kvs : List (Key × V)) : Prop :=
  kvs.map (·.1) = ts.map Sum.inr ∧ ∀ (j : Nat) s, ts[j]? = some s → valV kvs (Sum.inr s) = some (.bl (decide (k / 2 ^ (ts.length - 1 - j) % 2 = 1)))
theorem valV_none_of {kvs : List (Key × V)} {k : Key} (h : k ∉ kvs.map (·.1)) : valV kvs k = none := by
  unfold valV
  rw [Option.map_eq_none_iff, List.find?_eq_none]
  intro kv hkv
  have : kv.1 ≠ k := fun e => h (List.mem_map.mpr ⟨kv, hkv, e⟩)
  simpa using this
theorem Row.nil : Row [] 0 [] := ⟨rfl, fun j s e => by simp at e⟩
theorem Row.step {ts : List Str} {t : Str} {k : Nat} {kvs : List (Key × V)} (r : Row ts k kvs) (hn : t ∉ ts) (b : Bool) : Row (ts ++ [t]) (2 * k + (if b then 1 else 0)) (putK kvs (Sum.inr t) (.bl b)) := by
  obtain ⟨hk, hv⟩ := r
  have hnone : valV kvs (Sum.inr t : Key) = none := valV_none_of (by rw [hk]; intro h; obtain ⟨s, hs, e⟩ := List.mem_map.mp h; exact hn (by rw [← Sum.inr.inj e]; exact hs))
  refine ⟨by rw [putK_new _ hnone, List.map_append, hk, List.map_append]; rfl, fun j s e => ?_⟩
  rw [valV_put, List.length_append, List.length_singleton]
  by_cases hj : j < ts.length
  · rw [List.getElem?_append_left hj] at e
    have hs : s ∈ ts := List.mem_of_getElem? e
    have hne : ¬ ((Sum.inr s : Key) = Sum.inr t) := fun z => hn (by rw [← Sum.inr.inj z]; exact hs)
    rw [if_neg hne, hv j s e]
    have e1 : ts.length + 1 - 1 - j = (ts.length - 1 - j) + 1 := by omega
    rw [e1, Nat.pow_succ, Nat.mul_comm (2 ^ _) 2, ← Nat.div_div_eq_div_mul]
    have e2 : (2 * k + if b = true then 1 else 0) / 2 = k := by cases b <;> simp <;> omega
    rw [e2]
  · rw [List.getElem?_append_right (by omega)] at e
    have h0 : j - ts.length = 0 := by
      cases z : j - ts.length with
      | zero => rfl
      | succ n => rw [z] at e; cases e
    rw [h0] at e
    cases e
    have e1 : ts.length + 1 - 1 - j = 0 := by omega
    rw [if_pos rfl, e1, Nat.pow_zero, Nat.div_one]
    cases b
    · have : ¬ ((2 * k + if false = true then 1 else 0) % 2 = 1) := by simp <;> omega
      rw [decide_eq_false this]
    · have : (2 * k + if true = true then 1 else 0) % 2 = 1 := by simp <;> omega
      rw [decide_eq_true this]
theorem Row.len {ts : List Str} {k : Nat} {kvs : List (Key × V)} (r : Row ts k kvs) : kvs.length = ts.length := by
  have := congrArg List.length r.1
  simpa using this
/-- dicts at as, the rows over the names ts; not there ahead (H0) -/
def Rows (H0 H : Hp) (as : List Addr) (ts : List Str) : Prop := ∀ (k : Nat) b, as[k]? = some b → H0 b = none ∧ ∃ kvs, H b = some (.dK kvs) ∧ Row ts k kvs
theorem Rows.mono {H0 H H' : Hp} {as : List Addr} {ts : List Str} (r : Rows H0 H as ts) (h : ∀ b kvs, H b = some (.dK kvs) → H' b = some (.dK kvs)) : Rows H0 H' as ts := fun k b e =>
  let ⟨h1, kvs, h2, h3⟩ := r k b e; ⟨h1, kvs, h b kvs h2, h3⟩
theorem Rows.snoc {H0 H : Hp} {as : List Addr} {ts : List Str} {p : Addr} {kvs : List (Key × V)} (r : Rows H0 H as ts) (h0 : H0 p = none) (hp : H p = some (.dK kvs)) (hr : Row ts as.length kvs) : Rows H0 H (as ++ [p]) ts := fun k b e => by
  by_cases hk : k < as.length
  · rw [List.getElem?_append_left hk] at e; exact r k b e
  · rw [List.getElem?_append_right (by omega)] at e
    have h0' : k - as.length = 0 := by
      cases z : k - as.length with
      | zero => rfl
      | succ n => rw [z] at e; cases e
    rw [h0'] at e
    have : k = as.length := by omega
    subst this
    cases e
    exact ⟨h0, kvs, hp, hr⟩
theorem same_put {H H1 : Hp} {p : Addr} {o : HO} (a : Same H H1) (hn : H p = none) : Same H (upd H1 p o) := fun b u e => by rw [upd_ne (ne_of_none e hn)]; exact a b u e
def Fact (kvs : List (Key × V)) (ns : List Str) : Prop := ∀ x ∈ ns, ∃ b, valV kvs (Sum.inr x) = some (.bl b)
theorem Row.fact {ts : List Str} {k : Nat} {kvs : List (Key × V)} (r : Row ts k kvs) : Fact kvs ts := fun x hx => by
  obtain ⟨j, hj⟩ := List.getElem?_of_mem hx
  exact ⟨_, r.2 j x hj⟩
/-! ### the law's own rows of facts, by their numbers -/
def spLRows : Sp := fun vs H Q _ => ∃ N, vs = [.ref N] ∧ ∃ ts : List Str, H N = some (.lst (List.map V.str ts)) ∧ ts.length ≤ 8 ∧ ts.Nodup ∧
  ∀ R as H', Same H H' → H R = none → H' R = some (.lst (List.map V.ref as)) → as.length = 2 ^ ts.length → Rows H H' as ts → Q (.ref R) H'
section
variable {P : Program} {w : World} {K : PySem.W.Frag} {mg : Str → Option Value} {base : Heap} {t : Adr}
theorem ok_lrows (T : Txt K mg t) : FnOk P w K mg base CX0 1 t.a__law_all_facts t.d__law_all_facts ["_law_names_here"] spLRows := by
  refine T.F__law_all_facts.okZ sc__law_all_facts (fun vs H Q E h => ?_) (fun cdv A outer s H vs Q E hr h hc hf => ?_)
  · obtain ⟨N, rfl, _⟩ := h; rfl
  obtain ⟨N, rfl, ts, hN, l8, nd, q⟩ := h
  have hu := hu_of hr
  have hu0 := hr.units0
  refine ⟨_, (by apply zqss_cons; exact (zpsk_set hc sc__law_all_facts.nd hf 1 (by decide +kernel) (zpe_lst (zpa_cons zpe_dnewK zpa_nil))); apply zqss_cons; exact (zqs_for PassesOwn.never rfl (zpi_list (zpvk hc 0 (by decide +kernel))) (zpgk hc sc__law_all_facts.nd hf 2 (by decide +kernel)) (by apply zqss_cons; exact (zpsk_set hc sc__law_all_facts.nd hf 3 (by decide +kernel) (zpe_lst zpa_nil)); apply zqss_cons; exact (zqs_for PassesOwn.never rfl (zpi_list (zpvk hc 1 (by decide +kernel))) (zpgk hc sc__law_all_facts.nd hf 4 (by decide +kernel)) (by exact zqss_one (zqs_for PassesOwn.never rfl (zpi_tup (zpe_tup (zpa_cons zpe_bl (zpa_cons zpe_bl zpa_nil)))) (zpgk hc sc__law_all_facts.nd hf 5 (by decide +kernel)) (by apply zqss_cons; exact (zpsk_set hc sc__law_all_facts.nd hf 6 (by decide +kernel) (zpe_callTy call_dictDK (glk hc (by decide +kernel)) T.z_dict b_dict (zpa_cons (zpvk hc 4 (by decide +kernel)) zpa_nil))); apply zqss_cons; exact (zps_dput hu (zpvk hc 6 (by decide +kernel)) (zpvk hc 2 (by decide +kernel)) (zpvk hc 5 (by decide +kernel)) rfl); exact zqss_one (zps_expr (zpe_bm PySem.F.plainAttrs_list PySem.F.slot_list_append PySem.F.type_list_append mt_append (zpvk hc 3 (by decide +kernel)) (zpa_cons (zpvk hc 6 (by decide +kernel)) zpa_nil))))))); exact zqss_one (zpsk_set hc sc__law_all_facts.nd hf 1 (by decide +kernel) (zpvk hc 3 (by decide +kernel))))); exact zqss_one (zps_ret (zpvk hc 1 (by decide +kernel)))), ?_⟩
  repeat (walk_at "rd")
  intro d hd
  refine ⟨by decide, fun R hR => ?_⟩
  have s1 : Same H (upd H d (.dK [])) := same_new hd _
  have s2 : Same H (upd (upd H d (.dK [])) R (.lst [.ref d])) := s1.trans (same_new hR _)
  have hdR : d ≠ R := ne_of_none upd_same hR
  refine ⟨⟨_, sqL_of (s2 _ _ hN)⟩, ?_⟩
  obtain ⟨Pv, hPv⟩ : ∃ Pv : Nat → St → Hp → Prop, ∀ i σ' H', Pv i σ' H' ↔ ∃ (R : Addr) (as : List Addr) (x1 x2 x3 x4 x5 : Option V), σ' = [some (.ref N), some (.ref R), x1, x2, x3, x4, x5] ∧ Same H H' ∧ H R = none ∧ H' R = some (.lst (List.map V.ref as)) ∧ as.length = 2 ^ i ∧ Rows H H' as (ts.take i) := ⟨_, fun _ _ _ => Iff.rfl⟩
  refine forAll_list (xs := List.map V.str ts) Pv ((hPv _ _ _).mpr ⟨R, [d], none, none, none, none, none, rfl, s2, s1.free hR, upd_same, rfl, fun k b e => ?_⟩) (fun i σ' H' _ pv => ?_) (fun i x σ' H1 hx pv => ?_) (fun σ' H1 pv => ?_)
  · have hk : k = 0 := by
      cases k with
      | zero => rfl
      | succ n => simp at e
    subst hk
    cases e
    exact ⟨hd, [], by rw [upd_ne hdR, upd_same], Row.nil⟩
  · obtain ⟨_, _, _, _, _, _, _, _, s, _⟩ := (hPv _ _ _).mp pv
    exact s _ _ hN
  · obtain ⟨R, as, x1, x2, x3, x4, x5, rfl, s4, hR0, hR4, hal, rows⟩ := (hPv _ _ _).mp pv
    obtain ⟨n, en, rfl⟩ := str_at hx
    have hil : i < ts.length := (List.getElem?_eq_some_iff.mp en).1
    have et : ts.take (i + 1) = ts.take i ++ [n] := by rw [List.take_add_one, en]; rfl
    have hni : n ∉ ts.take i := fun hm => by
      have := nd.sublist (List.take_sublist (i + 1) ts)
      rw [et, List.nodup_append] at this
      exact this.2.2 n hm n (by simp) rfl
    have ha64 : as.length ≤ 128 := by
      rw [hal]
      exact Nat.le_trans (Nat.pow_le_pow_right (by decide) (show i ≤ 7 by omega)) (by decide)
    repeat (first | walk_at "rd" | simp only [hR4])
    refine ⟨by decide, fun L hL => ?_⟩
    have hRL : R ≠ L := ne_of_none hR4 hL
    have hL0 : H L = none := s4.free hL
    have s5 := s4.trans (same_new hL (.lst []))
    refine ⟨⟨_, sqL_of (by rw [upd_ne hRL]; exact hR4)⟩, ?_⟩
    obtain ⟨Pw, hPw⟩ : ∃ Pw : Nat → St → Hp → Prop, ∀ k σ' H', Pw k σ' H' ↔ ∃ (bs : List Addr) (x3 x4 x5 : Option V), σ' = [some (.ref N), some (.ref R), some (.str n), some (.ref L), x3, x4, x5] ∧ Same H H' ∧ H' R = some (.lst (List.map V.ref as)) ∧ H' L = some (.lst (List.map V.ref bs)) ∧ bs.length = 2 * k ∧ Rows H H' as (ts.take i) ∧ Rows H H' bs (ts.take (i + 1)) := ⟨_, fun _ _ _ => Iff.rfl⟩
    refine forAll_list (xs := List.map V.ref as) Pw ((hPw _ _ _).mpr ⟨[], x3, x4, x5, rfl, s5, by rw [upd_ne hRL]; exact hR4, upd_same, rfl, rows.mono fun b kvs e => by rw [upd_ne (ne_of_none e hL)]; exact e, fun k b e => by simp at e⟩) (fun k σ' H' _ pv => ?_) (fun k z σ' H2 hz pv => ?_) (fun σ' H2 pv => ?_)
    · obtain ⟨_, _, _, _, _, _, h, _⟩ := (hPw _ _ _).mp pv
      exact h
    · obtain ⟨bs, y3, y4, y5, rfl, s6, hR6, hL6, hbl, oa, ob⟩ := (hPw _ _ _).mp pv
      obtain ⟨a0, ea, rfl⟩ := ref_at hz
      have hk32 : k < as.length := (List.getElem?_eq_some_iff.mp ea).1
      obtain ⟨_, kv0, h0, f0⟩ := oa k a0 ea
      repeat (first | walk_at "rd" | simp only [hR4])
      refine ⟨by decide, fun C hC => ?_⟩
      have s7 := s6.trans (same_new hC (.tup [V.bl false, V.bl true]))
      have hLC : L ≠ C := ne_of_none hL6 hC
      have hRC : R ≠ C := ne_of_none hR6 hC
      refine ⟨⟨_, sqT_of upd_same⟩, ?_⟩
      obtain ⟨Pu, hPu⟩ : ∃ Pu : Nat → St → Hp → Prop, ∀ j σ' H', Pu j σ' H' ↔ ∃ (cs : List Addr) (x4 x5 : Option V), σ' = [some (.ref N), some (.ref R), some (.str n), some (.ref L), some (.ref a0), x4, x5] ∧ Same H H' ∧ H' R = some (.lst (List.map V.ref as)) ∧ H' C = some (.tup [V.bl false, V.bl true]) ∧ H' L = some (.lst (List.map V.ref cs)) ∧ cs.length = 2 * k + j ∧ Rows H H' as (ts.take i) ∧ Rows H H' cs (ts.take (i + 1)) := ⟨_, fun _ _ _ => Iff.rfl⟩
      refine forAll_tup (xs := [V.bl false, V.bl true]) Pu ((hPu _ _ _).mpr ⟨bs, y4, y5, rfl, s7, by rw [upd_ne hRC]; exact hR6, upd_same, by rw [upd_ne hLC]; exact hL6, hbl, oa.mono fun b kvs e => by rw [upd_ne (ne_of_none e hC)]; exact e, ob.mono fun b kvs e => by rw [upd_ne (ne_of_none e hC)]; exact e⟩) (fun j σ' H' _ pv => ?_) (fun j z σ' H3 hz pv => ?_) (fun σ' H3 pv => ?_)
      · obtain ⟨_, _, _, _, _, _, h, _⟩ := (hPu _ _ _).mp pv
        exact h
      · obtain ⟨cs, z4, z5, rfl, s8, hR8, hC8, hL8, hcl, oa8, oc8⟩ := (hPu _ _ _).mp pv
        have hj : j < 2 := (List.getElem?_eq_some_iff.mp hz).1
        obtain ⟨c, rfl, hcj⟩ : ∃ c, z = V.bl c ∧ j = if c = true then 1 else 0 := by
          match j, hz with
          | 0, hz => exact ⟨false, (Option.some.inj hz).symm, rfl⟩
          | 1, hz => exact ⟨true, (Option.some.inj hz).symm, rfl⟩
        obtain ⟨_, kv8, h8, f8⟩ := oa8 k a0 ea
        have l8' := f8.len
        rw [List.length_take] at l8'
        repeat (first | walk_at "rd" | simp only [h8, hL8, sDPut])
        intro D hD
        have hDL : L ≠ D := ne_of_none hL8 hD
        refine ⟨_, DPut.k (k := Sum.inr n) upd_same (small1000 (by omega)), ?_⟩
        repeat (first | walk_at "rd" | simp only [upd_ne hDL, hL8])
        have keep : ∀ b kvs, H3 b = some (.dK kvs) → upd (upd H3 D (.dK (putK kv8 (Sum.inr n) (.bl c)))) L (.lst (List.map V.ref cs ++ [V.ref D])) b = some (.dK kvs) := fun b kvs e => by rw [upd_ne (ne_of e hL8 (by intro z; cases z)), upd_ne (ne_of_none e hD)]; exact e
        refine ⟨.inl ⟨rfl, _, sqL_of (by rw [upd_ne hDL]; exact hL8)⟩, small1000 (by omega), (hPu _ _ _).mpr ⟨cs ++ [D], _, _, rfl, ?_, ?_, ?_, by rw [upd_same, List.map_append]; rfl, by simp [hcl]; omega, oa8.mono keep, (oc8.mono keep).snoc (s8.free hD) (by rw [upd_ne hDL.symm, upd_same]) ?_⟩⟩
        · exact same_put' (same_put' s8 (s8.free hD)) hL0
        · rw [upd_ne hRL, upd_ne (ne_of_none hR8 hD)]; exact hR8
        · rw [upd_ne hLC.symm, upd_ne (ne_of_none hC8 hD)]; exact hC8
        · rw [et, hcl, hcj]; exact f8.step hni c
      · obtain ⟨cs, z4, z5, rfl, s8, hR8, hC8, hL8, hcl, oa8, oc8⟩ := (hPu _ _ _).mp pv
        repeat (walk_at "rd")
        exact (hPw _ _ _).mpr ⟨cs, _, _, _, rfl, s8, hR8, hL8, by simp at hcl; omega, oa8, oc8⟩
    · obtain ⟨bs, y3, y4, y5, rfl, s6, hR6, hL6, hbl, oa, ob⟩ := (hPw _ _ _).mp pv
      repeat (walk_at "rd")
      refine (hPv _ _ _).mpr ⟨L, bs, _, _, _, _, _, rfl, s6, hL0, hL6, ?_, ob⟩
      rw [hbl, List.length_map, hal, Nat.pow_succ, Nat.mul_comm]
  · obtain ⟨R, as, x1, x2, x3, x4, x5, rfl, s4, hR0, hR4, hal, rows⟩ := (hPv _ _ _).mp pv
    repeat (walk_at "rd")
    rw [List.length_map] at hal rows
    rw [List.take_length] at rows
    exact q R as H1 s4 hR0 hR4 hal rows
end
def spStands : Sp := fun vs H Q _ => ∃ C f, vs = [.ref C, .ref f] ∧ ∃ cl kvs, ClAt H cl C ∧ H f = some (.dK kvs) ∧ Fact kvs (cl.map (·.1)) ∧ Q (.bl (cl.any fun x => envK kvs x.1 == x.2)) H
section
variable {P : Program} {w : World} {K : PySem.W.Frag} {mg : Str → Option Value} {base : Heap} {t : Adr}
theorem ok_stands (T : Txt K mg t) : FnOk P w K mg base CX0 1 t.a__law_stands t.d__law_stands ["_law_clause_here", "_law_facts"] spStands := by
  refine T.F__law_stands.okZ sc__law_stands (fun vs H Q E h => ?_) (fun cdv A outer s H vs Q E hr h hc hf => ?_)
  · obtain ⟨C, f, rfl, _⟩ := h; rfl
  obtain ⟨C, f, rfl, cl, kvs, ⟨qs, hC, lits⟩, hF, fa, q⟩ := h
  have hu := hu_of hr
  have hu0 := hr.units0
  refine ⟨_, (by apply zqss_cons; exact (zqs_for PassesOwn.never rfl (zpi_tup (zpvk hc 0 (by decide +kernel))) (zpg_tup rfl (zpgs_cons (zpgk hc sc__law_stands.nd hf 2 (by decide +kernel)) (zpgs_cons (zpgk hc sc__law_stands.nd hf 3 (by decide +kernel)) zpgs_nil))) (by exact zqss_one (zqs_if (zpt_cmpR op_eq (zpe_dget hu (zpvk hc 1 (by decide +kernel)) (zpvk hc 2 (by decide +kernel)) (fun _ _ => rfl)) (zpvk hc 3 (by decide +kernel)) (nomark _)) (by exact zqss_one (zps_ret zpe_bl)) zqss_nil))); exact zqss_one (zps_ret zpe_bl)), ?_⟩
  repeat (walk_at "rd")
  refine ⟨⟨_, sqT_of hC⟩, ?_⟩
  obtain ⟨Pv, hPv⟩ : ∃ Pv : Nat → St → Hp → Prop, ∀ i σ' H', Pv i σ' H' ↔ ∃ (x y : Option V), σ' = [some (.ref C), some (.ref f), x, y] ∧ H' = H ∧ (cl.take i).any (fun x => envK kvs x.1 == x.2) = false := ⟨_, fun _ _ _ => Iff.rfl⟩
  refine forAll_tup (xs := List.map V.ref qs) Pv ((hPv _ _ _).mpr ⟨none, none, rfl, rfl, rfl⟩) (fun i σ' H' _ pv => ?_) (fun i z σ' H1 hz pv => ?_) (fun σ' H1 pv => ?_)
  · obtain ⟨_, _, _, rfl, _⟩ := (hPv _ _ _).mp pv
    exact hC
  · obtain ⟨x, y, rfl, rfl, an⟩ := (hPv _ _ _).mp pv
    obtain ⟨b0, eb, rfl⟩ := ref_at hz
    obtain ⟨n, b, ec, hb0⟩ := lits.at eb
    obtain ⟨c, hc'⟩ := fa n (List.mem_map.mpr ⟨(n, b), List.mem_of_getElem? ec, rfl⟩)
    have ev := envK_of hc'
    refine ⟨b0, _, rfl, sqT_of hb0, rfl, ?_⟩
    repeat (first | walk_at "rd" | simp only [gCons, gNil, tDGet])
    refine ⟨.bl c, (by have := DGet.k (k := Sum.inr n) hF; rw [hc'] at this; exact this), rfl, ?_⟩
    simp only [V.bl.injEq]
    split
    · rename_i hcb
      have : (cl.any fun x => envK kvs x.1 == x.2) = true := List.any_eq_true.mpr ⟨(n, b), List.mem_of_getElem? ec, by simp [ev, hcb]⟩
      rw [this] at q
      exact q
    · rename_i hcb
      refine (hPv _ _ _).mpr ⟨_, _, rfl, rfl, ?_⟩
      rw [take_at ec, List.any_append, an]
      simp [ev]
      exact hcb
  · obtain ⟨x, y, rfl, rfl, an⟩ := (hPv _ _ _).mp pv
    have hl := lits.1
    rw [List.length_map, hl, List.take_length] at an
    repeat (walk_at "rd")
    rw [an] at q
    exact q
end

local macro_rules | `(tactic| walk_at "rd") => `(tactic| walk_at "rc")

/-! ### two clauses joined -/
/-- the literals of both without this name -/
def jl (cl dl : Cl) (n : Str) : Cl := (cl ++ dl).filter fun x => !decide (x.1 = n)
structure ClJ (H : Hp) (cl : Cl) (p : Addr) : Prop where
  at_ : ClAt H cl p
  inc : Inc (cl.map (·.1))
  few : cl.length ≤ 20
theorem ClJ.mono {H H' : Hp} {cl : Cl} {p : Addr} (h : ClJ H cl p) (k : Tups H H') : ClJ H' cl p := ⟨h.at_.mono k, h.inc, h.few⟩
def spJoined (C : Addr) : Sp := fun vs H Q E => ∃ A B n, vs = [.ref A, .ref B, .str n] ∧ ∃ cl dl, ClJ H cl A ∧ ClJ H dl B ∧
  ((n, true) ∉ cl ∨ (n, false) ∉ dl → ∀ dx H', Same H H' → H' dx = some (.xd [("name", .str n)]) → E (.ref C) (some dx) H') ∧
  ((n, true) ∈ cl → (n, false) ∈ dl → ∀ H', Same H H' → (¬ One (jl cl dl n) → Q .non H') ∧ (One (jl cl dl n) → ∀ p kl, ClAt H' kl p → ClOf (jl cl dl n) kl → Q (.ref p) H'))
theorem lits_append {H : Hp} {qs ps : List Addr} {cl dl : Cl} (h : Lits H qs cl) (k : Lits H ps dl) : Lits H (qs ++ ps) (cl ++ dl) := by
  refine ⟨by simp [h.1, k.1], fun i q x eq ex => ?_⟩
  by_cases hi : i < qs.length
  · rw [List.getElem?_append_left hi] at eq
    rw [List.getElem?_append_left (by rw [← h.1]; exact hi)] at ex
    exact h.2 i q x eq ex
  · have hl := h.1
    rw [List.getElem?_append_right (by omega)] at eq
    rw [List.getElem?_append_right (by omega), ← hl] at ex
    exact k.2 _ q x eq ex
/-- [literal for literal in clause if literal[0] != name] -/
theorem comp_but {K : PySem.W.Frag} {S : Addr} {qs : List Addr} {cl : Cl} {n : Str} {j : Nat} {σ : St} {H2 : Hp} {Q : VK} (hS : H2 S = some (.tup (List.map V.ref qs))) (lits : Lits H2 qs cl) (hj : σ[j]? = some (some (.str n))) (hl : cl.length ≤ 900)
    (q : ∀ Z rs H', Same H2 H' → H2 Z = none → H' Z = some (.lst (List.map V.ref rs)) → Lits H' rs (cl.filter fun x => !decide (x.1 = n)) → Q (.ref Z) H') :
    CompAll (Itt K S) 1 [j] (fun _ => gName 0) (fun _ => tTest (tOp rNe (tOp qIxT (tVar 0) (tC (V.int 0))) (tVar 1))) (fun _ => tVar 0) σ Q H2 := by
  obtain ⟨Pc, hPc⟩ : ∃ Pc : Addr → Nat → List V → Hp → Prop, ∀ Z i ys H', Pc Z i ys H' ↔ ∃ rs : List Addr, ys = List.map V.ref rs ∧ Same H2 H' ∧ H' Z = some (.lst ys) ∧ Lits H' rs ((cl.take i).filter fun x => !decide (x.1 = n)) := ⟨_, fun _ _ _ _ => Iff.rfl⟩
  refine compAll_tup (zs := List.map V.ref qs) Pc (fun Z hZ => (hPc _ _ _ _).mpr ⟨[], rfl, same_new hZ _, upd_same, Lits.nil⟩) (fun Z hZ i ys H' _ pv => ?_) (fun Z hZ i z ys H' hz pv cb => ?_) (fun Z hZ ys H' pv => ?_)
  · obtain ⟨_, _, s, _⟩ := (hPc _ _ _ _).mp pv
    exact s _ _ hS
  · obtain ⟨rs, rfl, sZ, hZZ, lr⟩ := (hPc _ _ _ _).mp pv
    obtain ⟨b0, eb, rfl⟩ := ref_at hz
    obtain ⟨m, b, ec, hb0⟩ := lits.at eb
    have hi : i < cl.length := (List.getElem?_eq_some_iff.mp ec).1
    have lrs : rs.length ≤ 900 := by
      have := List.length_filter_le (fun x : Str × Bool => !decide (x.1 = n)) (cl.take i)
      rw [List.length_take] at this
      have := lr.1
      omega
    have hb1 := sZ _ _ hb0
    walk_at "rc"
    repeat (first | walk_at "rd" | simp only [hj, hb1, Option.join_some])
    by_cases hm : m = n
    · have e1 : (!decide (m = n)) = false := by simp [hm]
      simp only [e1, hm]
      first
        | (rw [if_neg (by simp)]
           refine (hPc _ _ _ _).mpr ⟨rs, rfl, sZ, hZZ, ?_⟩
           rw [take_at ec, List.filter_append]
           have e2 : [(m, b)].filter (fun x : Str × Bool => !decide (x.1 = n)) = [] := by simp [hm]
           rw [e2, List.append_nil]
           exact lr)
        | trace_state
    · rw [if_pos (by simp [hm])]
      refine ⟨hZZ, small1000 (by omega), (hPc _ _ _ _).mpr ⟨rs ++ [b0], by simp, same_put' sZ hZ, upd_same, ?_⟩⟩
      rw [take_at ec, List.filter_append]
      have e2 : [(m, b)].filter (fun x : Str × Bool => !decide (x.1 = n)) = [(m, b)] := by simp [hm]
      rw [e2]
      refine (lr.mono (tups_put hZZ)).snoc ?_
      show upd _ Z _ b0 = _
      rw [upd_ne (ne_of hb1 hZZ (by intro z; cases z))]
      exact hb1
  · obtain ⟨rs, rfl, sZ, hZZ, lr⟩ := (hPc _ _ _ _).mp pv
    have hl := lits.1
    rw [List.length_map, hl, List.take_length] at lr
    exact q Z rs H' sZ hZ hZZ lr
section
variable {P : Program} {w : World} {K : PySem.W.Frag} {mg : Str → Option Value} {base : Heap} {t : Adr}
theorem ok_init_NoJoin (T : Txt K mg t) : FnOk P w K mg base CX0 1 t.a_NoJoin___init__ t.d_NoJoin___init__ nm_NoJoin___init__ (spInit t.c_NoJoin "name") := by
  refine T.F_NoJoin___init__.okZ sc_NoJoin___init__ (fun vs H Q E h => ?_) (fun cdv A outer s H vs Q E hr h hc hf => ?_)
  · obtain ⟨e, v, t, rfl, _⟩ := h; rfl
  obtain ⟨e, v, t0, rfl, he, q⟩ := h
  refine ⟨_, (by apply zqss_cons; exact (zps_expr (zpe_base T.rd_TruceError T.fc_TruceError T.sg_TruceError (glk hc (by decide +kernel)) T.m_TruceError (zpa_cons (zpvk hc 0 (by decide +kernel)) (zpa_cons zpe_str zpa_nil)))); exact zqss_one (zps_xfld (zpvk hc 0 (by decide +kernel)) (zpvk hc 1 (by decide +kernel)) rfl)), ?_⟩
  repeat (walk_at "rd")
  refine ⟨t.c_NoJoin, t0, he, T.x_NoJoin, fun t' => ⟨t.c_NoJoin, t', rfl, T.x_NoJoin, T.tk_NoJoin, fun dx hd hne => ?_⟩⟩
  rw [upd_ne hne] at hd
  exact q dx t' hd hne
theorem ok_joined (T : Txt K mg t) : FnOk P w K mg base (CXE P w) 3 t.a_joined t.d_joined ["one", "other", "name"] (spJoined t.c_NoJoin) := by
  have G_clause_of := ok_clof (P := P) (w := w) (base := base) T
  have G_NoJoin := ok_init_NoJoin (P := P) (w := w) (base := base) T
  refine T.F_joined.okE sc_joined (fun vs H Q E h => ?_) (fun cdv A outer s H vs Q E hr h hc hf L hpo => ?_)
  · obtain ⟨A, B, n, rfl, _⟩ := h; rfl
  obtain ⟨A, B, n, rfl, cl, dl, hA, hB, qe, q⟩ := h
  obtain ⟨qs, hA1, la⟩ := hA.at_
  obtain ⟨ps, hB1, lb⟩ := hB.at_
  have hu := hu_of hr
  have hu0 := hr.units0
  refine ⟨_, (by apply zqss_cons; exact (zqs_if (zPWpt (zpw_or (zpt_cmpR (op_notInP hu) (zpe_tup (zpa_cons (zpvk hc 2 (by decide +kernel)) (zpa_cons zpe_bl zpa_nil))) (zpvk hc 0 (by decide +kernel)) (by with_unfolding_all rfl)) (zpw_or1 (zpt_cmpR (op_notInP hu) (zpe_tup (zpa_cons (zpvk hc 2 (by decide +kernel)) (zpa_cons zpe_bl zpa_nil))) (zpvk hc 1 (by decide +kernel)) (by with_unfolding_all rfl))))) (by exact zqss_one (zps_raise1 (EH := fun _ => E) T.x_NoJoin T.ii_NoJoin T.if_NoJoin T.kc_NoJoin G_NoJoin T.b_NoJoin___init__ (hr.mono (by omega)) (glk hc (by decide +kernel)) T.m_NoJoin rfl L (zpvk hc 2 (by decide +kernel)))) zqss_nil); exact zqss_one (zps_ret (zpe_call G_clause_of (hr.mono (by omega)) (glk hc (by decide +kernel)) T.m_clause_of T.F_clause_of.kp T.b_clause_of .nil pass0 (zpa_cons (zpek_comp hc ["literal"] [2] rfl (by decide +kernel) (zpi_tup (zpe_op op_catTQ (zpvk hc 0 (by decide +kernel)) (zpvk hc 1 (by decide +kernel)))) (fun _ hc => zpgb hc (by decide +kernel) 0 (by decide +kernel)) (fun _ hc => zpifs_one (zpt_cmpR op_ne (zpe_ix ix_t (zpvk hc 0 (by decide +kernel)) zpe_int (fun _ _ => rfl)) (zpvk hc 1 (by decide +kernel)) (nomark _))) (fun _ hc => (zpvk hc 0 (by decide +kernel)))) zpa_nil)))), ?_⟩
  repeat (walk_at "rd")
  refine ⟨by decide, fun p1 hp1 => ?_⟩
  have s1 := same_new hp1 (.tup [.str n, .bl true])
  have l1 : LitAt (upd H p1 (.tup [.str n, .bl true])) p1 (n, true) := upd_same
  generalize upd H p1 (.tup [.str n, .bl true]) = H1 at s1 l1 ⊢
  refine ⟨_, l1, qs, .inl (s1 _ _ hA1), cl, la.mono (tups_of s1), ?_⟩
  by_cases h1 : (n, true) ∈ cl
  · rw [if_neg (by simp [h1])]
    refine ⟨by decide, fun p2 hp2 => ?_⟩
    have s2 := same_new hp2 (.tup [.str n, .bl false])
    have l2 : LitAt (upd H1 p2 (.tup [.str n, .bl false])) p2 (n, false) := upd_same
    generalize upd H1 p2 (.tup [.str n, .bl false]) = H2 at s2 l2 ⊢
    have s3 := s1.trans s2
    refine ⟨_, l2, ps, .inl (s3 _ _ hB1), dl, lb.mono (tups_of s3), ?_⟩
    by_cases h2 : (n, false) ∈ dl
    · rw [if_neg (by simp [h2])]
      have la1 := la.1
      have lb1 := lb.1
      have fa := hA.few
      have fb := hB.few
      refine ⟨_, s3 _ _ hA1, _, s3 _ _ hB1, by rw [List.length_map, List.length_map]; exact Nat.le_of_lt (small1000 (by omega)), fun D H3 s4 _ hD => ⟨⟨_, sqT_of hD⟩, ?_⟩⟩
      have s5 := s3.trans s4
      rw [← List.map_append] at hD
      refine comp_but hD (lits_append (la.mono (tups_of s5)) (lb.mono (tups_of s5))) rfl (by rw [List.length_append]; omega) fun Z rs H4 s6 hZ hZ4 lr => ?_
      have lj := List.length_filter_le (fun x : Str × Bool => !decide (x.1 = n)) (cl ++ dl)
      rw [List.length_append] at lj
      refine ⟨Z, rfl, rs, _, hZ4, lr, by omega, fun H5 s7 => ?_⟩
      obtain ⟨q1, q2⟩ := q h1 h2 H5 ((s5.trans s6).trans s7)
      exact ⟨q1, fun o p kl _ a c => q2 o p kl a c⟩
    · rw [if_pos (by simp [h2])]
      intro dx hdx
      exact qe (.inr h2) dx _ (s3.trans (same_new hdx _)) upd_same
  · rw [if_pos (by simp [h1])]
    intro dx hdx
    exact qe (.inl h1) dx _ (s1.trans (same_new hdx _)) upd_same
end

local macro_rules | `(tactic| walk_at "rd") => `(tactic| walk_at "rc")

/-! ### the law's own joining -/
def spWith : Sp := fun vs H Q _ => ∃ C n b, vs = [.ref C, .str n, .bl b] ∧ ∃ cl, ClAt H cl C ∧ Inc (cl.map (·.1)) ∧ cl.length ≤ 10 ∧
  ∀ p kl H', Same H H' → ClAt H' kl p → Inc (kl.map (·.1)) → (∀ x ∈ kl, x ∈ cl ∨ x = (n, b)) → kl.length ≤ cl.length + 1 → Q (.ref p) H'
def spDue : Sp := fun vs H Q _ => ∃ A B n, vs = [.ref A, .ref B, .str n] ∧ ∃ cl dl, ClJ H cl A ∧ ClJ H dl B ∧
  ∀ H', Same H H' → (¬ One (jl cl dl n) → Q .non H') ∧ (One (jl cl dl n) → ∀ p kl, ClAt H' kl p → ClOf (jl cl dl n) kl → Q (.ref p) H')
theorem inc_of_pw {kl : Cl} (h : kl.Pairwise fun x y => x.1.cps.toList < y.1.cps.toList) : Inc (kl.map (·.1)) := (List.pairwise_map (f := fun x : Str × Bool => x.1) (R := fun a b : Str => a.cps.toList < b.cps.toList)).mpr h
theorem nodup_but {cl : Cl} {p : Str × Bool → Bool} (h : Inc (cl.map (·.1))) : ((cl.filter p).map (·.1)).Nodup := inc_nodup (h.sublist (List.Sublist.map _ List.filter_sublist))
section
variable {P : Program} {w : World} {K : PySem.W.Frag} {mg : Str → Option Value} {base : Heap} {t : Adr}
theorem ok_with (T : Txt K mg t) : FnOk P w K mg base CX0 1 t.a__law_with t.d__law_with ["_law_clause_here", "_law_name", "_law_truth"] spWith := by
  refine T.F__law_with.okZ sc__law_with (fun vs H Q E h => ?_) (fun cdv A outer s H vs Q E hr h hc hf => ?_)
  · obtain ⟨C, n, b, rfl, _⟩ := h; rfl
  obtain ⟨C, n, b, rfl, cl, ⟨qs, hC, lits⟩, inc, l10, q⟩ := h
  have hu := hu_of hr
  have hu0 := hr.units0
  refine ⟨_, (by apply zqss_cons; exact (zpsk_comp hc sc__law_with.nd 3 (by decide +kernel) ["_law_literal"] [1] rfl (by decide +kernel) (zpi_tup (zpvk hc 0 (by decide +kernel))) (fun _ hc => zpgb hc (by decide +kernel) 0 (by decide +kernel)) (fun _ hc => zpifs_one (zpt_cmpR op_ne (zpe_ix ix_t (zpvk hc 0 (by decide +kernel)) zpe_int (fun _ _ => rfl)) (zpvk hc 1 (by decide +kernel)) (nomark _))) (fun _ hc => (zpvk hc 0 (by decide +kernel))) (by rfl)); exact zqss_one (zps_ret (zpe_callTy call_tupleL (glk hc (by decide +kernel)) T.z_tuple b_tuple (zpa_cons (zpe_callB call_sortP (glk hc (by decide +kernel)) T.z_sorted b_sorted (zpa_cons (zpe_op op_cat (zpvk hc 3 (by decide +kernel)) (zpe_lst (zpa_cons (zpe_tup (zpa_cons (zpvk hc 1 (by decide +kernel)) (zpa_cons (zpvk hc 2 (by decide +kernel)) zpa_nil))) zpa_nil))) zpa_nil)) zpa_nil)))), ?_⟩
  repeat (walk_at "rd")
  refine ⟨⟨_, sqT_of hC⟩, ?_⟩
  refine comp_but hC lits rfl (by omega) fun Z rs H1 s1 hZ hZ1 lr => ?_
  repeat (walk_at "rd")
  have lrs := lr.1
  have lf := List.length_filter_le (fun x : Str × Bool => !decide (x.1 = n)) cl
  refine ⟨by decide, fun p1 hp1 => ?_⟩
  have s2 := same_new hp1 (.tup [.str n, .bl b])
  have l1 : LitAt (upd H1 p1 (.tup [.str n, .bl b])) p1 (n, b) := upd_same
  generalize upd H1 p1 (.tup [.str n, .bl b]) = H2 at s2 l1 ⊢
  refine ⟨by decide, fun p2 hp2 => ?_⟩
  have s3 := same_new hp2 (.lst [.ref p1])
  generalize upd H2 p2 (.lst [.ref p1]) = H3 at s3 ⊢
  refine ⟨_, s3 _ _ (s2 _ _ hZ1), by rw [List.length_map]; exact small1000 (by omega), fun p3 hp3 => ?_⟩
  have s4 := same_new hp3 (.lst (List.map V.ref rs ++ [V.ref p1]))
  generalize upd H3 p3 (.lst (List.map V.ref rs ++ [V.ref p1])) = H4 at s4 ⊢
  have s14 : Same H1 H4 := (s2.trans s3).trans s4
  refine ⟨rs ++ [p1], by simp, _, (lr.mono (tups_of s14)).snoc (s4 _ _ (s3 _ _ l1)), by rw [List.length_append]; simp only [List.length_singleton]; omega, ?_, fun ks kl pm srt lk p4 hp4 p5 hp5 => ?_⟩
  · rw [List.map_append, List.nodup_append]
    refine ⟨nodup_but inc, by simp, fun x hx y hy z => ?_⟩
    obtain ⟨u, hu1, rfl⟩ := List.mem_map.mp hx
    have hy' : y = n := by simpa using hy
    have := (List.mem_filter.mp hu1).2
    simp [z, hy'] at this
  · have s5 := same_new hp4 (.lst (List.map V.ref ks))
    have s6 := same_new hp5 (.tup (List.map V.ref ks))
    refine q p5 kl _ (s1.trans (s14.trans (s5.trans s6))) ⟨ks, upd_same, lk.mono (tups_of (s5.trans s6))⟩ (inc_of_pw srt) (fun x hx => ?_) ?_
    · rcases List.mem_append.mp (pm.mem_iff.mp hx) with h | h
      · exact .inl (List.mem_filter.mp h).1
      · exact .inr (List.mem_singleton.mp h)
    · have := pm.length_eq
      rw [List.length_append, List.length_singleton] at this
      omega
/-- what is left ahead of the i-th literal of the other -/
structure Lft (cl dl : Cl) (n : Str) (i : Nat) (ls : Cl) : Prop where
  nd : (ls.map (·.1)).Nodup
  mem : ∀ x, x ∈ ls ↔ x ∈ jl cl (dl.take i) n
  few : ls.length ≤ 20 + i
theorem jl_mem {cl dl : Cl} {n : Str} {x : Str × Bool} : x ∈ jl cl dl n ↔ (x ∈ cl ∨ x ∈ dl) ∧ x.1 ≠ n := by
  unfold jl
  rw [List.mem_filter, List.mem_append]
  simp
theorem Lft.skip {cl dl ls : Cl} {n : Str} {i : Nat} {x : Str × Bool} (h : Lft cl dl n i ls) (e : dl[i]? = some x) (k : x.1 = n ∨ x ∈ ls) : Lft cl dl n (i + 1) ls := ⟨h.nd, fun y => by
  rw [h.mem, jl_mem, jl_mem, take_at e, List.mem_append, List.mem_singleton]
  constructor
  · rintro ⟨a | a, b⟩
    · exact ⟨.inl a, b⟩
    · exact ⟨.inr (.inl a), b⟩
  · rintro ⟨a | a | a, b⟩
    · exact ⟨.inl a, b⟩
    · exact ⟨.inr a, b⟩
    · subst a
      rcases k with k | k
      · exact absurd k b
      · rw [h.mem, jl_mem] at k
        exact k, Nat.le_succ_of_le h.few⟩
theorem Lft.add {cl dl ls : Cl} {n : Str} {i : Nat} {x : Str × Bool} (h : Lft cl dl n i ls) (e : dl[i]? = some x) (k : x.1 ≠ n) (k1 : x ∉ ls) (k2 : (x.1, !x.2) ∉ ls) : Lft cl dl n (i + 1) (ls ++ [x]) := ⟨by
  rw [List.map_append, List.nodup_append]
  refine ⟨h.nd, by simp, fun a ha b hb z => ?_⟩
  obtain ⟨u, hu1, rfl⟩ := List.mem_map.mp ha
  have hb' : b = x.1 := by simpa using hb
  rw [hb'] at z
  by_cases e2 : u.2 = x.2
  · exact k1 (by rw [← Prod.ext z e2]; exact hu1)
  · have e3 : u.2 = !x.2 := by cases h1 : u.2 <;> cases h2 : x.2 <;> simp_all
    exact k2 (by rw [← z, ← e3]; exact hu1), fun y => by
  rw [List.mem_append, h.mem, jl_mem, jl_mem, take_at e, List.mem_append, List.mem_singleton]
  constructor
  · rintro (⟨a | a, b⟩ | a)
    · exact ⟨.inl a, b⟩
    · exact ⟨.inr (.inl a), b⟩
    · subst a
      exact ⟨.inr (.inr rfl), k⟩
  · rintro ⟨a | a | a, b⟩
    · exact .inl ⟨.inl a, b⟩
    · exact .inl ⟨.inr a, b⟩
    · exact .inr a, by rw [List.length_append, List.length_singleton]; have := h.few; omega⟩
theorem Lft.clash {cl dl ls : Cl} {n : Str} {i : Nat} {x : Str × Bool} (h : Lft cl dl n i ls) (e : dl[i]? = some x) (k : x.1 ≠ n) (k2 : (x.1, !x.2) ∈ ls) : ¬ One (jl cl dl n) := fun o => by
  have h1 : x ∈ jl cl dl n := jl_mem.mpr ⟨.inr (List.mem_of_getElem? e), k⟩
  have h2 : (x.1, !x.2) ∈ jl cl dl n := by
    obtain ⟨a, b⟩ := jl_mem.mp ((h.mem _).mp k2)
    exact jl_mem.mpr ⟨a.imp id List.mem_of_mem_take, b⟩
  have := o _ h1 _ h2 rfl
  cases hx : x.2 <;> simp [hx] at this
theorem Lft.one {cl dl ls : Cl} {n : Str} {i : Nat} (h : Lft cl dl n i ls) (hi : dl.length ≤ i) : One (jl cl dl n) := fun x hx y hy e => by
  have m : ∀ z, z ∈ jl cl dl n → z ∈ ls := fun z hz => by rw [h.mem, List.take_of_length_le hi]; exact hz
  obtain ⟨a, ha, ea⟩ := List.mem_iff_getElem.mp (m x hx)
  obtain ⟨b, hb, eb⟩ := List.mem_iff_getElem.mp (m y hy)
  have : a = b := (List.getElem_inj (xs := ls.map (·.1)) (h₀ := by simpa using ha) (h₁ := by simpa using hb) h.nd).mp (by rw [List.getElem_map, List.getElem_map, ea, eb]; exact e)
  subst this
  rw [ea] at eb
  rw [eb]
theorem ok_due (T : Txt K mg t) : FnOk P w K mg base CX0 1 t.a__law_due t.d__law_due ["_law_one", "_law_other", "_law_name"] spDue := by
  refine T.F__law_due.okZ sc__law_due (fun vs H Q E h => ?_) (fun cdv A outer s H vs Q E hr h hc hf => ?_)
  · obtain ⟨A, B, n, rfl, _⟩ := h; rfl
  obtain ⟨A, B, n, rfl, cl, dl, hA, hB, q⟩ := h
  obtain ⟨qs, hA1, la⟩ := hA.at_
  obtain ⟨ps, hB1, lb⟩ := hB.at_
  have fa := hA.few
  have fb := hB.few
  have hu := hu_of hr
  have hu0 := hr.units0
  refine ⟨_, (by apply zqss_cons; exact (zpsk_comp hc sc__law_due.nd 3 (by decide +kernel) ["_law_literal"] [2] rfl (by decide +kernel) (zpi_tup (zpvk hc 0 (by decide +kernel))) (fun _ hc => zpgb hc (by decide +kernel) 0 (by decide +kernel)) (fun _ hc => zpifs_one (zpt_cmpR op_ne (zpe_ix ix_t (zpvk hc 0 (by decide +kernel)) zpe_int (fun _ _ => rfl)) (zpvk hc 1 (by decide +kernel)) (nomark _))) (fun _ hc => (zpvk hc 0 (by decide +kernel))) (by rfl)); apply zqss_cons; exact (zqs_for PassesOwn.never rfl (zpi_tup (zpvk hc 1 (by decide +kernel))) (zpgk hc sc__law_due.nd hf 4 (by decide +kernel)) (by exact zqss_one (zqs_if (zPWpt (zpw_and (zpt_cmpR op_ne (zpe_ix ix_t (zpvk hc 4 (by decide +kernel)) zpe_int (fun _ _ => rfl)) (zpvk hc 2 (by decide +kernel)) (nomark _)) (zpw_and1 (zpt_cmpR (op_notInP hu) (zpvk hc 4 (by decide +kernel)) (zpvk hc 3 (by decide +kernel)) (by with_unfolding_all rfl))))) (by apply zqss_cons; exact (zqs_if (zpt_cmpR (op_inP hu) (zpe_tup (zpa_cons (zpe_ix ix_t (zpvk hc 4 (by decide +kernel)) zpe_int (fun _ _ => rfl)) (zpa_cons (zpe_not (zpe_ix ix_t (zpvk hc 4 (by decide +kernel)) zpe_int (fun _ _ => rfl))) zpa_nil))) (zpvk hc 3 (by decide +kernel)) (by with_unfolding_all rfl)) (by exact zqss_one (zps_ret zpe_non)) zqss_nil); exact zqss_one (zps_expr (zpe_bm PySem.F.plainAttrs_list PySem.F.slot_list_append PySem.F.type_list_append mt_append (zpvk hc 3 (by decide +kernel)) (zpa_cons (zpvk hc 4 (by decide +kernel)) zpa_nil)))) zqss_nil))); exact zqss_one (zps_ret (zpe_callTy call_tupleL (glk hc (by decide +kernel)) T.z_tuple b_tuple (zpa_cons (zpe_callB call_sortP (glk hc (by decide +kernel)) T.z_sorted b_sorted (zpa_cons (zpvk hc 3 (by decide +kernel)) zpa_nil)) zpa_nil)))), ?_⟩
  repeat (walk_at "rd")
  refine ⟨⟨_, sqT_of hA1⟩, ?_⟩
  refine comp_but hA1 la rfl (by omega) fun Z rs0 H1 s1 hZ hZ1 lr0 => ?_
  repeat (walk_at "rd")
  refine ⟨⟨_, sqT_of (s1 _ _ hB1)⟩, ?_⟩
  obtain ⟨Pv, hPv⟩ : ∃ Pv : Nat → St → Hp → Prop, ∀ i σ' H', Pv i σ' H' ↔ ∃ (rs : List Addr) (ls : Cl) (x : Option V), σ' = [some (.ref A), some (.ref B), some (.str n), some (.ref Z), x] ∧ Same H H' ∧ H' Z = some (.lst (List.map V.ref rs)) ∧ Lits H' rs ls ∧ Lft cl dl n i ls := ⟨_, fun _ _ _ => Iff.rfl⟩
  have lf := List.length_filter_le (fun x : Str × Bool => !decide (x.1 = n)) cl
  refine forAll_tup (xs := List.map V.ref ps) Pv ((hPv _ _ _).mpr ⟨rs0, _, none, rfl, s1, hZ1, lr0, ⟨nodup_but hA.inc, fun x => by rw [jl_mem, List.mem_filter, List.take_zero]; simp, by omega⟩⟩) (fun i σ' H' _ pv => ?_) (fun i z σ' H2 hz pv => ?_) (fun σ' H2 pv => ?_)
  · obtain ⟨_, _, _, _, s, _⟩ := (hPv _ _ _).mp pv
    exact s _ _ hB1
  · obtain ⟨rs, ls, x, rfl, s2, hZ2, lr, lft⟩ := (hPv _ _ _).mp pv
    obtain ⟨b0, eb, rfl⟩ := ref_at hz
    obtain ⟨m, b, ec, hb0⟩ := lb.at eb
    have hi : i < dl.length := (List.getElem?_eq_some_iff.mp ec).1
    have hb2 := s2 _ _ hb0
    have ll := lr.1
    have lfew := lft.few
    repeat (first | walk_at "rd" | simp only [hb2])
    by_cases hm : m = n
    · rw [if_neg (by simp [hm])]
      exact (hPv _ _ _).mpr ⟨rs, ls, _, rfl, s2, hZ2, lr, lft.skip ec (.inl hm)⟩
    · rw [if_pos (by simp [hm])]
      refine ⟨(m, b), hb2, rs, .inr hZ2, ls, lr, ?_⟩
      by_cases h1 : (m, b) ∈ ls
      · rw [if_neg (by simp [h1])]
        exact (hPv _ _ _).mpr ⟨rs, ls, _, rfl, s2, hZ2, lr, lft.skip ec (.inr h1)⟩
      · rw [if_pos (by simp [h1])]
        repeat (first | walk_at "rd" | simp only [hb2])
        refine ⟨by decide, fun p1 hp1 => ?_⟩
        have s3 := same_new hp1 (.tup [.str m, .bl (!b)])
        have l1 : LitAt (upd H2 p1 (.tup [.str m, .bl (!b)])) p1 (m, !b) := upd_same
        generalize upd H2 p1 (.tup [.str m, .bl (!b)]) = H3 at s3 l1 ⊢
        have hZ3 := s3 _ _ hZ2
        have lr3 := lr.mono (tups_of s3)
        refine ⟨_, l1, rs, .inr hZ3, ls, lr3, ?_⟩
        by_cases h2 : (m, !b) ∈ ls
        · rw [if_pos h2]
          exact (q _ (s2.trans s3)).1 (lft.clash ec hm h2)
        · rw [if_neg h2]
          refine ⟨.inl ⟨rfl, _, sqL_of hZ3⟩, _, hZ3, by rw [List.length_map]; exact small1000 (by omega), (hPv _ _ _).mpr ⟨rs ++ [b0], ls ++ [(m, b)], _, rfl, same_put' (s2.trans s3) hZ, ?_, ?_, lft.add ec hm h1 h2⟩⟩
          · rw [upd_same, List.map_append]; rfl
          · refine (lr3.mono (tups_put hZ3)).snoc ?_
            show upd _ Z _ b0 = _
            rw [upd_ne (ne_of hb2 hZ2 (by intro z; cases z))]
            exact s3 _ _ hb2
  · obtain ⟨rs, ls, x, rfl, s2, hZ2, lr, lft⟩ := (hPv _ _ _).mp pv
    rw [List.length_map, lb.1] at lft
    repeat (walk_at "rd")
    have ll := lr.1
    have lfew := lft.few
    refine ⟨rs, hZ2, ls, lr, by omega, lft.nd, fun ks kl pm srt lk p4 hp4 => ?_⟩
    have s5 := same_new hp4 (.lst (List.map V.ref ks))
    repeat (walk_at "rd")
    intro p5 hp5
    have s6 := same_new hp5 (.tup (List.map V.ref ks))
    have sa := s2.trans (s5.trans s6)
    refine (q _ sa).2 (lft.one (Nat.le_refl _)) p5 kl ⟨ks, upd_same, lk.mono (tups_of (s5.trans s6))⟩ ⟨inc_of_pw srt, fun x => ?_⟩
    rw [pm.mem_iff, lft.mem, List.take_length]
end

local macro_rules | `(tactic| walk_at "rd") => `(tactic| walk_at "rc")

/-! ### what is told -/
def Refd (cl dl : Cl) (n : Str) : Prop := (n, true) ∉ cl ∨ (n, false) ∉ dl
def spLTold : Sp := fun vs H Q _ => ∃ A B n, vs = [.ref A, .ref B, .str n] ∧ ∃ cl dl, ClJ H cl A ∧ ClJ H dl B ∧
  (Refd cl dl n → ∀ p H', Same H H' → H' p = some (.tup [.str (Str.ofString "refused"), .str n]) → Q (.ref p) H') ∧
  (¬ Refd cl dl n → ∀ p H', Same H H' → (¬ One (jl cl dl n) → H' p = some (.tup [.str (Str.ofString "told"), .non]) → Q (.ref p) H') ∧
    (One (jl cl dl n) → ∀ c kl, ClAt H' kl c → ClOf (jl cl dl n) kl → H' p = some (.tup [.str (Str.ofString "told"), .ref c]) → Q (.ref p) H'))
theorem len_sub {α : Type} [DecidableEq α] : ∀ {l m : List α}, l.Nodup → (∀ x ∈ l, x ∈ m) → l.length ≤ m.length
  | [], _, _, _ => Nat.zero_le _
  | a :: l, m, nd, h => by
    have ha := h a List.mem_cons_self
    have h1 := len_sub (l := l) (m := m.erase a) (List.nodup_cons.mp nd).2 fun x hx => by
      rw [List.mem_erase_of_ne (fun e => (List.nodup_cons.mp nd).1 (by rw [← e]; exact hx))]
      exact h x (List.mem_cons_of_mem _ hx)
    rw [List.length_erase_of_mem ha] at h1
    have := List.length_pos_of_mem ha
    rw [List.length_cons]
    omega
def spRight : Sp := fun vs H Q _ => ∃ A B n, vs = [.ref A, .ref B, .str n] ∧ ∃ cl dl, ClJ H cl A ∧ ClJ H dl B ∧ ∀ H', Same H H' → Q (.bl true) H'
section
variable {P : Program} {w : World} {K : PySem.W.Frag} {mg : Str → Option Value} {base : Heap} {t : Adr}
theorem ok_ltold (T : Txt K mg t) : FnOk P w K mg base CX0 4 t.a__law_told t.d__law_told ["_law_one", "_law_other", "_law_name"] spLTold := by
  have G_joined := ok_joined (P := P) (w := w) (base := base) T
  refine T.F__law_told.okZ sc__law_told (fun vs H Q E h => ?_) (fun cdv A outer s H vs Q E hr h hc hf => ?_)
  · obtain ⟨A, B, n, rfl, _⟩ := h; rfl
  obtain ⟨A, B, n, rfl, cl, dl, hA, hB, qr, qt⟩ := h
  have hu := hu_of hr
  have hu0 := hr.units0
  refine ⟨_, (by apply zqss_cons; exact (zpsk_try hc sc__law_told.nd 4 (by decide +kernel) rfl rfl T.x_NoJoin.is (glk hc (by decide +kernel)) T.m_NoJoin (fun EH xe pn L hpo => (fun hc hf => (by exact zqss_one (zpsk_set hc sc__law_told.nd hf 3 (by decide +kernel) (zpe_callE (EH := EH) G_joined (hr.mono (by omega)) (glk hc (by decide +kernel)) T.m_joined T.F_joined.kp T.b_joined L (zpa_cons (zpvk hc 0 (by decide +kernel)) (zpa_cons (zpvk hc 1 (by decide +kernel)) (zpa_cons (zpvk hc 2 (by decide +kernel)) zpa_nil))))))) (hcT (xe := xe) (pn := pn) hc) (hfT (xe := xe) (pn := pn) hf)) (fun e => (fun hc hf => (by apply zqss_cons; exact (zqs_if (zPWpt (zpw_or (zpt_val (zpe_callB (call_isiXCK (K := K) rfl) (glk hc (by decide +kernel)) T.z_isinstance b_isinstance (zpa_cons (zpvk hc 4 (by decide +kernel)) (zpa_cons (zpe_glob (v := V.ref t.c_NoFact) (glk hc (by decide +kernel)) T.m_NoFact rfl) zpa_nil)))) (zpw_or (zpt_val (zpe_callB (call_isiXCK (K := K) rfl) (glk hc (by decide +kernel)) T.z_isinstance b_isinstance (zpa_cons (zpvk hc 4 (by decide +kernel)) (zpa_cons (zpe_glob (v := V.ref t.c_NoText) (glk hc (by decide +kernel)) T.m_NoText rfl) zpa_nil)))) (zpw_or1 (zpt_not (zpt_val (zpe_callB (call_isiXCK (K := K) rfl) (glk hc (by decide +kernel)) T.z_isinstance b_isinstance (zpa_cons (zpvk hc 4 (by decide +kernel)) (zpa_cons (zpe_glob (v := V.ref t.c_TruceError) (glk hc (by decide +kernel)) T.m_TruceError rfl) zpa_nil))))))))) (by exact zqss_one (zps_ret (zpe_tup (zpa_cons zpe_str (zpa_cons zpe_str zpa_nil))))) zqss_nil); exact zqss_one (zps_ret (zpe_tup (zpa_cons zpe_str (zpa_cons (zpe_fldX (K := K) rfl (zpvk hc 4 (by decide +kernel)) rfl) zpa_nil)))))) (hcS (e := e) hc) (hfS (e := e) hf))); exact zqss_one (zps_ret (zpe_tup (zpa_cons zpe_str (zpa_cons (zpvk hc 3 (by decide +kernel)) zpa_nil))))), ?_⟩
  repeat (walk_at "rd")
  refine ⟨fun σ' C dx H' => σ' = [some (.ref A), some (.ref B), some (.str n), none, none] ∧ C = .ref t.c_NoJoin ∧ Same H H' ∧ ∃ d, dx = some d ∧ H' d = some (.xd [("name", .str n)]) ∧ Refd cl dl n, ?_, ?_⟩
  · refine ⟨A, B, n, rfl, cl, dl, hA, hB, fun r dx H1 s1 hd => ⟨rfl, rfl, s1, dx, rfl, hd, r⟩, fun h1 h2 H1 s1 => ?_⟩
    have nr : ¬ Refd cl dl n := fun z => z.elim (fun y => y h1) (fun y => y h2)
    refine ⟨fun no => ?_, fun o c kl hk ck => ?_⟩
    · repeat (walk_at "rd")
      exact ⟨by decide, fun p hp => ((qt nr p _ (s1.trans (same_new hp _))).1 no upd_same)⟩
    · repeat (walk_at "rd")
      exact ⟨by decide, fun p hp => ((qt nr p _ (s1.trans (same_new hp _))).2 o c kl (hk.mono (tups_new hp)) ck upd_same)⟩
  · rintro σ' C dx H1 ⟨rfl, eC, s1, d, rfl, hd, rf⟩
    cases eC
    refine ⟨T.su_NoJoin_NoJoin, fun e he => ?_⟩
    have hde : d ≠ e := ne_of_none hd he
    repeat (walk_at "rd")
    have s2 := s1.trans (same_new he (.ext (XOb e t.c_NoJoin (some d))))
    have hd2 : upd H1 e (.ext (XOb e t.c_NoJoin (some d))) d = some (.xd [("name", .str n)]) := by rw [upd_ne hde]; exact hd
    have he2 : upd H1 e (.ext (XOb e t.c_NoJoin (some d))) e = some (.ext (XOb e t.c_NoJoin (some d))) := upd_same
    generalize upd H1 e (.ext (XOb e t.c_NoJoin (some d))) = H2 at s2 hd2 he2 ⊢
    have xd : ∀ {H' : Hp}, Same H2 H' → XDict H' (some d) := fun sm d' e' => by cases e'; exact ⟨_, sm _ _ hd2⟩
    have xd0 := xd (fun _ _ z => z)
    refine ⟨t.c_NoJoin, some d, rfl, xd0, T.x_NoJoin, false, T.ki_NoJoin_NoFact, ?_⟩
    rw [if_neg (by decide)]
    refine ⟨t.c_NoJoin, some d, rfl, xd0, T.x_NoJoin, false, T.ki_NoJoin_NoText, ?_⟩
    rw [if_neg (by decide)]
    refine ⟨t.c_NoJoin, some d, rfl, xd0, T.x_NoJoin, true, T.ki_NoJoin_TruceError, ?_⟩
    rw [if_neg (by decide)]
    repeat (walk_at "rd")
    exact ⟨t.c_NoJoin, d, rfl, T.x_NoJoin, T.nf_NoJoin, _, hd2, .str n, rfl, by decide, fun p hp => qr rf p _ (s2.trans (same_new hp _)) upd_same⟩
theorem ok_right (T : Txt K mg t) : FnOk P w K mg base CX0 5 t.a__law_right t.d__law_right ["_law_one", "_law_other", "_law_name"] spRight := by
  have G__law_told := ok_ltold (P := P) (w := w) (base := base) T
  have G__law_due := ok_due (P := P) (w := w) (base := base) T
  have G__law_told_clause := ok_told (P := P) (w := w) (base := base) T
  refine T.F__law_right.okZ sc__law_right (fun vs H Q E h => ?_) (fun cdv A outer s H vs Q E hr h hc hf => ?_)
  · obtain ⟨A, B, n, rfl, _⟩ := h; rfl
  obtain ⟨A, B, n, rfl, cl, dl, hA, hB, q⟩ := h
  have hu := hu_of hr
  have hu0 := hr.units0
  refine ⟨_, (by apply zqss_cons; exact (zpsk_set hc sc__law_right.nd hf 3 (by decide +kernel) (zpe_call G__law_told (hr.mono (by omega)) (glk hc (by decide +kernel)) T.m__law_told T.F__law_told.kp T.b__law_told .nil pass0 (zpa_cons (zpvk hc 0 (by decide +kernel)) (zpa_cons (zpvk hc 1 (by decide +kernel)) (zpa_cons (zpvk hc 2 (by decide +kernel)) zpa_nil))))); apply zqss_cons; exact (zqs_if (zPWpt (zpw_or (zpt_cmpR (op_notInP hu) (zpe_tup (zpa_cons (zpvk hc 2 (by decide +kernel)) (zpa_cons zpe_bl zpa_nil))) (zpvk hc 0 (by decide +kernel)) (by with_unfolding_all rfl)) (zpw_or1 (zpt_cmpR (op_notInP hu) (zpe_tup (zpa_cons (zpvk hc 2 (by decide +kernel)) (zpa_cons zpe_bl zpa_nil))) (zpvk hc 1 (by decide +kernel)) (by with_unfolding_all rfl))))) (by exact zqss_one (zps_ret (zpe_cmpR (op_eqTS hu) (zpvk hc 3 (by decide +kernel)) (zpe_tup (zpa_cons zpe_str (zpa_cons (zpvk hc 2 (by decide +kernel)) zpa_nil))) (nomark _)))) zqss_nil); apply zqss_cons; exact (zpsk_set hc sc__law_right.nd hf 4 (by decide +kernel) (zpe_call G__law_due (hr.mono (by omega)) (glk hc (by decide +kernel)) T.m__law_due T.F__law_due.kp T.b__law_due .nil pass0 (zpa_cons (zpvk hc 0 (by decide +kernel)) (zpa_cons (zpvk hc 1 (by decide +kernel)) (zpa_cons (zpvk hc 2 (by decide +kernel)) zpa_nil))))); apply zqss_cons; exact (zqs_if (zpt_cmpR op_isN (zpvk hc 4 (by decide +kernel)) zpe_non (nomark _)) (by exact zqss_one (zps_ret (zpe_and (zpe_cmpR op_eq (zpe_ix ix_t (zpvk hc 3 (by decide +kernel)) zpe_int (fun _ _ => rfl)) zpe_str (nomark _)) (zpe_one (zpe_cmpR op_isN (zpe_ix ix_t (zpvk hc 3 (by decide +kernel)) zpe_int (fun _ _ => rfl)) zpe_non (nomark _)))))) zqss_nil); exact zqss_one (zps_ret (zpe_and (zpe_cmpR op_eq (zpe_ix ix_t (zpvk hc 3 (by decide +kernel)) zpe_int (fun _ _ => rfl)) zpe_str (nomark _)) (zpe_one (zpe_call G__law_told_clause (hr.mono (by omega)) (glk hc (by decide +kernel)) T.m__law_told_clause T.F__law_told_clause.kp T.b__law_told_clause .nil pass0 (zpa_cons (zpe_ix ix_t (zpvk hc 3 (by decide +kernel)) zpe_int (fun _ _ => rfl)) (zpa_cons (zpvk hc 4 (by decide +kernel)) zpa_nil))))))), ?_⟩
  repeat (walk_at "rd")
  obtain ⟨qs, hA1, la⟩ := hA.at_
  obtain ⟨ps, hB1, lb⟩ := hB.at_
  refine ⟨A, B, n, rfl, cl, dl, hA, hB, fun rf p H1 s1 hp => ?_, fun nr p H1 s1 => ⟨fun no hp => ?_, fun o c kl hk ck hp => ?_⟩⟩
  · clear hA hB
    refine ⟨by decide, fun p1 hp1 => ?_⟩
    have s2 := same_new hp1 (.tup [.str n, .bl true])
    have l1 : LitAt (upd H1 p1 (.tup [.str n, .bl true])) p1 (n, true) := upd_same
    generalize upd H1 p1 (.tup [.str n, .bl true]) = H2 at s2 l1 ⊢
    have s12 := s1.trans s2
    refine ⟨_, l1, qs, .inl (s12 _ _ hA1), cl, la.mono (tups_of s12), ?_⟩
    have fin : ∀ {H3 : Hp}, Same H2 H3 → ∀ p3, H3 p3 = none → ∃ p_2, V.ref p = V.ref p_2 ∧ ∃ xs, upd H3 p3 (HO.tup [V.str (Str.ofString "refused"), V.str n]) p_2 = some (HO.tup (List.map V.str xs)) ∧ ∃ x, [V.str (Str.ofString "refused"), V.str n] = List.map V.str x ∧ Q (V.bl (decide (xs = x))) (upd H3 p3 (HO.tup [V.str (Str.ofString "refused"), V.str n])) := fun {H3} s3 p3 hp3 => by
      refine ⟨p, rfl, [Str.ofString "refused", n], ?_, [Str.ofString "refused", n], rfl, ?_⟩
      · exact same_new hp3 _ _ _ (s3 _ _ (s2 _ _ hp))
      · rw [decide_eq_true rfl]
        exact q _ ((s12.trans s3).trans (same_new hp3 _))
    by_cases h1 : (n, true) ∈ cl
    · rw [if_neg (by simp [h1])]
      refine ⟨by decide, fun p2 hp2 => ?_⟩
      have s3 := same_new hp2 (.tup [.str n, .bl false])
      have l2 : LitAt (upd H2 p2 (.tup [.str n, .bl false])) p2 (n, false) := upd_same
      generalize upd H2 p2 (.tup [.str n, .bl false]) = H3 at s3 l2 ⊢
      have s13 := s12.trans s3
      refine ⟨_, l2, ps, .inl (s13 _ _ hB1), dl, lb.mono (tups_of s13), ?_⟩
      have h2 : (n, false) ∉ dl := rf.elim (fun z => absurd h1 z) id
      rw [if_pos (by simp [h2])]
      refine ⟨by decide, fun p3 hp3 => ?_⟩
      simpa using fin s3 p3 hp3
    · rw [if_pos (by simp [h1])]
      refine ⟨by decide, fun p3 hp3 => ?_⟩
      simpa using fin (fun _ _ z => z) p3 hp3
  · refine ⟨by decide, fun p1 hp1 => ?_⟩
    have s2 := same_new hp1 (.tup [.str n, .bl true])
    have l1 : LitAt (upd H1 p1 (.tup [.str n, .bl true])) p1 (n, true) := upd_same
    generalize upd H1 p1 (.tup [.str n, .bl true]) = H2 at s2 l1 ⊢
    have s12 := s1.trans s2
    refine ⟨_, l1, qs, .inl (s12 _ _ hA1), cl, la.mono (tups_of s12), ?_⟩
    have h1 : (n, true) ∈ cl := Classical.byContradiction fun z => nr (.inl z)
    have h2 : (n, false) ∈ dl := Classical.byContradiction fun z => nr (.inr z)
    rw [if_neg (by simp [h1])]
    refine ⟨by decide, fun p2 hp2 => ?_⟩
    have s3 := same_new hp2 (.tup [.str n, .bl false])
    have l2 : LitAt (upd H2 p2 (.tup [.str n, .bl false])) p2 (n, false) := upd_same
    generalize upd H2 p2 (.tup [.str n, .bl false]) = H3 at s3 l2 ⊢
    have s13 := s12.trans s3
    refine ⟨_, l2, ps, .inl (s13 _ _ hB1), dl, lb.mono (tups_of s13), ?_⟩
    rw [if_neg (by simp [h2])]
    refine ⟨A, B, n, rfl, cl, dl, hA.mono (tups_of s13), hB.mono (tups_of s13), fun H4 s4 => ?_⟩
    have s14 := s13.trans s4
    have hp4 := s4 _ _ (s3 _ _ (s2 _ _ hp))
    refine ⟨fun _ => ?_, fun o => absurd o no⟩
    repeat (first | walk_at "rd" | simp only [hp4])
    simpa using q _ s14
  · refine ⟨by decide, fun p1 hp1 => ?_⟩
    have s2 := same_new hp1 (.tup [.str n, .bl true])
    have l1 : LitAt (upd H1 p1 (.tup [.str n, .bl true])) p1 (n, true) := upd_same
    generalize upd H1 p1 (.tup [.str n, .bl true]) = H2 at s2 l1 ⊢
    have s12 := s1.trans s2
    refine ⟨_, l1, qs, .inl (s12 _ _ hA1), cl, la.mono (tups_of s12), ?_⟩
    have h1 : (n, true) ∈ cl := Classical.byContradiction fun z => nr (.inl z)
    have h2 : (n, false) ∈ dl := Classical.byContradiction fun z => nr (.inr z)
    rw [if_neg (by simp [h1])]
    refine ⟨by decide, fun p2 hp2 => ?_⟩
    have s3 := same_new hp2 (.tup [.str n, .bl false])
    have l2 : LitAt (upd H2 p2 (.tup [.str n, .bl false])) p2 (n, false) := upd_same
    generalize upd H2 p2 (.tup [.str n, .bl false]) = H3 at s3 l2 ⊢
    have s13 := s12.trans s3
    refine ⟨_, l2, ps, .inl (s13 _ _ hB1), dl, lb.mono (tups_of s13), ?_⟩
    rw [if_neg (by simp [h2])]
    refine ⟨A, B, n, rfl, cl, dl, hA.mono (tups_of s13), hB.mono (tups_of s13), fun H4 s4 => ?_⟩
    have s14 := s13.trans s4
    have hp4 := s4 _ _ (s3 _ _ (s2 _ _ hp))
    refine ⟨fun no => absurd o no, fun _ D kl' hD cD => ?_⟩
    have ek : kl' = kl := cD.same ck
    subst ek
    repeat (first | walk_at "rd" | simp only [hp4])
    have lj := List.length_filter_le (fun x : Str × Bool => !decide (x.1 = n)) (cl ++ dl)
    rw [List.length_append] at lj
    have lk := len_sub (pairs_nodup ck.1) fun x hx => (ck.2 x).mp hx
    have fa := hA.few
    have fb := hB.few
    have lk' : kl'.length ≤ (jl cl dl n).length := lk
    have lj' : (jl cl dl n).length ≤ cl.length + dl.length := lj
    exact ⟨c, D, rfl, kl', ⟨hk.mono (tups_of (s2.trans (s3.trans s4))), ck.1, by omega⟩, hD, fun H5 s5 => q _ (s14.trans s5)⟩
end

local macro_rules | `(tactic| walk_at "rd") => `(tactic| walk_at "rc")

/-! ### what is told stands -/
theorem fst_one : ∀ {cl : Cl} {x y : Str × Bool}, (cl.map (·.1)).Nodup → x ∈ cl → y ∈ cl → x.1 = y.1 → x = y
  | [], _, _, _, hx, _, _ => nomatch hx
  | z :: cl, x, y, nd, hx, hy, e => by
    rw [List.map_cons, List.nodup_cons] at nd
    rcases List.mem_cons.mp hx with hx | hx <;> rcases List.mem_cons.mp hy with hy | hy
    · rw [hx, hy]
    · exact absurd (List.mem_map.mpr ⟨y, hy, by rw [← e, hx]⟩) nd.1
    · exact absurd (List.mem_map.mpr ⟨x, hx, by rw [e, hy]⟩) nd.1
    · exact fst_one nd.2 hx hy e
theorem sound_jl {cl dl kl : Cl} {n : Str} {f : Str → Bool} (ia : Inc (cl.map (·.1))) (ib : Inc (dl.map (·.1))) (h1 : (n, true) ∈ cl) (h2 : (n, false) ∈ dl) (ck : ClOf (jl cl dl n) kl) (s1 : (cl.any fun x => f x.1 == x.2) = true) (s2 : (dl.any fun x => f x.1 == x.2) = true) : (kl.any fun x => f x.1 == x.2) = true := by
  obtain ⟨x, hx, ex⟩ := List.any_eq_true.mp s1
  obtain ⟨y, hy, ey⟩ := List.any_eq_true.mp s2
  by_cases hxn : x.1 = n
  · by_cases hyn : y.1 = n
    · have e1 := fst_one (inc_nodup ia) hx h1 hxn
      have e2 := fst_one (inc_nodup ib) hy h2 hyn
      rw [e1] at ex
      rw [e2] at ey
      simp at ex ey
      rw [ex] at ey
      cases ey
    · exact List.any_eq_true.mpr ⟨y, (ck.2 y).mpr (jl_mem.mpr ⟨.inr hy, hyn⟩), ey⟩
  · exact List.any_eq_true.mpr ⟨x, (ck.2 x).mpr (jl_mem.mpr ⟨.inl hx, hxn⟩), ex⟩
def spSound : Sp := fun vs H Q _ => ∃ A B n N, vs = [.ref A, .ref B, .str n, .ref N] ∧ ∃ cl dl, ∃ ss : List Str, ClJ H cl A ∧ ClJ H dl B ∧ H N = some (.lst (List.map V.str ss)) ∧ ss.length ≤ 8 ∧ ss.Nodup ∧ (∀ x ∈ cl, x.1 ∈ ss) ∧ (∀ x ∈ dl, x.1 ∈ ss) ∧ (n, true) ∈ cl ∧ (n, false) ∈ dl ∧ ∀ H', Same H H' → Q (.bl true) H'
section
variable {P : Program} {w : World} {K : PySem.W.Frag} {mg : Str → Option Value} {base : Heap} {t : Adr}
theorem ok_sound (T : Txt K mg t) : FnOk P w K mg base CX0 4 t.a__law_sound t.d__law_sound ["_law_one", "_law_other", "_law_name", "_law_names_here"] spSound := by
  have G_joined := ok_joined (P := P) (w := w) (base := base) T
  have G__law_all_facts := ok_lrows (P := P) (w := w) (base := base) T
  have G__law_stands := ok_stands (P := P) (w := w) (base := base) T
  refine T.F__law_sound.okZ sc__law_sound (fun vs H Q E h => ?_) (fun cdv A outer s H vs Q E hr h hc hf => ?_)
  · obtain ⟨A, B, n, N, rfl, _⟩ := h; rfl
  obtain ⟨A, B, n, N, rfl, cl, dl, ss, hA, hB, hN, l8, nd, na, nb, h1, h2, q⟩ := h
  have hu := hu_of hr
  have hu0 := hr.units0
  refine ⟨_, (by apply zqss_cons; exact (zpsk_set hc sc__law_sound.nd hf 4 (by decide +kernel) (zpe_call G_joined (hr.mono (by omega)) (glk hc (by decide +kernel)) T.m_joined T.F_joined.kp T.b_joined .nil passE (zpa_cons (zpvk hc 0 (by decide +kernel)) (zpa_cons (zpvk hc 1 (by decide +kernel)) (zpa_cons (zpvk hc 2 (by decide +kernel)) zpa_nil))))); apply zqss_cons; exact (zqs_for PassesOwn.never rfl (zpi_list (zpe_call G__law_all_facts (hr.mono (by omega)) (glk hc (by decide +kernel)) T.m__law_all_facts T.F__law_all_facts.kp T.b__law_all_facts .nil pass0 (zpa_cons (zpvk hc 3 (by decide +kernel)) zpa_nil))) (zpgk hc sc__law_sound.nd hf 5 (by decide +kernel)) (by exact zqss_one (zqs_if (zPWpt (zpw_and (zpt_val (zpe_call G__law_stands (hr.mono (by omega)) (glk hc (by decide +kernel)) T.m__law_stands T.F__law_stands.kp T.b__law_stands .nil pass0 (zpa_cons (zpvk hc 0 (by decide +kernel)) (zpa_cons (zpvk hc 5 (by decide +kernel)) zpa_nil)))) (zpw_and1 (zpt_val (zpe_call G__law_stands (hr.mono (by omega)) (glk hc (by decide +kernel)) T.m__law_stands T.F__law_stands.kp T.b__law_stands .nil pass0 (zpa_cons (zpvk hc 1 (by decide +kernel)) (zpa_cons (zpvk hc 5 (by decide +kernel)) zpa_nil))))))) (by exact zqss_one (zqs_if (zPWpt (zpw_and (zpt_cmpR op_notN (zpvk hc 4 (by decide +kernel)) zpe_non (nomark _)) (zpw_and1 (zpt_not (zpt_val (zpe_call G__law_stands (hr.mono (by omega)) (glk hc (by decide +kernel)) T.m__law_stands T.F__law_stands.kp T.b__law_stands .nil pass0 (zpa_cons (zpvk hc 4 (by decide +kernel)) (zpa_cons (zpvk hc 5 (by decide +kernel)) zpa_nil)))))))) (by exact zqss_one (zps_ret zpe_bl)) zqss_nil)) zqss_nil))); exact zqss_one (zps_ret zpe_bl)), ?_⟩
  repeat (walk_at "rd")
  refine ⟨A, B, n, rfl, cl, dl, hA, hB, fun z => (z.elim (fun y => absurd h1 y) fun y => absurd h2 y), fun _ _ H1 s1 => ?_⟩
  have fact : ∀ {kvs : List (Key × V)} {kl : Cl}, Fact kvs ss → (∀ x ∈ kl, x.1 ∈ ss) → Fact kvs (kl.map (·.1)) := fun fa h x hx => by
    obtain ⟨y, hy, rfl⟩ := List.mem_map.mp hx
    exact fa _ (h y hy)
  refine ⟨fun no => ?_, fun o c kl hk ck => ?_⟩
  · repeat (walk_at "rd")
    refine ⟨N, rfl, ss, s1 _ _ hN, l8, nd, fun R as H2 s2 hR hR2 hal rows => ?_⟩
    have s12 := s1.trans s2
    repeat (walk_at "rd")
    refine ⟨⟨_, sqL_of hR2⟩, ?_⟩
    obtain ⟨Pv, hPv⟩ : ∃ Pv : Nat → St → Hp → Prop, ∀ i σ' H', Pv i σ' H' ↔ ∃ (x : Option V), σ' = [some (.ref A), some (.ref B), some (.str n), some (.ref N), some .non, x] ∧ H' = H2 := ⟨_, fun _ _ _ => Iff.rfl⟩
    refine forAll_list (xs := List.map V.ref as) Pv ((hPv _ _ _).mpr ⟨none, rfl, rfl⟩) (fun i σ' H' _ pv => ?_) (fun i z σ' H3 hz pv => ?_) (fun σ' H3 pv => ?_)
    · obtain ⟨_, _, rfl⟩ := (hPv _ _ _).mp pv
      exact hR2
    · obtain ⟨x, rfl, rfl⟩ := (hPv _ _ _).mp pv
      obtain ⟨b0, eb, rfl⟩ := ref_at hz
      obtain ⟨_, kvs, hb, row⟩ := rows i b0 eb
      repeat (walk_at "rd")
      refine ⟨A, b0, rfl, cl, kvs, hA.at_.mono (tups_of s12), hb, fact row.fact na, _, rfl, ?_⟩
      split
      · refine ⟨B, b0, rfl, dl, kvs, hB.at_.mono (tups_of s12), hb, fact row.fact nb, _, rfl, ?_⟩
        split
        · exact (hPv _ _ _).mpr ⟨_, rfl, rfl⟩
        · exact (hPv _ _ _).mpr ⟨_, rfl, rfl⟩
      · exact (hPv _ _ _).mpr ⟨_, rfl, rfl⟩
    · obtain ⟨x, rfl, rfl⟩ := (hPv _ _ _).mp pv
      repeat (walk_at "rd")
      exact q _ s12
  · repeat (walk_at "rd")
    refine ⟨N, rfl, ss, s1 _ _ hN, l8, nd, fun R as H2 s2 hR hR2 hal rows => ?_⟩
    have s12 := s1.trans s2
    have hk2 := hk.mono (tups_of s2)
    have nk : ∀ x ∈ kl, x.1 ∈ ss := fun x hx => (jl_mem.mp ((ck.2 x).mp hx)).1.elim (na x) (nb x)
    repeat (walk_at "rd")
    refine ⟨⟨_, sqL_of hR2⟩, ?_⟩
    obtain ⟨Pv, hPv⟩ : ∃ Pv : Nat → St → Hp → Prop, ∀ i σ' H', Pv i σ' H' ↔ ∃ (x : Option V), σ' = [some (.ref A), some (.ref B), some (.str n), some (.ref N), some (.ref c), x] ∧ H' = H2 := ⟨_, fun _ _ _ => Iff.rfl⟩
    refine forAll_list (xs := List.map V.ref as) Pv ((hPv _ _ _).mpr ⟨none, rfl, rfl⟩) (fun i σ' H' _ pv => ?_) (fun i z σ' H3 hz pv => ?_) (fun σ' H3 pv => ?_)
    · obtain ⟨_, _, rfl⟩ := (hPv _ _ _).mp pv
      exact hR2
    · obtain ⟨x, rfl, rfl⟩ := (hPv _ _ _).mp pv
      obtain ⟨b0, eb, rfl⟩ := ref_at hz
      obtain ⟨_, kvs, hb, row⟩ := rows i b0 eb
      repeat (walk_at "rd")
      refine ⟨A, b0, rfl, cl, kvs, hA.at_.mono (tups_of s12), hb, fact row.fact na, _, rfl, ?_⟩
      split
      · rename_i y1
        refine ⟨B, b0, rfl, dl, kvs, hB.at_.mono (tups_of s12), hb, fact row.fact nb, _, rfl, ?_⟩
        split
        · rename_i y2
          refine ⟨c, b0, rfl, kl, kvs, hk2, hb, fact row.fact nk, _, rfl, ?_⟩
          rw [sound_jl (f := envK kvs) hA.inc hB.inc h1 h2 ck y1 y2]
          rw [if_neg (by simp)]
          exact (hPv _ _ _).mpr ⟨_, rfl, rfl⟩
        · exact (hPv _ _ _).mpr ⟨_, rfl, rfl⟩
      · exact (hPv _ _ _).mpr ⟨_, rfl, rfl⟩
    · obtain ⟨x, rfl, rfl⟩ := (hPv _ _ _).mp pv
      repeat (walk_at "rd")
      exact q _ s12
end

local macro_rules | `(tactic| walk_at "rd") => `(tactic| walk_at "rc")

/-! ### the law -/
def spLaw (K : PySem.W.Frag) : Sp := fun vs H Q _ => ∃ (a : Addr) (ns : List Int), vs = [.ref a] ∧ SqL K H a (List.map V.int ns) ∧ ns.length ≤ 63 ∧ ∀ H', Q (.bl true) H'
/-- a clause over these names -/
def ClN (H : Hp) (ss : List Str) (k : Nat) (C : Addr) : Prop := ∃ cl, ClAt H cl C ∧ Inc (cl.map (·.1)) ∧ (∀ x ∈ cl, x.1 ∈ ss) ∧ cl.length ≤ k
theorem ClN.mono {H H' : Hp} {ss : List Str} {k : Nat} {C : Addr} (h : ClN H ss k C) (z : Tups H H') : ClN H' ss k C := let ⟨cl, a, b, c, d⟩ := h; ⟨cl, a.mono z, b, c, d⟩
section
variable {P : Program} {w : World} {K : PySem.W.Frag} {mg : Str → Option Value} {base : Heap} {t : Adr}
theorem ok_law (T : Txt K mg t) : FnOk P w K mg base CX0 6 t.a_law t.d_law ["_law_script"] (spLaw K) := by
  have G__law_hand := ok_hand (P := P) (w := w) (base := base) T
  have G__law_draw := ok_draw (P := P) (w := w) (base := base) T
  have G__law_names := ok_names (P := P) (w := w) (base := base) T
  have G__law_clause := ok_clause (P := P) (w := w) (base := base) T
  have G__law_with := ok_with (P := P) (w := w) (base := base) T
  have G__law_right := ok_right (P := P) (w := w) (base := base) T
  have G__law_sound := ok_sound (P := P) (w := w) (base := base) T
  refine T.F_law.okZ sc_law (fun vs H Q E h => ?_) (fun cdv A outer s H vs Q E hr h hc hf => ?_)
  · obtain ⟨a, ns, rfl, _⟩ := h; rfl
  obtain ⟨a, ns, rfl, hL, hn, q⟩ := h
  have hu := hu_of hr
  have hu0 := hr.units0
  refine ⟨_, (by apply zqss_cons; exact (zpsk_set hc sc_law.nd hf 1 (by decide +kernel) (zpe_call G__law_hand (hr.mono (by omega)) (glk hc (by decide +kernel)) T.m__law_hand T.F__law_hand.kp T.b__law_hand .nil pass0 (zpa_cons (zpvk hc 0 (by decide +kernel)) zpa_nil))); apply zqss_cons; exact (zpsk_set hc sc_law.nd hf 2 (by decide +kernel) (zpe_call G__law_names (hr.mono (by omega)) (glk hc (by decide +kernel)) T.m__law_names T.F__law_names.kp T.b__law_names .nil pass0 (zpa_cons (zpvk hc 1 (by decide +kernel)) (zpa_cons (zpe_op op_add zpe_int (zpe_call G__law_draw (hr.mono (by omega)) (glk hc (by decide +kernel)) T.m__law_draw T.F__law_draw.kp T.b__law_draw .nil pass0 (zpa_cons (zpvk hc 1 (by decide +kernel)) (zpa_cons zpe_int zpa_nil)))) zpa_nil)))); apply zqss_cons; exact (zpsk_set hc sc_law.nd hf 3 (by decide +kernel) (zpe_ix ix_l (zpvk hc 2 (by decide +kernel)) (zpe_call G__law_draw (hr.mono (by omega)) (glk hc (by decide +kernel)) T.m__law_draw T.F__law_draw.kp T.b__law_draw .nil pass0 (zpa_cons (zpvk hc 1 (by decide +kernel)) (zpa_cons (zpe_callB call_lenL (glk hc (by decide +kernel)) T.z_len b_len (zpa_cons (zpvk hc 2 (by decide +kernel)) zpa_nil)) zpa_nil))) (fun _ _ => rfl))); apply zqss_cons; exact (zpsk_set hc sc_law.nd hf 4 (by decide +kernel) (zpe_call G__law_clause (hr.mono (by omega)) (glk hc (by decide +kernel)) T.m__law_clause T.F__law_clause.kp T.b__law_clause .nil pass0 (zpa_cons (zpvk hc 1 (by decide +kernel)) (zpa_cons (zpvk hc 2 (by decide +kernel)) zpa_nil)))); apply zqss_cons; exact (zpsk_set hc sc_law.nd hf 5 (by decide +kernel) (zpvk hc 4 (by decide +kernel))); apply zqss_cut; exact (zqs_if (zpt_cmpR op_eq (zpe_call G__law_draw (hr.mono (by omega)) (glk hc (by decide +kernel)) T.m__law_draw T.F__law_draw.kp T.b__law_draw .nil pass0 (zpa_cons (zpvk hc 1 (by decide +kernel)) (zpa_cons zpe_int zpa_nil))) zpe_int (nomark _)) (by exact zqss_one (zpsk_set hc sc_law.nd hf 5 (by decide +kernel) (zpe_call G__law_clause (hr.mono (by omega)) (glk hc (by decide +kernel)) T.m__law_clause T.F__law_clause.kp T.b__law_clause .nil pass0 (zpa_cons (zpvk hc 1 (by decide +kernel)) (zpa_cons (zpvk hc 2 (by decide +kernel)) zpa_nil))))) zqss_nil); apply zqss_cut; exact (zqs_if (zpt_cmpR op_gt (zpe_call G__law_draw (hr.mono (by omega)) (glk hc (by decide +kernel)) T.m__law_draw T.F__law_draw.kp T.b__law_draw .nil pass0 (zpa_cons (zpvk hc 1 (by decide +kernel)) (zpa_cons zpe_int zpa_nil))) zpe_int (nomark _)) (by apply zqss_cons; exact (zpsk_set hc sc_law.nd hf 4 (by decide +kernel) (zpe_call G__law_with (hr.mono (by omega)) (glk hc (by decide +kernel)) T.m__law_with T.F__law_with.kp T.b__law_with .nil pass0 (zpa_cons (zpvk hc 4 (by decide +kernel)) (zpa_cons (zpvk hc 3 (by decide +kernel)) (zpa_cons zpe_bl zpa_nil))))); exact zqss_one (zpsk_set hc sc_law.nd hf 5 (by decide +kernel) (zpe_call G__law_with (hr.mono (by omega)) (glk hc (by decide +kernel)) T.m__law_with T.F__law_with.kp T.b__law_with .nil pass0 (zpa_cons (zpvk hc 5 (by decide +kernel)) (zpa_cons (zpvk hc 3 (by decide +kernel)) (zpa_cons zpe_bl zpa_nil)))))) zqss_nil); apply zqss_cons; exact (zqs_for PassesOwn.never rfl (zpi_tup (zpe_tup (zpa_cons (zpe_tup (zpa_cons (zpvk hc 4 (by decide +kernel)) (zpa_cons (zpvk hc 5 (by decide +kernel)) zpa_nil))) (zpa_cons (zpe_tup (zpa_cons (zpvk hc 5 (by decide +kernel)) (zpa_cons (zpvk hc 4 (by decide +kernel)) zpa_nil))) (zpa_cons (zpe_tup (zpa_cons (zpvk hc 4 (by decide +kernel)) (zpa_cons (zpvk hc 4 (by decide +kernel)) zpa_nil))) zpa_nil))))) (zpgk hc sc_law.nd hf 6 (by decide +kernel)) (by exact zqss_one (zqs_for PassesOwn.never rfl (zpi_list (zpvk hc 2 (by decide +kernel))) (zpgk hc sc_law.nd hf 7 (by decide +kernel)) (by exact zqss_one (zqs_if (zpt_not (zpt_val (zpe_call G__law_right (hr.mono (by omega)) (glk hc (by decide +kernel)) T.m__law_right T.F__law_right.kp T.b__law_right .nil pass0 (zpa_cons (zpe_ix ix_t (zpvk hc 6 (by decide +kernel)) zpe_int (fun _ _ => rfl)) (zpa_cons (zpe_ix ix_t (zpvk hc 6 (by decide +kernel)) zpe_int (fun _ _ => rfl)) (zpa_cons (zpvk hc 7 (by decide +kernel)) zpa_nil)))))) (by exact zqss_one (zps_ret zpe_bl)) zqss_nil))))); apply zqss_cons; exact (zqs_if (zPWpt (zpw_and (zpt_cmpR (op_inP hu) (zpe_tup (zpa_cons (zpvk hc 3 (by decide +kernel)) (zpa_cons zpe_bl zpa_nil))) (zpvk hc 4 (by decide +kernel)) (by with_unfolding_all rfl)) (zpw_and1 (zpt_cmpR (op_inP hu) (zpe_tup (zpa_cons (zpvk hc 3 (by decide +kernel)) (zpa_cons zpe_bl zpa_nil))) (zpvk hc 5 (by decide +kernel)) (by with_unfolding_all rfl))))) (by exact zqss_one (zps_ret (zpe_call G__law_sound (hr.mono (by omega)) (glk hc (by decide +kernel)) T.m__law_sound T.F__law_sound.kp T.b__law_sound .nil pass0 (zpa_cons (zpvk hc 4 (by decide +kernel)) (zpa_cons (zpvk hc 5 (by decide +kernel)) (zpa_cons (zpvk hc 3 (by decide +kernel)) (zpa_cons (zpvk hc 2 (by decide +kernel)) zpa_nil))))))) zqss_nil); exact zqss_one (zps_ret zpe_bl)), ?_⟩
  repeat (walk_at "rd")
  refine ⟨a, ns, rfl, hL, fun h H1 s1 hh hd => ?_⟩
  repeat (walk_at "rd")
  refine draw_by hd Dr.refl (by decide) (by decide) fun m H2 m0 m7 d2 k2 => ?_
  repeat (walk_at "rd")
  refine ⟨h, _, rfl, by omega, by omega, d2.handAt hd, fun N ss H3 d3 hN hN3 ls nd nm => ?_⟩
  have d13 := d2.trans d3
  have hd3 := d13.handAt hd
  clear d2 k2 d3 nm
  repeat (first | walk_at "rd" | simp only [hN3])
  have l8 : ss.length ≤ 8 := by omega
  have l0 : 1 ≤ ss.length := by omega
  refine draw_by hd3 Dr.refl (by omega) (by omega) fun k H4 k0 kl d4 e4 => ?_
  have hd4 := d4.handAt hd3
  have hN4 : H4 N = some (.lst (List.map V.str ss)) := by rw [e4 N (hd3.nstr hN3)]; exact hN3
  obtain ⟨name, hname⟩ : ∃ name, ss[k.toNat]? = some name := ⟨_, List.getElem?_eq_getElem (by omega)⟩
  have hk : atI (List.map V.str ss) k = some (.str name) := by
    have := atI_nat (xs := List.map V.str ss) (j := k.toNat) (v := .str name) (by rw [List.getElem?_map, hname]; rfl)
    rwa [Int.toNat_of_nonneg k0] at this
  have hmem : name ∈ ss := List.mem_of_getElem? hname
  refine ⟨k, rfl, _, hN4, .str name, hk, h, N, rfl, ss, hd4, hN4, l8, nd, fun C H5 d5 hC cC => ?_⟩
  have hd5 := d5.handAt hd4
  have hN5 := d5.keep N _ (hd4.nstr hN4) hN4
  clear d4 e4 hk hname d13 hd3 hN3 hd
  obtain ⟨N1, hN1⟩ : ∃ N1 : St → Hp → Prop, ∀ σ' H', N1 σ' H' ↔ ∃ C D, σ' = [some (.ref a), some (.ref h), some (.ref N), some (.str name), some (.ref C), some (.ref D), none, none] ∧ HandAt H' h ∧ H' N = some (.lst (List.map V.str ss)) ∧ ClN H' ss 8 C ∧ ClN H' ss 8 D := ⟨_, fun _ _ => Iff.rfl⟩
  obtain ⟨N2, hN2⟩ : ∃ N2 : St → Hp → Prop, ∀ σ' H', N2 σ' H' ↔ ∃ C D, σ' = [some (.ref a), some (.ref h), some (.ref N), some (.str name), some (.ref C), some (.ref D), none, none] ∧ H' N = some (.lst (List.map V.str ss)) ∧ ClN H' ss 9 C ∧ ClN H' ss 9 D := ⟨_, fun _ _ => Iff.rfl⟩
  unfold tCut
  refine ⟨N1, ?_, fun σ' H6 hn1 => ⟨N2, ?_, fun σ'' H7 hn2 => ?_⟩⟩
  · repeat (walk_at "rd")
    refine draw_by hd5 Dr.refl (by decide) (by decide) fun r H6 r0 r2 d6 e6 => ?_
    have hd6 := d6.handAt hd5
    have hN6 : H6 N = some (.lst (List.map V.str ss)) := by rw [e6 N (hd5.nstr hN5)]; exact hN5
    have cC6 := ClOk.mono cC (d6.tups hd5)
    repeat (walk_at "rd")
    split
    · refine ⟨h, N, rfl, ss, hd6, hN6, l8, nd, fun D H7 d7 hD cD => ?_⟩
      repeat (walk_at "rd")
      exact (hN1 _ _).mpr ⟨C, D, rfl, d7.handAt hd6, d7.keep N _ (hd6.nstr hN6) hN6, ClOk.mono cC6 (d7.tups hd6), cD⟩
    · exact (hN1 _ _).mpr ⟨C, C, rfl, hd6, hN6, cC6, cC6⟩
  · obtain ⟨C, D, rfl, hd6, hN6, cC6, cD6⟩ := (hN1 _ _).mp hn1
    repeat (walk_at "rd")
    refine draw_by hd6 Dr.refl (by decide) (by decide) fun r H7 r0 r2 d7 e7 => ?_
    have hN7 : H7 N = some (.lst (List.map V.str ss)) := by rw [e7 N (hd6.nstr hN6)]; exact hN6
    obtain ⟨cl, c1, c2, c3, c4⟩ := cC6.mono (d7.tups hd6)
    obtain ⟨dl, e1, e2, e3, e4⟩ := cD6.mono (d7.tups hd6)
    repeat (walk_at "rd")
    split
    · refine ⟨C, name, true, rfl, cl, c1, c2, by omega, fun C' kl H8 s8 g1 g2 g3 g4 => ?_⟩
      repeat (walk_at "rd")
      refine ⟨D, name, false, rfl, dl, e1.mono (tups_of s8), e2, by omega, fun D' ml H9 s9 f1 f2 f3 f4 => ?_⟩
      repeat (walk_at "rd")
      refine (hN2 _ _).mpr ⟨C', D', rfl, s9 _ _ (s8 _ _ hN7), ⟨kl, g1.mono (tups_of s9), g2, fun x hx => ?_, by omega⟩, ⟨ml, f1, f2, fun x hx => ?_, by omega⟩⟩
      · rcases g3 x hx with z | z
        · exact c3 x z
        · rw [z]; exact hmem
      · rcases f3 x hx with z | z
        · exact e3 x z
        · rw [z]; exact hmem
    · exact (hN2 _ _).mpr ⟨C, D, rfl, hN7, ⟨cl, c1, c2, c3, by omega⟩, ⟨dl, e1, e2, e3, by omega⟩⟩
  · obtain ⟨C, D, rfl, hN7, cC7, cD7⟩ := (hN2 _ _).mp hn2
    repeat (walk_at "rd")
    refine ⟨by decide, fun p1 hp1 => ?_⟩
    have t1 := same_new hp1 (.tup [V.ref C, V.ref D])
    have g1 : upd H7 p1 (.tup [V.ref C, V.ref D]) p1 = some (.tup [V.ref C, V.ref D]) := upd_same
    generalize upd H7 p1 (.tup [V.ref C, V.ref D]) = H8 at t1 g1 ⊢
    refine ⟨by decide, fun p2 hp2 => ?_⟩
    have t2 := same_new hp2 (.tup [V.ref D, V.ref C])
    have g2 : upd H8 p2 (.tup [V.ref D, V.ref C]) p2 = some (.tup [V.ref D, V.ref C]) := upd_same
    generalize upd H8 p2 (.tup [V.ref D, V.ref C]) = H9 at t2 g2 ⊢
    refine ⟨by decide, fun p3 hp3 => ?_⟩
    have t3 := same_new hp3 (.tup [V.ref C, V.ref C])
    have g3 : upd H9 p3 (.tup [V.ref C, V.ref C]) p3 = some (.tup [V.ref C, V.ref C]) := upd_same
    generalize upd H9 p3 (.tup [V.ref C, V.ref C]) = H10 at t3 g3 ⊢
    refine ⟨by decide, fun p4 hp4 => ?_⟩
    have t4 := same_new hp4 (.tup [V.ref p1, V.ref p2, V.ref p3])
    have g4 : upd H10 p4 (.tup [V.ref p1, V.ref p2, V.ref p3]) p4 = some (.tup [V.ref p1, V.ref p2, V.ref p3]) := upd_same
    generalize upd H10 p4 (.tup [V.ref p1, V.ref p2, V.ref p3]) = H11 at t4 g4 ⊢
    have tt : Same H7 H11 := ((t1.trans t2).trans t3).trans t4
    have c11 := cC7.mono (tups_of tt)
    have d11 := cD7.mono (tups_of tt)
    have n11 := tt _ _ hN7
    refine ⟨⟨_, sqT_of g4⟩, ?_⟩
    have prs : ∀ (i : Nat) z, [V.ref p1, V.ref p2, V.ref p3][i]? = some z → ∃ p X Y, z = .ref p ∧ H11 p = some (.tup [V.ref X, V.ref Y]) ∧ ClN H11 ss 9 X ∧ ClN H11 ss 9 Y := fun i z hz => by
      match i, hz with
      | 0, hz => cases hz; exact ⟨p1, C, D, rfl, t4 _ _ (t3 _ _ (t2 _ _ g1)), c11, d11⟩
      | 1, hz => cases hz; exact ⟨p2, D, C, rfl, t4 _ _ (t3 _ _ g2), d11, c11⟩
      | 2, hz => cases hz; exact ⟨p3, C, C, rfl, t4 _ _ g3, c11, c11⟩
      | i + 3, hz => simp at hz
    obtain ⟨Pv, hPv⟩ : ∃ Pv : Nat → St → Hp → Prop, ∀ i σ' H', Pv i σ' H' ↔ ∃ (x y : Option V), σ' = [some (.ref a), some (.ref h), some (.ref N), some (.str name), some (.ref C), some (.ref D), x, y] ∧ Same H11 H' := ⟨_, fun _ _ _ => Iff.rfl⟩
    refine forAll_tup (xs := [V.ref p1, V.ref p2, V.ref p3]) Pv ((hPv _ _ _).mpr ⟨none, none, rfl, fun _ _ z => z⟩) (fun i σ' H' _ pv => ?_) (fun i z σ' H12 hz pv => ?_) (fun σ' H12 pv => ?_)
    · obtain ⟨_, _, _, s⟩ := (hPv _ _ _).mp pv
      exact s _ _ g4
    · obtain ⟨x, y, rfl, s12⟩ := (hPv _ _ _).mp pv
      obtain ⟨p, X, Y, rfl, hp, ⟨xl, x1, x2, x3, x4⟩, ⟨yl, y1, y2, y3, y4⟩⟩ := prs i z hz
      repeat (walk_at "rd")
      refine ⟨⟨_, sqL_of (s12 _ _ n11)⟩, ?_⟩
      obtain ⟨Pw, hPw⟩ : ∃ Pw : Nat → St → Hp → Prop, ∀ i σ' H', Pw i σ' H' ↔ ∃ (y : Option V), σ' = [some (.ref a), some (.ref h), some (.ref N), some (.str name), some (.ref C), some (.ref D), some (.ref p), y] ∧ Same H11 H' := ⟨_, fun _ _ _ => Iff.rfl⟩
      refine forAll_list (xs := List.map V.str ss) Pw ((hPw _ _ _).mpr ⟨y, rfl, s12⟩) (fun j σ' H' _ pw => ?_) (fun j z σ' H13 hz pw => ?_) (fun σ' H13 pw => ?_)
      · obtain ⟨_, _, s⟩ := (hPw _ _ _).mp pw
        exact s _ _ n11
      · obtain ⟨y, rfl, s13⟩ := (hPw _ _ _).mp pw
        obtain ⟨each, _, rfl⟩ := str_at hz
        have hp13 := s13 _ _ hp
        repeat (first | walk_at "rd" | simp only [hp13])
        refine ⟨X, Y, each, rfl, xl, yl, ⟨x1.mono (tups_of s13), x2, by omega⟩, ⟨y1.mono (tups_of s13), y2, by omega⟩, fun H14 s14 => ⟨_, rfl, ?_⟩⟩
        rw [if_neg (by simp)]
        exact (hPw _ _ _).mpr ⟨_, rfl, s13.trans s14⟩
      · obtain ⟨y, rfl, s13⟩ := (hPw _ _ _).mp pw
        exact (hPv _ _ _).mpr ⟨_, _, rfl, s13⟩
    · obtain ⟨x, y, rfl, s12⟩ := (hPv _ _ _).mp pv
      obtain ⟨cl, ⟨qs, c1, cq⟩, c2, c3, c4⟩ := c11.mono (tups_of s12)
      obtain ⟨dl, ⟨ps, e1, eq⟩, e2, e3, e4⟩ := d11.mono (tups_of s12)
      have n12 := s12 _ _ n11
      repeat (walk_at "rd")
      refine ⟨by decide, fun p5 hp5 => ?_⟩
      have t5 := same_new hp5 (.tup [.str name, .bl true])
      have l5 : LitAt (upd H12 p5 (.tup [.str name, .bl true])) p5 (name, true) := upd_same
      generalize upd H12 p5 (.tup [.str name, .bl true]) = H13 at t5 l5 ⊢
      refine ⟨_, l5, qs, .inl (t5 _ _ c1), cl, cq.mono (tups_of t5), ?_⟩
      by_cases m1 : (name, true) ∈ cl
      · rw [if_pos (by simp [m1])]
        refine ⟨by decide, fun p6 hp6 => ?_⟩
        have t6 := same_new hp6 (.tup [.str name, .bl false])
        have l6 : LitAt (upd H13 p6 (.tup [.str name, .bl false])) p6 (name, false) := upd_same
        generalize upd H13 p6 (.tup [.str name, .bl false]) = H14 at t6 l6 ⊢
        have t56 := t5.trans t6
        refine ⟨_, l6, ps, .inl (t56 _ _ e1), dl, eq.mono (tups_of t56), ?_⟩
        by_cases m2 : (name, false) ∈ dl
        · rw [if_pos (by simp [m2])]
          exact ⟨C, D, name, N, rfl, cl, dl, ss, ⟨⟨qs, t56 _ _ c1, cq.mono (tups_of t56)⟩, c2, by omega⟩, ⟨⟨ps, t56 _ _ e1, eq.mono (tups_of t56)⟩, e2, by omega⟩, t56 _ _ n12, l8, nd, c3, e3, m1, m2, fun H15 _ => q H15⟩
        · rw [if_neg (by simp [m2])]
          exact q _
      · rw [if_neg (by simp [m1])]
        exact q _
end

local macro_rules | `(tactic| walk_at "rd") => `(tactic| walk_at "rc")

theorem all_mk {l : PySem.W.OpenLaw} {w : World} {K : PySem.W.Frag} {h : Heap} {mg : Str → Option Value} {fa f0 f1 f2 f3 f4 f5 f6 f7 f8 f9 f10 f11 f12 f13 f14 f15 f16 f17 : Addr} (X : K.In h) (G : h.Ns mainGlobals mg) (hfa : mg "law" = some (.ref fa))
    {od0 an0 od1 an1 od2 an2 od3 an3 od4 an4 od5 an5 od6 an6 od7 an7 od8 an8 od9 an9 od10 an10 od11 an11 od12 an12 od13 an13 od14 an14 od15 an15 od16 an16 od17 an17 : Option Addr} {sl0 sl1 sl2 sl3 sl4 sl5 sl6 sl7 sl8 sl9 sl10 sl11 sl12 sl13 sl14 sl15 sl16 sl17 : Array (Option Value)} {oc0 kV0 dc0 pm0 cd0 ct0 oc1 kV1 dc1 pm1 cd1 ct1 oc2 kV2 dc2 pm2 cd2 ct2 oc3 kV3 dc3 pm3 cd3 ct3 oc4 kV4 dc4 pm4 cd4 ct4 oc5 kV5 dc5 pm5 cd5 ct5 oc6 kV6 dc6 pm6 cd6 ct6 oc7 kV7 dc7 pm7 cd7 ct7 oc8 kV8 dc8 pm8 cd8 ct8 oc9 kV9 dc9 pm9 cd9 ct9 oc10 kV10 dc10 pm10 cd10 ct10 oc11 kV11 dc11 pm11 cd11 ct11 oc12 kV12 dc12 pm12 cd12 ct12 oc13 kV13 dc13 pm13 cd13 ct13 oc14 kV14 dc14 pm14 cd14 ct14 oc15 kV15 dc15 pm15 cd15 ct15 oc16 kV16 dc16 pm16 cd16 ct16 oc17 kV17 dc17 pm17 cd17 ct17 : Value}
    (a0 : PySem.W.nsIn K mainGlobals "clause_of" = some (some (.ref f0))) (l0 : K.lookup f0 = some ⟨oc0, od0, .func (PySem.W.fnOf "clause_of" "clause_of" (defArgs s_clause_of) (defBody s_clause_of) (defScope s_clause_of) .none kV0 dc0 pm0 an0 cd0 ct0), sl0⟩) (c0 : PySem.W.codeIn K cd0 "clause_of" = true) (k0 : PySem.W.keepIn K (.ref f0) = true)
    (a1 : PySem.W.nsIn K mainGlobals "joined" = some (some (.ref f1))) (l1 : K.lookup f1 = some ⟨oc1, od1, .func (PySem.W.fnOf "joined" "joined" (defArgs s_joined) (defBody s_joined) (defScope s_joined) .none kV1 dc1 pm1 an1 cd1 ct1), sl1⟩) (c1 : PySem.W.codeIn K cd1 "joined" = true) (k1 : PySem.W.keepIn K (.ref f1) = true)
    (a2 : PySem.W.nsIn K mainGlobals "_law_hand" = some (some (.ref f2))) (l2 : K.lookup f2 = some ⟨oc2, od2, .func (PySem.W.fnOf "_law_hand" "_law_hand" (defArgs s__law_hand) (defBody s__law_hand) (defScope s__law_hand) .none kV2 dc2 pm2 an2 cd2 ct2), sl2⟩) (c2 : PySem.W.codeIn K cd2 "_law_hand" = true) (k2 : PySem.W.keepIn K (.ref f2) = true)
    (a3 : PySem.W.nsIn K mainGlobals "_law_next" = some (some (.ref f3))) (l3 : K.lookup f3 = some ⟨oc3, od3, .func (PySem.W.fnOf "_law_next" "_law_next" (defArgs s__law_next) (defBody s__law_next) (defScope s__law_next) .none kV3 dc3 pm3 an3 cd3 ct3), sl3⟩) (c3 : PySem.W.codeIn K cd3 "_law_next" = true) (k3 : PySem.W.keepIn K (.ref f3) = true)
    (a4 : PySem.W.nsIn K mainGlobals "_law_take" = some (some (.ref f4))) (l4 : K.lookup f4 = some ⟨oc4, od4, .func (PySem.W.fnOf "_law_take" "_law_take" (defArgs s__law_take) (defBody s__law_take) (defScope s__law_take) .none kV4 dc4 pm4 an4 cd4 ct4), sl4⟩) (c4 : PySem.W.codeIn K cd4 "_law_take" = true) (k4 : PySem.W.keepIn K (.ref f4) = true)
    (a5 : PySem.W.nsIn K mainGlobals "_law_draw" = some (some (.ref f5))) (l5 : K.lookup f5 = some ⟨oc5, od5, .func (PySem.W.fnOf "_law_draw" "_law_draw" (defArgs s__law_draw) (defBody s__law_draw) (defScope s__law_draw) .none kV5 dc5 pm5 an5 cd5 ct5), sl5⟩) (c5 : PySem.W.codeIn K cd5 "_law_draw" = true) (k5 : PySem.W.keepIn K (.ref f5) = true)
    (a6 : PySem.W.nsIn K mainGlobals "_law_names" = some (some (.ref f6))) (l6 : K.lookup f6 = some ⟨oc6, od6, .func (PySem.W.fnOf "_law_names" "_law_names" (defArgs s__law_names) (defBody s__law_names) (defScope s__law_names) .none kV6 dc6 pm6 an6 cd6 ct6), sl6⟩) (c6 : PySem.W.codeIn K cd6 "_law_names" = true) (k6 : PySem.W.keepIn K (.ref f6) = true)
    (a7 : PySem.W.nsIn K mainGlobals "_law_all_facts" = some (some (.ref f7))) (l7 : K.lookup f7 = some ⟨oc7, od7, .func (PySem.W.fnOf "_law_all_facts" "_law_all_facts" (defArgs s__law_all_facts) (defBody s__law_all_facts) (defScope s__law_all_facts) .none kV7 dc7 pm7 an7 cd7 ct7), sl7⟩) (c7 : PySem.W.codeIn K cd7 "_law_all_facts" = true) (k7 : PySem.W.keepIn K (.ref f7) = true)
    (a8 : PySem.W.nsIn K mainGlobals "_law_is_clause" = some (some (.ref f8))) (l8 : K.lookup f8 = some ⟨oc8, od8, .func (PySem.W.fnOf "_law_is_clause" "_law_is_clause" (defArgs s__law_is_clause) (defBody s__law_is_clause) (defScope s__law_is_clause) .none kV8 dc8 pm8 an8 cd8 ct8), sl8⟩) (c8 : PySem.W.codeIn K cd8 "_law_is_clause" = true) (k8 : PySem.W.keepIn K (.ref f8) = true)
    (a9 : PySem.W.nsIn K mainGlobals "_law_clause" = some (some (.ref f9))) (l9 : K.lookup f9 = some ⟨oc9, od9, .func (PySem.W.fnOf "_law_clause" "_law_clause" (defArgs s__law_clause) (defBody s__law_clause) (defScope s__law_clause) .none kV9 dc9 pm9 an9 cd9 ct9), sl9⟩) (c9 : PySem.W.codeIn K cd9 "_law_clause" = true) (k9 : PySem.W.keepIn K (.ref f9) = true)
    (a10 : PySem.W.nsIn K mainGlobals "_law_told_clause" = some (some (.ref f10))) (l10 : K.lookup f10 = some ⟨oc10, od10, .func (PySem.W.fnOf "_law_told_clause" "_law_told_clause" (defArgs s__law_told_clause) (defBody s__law_told_clause) (defScope s__law_told_clause) .none kV10 dc10 pm10 an10 cd10 ct10), sl10⟩) (c10 : PySem.W.codeIn K cd10 "_law_told_clause" = true) (k10 : PySem.W.keepIn K (.ref f10) = true)
    (a11 : PySem.W.nsIn K mainGlobals "_law_stands" = some (some (.ref f11))) (l11 : K.lookup f11 = some ⟨oc11, od11, .func (PySem.W.fnOf "_law_stands" "_law_stands" (defArgs s__law_stands) (defBody s__law_stands) (defScope s__law_stands) .none kV11 dc11 pm11 an11 cd11 ct11), sl11⟩) (c11 : PySem.W.codeIn K cd11 "_law_stands" = true) (k11 : PySem.W.keepIn K (.ref f11) = true)
    (a12 : PySem.W.nsIn K mainGlobals "_law_with" = some (some (.ref f12))) (l12 : K.lookup f12 = some ⟨oc12, od12, .func (PySem.W.fnOf "_law_with" "_law_with" (defArgs s__law_with) (defBody s__law_with) (defScope s__law_with) .none kV12 dc12 pm12 an12 cd12 ct12), sl12⟩) (c12 : PySem.W.codeIn K cd12 "_law_with" = true) (k12 : PySem.W.keepIn K (.ref f12) = true)
    (a13 : PySem.W.nsIn K mainGlobals "_law_due" = some (some (.ref f13))) (l13 : K.lookup f13 = some ⟨oc13, od13, .func (PySem.W.fnOf "_law_due" "_law_due" (defArgs s__law_due) (defBody s__law_due) (defScope s__law_due) .none kV13 dc13 pm13 an13 cd13 ct13), sl13⟩) (c13 : PySem.W.codeIn K cd13 "_law_due" = true) (k13 : PySem.W.keepIn K (.ref f13) = true)
    (a14 : PySem.W.nsIn K mainGlobals "_law_told" = some (some (.ref f14))) (l14 : K.lookup f14 = some ⟨oc14, od14, .func (PySem.W.fnOf "_law_told" "_law_told" (defArgs s__law_told) (defBody s__law_told) (defScope s__law_told) .none kV14 dc14 pm14 an14 cd14 ct14), sl14⟩) (c14 : PySem.W.codeIn K cd14 "_law_told" = true) (k14 : PySem.W.keepIn K (.ref f14) = true)
    (a15 : PySem.W.nsIn K mainGlobals "_law_right" = some (some (.ref f15))) (l15 : K.lookup f15 = some ⟨oc15, od15, .func (PySem.W.fnOf "_law_right" "_law_right" (defArgs s__law_right) (defBody s__law_right) (defScope s__law_right) .none kV15 dc15 pm15 an15 cd15 ct15), sl15⟩) (c15 : PySem.W.codeIn K cd15 "_law_right" = true) (k15 : PySem.W.keepIn K (.ref f15) = true)
    (a16 : PySem.W.nsIn K mainGlobals "_law_sound" = some (some (.ref f16))) (l16 : K.lookup f16 = some ⟨oc16, od16, .func (PySem.W.fnOf "_law_sound" "_law_sound" (defArgs s__law_sound) (defBody s__law_sound) (defScope s__law_sound) .none kV16 dc16 pm16 an16 cd16 ct16), sl16⟩) (c16 : PySem.W.codeIn K cd16 "_law_sound" = true) (k16 : PySem.W.keepIn K (.ref f16) = true)
    (a17 : PySem.W.nsIn K mainGlobals "law" = some (some (.ref f17))) (l17 : K.lookup f17 = some ⟨oc17, od17, .func (PySem.W.fnOf "law" "law" (defArgs s_law) (defBody s_law) (defScope s_law) .none kV17 dc17 pm17 an17 cd17 ct17), sl17⟩) (c17 : PySem.W.codeIn K cd17 "law" = true) (k17 : PySem.W.keepIn K (.ref f17) = true)
    (z_abs : PySem.W.nsIn K mainGlobals "abs" = some none)
    (z_all : PySem.W.nsIn K mainGlobals "all" = some none)
    (z_bool : PySem.W.nsIn K mainGlobals "bool" = some none)
    (z_dict : PySem.W.nsIn K mainGlobals "dict" = some none)
    (z_isinstance : PySem.W.nsIn K mainGlobals "isinstance" = some none)
    (z_len : PySem.W.nsIn K mainGlobals "len" = some none)
    (z_list : PySem.W.nsIn K mainGlobals "list" = some none)
    (z_range : PySem.W.nsIn K mainGlobals "range" = some none)
    (z_sorted : PySem.W.nsIn K mainGlobals "sorted" = some none)
    (z_str : PySem.W.nsIn K mainGlobals "str" = some none)
    (z_tuple : PySem.W.nsIn K mainGlobals "tuple" = some none)
    (cx7 : PySem.W.specialIn K (.builtin "object.__class__") "__get__" = some (some (.builtin "getset_descriptor.__get__"))) (cx8 : PySem.W.takesIn K (.builtin "object.__class__") = some true)
    {c_TruceError c_NoFact c_NoText c_NoJoin : Addr}
    {a_NoFact___init__ a_NoJoin___init__ : Addr} {iod_NoFact ian_NoFact iod_NoJoin ian_NoJoin : Option Addr} {isl_NoFact isl_NoJoin : Array (Option Value)} {ioc_NoFact ikV_NoFact idc_NoFact ipm_NoFact icd_NoFact ict_NoFact ioc_NoJoin ikV_NoJoin idc_NoJoin ipm_NoJoin icd_NoJoin ict_NoJoin : Value}
    (am_TruceError : PySem.W.nsIn K mainGlobals "TruceError" = some (some (.ref c_TruceError))) (x1_TruceError : xcIn K c_TruceError = true) (x2_TruceError : PySem.W.hasDictIn K c_TruceError = true) (x3_TruceError : PySem.W.findIn K (.ref c_TruceError) "__setattr__" = some (some (.builtin "object.__setattr__"))) (x4_TruceError : PySem.W.findIn K (.ref c_TruceError) "__getattribute__" = some (some (.builtin "BaseException.__getattribute__"))) (x5_TruceError : PySem.W.findIn K (.ref c_TruceError) "__getattr__" = some none) (x6_TruceError : PySem.W.findIn K (.ref c_TruceError) "__class__" = some (some (.builtin "object.__class__"))) (x9_TruceError : PySem.W.mroIn K c_TruceError (.type "object") = some true)
    (am_NoFact : PySem.W.nsIn K mainGlobals "NoFact" = some (some (.ref c_NoFact))) (x1_NoFact : xcIn K c_NoFact = true) (x2_NoFact : PySem.W.hasDictIn K c_NoFact = true) (x3_NoFact : PySem.W.findIn K (.ref c_NoFact) "__setattr__" = some (some (.builtin "object.__setattr__"))) (x4_NoFact : PySem.W.findIn K (.ref c_NoFact) "__getattribute__" = some (some (.builtin "BaseException.__getattribute__"))) (x5_NoFact : PySem.W.findIn K (.ref c_NoFact) "__getattr__" = some none) (x6_NoFact : PySem.W.findIn K (.ref c_NoFact) "__class__" = some (some (.builtin "object.__class__"))) (x9_NoFact : PySem.W.mroIn K c_NoFact (.type "object") = some true)
    (am_NoText : PySem.W.nsIn K mainGlobals "NoText" = some (some (.ref c_NoText))) (x1_NoText : xcIn K c_NoText = true) (x2_NoText : PySem.W.hasDictIn K c_NoText = true) (x3_NoText : PySem.W.findIn K (.ref c_NoText) "__setattr__" = some (some (.builtin "object.__setattr__"))) (x4_NoText : PySem.W.findIn K (.ref c_NoText) "__getattribute__" = some (some (.builtin "BaseException.__getattribute__"))) (x5_NoText : PySem.W.findIn K (.ref c_NoText) "__getattr__" = some none) (x6_NoText : PySem.W.findIn K (.ref c_NoText) "__class__" = some (some (.builtin "object.__class__"))) (x9_NoText : PySem.W.mroIn K c_NoText (.type "object") = some true)
    (am_NoJoin : PySem.W.nsIn K mainGlobals "NoJoin" = some (some (.ref c_NoJoin))) (x1_NoJoin : xcIn K c_NoJoin = true) (x2_NoJoin : PySem.W.hasDictIn K c_NoJoin = true) (x3_NoJoin : PySem.W.findIn K (.ref c_NoJoin) "__setattr__" = some (some (.builtin "object.__setattr__"))) (x4_NoJoin : PySem.W.findIn K (.ref c_NoJoin) "__getattribute__" = some (some (.builtin "BaseException.__getattribute__"))) (x5_NoJoin : PySem.W.findIn K (.ref c_NoJoin) "__getattr__" = some none) (x6_NoJoin : PySem.W.findIn K (.ref c_NoJoin) "__class__" = some (some (.builtin "object.__class__"))) (x9_NoJoin : PySem.W.mroIn K c_NoJoin (.type "object") = some true)
    (kc_TruceError : PySem.W.keepIn K (.ref c_TruceError) = true)
    (ii_TruceError : PySem.W.findIn K (.ref c_TruceError) "__init__" = some (some (.builtin "ValueError.__init__")))
    (rd_TruceError : PySem.W.readsIn K c_TruceError (.type "type") = true)
    (fc_TruceError : PySem.W.findCls K (.ref c_TruceError) (.type "type") "__init__" = some (.val (.builtin "ValueError.__init__")))
    (sg_TruceError : PySem.W.specialIn K (.ref c_TruceError) "__getattribute__" = some (some (.builtin "type.__getattribute__")))
    (kc_NoFact : PySem.W.keepIn K (.ref c_NoFact) = true)
    (il_NoFact : K.lookup a_NoFact___init__ = some ⟨ioc_NoFact, iod_NoFact, .func (PySem.W.fnOf "__init__" "NoFact.__init__" (defArgs s_NoFact___init__) (defBody s_NoFact___init__) (defScope s_NoFact___init__) .none ikV_NoFact idc_NoFact ipm_NoFact ian_NoFact icd_NoFact ict_NoFact), isl_NoFact⟩) (ic_NoFact : PySem.W.codeIn K icd_NoFact "NoFact.__init__" = true) (ik_NoFact : PySem.W.keepIn K (.ref a_NoFact___init__) = true)
    (ii_NoFact : PySem.W.findIn K (.ref c_NoFact) "__init__" = some (some (.ref a_NoFact___init__)))
    (if_NoFact : PySem.W.typeIn K (.ref a_NoFact___init__) = some (.type "function"))
    (tk_NoFact : PySem.W.takerIn K c_NoFact "name" = some none)
    (nf_NoFact : PySem.W.findIn K (.ref c_NoFact) "name" = some none)
    (kc_NoText : PySem.W.keepIn K (.ref c_NoText) = true)
    (ii_NoText : PySem.W.findIn K (.ref c_NoText) "__init__" = some (some (.builtin "ValueError.__init__")))
    (kc_NoJoin : PySem.W.keepIn K (.ref c_NoJoin) = true)
    (il_NoJoin : K.lookup a_NoJoin___init__ = some ⟨ioc_NoJoin, iod_NoJoin, .func (PySem.W.fnOf "__init__" "NoJoin.__init__" (defArgs s_NoJoin___init__) (defBody s_NoJoin___init__) (defScope s_NoJoin___init__) .none ikV_NoJoin idc_NoJoin ipm_NoJoin ian_NoJoin icd_NoJoin ict_NoJoin), isl_NoJoin⟩) (ic_NoJoin : PySem.W.codeIn K icd_NoJoin "NoJoin.__init__" = true) (ik_NoJoin : PySem.W.keepIn K (.ref a_NoJoin___init__) = true)
    (ii_NoJoin : PySem.W.findIn K (.ref c_NoJoin) "__init__" = some (some (.ref a_NoJoin___init__)))
    (if_NoJoin : PySem.W.typeIn K (.ref a_NoJoin___init__) = some (.type "function"))
    (tk_NoJoin : PySem.W.takerIn K c_NoJoin "name" = some none)
    (nf_NoJoin : PySem.W.findIn K (.ref c_NoJoin) "name" = some none)
    (su_NoJoin_NoJoin : PySem.W.subIn K (.ref c_NoJoin) (.ref c_NoJoin) = some true)
    (ki_NoJoin_NoFact : PySem.W.kitOne K (.ref c_NoJoin) (.ref c_NoFact) = some false)
    (ki_NoJoin_NoText : PySem.W.kitOne K (.ref c_NoJoin) (.ref c_NoText) = some false)
    (ki_NoJoin_TruceError : PySem.W.kitOne K (.ref c_NoJoin) (.ref c_TruceError) = some true)
    (kv_NoJoin : PySem.W.kitOne K (.ref c_NoJoin) (.type "ValueError") = some true)
    : ∃ fd : FuncData, (∀ (s : Shared) (v : Value), BindsTo s fd ⟨[v], []⟩ [("_law_script", v)]) ∧ ∀ base : Heap, K.In base → base.Ns mainGlobals mg → FnOk l.prog w K mg base CX0 6 fa fd ["_law_script"] (spLaw K) := by
  have e := hfa.symm.trans (PySem.W.mg_of X G a17)
  cases e
  have F0 := fun_mk (st := s_clause_of) l0 c0 k0
  have b0 := F0.binds (ps := ["literals"]) fun _ _ _ _ _ _ => of1 fun _ => rfl
  have F1 := fun_mk (st := s_joined) l1 c1 k1
  have b1 := F1.binds (ps := ["one", "other", "name"]) fun _ _ _ _ _ _ => of3 fun _ _ _ => rfl
  have F2 := fun_mk (st := s__law_hand) l2 c2 k2
  have b2 := F2.binds (ps := ["_law_script"]) fun _ _ _ _ _ _ => of1 fun _ => rfl
  have F3 := fun_mk (st := s__law_next) l3 c3 k3
  have b3 := F3.binds (ps := ["_law_hand_here"]) fun _ _ _ _ _ _ => of1 fun _ => rfl
  have F4 := fun_mk (st := s__law_take) l4 c4 k4
  have b4 := F4.binds (ps := ["_law_hand_here"]) fun _ _ _ _ _ _ => of1 fun _ => rfl
  have F5 := fun_mk (st := s__law_draw) l5 c5 k5
  have b5 := F5.binds (ps := ["_law_hand_here", "_law_many"]) fun _ _ _ _ _ _ => of2 fun _ _ => rfl
  have F6 := fun_mk (st := s__law_names) l6 c6 k6
  have b6 := F6.binds (ps := ["_law_hand_here", "_law_many"]) fun _ _ _ _ _ _ => of2 fun _ _ => rfl
  have F7 := fun_mk (st := s__law_all_facts) l7 c7 k7
  have b7 := F7.binds (ps := ["_law_names_here"]) fun _ _ _ _ _ _ => of1 fun _ => rfl
  have F8 := fun_mk (st := s__law_is_clause) l8 c8 k8
  have b8 := F8.binds (ps := ["_law_thing"]) fun _ _ _ _ _ _ => of1 fun _ => rfl
  have F9 := fun_mk (st := s__law_clause) l9 c9 k9
  have b9 := F9.binds (ps := ["_law_hand_here", "_law_names_here"]) fun _ _ _ _ _ _ => of2 fun _ _ => rfl
  have F10 := fun_mk (st := s__law_told_clause) l10 c10 k10
  have b10 := F10.binds (ps := ["_law_told_here", "_law_due_here"]) fun _ _ _ _ _ _ => of2 fun _ _ => rfl
  have F11 := fun_mk (st := s__law_stands) l11 c11 k11
  have b11 := F11.binds (ps := ["_law_clause_here", "_law_facts"]) fun _ _ _ _ _ _ => of2 fun _ _ => rfl
  have F12 := fun_mk (st := s__law_with) l12 c12 k12
  have b12 := F12.binds (ps := ["_law_clause_here", "_law_name", "_law_truth"]) fun _ _ _ _ _ _ => of3 fun _ _ _ => rfl
  have F13 := fun_mk (st := s__law_due) l13 c13 k13
  have b13 := F13.binds (ps := ["_law_one", "_law_other", "_law_name"]) fun _ _ _ _ _ _ => of3 fun _ _ _ => rfl
  have F14 := fun_mk (st := s__law_told) l14 c14 k14
  have b14 := F14.binds (ps := ["_law_one", "_law_other", "_law_name"]) fun _ _ _ _ _ _ => of3 fun _ _ _ => rfl
  have F15 := fun_mk (st := s__law_right) l15 c15 k15
  have b15 := F15.binds (ps := ["_law_one", "_law_other", "_law_name"]) fun _ _ _ _ _ _ => of3 fun _ _ _ => rfl
  have F16 := fun_mk (st := s__law_sound) l16 c16 k16
  have b16 := F16.binds (ps := ["_law_one", "_law_other", "_law_name", "_law_names_here"]) fun _ _ _ _ _ _ => of4 fun _ _ _ _ => rfl
  have F17 := fun_mk (st := s_law) l17 c17 k17
  have b17 := F17.binds (ps := ["_law_script"]) fun _ _ _ _ _ _ => of1 fun _ => rfl
  have IF_NoFact := fun_mk (st := s_NoFact___init__) il_NoFact ic_NoFact ik_NoFact
  have IB_NoFact := IF_NoFact.binds (ps := nm_NoFact___init__) fun _ _ _ _ _ _ => of2 fun _ _ => rfl
  have IF_NoJoin := fun_mk (st := s_NoJoin___init__) il_NoJoin ic_NoJoin ik_NoJoin
  have IB_NoJoin := IF_NoJoin.binds (ps := nm_NoJoin___init__) fun _ _ _ _ _ _ => of2 fun _ _ => rfl
  have T : Txt K mg ⟨_, _, _, _, _, _, _, _, _, _, _, _, _, _, _, _, _, _, _, _, _, _, _, _, _, _, _, _, _, _, _, _, _, _, _, _, _, _, _, _, _, _, _, _⟩ := ⟨F0, b0, PySem.W.mg_of X G a0, F1, b1, PySem.W.mg_of X G a1, F2, b2, PySem.W.mg_of X G a2, F3, b3, PySem.W.mg_of X G a3, F4, b4, PySem.W.mg_of X G a4, F5, b5, PySem.W.mg_of X G a5, F6, b6, PySem.W.mg_of X G a6, F7, b7, PySem.W.mg_of X G a7, F8, b8, PySem.W.mg_of X G a8, F9, b9, PySem.W.mg_of X G a9, F10, b10, PySem.W.mg_of X G a10, F11, b11, PySem.W.mg_of X G a11, F12, b12, PySem.W.mg_of X G a12, F13, b13, PySem.W.mg_of X G a13, F14, b14, PySem.W.mg_of X G a14, F15, b15, PySem.W.mg_of X G a15, F16, b16, PySem.W.mg_of X G a16, F17, b17, PySem.W.mg_of X G a17, PySem.W.mg_none_of X G z_abs, PySem.W.mg_none_of X G z_all, PySem.W.mg_none_of X G z_bool, PySem.W.mg_none_of X G z_dict, PySem.W.mg_none_of X G z_isinstance, PySem.W.mg_none_of X G z_len, PySem.W.mg_none_of X G z_list, PySem.W.mg_none_of X G z_range, PySem.W.mg_none_of X G z_sorted, PySem.W.mg_none_of X G z_str, PySem.W.mg_none_of X G z_tuple, PySem.W.mg_of X G am_TruceError, ⟨x1_TruceError, x2_TruceError, x3_TruceError, x4_TruceError, x5_TruceError, x6_TruceError, cx7, cx8, x9_TruceError⟩, kc_TruceError, ii_TruceError, rd_TruceError, fc_TruceError, sg_TruceError, PySem.W.mg_of X G am_NoFact, ⟨x1_NoFact, x2_NoFact, x3_NoFact, x4_NoFact, x5_NoFact, x6_NoFact, cx7, cx8, x9_NoFact⟩, kc_NoFact, IF_NoFact, IB_NoFact, ii_NoFact, if_NoFact, tk_NoFact, nf_NoFact, PySem.W.mg_of X G am_NoText, ⟨x1_NoText, x2_NoText, x3_NoText, x4_NoText, x5_NoText, x6_NoText, cx7, cx8, x9_NoText⟩, kc_NoText, ii_NoText, PySem.W.mg_of X G am_NoJoin, ⟨x1_NoJoin, x2_NoJoin, x3_NoJoin, x4_NoJoin, x5_NoJoin, x6_NoJoin, cx7, cx8, x9_NoJoin⟩, kc_NoJoin, IF_NoJoin, IB_NoJoin, ii_NoJoin, if_NoJoin, tk_NoJoin, nf_NoJoin, su_NoJoin_NoJoin, ki_NoJoin_NoFact, ki_NoJoin_NoText, ki_NoJoin_TruceError, kv_NoJoin⟩
  exact ⟨PySem.W.fnOf "law" "law" (defArgs s_law) (defBody s_law) (defScope s_law) .none kV17 dc17 pm17 an17 cd17 ct17, fun s v => .of_eq rfl, fun base _ _ => ok_law (P := l.prog) (w := w) (base := base) T⟩
theorem walk {l : PySem.W.OpenLaw} {q : Program} {loose : List Str} {XP : (Str → Option Value) → Heap → Prop} {YP : World → Heap → Prop} {d : DefRec} {K : Params → PySem.W.Frag} (hn : l.most = some 63) (hdf : d.params.defaults = [])
    (hY : ∀ (w : World) (h : Heap), YP w h → (K w.params).In h)
    (F : ∀ (w : World) (mg : Str → Option Value) (fa : Addr) (h : Heap), (K w.params).In h → h.Ns mainGlobals mg → mg d.name = some (.ref fa) →
      ∃ fd : FuncData, (∀ (s : Shared) (u : Value), BindsTo s fd ⟨[u], []⟩ [("_law_script", u)]) ∧ ∀ base : Heap, (K w.params).In base → base.Ns mainGlobals mg → FnOk l.prog w (K w.params) mg base CX0 6 fa fd ["_law_script"] (spLaw (K w.params))) :
    PySem.W.WalkO q loose XP YP l.row.toRowW d [] (fun f vs => PySem.call f vs) :=
  L2.walk_of (n := 63) (k := 6) (x := "_law_script") (CX := fun _ => CX0) (sp := fun w => spLaw (K w.params)) hn (by decide) hdf ⟨rfl, by decide, by decide⟩ hY F (fun _ _ a ns hl _ hS => ⟨a, ns, rfl, hS, hl, fun _ => rfl⟩) fun _ _ _ _ _ z => z
end My
open PySem PySem.W PyProof.Rows
set_option maxRecDepth 100000 in
set_option maxHeartbeats 0 in
theorem PySem.Challenge.cw_truceroll_k24_clauses_joined_holds : PySem.Challenge.rw_truceroll_k24_clauses_joined.Holds := by
  w_on; o_law; k_head; (case hw => w_witness2)
  k_fill
  refine My.walk (l := PySem.Challenge.rw_truceroll_k24_clauses_joined) rfl rfl (fun w h Y => PySem.W.kIn_of Y) ?F
  case F =>
    intro w mg fa h KX G hmg
    refine' My.all_mk KX G hmg ?a0 ?l0 ?c0 ?k0 ?a1 ?l1 ?c1 ?k1 ?a2 ?l2 ?c2 ?k2 ?a3 ?l3 ?c3 ?k3 ?a4 ?l4 ?c4 ?k4 ?a5 ?l5 ?c5 ?k5 ?a6 ?l6 ?c6 ?k6 ?a7 ?l7 ?c7 ?k7 ?a8 ?l8 ?c8 ?k8 ?a9 ?l9 ?c9 ?k9 ?a10 ?l10 ?c10 ?k10 ?a11 ?l11 ?c11 ?k11 ?a12 ?l12 ?c12 ?k12 ?a13 ?l13 ?c13 ?k13 ?a14 ?l14 ?c14 ?k14 ?a15 ?l15 ?c15 ?k15 ?a16 ?l16 ?c16 ?k16 ?a17 ?l17 ?c17 ?k17 ?z_abs ?z_all ?z_bool ?z_dict ?z_isinstance ?z_len ?z_list ?z_range ?z_sorted ?z_str ?z_tuple ?cx7 ?cx8 ?am_TruceError ?x1_TruceError ?x2_TruceError ?x3_TruceError ?x4_TruceError ?x5_TruceError ?x6_TruceError ?x9_TruceError ?am_NoFact ?x1_NoFact ?x2_NoFact ?x3_NoFact ?x4_NoFact ?x5_NoFact ?x6_NoFact ?x9_NoFact ?am_NoText ?x1_NoText ?x2_NoText ?x3_NoText ?x4_NoText ?x5_NoText ?x6_NoText ?x9_NoText ?am_NoJoin ?x1_NoJoin ?x2_NoJoin ?x3_NoJoin ?x4_NoJoin ?x5_NoJoin ?x6_NoJoin ?x9_NoJoin ?kc_TruceError ?ii_TruceError ?rd_TruceError ?fc_TruceError ?sg_TruceError ?kc_NoFact ?il_NoFact ?ic_NoFact ?ik_NoFact ?ii_NoFact ?if_NoFact ?tk_NoFact ?nf_NoFact ?kc_NoText ?ii_NoText ?kc_NoJoin ?il_NoJoin ?ic_NoJoin ?ik_NoJoin ?ii_NoJoin ?if_NoJoin ?tk_NoJoin ?nf_NoJoin ?su_NoJoin_NoJoin ?ki_NoJoin_NoFact ?ki_NoJoin_NoText ?ki_NoJoin_TruceError ?kv_NoJoin
    (case a0 => k_is)
    (case l0 => k_is)
    (case c0 => k_is)
    (case k0 => k_is)
    (case a1 => k_is)
    (case l1 => k_is)
    (case c1 => k_is)
    (case k1 => k_is)
    (case a2 => k_is)
    (case l2 => k_is)
    (case c2 => k_is)
    (case k2 => k_is)
    (case a3 => k_is)
    (case l3 => k_is)
    (case c3 => k_is)
    (case k3 => k_is)
    (case a4 => k_is)
    (case l4 => k_is)
    (case c4 => k_is)
    (case k4 => k_is)
    (case a5 => k_is)
    (case l5 => k_is)
    (case c5 => k_is)
    (case k5 => k_is)
    (case a6 => k_is)
    (case l6 => k_is)
    (case c6 => k_is)
    (case k6 => k_is)
    (case a7 => k_is)
    (case l7 => k_is)
    (case c7 => k_is)
    (case k7 => k_is)
    (case a8 => k_is)
    (case l8 => k_is)
    (case c8 => k_is)
    (case k8 => k_is)
    (case a9 => k_is)
    (case l9 => k_is)
    (case c9 => k_is)
    (case k9 => k_is)
    (case a10 => k_is)
    (case l10 => k_is)
    (case c10 => k_is)
    (case k10 => k_is)
    (case a11 => k_is)
    (case l11 => k_is)
    (case c11 => k_is)
    (case k11 => k_is)
    (case a12 => k_is)
    (case l12 => k_is)
    (case c12 => k_is)
    (case k12 => k_is)
    (case a13 => k_is)
    (case l13 => k_is)
    (case c13 => k_is)
    (case k13 => k_is)
    (case a14 => k_is)
    (case l14 => k_is)
    (case c14 => k_is)
    (case k14 => k_is)
    (case a15 => k_is)
    (case l15 => k_is)
    (case c15 => k_is)
    (case k15 => k_is)
    (case a16 => k_is)
    (case l16 => k_is)
    (case c16 => k_is)
    (case k16 => k_is)
    (case a17 => k_is)
    (case l17 => k_is)
    (case c17 => k_is)
    (case k17 => k_is)
    (case z_abs => k_is)
    (case z_all => k_is)
    (case z_bool => k_is)
    (case z_dict => k_is)
    (case z_isinstance => k_is)
    (case z_len => k_is)
    (case z_list => k_is)
    (case z_range => k_is)
    (case z_sorted => k_is)
    (case z_str => k_is)
    (case z_tuple => k_is)
    (case cx7 => first | k_is | rfl)
    (case cx8 => first | k_is | rfl)
    (case am_TruceError => first | k_is | rfl)
    (case x1_TruceError => first | k_is | rfl)
    (case x2_TruceError => first | k_is | rfl)
    (case x3_TruceError => first | k_is | rfl)
    (case x4_TruceError => first | k_is | rfl)
    (case x5_TruceError => first | k_is | rfl)
    (case x6_TruceError => first | k_is | rfl)
    (case x9_TruceError => first | k_is | rfl)
    (case ii_TruceError => first | k_is | rfl)
    (case am_NoFact => first | k_is | rfl)
    (case x1_NoFact => first | k_is | rfl)
    (case x2_NoFact => first | k_is | rfl)
    (case x3_NoFact => first | k_is | rfl)
    (case x4_NoFact => first | k_is | rfl)
    (case x5_NoFact => first | k_is | rfl)
    (case x6_NoFact => first | k_is | rfl)
    (case x9_NoFact => first | k_is | rfl)
    (case ii_NoFact => first | k_is | rfl)
    (case am_NoText => first | k_is | rfl)
    (case x1_NoText => first | k_is | rfl)
    (case x2_NoText => first | k_is | rfl)
    (case x3_NoText => first | k_is | rfl)
    (case x4_NoText => first | k_is | rfl)
    (case x5_NoText => first | k_is | rfl)
    (case x6_NoText => first | k_is | rfl)
    (case x9_NoText => first | k_is | rfl)
    (case ii_NoText => first | k_is | rfl)
    (case am_NoJoin => first | k_is | rfl)
    (case x1_NoJoin => first | k_is | rfl)
    (case x2_NoJoin => first | k_is | rfl)
    (case x3_NoJoin => first | k_is | rfl)
    (case x4_NoJoin => first | k_is | rfl)
    (case x5_NoJoin => first | k_is | rfl)
    (case x6_NoJoin => first | k_is | rfl)
    (case x9_NoJoin => first | k_is | rfl)
    (case ii_NoJoin => first | k_is | rfl)
    (case kc_TruceError => first | k_is | rfl)
    (case rd_TruceError => first | k_is | rfl)
    (case fc_TruceError => first | k_is | rfl)
    (case sg_TruceError => first | k_is | rfl)
    (case kc_NoFact => first | k_is | rfl)
    (case il_NoFact => first | k_is | rfl)
    (case ic_NoFact => first | k_is | rfl)
    (case ik_NoFact => first | k_is | rfl)
    (case if_NoFact => first | k_is | rfl)
    (case tk_NoFact => first | k_is | rfl)
    (case nf_NoFact => first | k_is | rfl)
    (case kc_NoText => first | k_is | rfl)
    (case kc_NoJoin => first | k_is | rfl)
    (case il_NoJoin => first | k_is | rfl)
    (case ic_NoJoin => first | k_is | rfl)
    (case ik_NoJoin => first | k_is | rfl)
    (case if_NoJoin => first | k_is | rfl)
    (case tk_NoJoin => first | k_is | rfl)
    (case nf_NoJoin => first | k_is | rfl)
    (case su_NoJoin_NoJoin => first | k_is | rfl)
    (case ki_NoJoin_NoFact => first | k_is | rfl)
    (case ki_NoJoin_NoText => first | k_is | rfl)
    (case ki_NoJoin_TruceError => first | k_is | rfl)
    (case kv_NoJoin => first | k_is | rfl)
